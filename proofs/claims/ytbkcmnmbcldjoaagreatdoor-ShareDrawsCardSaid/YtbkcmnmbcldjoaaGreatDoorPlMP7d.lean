/- An append of which the whole block is known by places; acts as a source. Plain facts; no program but for the types' numbers. -/
import Derived.Test.YtbkcmnmbcldjoaaGreatDoorRuVP7d
import Derived.Test.YtbkcmnmbcldjoaaGreatDoorOpn4rmP7d
import Derived.Test.YtbkcmnmbcldjoaaGreatDoorR5XP7d
import Derived.Test.YtbkcmnmbcldjoaaGreatDoorRuWP7d
import Derived.Test.YtbkcmnmbcldjoaaGreatDoorPrAP7d
import Derived.Test.YtbkcmnmbcldjoaaGreatDoorSpFP7d
import Derived.Test.YtbkcmnmbcldjoaaGreatDoorPrBP7d
import Derived.Test.YtbkcmnmbcldjoaaGreatDoorPrBP7d
import Derived.Laws.ResultCell
import Derived.Deep.MidRow
import Derived.Deep.WholeRow
namespace MM
open Go Go.RowKit
/-- In a row of rows of that size each place bears what it may. -/
def Pos (size : Nat) (F : Nat → Value → Prop) (cs : List Value) : Prop := ∀ o v, cs[o]? = some v → F (o % size) v
section
variable {size : Nat} {F : Nat → Value → Prop}
theorem Pos.nil : Pos size F [] := fun o v h => by simp at h
theorem Pos.append {a b : List Value} {n : Nat} (ha : Pos size F a) (hb : Pos size F b) (hl : a.length = n * size) : Pos size F (a ++ b) := fun o v h => by
  by_cases ho : o < a.length
  · rw [List.getElem?_append_left ho] at h; exact ha o v h
  · rw [List.getElem?_append_right (by omega)] at h
    have h1 := hb _ v h
    have e : o % size = (o - a.length) % size := by
      have : o = (o - a.length) + size * n := by rw [Nat.mul_comm size n, ← hl]; omega
      conv => lhs; rw [this]
      rw [Nat.add_mul_mod_self_left]
    rw [e]; exact h1
theorem Pos.take {a : List Value} (ha : Pos size F a) (k : Nat) : Pos size F (a.take k) := fun o v h => by
  rw [List.getElem?_take] at h
  split at h
  · exact ha o v h
  · cases h
theorem Pos.drop {a : List Value} (ha : Pos size F a) (k : Nat) : Pos size F (a.drop (k * size)) := fun o v h => by
  rw [List.getElem?_drop] at h
  have h1 := ha _ v h
  rw [Nat.mul_comm, Nat.mul_add_mod] at h1
  exact h1
end
/-- The whole block of a slice is such a row. -/
def RowF (size : Nat) (F : Nat → Value → Prop) (w : World) (A : Option Addr) : Prop := ∀ ad, A = some ad → ∃ cur t, w.heap[ad.block]? = some (.cells cur t (0, 0)) ∧ Pos size F cur.toList
theorem RowF.none {size : Nat} {F : Nat → Value → Prop} {w : World} : RowF size F w none := fun ad e => by cases e
theorem RowF.of {size : Nat} {F : Nat → Value → Prop} {w w' : World} {A : Option Addr} (h : RowF size F w A) (hk : ∀ k, ob A = some k → w'.heap[k]? = w.heap[k]?) : RowF size F w' A := fun ad e => by
  obtain ⟨cur, t, h1, h2⟩ := h ad e
  exact ⟨cur, t, (hk ad.block (by rw [e]; rfl)).trans h1, h2⟩
section
variable {P : Program}
end
end MM
namespace Go.Proofs.YtbkcmnmbcldjoaaGreatDoor
open Go.RowKit MM
/-- In a row of answers floating numbers stand at the seventh place, texts at the ninth. -/
def AnF (o : Nat) (v : Value) : Prop := (∀ x, v = .float .f64 x → o = 6) ∧ (∀ s, v = .string s → o = 8)
theorem anF_no {cs : Array Value} (h : Pos 10 AnF cs.toList) : ∀ o x s, cs[o]? = some (.float .f64 x) → cs[o + 1]? = some (.string s) → False := fun o x s h1 h2 => by
  have e1 := (h o _ (by rw [Array.getElem?_toList]; exact h1)).1 x rfl
  have e2 := (h (o + 1) _ (by rw [Array.getElem?_toList]; exact h2)).2 s rfl
  omega
/-- A list lies nowhere near a row of answers. -/
theorem its_rowF {w : World} {A B : Option Addr} {l : List RC.It} (h : Its w A l) (hB : RowF 10 AnF w B) : l = [] ∨ ∀ ad, A = some ad → ob B ≠ some ad.block := by
  cases B with
  | none => exact .inr fun ad e x => by cases x
  | some bd =>
    obtain ⟨cur, t, h1, h2⟩ := hB bd rfl
    rcases its_apart h h1 (anF_no h2) with h3 | h3
    · exact .inl h3
    · exact .inr fun ad e x => by injection x with x; exact h3 ad e x.symm
/-- Acts, cell by cell. -/
def acCells : List Al → List Value
  | [] => []
  | y :: l => y.cells.toList ++ acCells l
theorem acCells_append : ∀ a b : List Al, acCells (a ++ b) = acCells a ++ acCells b
  | [], _ => rfl
  | y :: a, b => by show y.cells.toList ++ acCells (a ++ b) = (y.cells.toList ++ acCells a) ++ acCells b; rw [acCells_append a b, List.append_assoc]
theorem acCells_at : ∀ (ys : List Al) (i : Nat) (y : Al), ys[i]? = some y → ∀ j v, y.cells[j]? = some v → (acCells ys)[i * 14 + j]? = some v
  | [], i, y, h, _, _, _ => by simp at h
  | z :: l, 0, y, h, j, v, hv => by
    simp at h
    subst h
    show (z.cells.toList ++ acCells l)[0 * 14 + j]? = some v
    have hj : j < z.cells.toList.length := by rw [Array.length_toList]; exact (Array.getElem?_eq_some_iff.1 hv).1
    rw [show 0 * 14 + j = j by omega, List.getElem?_append_left hj, Array.getElem?_toList]
    exact hv
  | z :: l, i + 1, y, h, j, v, hv => by
    have h' : l[i]? = some y := by simpa using h
    show (z.cells.toList ++ acCells l)[(i + 1) * 14 + j]? = some v
    have hz : z.cells.toList.length = 14 := rfl
    rw [List.getElem?_append_right (by omega), hz, show (i + 1) * 14 + j - 14 = i * 14 + j by omega]
    exact acCells_at l i y h' j v hv
theorem own_cell14 {w : World} {e : TypeId} {size n c : Nat} {A : Option Addr} {xs : List Value} (h : w.ownsRow 0 e size (.slice A n c) n xs) (hn : 0 < n) : ∃ g, A = some ⟨g, 0, none⟩ ∧ g < w.heap.size ∧ ∀ j v, xs[j]? = some v → w.cell? ⟨g, j, none⟩ = some v := by
  obtain ⟨hl, ⟨h1, h2⟩ | ⟨g, cap, cur, h1, _, h3, h4, h5, h6, h7⟩⟩ := h
  · omega
  · injection h1 with hA _ _
    refine ⟨g, hA, lt_of_heap h3, fun j v hv => ?_⟩
    rw [cell_of_row _ _ j _ _ (0, 0) h3]
    rw [← h7, List.getElem?_take] at hv
    split at hv
    · simpa using hv
    · cases hv
theorem acts_own {w : World} {L : Option Addr} {l : List Al} {n c : Nat} (hn : n = l.length) (h : w.ownsRow 0 37 14 (.slice L n c) n (acCells l)) (ha : ∀ x ∈ l, ActIn w x.r x.A x.c) (hl : l.length ≤ maxLen) : ActsIn w L l := by
  refine ⟨?_, ha, hl⟩
  subst hn
  rcases Nat.eq_zero_or_pos l.length with h0 | h0
  · exact .inl (List.eq_nil_of_length_eq_zero h0)
  · obtain ⟨g, hA, hg, hc⟩ := own_cell14 h h0
    exact .inr ⟨g, 0, hA, hg, fun i x hi j v hv => by rw [Nat.zero_add]; exact hc _ v (acCells_at l i x hi j v hv)⟩
end Go.Proofs.YtbkcmnmbcldjoaaGreatDoor
namespace Go.Proofs.YtbkcmnmbcldjoaaGreatDoor
open Go.RowKit MM
set_option linter.unusedVariables false
set_option linter.unusedSimpArgs false
/-- One act behind the other: what is there then, and all answers. -/
def RU.go (q : RC.Rc) (t : Bool) : List AC.Ac → RC.Rc × Bool × List RU.Ans
  | [] => (q, t, [])
  | a :: l => ((RU.go (RU.apply q t a).1 (RU.apply q t a).2.1 l).1, (RU.go (RU.apply q t a).1 (RU.apply q t a).2.1 l).2.1, (RU.apply q t a).2.2 :: (RU.go (RU.apply q t a).1 (RU.apply q t a).2.1 l).2.2)
theorem RU.go_append : ∀ (l m : List AC.Ac) (q : RC.Rc) (t : Bool), RU.go q t (l ++ m) = ((RU.go (RU.go q t l).1 (RU.go q t l).2.1 m).1, (RU.go (RU.go q t l).1 (RU.go q t l).2.1 m).2.1, (RU.go q t l).2.2 ++ (RU.go (RU.go q t l).1 (RU.go q t l).2.1 m).2.2)
  | [], m, q, t => rfl
  | a :: l, m, q, t => by
    show RU.go q t (a :: (l ++ m)) = _
    simp only [RU.go]
    rw [RU.go_append l m]
    rfl
theorem st_go (q : RC.Rc) (t : Bool) (l : List AC.Ac) : ∀ n, n ≤ l.length → RU.st q t l n = RU.go q t (l.take n)
  | 0, _ => rfl
  | n + 1, h => by
    have hn : n < l.length := by omega
    rw [RU.st_next q t l n l[n] (List.getElem?_eq_getElem hn), st_go q t l n (by omega), List.take_add_one, List.getElem?_eq_getElem hn, RU.go_append]
    rfl
theorem st_all (q : RC.Rc) (t : Bool) (l : List AC.Ac) : RU.st q t l l.length = RU.go q t l := by rw [st_go q t l l.length (Nat.le_refl _), List.take_length]
end Go.Proofs.YtbkcmnmbcldjoaaGreatDoor
namespace Go.Proofs.YtbkcmnmbcldjoaaGreatDoor
open Go.RowKit MM
set_option linter.unusedVariables false
set_option linter.unusedSimpArgs false
theorem act_info6 : (Tryz.prog.info? 37).map (fun i => (i.zero, i.size, i.bytes)) = some (some (.agg #[.int .i64 0, .string ⟨#[]⟩, .int .i64 0, .float .f64 0, .string ⟨#[]⟩, .int .i64 0, .int .i64 0, .int .i64 0, .int .i64 0, .float .f64 0, .int .i64 0, .string ⟨#[]⟩, .slice none 0 0, .bool false]), 14, 152) := by kernel_rfl
/-- How things stand behind i acts. -/
structure PyAt (w6 : World) (g : Nat) (q : RC.Rc) (A : Option Addr) (c : Nat) (ys : List An) (B : Option Addr) (i cb : Nat) (wr : World) : Prop where
  box : wr.heap[g]? = some (.cells (recC q.kind q.num q.low q.high q.real q.cap q.text (.slice A q.list.length c)) 25 (0, 0))
  its : Its wr A q.list
  ok : q.ok
  lim : Lim q.list.length
  ans : wr.ownsRow 0 82 10 (.slice B i cb) i (anCells ys)
  full : RowF 10 AnF wr B
  all : ∀ y ∈ ys, Its wr y.A y.x.rc.list ∧ y.x.rc.ok ∧ Lim y.x.rc.list.length
  newB : ∀ k, ob B = some k → w6.heap.size ≤ k
  keep : Kp (fun k => k = g) w6 wr
  len : ys.length = i
section
variable {w6 wr : World} {g : Nat} {q : RC.Rc} {A : Option Addr} {c : Nat} {ys : List An} {B : Option Addr} {i cb : Nat}
theorem PyAt.next (h : PyAt w6 g q A c ys B i cb wr) (hg6 : g < w6.heap.size) {p : RC.Rc} {A2 : Option Addr} {c2 : Nat} {x : RU.Ans} {D : Option Addr} {dd k : Nat} {w7 w8 w9 w10 : World} {B' : Option Addr} {cb' : Nat} {t2 : TypeId}
    (hb7 : Below wr.heap.size wr w7) (hI : Its w7 A2 p.list) (hJ : Its w7 D x.rc.list) (hp : p.ok ∧ Lim p.list.length) (hx : x.rc.ok ∧ Lim x.rc.list.length) (hk : wr.heap.size ≤ k)
    (hr0 : w7.heap[g]? = some (.cells (recC q.kind q.num q.low q.high q.real q.cap q.text (.slice A q.list.length c)) 25 (0, 0))) (hrk : w7.heap[k]? = some (.cells (ansC 0 0 RC.zero none 0) t2 (0, 0)))
    (hk8 : Kp (fun j => j = g ∨ j = k) w7 w8) (hbox : w8.heap[g]? = some (.cells (recC p.kind p.num p.low p.high p.real p.cap p.text (.slice A2 p.list.length c2)) 25 (0, 0))) (hb9 : Below w8.heap.size w8 w9)
    (hg : w9.grownBy w10 (ob B)) (hat : ob B' = ob B ∨ ob B' = some w9.heap.size) (ho : w10.ownsRow 0 82 10 (.slice B' (i + 1) cb') (i + 1) (anCells ys ++ (ansC x.code x.num x.rc D dd).toList)) (hf : RowF 10 AnF w10 B') :
    PyAt w6 g p A2 c2 (ys ++ [⟨x, D, dd⟩]) B' (i + 1) cb' w10 := by
  have hs := h.keep.size
  have hs7 := hb7.size
  have hs8 := hk8.size
  have hs9 := hb9.size
  have hBlt : ∀ k, ob B = some k → k < wr.heap.size := fun k e => in_row h.ans k e
  have hk10 : Kp (fun k => ob B = some k) w9 w10 := Kp.grown (Kp.refl _ _) hg (fun k e => .inl e)
  have hfull9 : RowF 10 AnF w9 B := h.full.of fun j e => by
    have h1 := h.newB j e
    have h2 := hBlt j e
    exact ((hb9.block j (by omega)).trans (hk8.block j (by omega) (by omega))).trans (hb7.block j h2)
  have hmove : ∀ {X : Option Addr} {l : List RC.It}, Its w7 X l → Its w10 X l := fun {X l} hX => by
    have h8 : Its w8 X l := by
      refine its_keep hX hk8 ?_
      rcases its_apart hX hr0 (rec_no _ _ _ _ _ _ _ _ _ _) with h1 | h1
      · exact .inl h1
      rcases its_apart hX hrk (ans_no 0 0 RC.zero none 0) with h2 | h2
      · exact .inl h2
      exact .inr fun ad e x => by rcases x with x | x; exact h1 ad e x; exact h2 ad e x
    have h9 := h8.below hb9
    refine its_keep h9 hk10 ?_
    rcases its_rowF h9 hfull9 with h1 | h1
    · exact .inl h1
    · exact .inr fun ad e x => h1 ad e x
  refine ⟨?_, hmove hI, hp.1, hp.2, ?_, hf, ?_, ?_, ?_, by simp [h.len]⟩
  · refine (hk10.block _ (by have := lt_of_heap hbox; omega) (fun e => by have := h.newB _ e; omega)).trans ((hb9.block _ (lt_of_heap hbox)).trans hbox)
  · rw [anCells_append]
    show w10.ownsRow _ _ _ _ _ (anCells ys ++ (An.cells _ ++ []))
    rw [List.append_nil]
    exact ho
  · intro y hy
    rcases List.mem_append.1 hy with hy | hy
    · have h1 := h.all y hy
      exact ⟨hmove (h1.1.below hb7), h1.2⟩
    · simp at hy
      subst hy
      exact ⟨hmove hJ, hx⟩
  · intro j e
    rcases hat with h1 | h1
    · exact h.newB j (h1 ▸ e)
    · rw [h1] at e; injection e with e; omega
  · have k1 : Kp (fun j => j = g) w6 w7 := h.keep.trans (Kp.of_below hb7 (fun j => j = g)) (fun _ _ x => x)
    have k2 : Kp (fun j => j = g) w6 w8 := k1.trans hk8 (fun i hi x => by rcases x with x | x; exact x; omega)
    have k3 : Kp (fun j => j = g) w6 w9 := k2.trans (Kp.of_below hb9 (fun j => j = g)) (fun _ _ x => x)
    exact k3.trans hk10 (fun i hi x => by have := h.newB i x; omega)
end
end Go.Proofs.YtbkcmnmbcldjoaaGreatDoor
