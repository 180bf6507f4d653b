/- An append of which the whole block is known by places; acts as a source. Plain facts; no program but for the types' numbers. -/
import Derived.Test.YtlpecaldodganaaGreatDoorRuVq
import Derived.Test.YtlpecaldodganaaGreatDoorOpn4rmq
import Derived.Test.YtlpecaldodganaaGreatDoorRef5mq
import Derived.Test.YtlpecaldodganaaGreatDoorRuWq
import Derived.Test.YtlpecaldodganaaGreatDoorR5Eq
import Derived.Test.YtlpecaldodganaaGreatDoorPrCq
import Derived.Test.YtlpecaldodganaaGreatDoorPrBq
namespace MM
open Go Go.RowKit
/-- In a row of rows of that size each place bears what it may. -/
def Pos (size : Nat) (F : Nat → Value → Prop) (cs : List Value) : Prop := ∀ o v, cs[o]? = some v → F (o % size) v
section
variable {size : Nat} {F : Nat → Value → Prop}
theorem Pos.nil : Pos size F [] := fun o v h => by simp at h
theorem Pos.append {a b : List Value} {n : Nat} (ha : Pos size F a) (hb : Pos size F b) (hl : a.length = n * size) : Pos size F (a ++ b) := fun o v h => by
  by_cases ho : o < a.length
  · rw [List.getElem?_append_left ho] at h; exact ha o v h
  · rw [List.getElem?_append_right (by omega)] at h
    have h1 := hb _ v h
    have e : o % size = (o - a.length) % size := by
      have : o = (o - a.length) + size * n := by rw [Nat.mul_comm size n, ← hl]; omega
      conv => lhs; rw [this]
      rw [Nat.add_mul_mod_self_left]
    rw [e]; exact h1
theorem Pos.take {a : List Value} (ha : Pos size F a) (k : Nat) : Pos size F (a.take k) := fun o v h => by
  rw [List.getElem?_take] at h
  split at h
  · exact ha o v h
  · cases h
theorem Pos.drop {a : List Value} (ha : Pos size F a) (k : Nat) : Pos size F (a.drop (k * size)) := fun o v h => by
  rw [List.getElem?_drop] at h
  have h1 := ha _ v h
  rw [Nat.mul_comm, Nat.mul_add_mod] at h1
  exact h1
theorem Pos.zeros {z : Array Value} (hz : Pos size F z.toList) (hs : z.size = size) (n : Nat) : Pos size F (Builtin.zeroCells z n).toList := fun o v h => by
  unfold Builtin.zeroCells at h
  rw [Array.getElem?_toList, Array.getElem?_map] at h
  obtain ⟨i, hi, rfl⟩ := Option.map_eq_some_iff.1 h
  have hi2 : i = o := by
    have h3 := (Array.getElem?_eq_some_iff.1 hi)
    obtain ⟨h4, h5⟩ := h3
    rw [Array.getElem_range] at h5
    exact h5.symm
  have hlt : o < n * z.size := by
    have h4 := (Array.getElem?_eq_some_iff.1 hi).1
    simpa using h4
  subst hi2
  have hpos : 0 < z.size := by
    rcases Nat.eq_zero_or_pos z.size with h0 | h0
    · rw [h0, Nat.mul_zero] at hlt; omega
    · exact h0
  have hm : i % z.size < z.size := Nat.mod_lt _ hpos
  have h6 := hz (i % z.size) (z[i % z.size]!) (by rw [Array.getElem?_toList, getElem!_pos z _ hm]; exact Array.getElem?_eq_getElem hm)
  rw [← hs] at h6 ⊢
  rwa [Nat.mod_mod] at h6
end
/-- The whole block of a slice is such a row. -/
def RowF (size : Nat) (F : Nat → Value → Prop) (w : World) (A : Option Addr) : Prop := ∀ ad, A = some ad → ∃ cur t, w.heap[ad.block]? = some (.cells cur t (0, 0)) ∧ Pos size F cur.toList
theorem RowF.none {size : Nat} {F : Nat → Value → Prop} {w : World} : RowF size F w none := fun ad e => by cases e
theorem RowF.of {size : Nat} {F : Nat → Value → Prop} {w w' : World} {A : Option Addr} (h : RowF size F w A) (hk : ∀ k, ob A = some k → w'.heap[k]? = w.heap[k]?) : RowF size F w' A := fun ad e => by
  obtain ⟨cur, t, h1, h2⟩ := h ad e
  exact ⟨cur, t, (hk ad.block (by rw [e]; rfl)).trans h1, h2⟩
section
variable {P : Program}
theorem run_append_full (w : World) (t tx ty e : TypeId) (i : TypeInfo) (z : Value) (size bytes : Nat) (ht : P.underlying t = some (.slice e)) (hi : P.info? e = some i) (hz : i.zero = some z)
    (hsize : i.size = size) (hby : i.bytes = bytes) (hzs : z.cells.size = size) (A : Option Addr) (n c : Nat) (xs : List Value) (hown : w.ownsRow 0 e size (.slice A n c) n xs)
    (x : Value) (m : Nat) (news : List Value) (hs : Src P size tx x m news w) (h63 : n + m ≤ maxLen) (hbytes : (n + m) * bytes ≤ 140737488355328)
    (F : Nat → Value → Prop) (hF : RowF size F w A) (hxs : Pos size F xs) (hnews : Pos size F news) (hzF : Pos size F z.cells.toList) :
    ∃ A' c' w', (Builtin.append_ #[t, tx] ty #[.slice A n c, x]).run P w = .ok (.slice A' (n + m) c') w' ∧ w'.ownsRow 0 e size (.slice A' (n + m) c') (n + m) (xs ++ news) ∧ w.grownBy w' (ob A) ∧
      (ob A' = ob A ∨ ob A' = some w.heap.size) ∧ RowF size F w' A' := by
  subst hsize hby
  have h63' : ((n + m : Nat) : Int) ≤ 9223372036854775807 := by simp only [maxLen] at h63; omega
  have hlen : (xs ++ news).length = (n + m) * i.size := by rw [List.length_append, hown.1, hs.newsLen, Nat.add_mul]
  have hgrow : ∀ (hc : c < n + m) (hold : (Builtin.firstCells i.size n (.slice A n c)).run P w.drew = .ok xs.toArray w.drew),
      ∃ A' c' w', (Builtin.append_ #[t, tx] ty #[.slice A n c, x]).run P w = .ok (.slice A' (n + m) c') w' ∧ w'.ownsRow 0 e i.size (.slice A' (n + m) c') (n + m) (xs ++ news) ∧ w.grownBy w' (ob A) ∧
      (ob A' = ob A ∨ ob A' = some w.heap.size) ∧ RowF i.size F w' A' := by
    intro hc hold
    have hr := run_append_grow_src (P := P) w t tx ty e i z ht hi hz A n c xs hold x m news hs hc h63' (growslice_fits hc hbytes)
    refine ⟨_, _, _, hr, ⟨hlen, .inr ⟨w.heap.size, _, _, rfl, Nat.zero_le _, heap_alloc_new w.drew _, grownCap_ge w (n + m) c e, grownCap_le_maxLen w (n + m) c e h63, ?_, ?_⟩⟩, ⟨rfl, rfl, rfl, by simp, fun k hk _ => Below.heap_alloc w.drew _ k hk⟩, .inr rfl, ?_⟩
    · have := grownCap_ge w (n + m) c e
      simp only [Array.size_append, List.size_toArray, size_zeroCells, hzs, hlen]
      rw [← Nat.add_mul]
      congr 1
      omega
    · rw [Array.toList_append, ← hlen]
      exact List.take_left
    · intro ad e'
      injection e' with e'
      subst e'
      refine ⟨_, _, heap_alloc_new w.drew _, ?_⟩
      rw [Array.toList_append]
      exact Pos.append (Pos.append hxs hnews hown.1) (Pos.zeros hzF hzs _) hlen
  rcases hown.2 with ⟨hv, rfl⟩ | ⟨g, cap, cur, hv, _, hg, hnc, hcm, hcs, htake⟩
  · injection hv with hA _ hc
    subst hA hc
    have hx : xs = [] := List.eq_nil_of_length_eq_zero (by simpa using hown.1)
    subst hx
    by_cases hm : m = 0
    · subst hm
      have hn : news = [] := List.eq_nil_of_length_eq_zero (by simpa using hs.newsLen)
      subst hn
      refine ⟨none, 0, w, ?_, World.ownsRow_nil w 0 e i.size, ⟨rfl, rfl, rfl, Nat.le_refl _, fun _ _ _ => rfl⟩, .inl rfl, RowF.none⟩
      have hl := hs.len
      have hc := hs.cells
      rcases hs.kind with ⟨e', hk⟩ | hk <;> simp [Builtin.append_, run_underlying ht, run_underlying hk, Go.sizeOf, typeInfo, hi, hl, hc]
    · exact hgrow (by omega) (run_firstCells_none w.drew i.size 0 0 0)
  · injection hv with hA _ hc
    subst hA hc
    by_cases hroom : n + m ≤ c
    · have hfit : n * i.size + news.length ≤ cur.size := by rw [hs.newsLen, hcs, ← Nat.add_mul]; exact Nat.mul_le_mul_right _ hroom
      have hst := run_storeCells_at P g (n * i.size) e news 0 cur w hg (by simpa using hfit) hs.one
      simp only [Nat.add_zero] at hst
      have hl := hs.len
      have hc := hs.cells
      have hr : (Builtin.append_ #[t, tx] ty #[.slice (some ⟨g, 0, none⟩) n c, x]).run P w = .ok (.slice (some ⟨g, 0, none⟩) (n + m) c) (w.setRow g (cur.toList.take (n * i.size) ++ news ++ cur.toList.drop (n * i.size + news.length)).toArray) := by
        rcases hs.kind with ⟨e', hk⟩ | hk <;> simp [Builtin.append_, run_underlying ht, run_underlying hk, Go.sizeOf, typeInfo, hi, hl, hroom, hc, Addr.add_lit, hst]
      refine ⟨some ⟨g, 0, none⟩, c, _, hr, ⟨hlen, .inr ⟨g, c, _, rfl, Nat.zero_le _, setRow_heap w g cur _ e _ hg, hroom, hcm, ?_, ?_⟩⟩, ⟨rfl, rfl, rfl, by simp, fun k _ hk => setRow_other w g k _ (fun e => hk (by simp [ob, e]))⟩, .inl rfl, ?_⟩
      · simp only [List.size_toArray, List.length_append, List.length_take, List.length_drop, Array.length_toList]
        omega
      · rw [htake, ← hlen]
        exact List.take_left
      · intro ad e'
        injection e' with e'
        subst e'
        refine ⟨_, _, setRow_heap w g cur _ e _ hg, ?_⟩
        obtain ⟨cur', t', h1, h2⟩ := hF ⟨g, 0, none⟩ rfl
        have h1 : w.heap[g]? = some (.cells cur' t' (0, 0)) := h1
        rw [hg] at h1
        injection h1 with h1
        injection h1 with h1 _ _
        subst h1
        rw [htake]
        refine Pos.append (Pos.append hxs hnews hown.1) ?_ hlen
        rw [hs.newsLen, ← Nat.add_mul]
        exact Pos.drop h2 _
    · exact hgrow (by omega) (run_firstCells_some w.drew i.size n ⟨g, 0, none⟩ n c xs hown.1 (by simpa using hown.cells (g := g) rfl))
theorem wpList_append_full {w : World} {ops : Array Oper} {rest : List Oper} {o : Oper} {a : Act} {Q : Exit → Act → World → Prop} (hgd : o.guard = none) (s x : Operand) (t tx : TypeId)
    (ho : o.op = .call { callee := .builtin .append, args := #[s, x], argTypes := #[t, tx] })
    (e : TypeId) (i : TypeInfo) (z : Value) (size bytes : Nat) (ht : P.underlying t = some (.slice e)) (hi : P.info? e = some i) (hz : i.zero = some z)
    (hsize : i.size = size) (hby : i.bytes = bytes) (hzs : z.cells.size = size) (A : Option Addr) (n c : Nat) (xs : List Value) (hA : a.eval s = .slice A n c) (hown : w.ownsRow 0 e size (.slice A n c) n xs)
    (xv : Value) (m : Nat) (news : List Value) (hx : a.eval x = xv) (hs : Src P size tx xv m news w) (h63 : n + m ≤ maxLen) (hbytes : (n + m) * bytes ≤ 140737488355328)
    (F : Nat → Value → Prop) (hF : RowF size F w A) (hxs : Pos size F xs) (hnews : Pos size F news) (hzF : Pos size F z.cells.toList)
    (h : ∀ A' c' w', w'.ownsRow 0 e size (.slice A' (n + m) c') (n + m) (xs ++ news) → w.grownBy w' (ob A) → (ob A' = ob A ∨ ob A' = some w.heap.size) → RowF size F w' A' → wpList P ops Q rest (a.put o.dst (.slice A' (n + m) c')) w') : wpList P ops Q (o :: rest) a w :=
  wpList_plain hgd fun _ hK => by
    obtain ⟨A', c', w', hr, h2, h3, h4, h5⟩ := run_append_full (P := P) w t tx o.type e i z size bytes ht hi hz hsize hby hzs A n c xs hown xv m news hs h63 hbytes F hF hxs hnews hzF
    unfold Oper.wp execOp
    simp only [ho, resolve, invoke, builtin, Sem.run_bind, Sem.run_pure, Result.andThen_ok, List.map_toArray, List.map_cons, List.map_nil, hA, hx, hr]
    exact hK _ _ (h A' c' w' h2 h3 h4 h5)
end
end MM
namespace Go.Proofs.YtlpecaldodganaaGreatDoor
open Go.RowKit MM
/-- In a row of answers floating numbers stand at the seventh place, texts at the ninth. -/
def AnF (o : Nat) (v : Value) : Prop := (∀ x, v = .float .f64 x → o = 6) ∧ (∀ s, v = .string s → o = 8)
theorem anF_cells (y : An) : Pos 10 AnF y.cells := fun o v h => by
  have ho : o < 10 := by have := (List.getElem?_eq_some_iff.1 h).1; simpa [An.cells] using this
  rw [Nat.mod_eq_of_lt ho]
  have hx : o = 0 ∨ o = 1 ∨ o = 2 ∨ o = 3 ∨ o = 4 ∨ o = 5 ∨ o = 6 ∨ o = 7 ∨ o = 8 ∨ o = 9 := by omega
  rcases hx with rfl | rfl | rfl | rfl | rfl | rfl | rfl | rfl | rfl | rfl <;> (simp [An.cells] at h; subst h; constructor <;> intro x e <;> first | rfl | cases e)
theorem anF_all : ∀ ys : List An, Pos 10 AnF (anCells ys)
  | [] => Pos.nil
  | y :: l => by show Pos 10 AnF (y.cells ++ anCells l); exact Pos.append (n := 1) (anF_cells y) (anF_all l) (by simp [An.cells])
theorem anF_no {cs : Array Value} (h : Pos 10 AnF cs.toList) : ∀ o x s, cs[o]? = some (.float .f64 x) → cs[o + 1]? = some (.string s) → False := fun o x s h1 h2 => by
  have e1 := (h o _ (by rw [Array.getElem?_toList]; exact h1)).1 x rfl
  have e2 := (h (o + 1) _ (by rw [Array.getElem?_toList]; exact h2)).2 s rfl
  omega
/-- A list lies nowhere near a row of answers. -/
theorem its_rowF {w : World} {A B : Option Addr} {l : List RC.It} (h : Its w A l) (hB : RowF 10 AnF w B) : l = [] ∨ ∀ ad, A = some ad → ob B ≠ some ad.block := by
  cases B with
  | none => exact .inr fun ad e x => by cases x
  | some bd =>
    obtain ⟨cur, t, h1, h2⟩ := hB bd rfl
    rcases its_apart h h1 (anF_no h2) with h3 | h3
    · exact .inl h3
    · exact .inr fun ad e x => by injection x with x; exact h3 ad e x.symm
/-- Acts, cell by cell. -/
def acCells : List Al → List Value
  | [] => []
  | y :: l => y.cells.toList ++ acCells l
theorem acCells_len : ∀ ys : List Al, (acCells ys).length = ys.length * 14
  | [] => rfl
  | y :: l => by show (y.cells.toList ++ acCells l).length = _; rw [List.length_append, acCells_len l]; simp [Al.cells]; omega
theorem acCells_append : ∀ a b : List Al, acCells (a ++ b) = acCells a ++ acCells b
  | [], _ => rfl
  | y :: a, b => by show y.cells.toList ++ acCells (a ++ b) = (y.cells.toList ++ acCells a) ++ acCells b; rw [acCells_append a b, List.append_assoc]
theorem acCells_at : ∀ (ys : List Al) (i : Nat) (y : Al), ys[i]? = some y → ∀ j v, y.cells[j]? = some v → (acCells ys)[i * 14 + j]? = some v
  | [], i, y, h, _, _, _ => by simp at h
  | z :: l, 0, y, h, j, v, hv => by
    simp at h
    subst h
    show (z.cells.toList ++ acCells l)[0 * 14 + j]? = some v
    have hj : j < z.cells.toList.length := by rw [Array.length_toList]; exact (Array.getElem?_eq_some_iff.1 hv).1
    rw [show 0 * 14 + j = j by omega, List.getElem?_append_left hj, Array.getElem?_toList]
    exact hv
  | z :: l, i + 1, y, h, j, v, hv => by
    have h' : l[i]? = some y := by simpa using h
    show (z.cells.toList ++ acCells l)[(i + 1) * 14 + j]? = some v
    have hz : z.cells.toList.length = 14 := rfl
    rw [List.getElem?_append_right (by omega), hz, show (i + 1) * 14 + j - 14 = i * 14 + j by omega]
    exact acCells_at l i y h' j v hv
theorem acCells_one : ∀ ys : List Al, ∀ u ∈ acCells ys, u.oneCell' = true
  | [], u, h => by cases h
  | y :: l, u, h => by
    rcases List.mem_append.1 (show u ∈ y.cells.toList ++ acCells l from h) with h | h
    · unfold Al.cells actC at h
      simp at h
      rcases h with rfl | rfl | rfl | rfl | rfl | rfl | rfl | rfl | rfl | rfl | rfl | rfl | rfl | rfl <;> rfl
    · exact acCells_one l u h
theorem acts_src {w : World} {L : Option Addr} {l : List Al} {c : Nat} {tx e' : TypeId} (hk : Tryz.prog.underlying tx = some (.slice e')) (h : ActsIn w L l) : Src Tryz.prog 14 tx (.slice L l.length c) l.length (acCells l) w := by
  cases L with
  | none =>
    have hx : l = [] := by rcases h.rows with h | ⟨b, off, h, _⟩; exact h; cases h
    subst hx
    exact Src.ofNil w hk c
  | some ad =>
    refine Src.ofSlice w hk ad _ _ _ (acCells_len l) ?_ (acCells_one l)
    rcases h.rows with rfl | ⟨b, off, e, hb, hc⟩
    · intro j u hu; simp [acCells] at hu
    · injection e with e
      subst e
      intro j u hu
      rw [MM.add_plain]
      have hl : j < l.length * 14 := by
        have := (List.getElem?_eq_some_iff.1 hu).1
        rw [acCells_len] at this
        exact this
      have hq : j / 14 < l.length := by omega
      have hr : j % 14 < l[j / 14].cells.size := by have := Nat.mod_lt j (show 0 < 14 by omega); show j % 14 < 14; exact this
      have e1 := acCells_at l (j / 14) _ (List.getElem?_eq_getElem hq) (j % 14) _ (Array.getElem?_eq_getElem hr)
      have e2 := hc (j / 14) _ (List.getElem?_eq_getElem hq) (j % 14) _ (Array.getElem?_eq_getElem hr)
      rw [show j / 14 * 14 + j % 14 = j by omega] at e1
      rw [hu] at e1
      rw [show off + j / 14 * 14 + j % 14 = off + j by omega] at e2
      rw [e2]
      exact e1.symm
theorem own_cell14 {w : World} {e : TypeId} {size n c : Nat} {A : Option Addr} {xs : List Value} (h : w.ownsRow 0 e size (.slice A n c) n xs) (hn : 0 < n) : ∃ g, A = some ⟨g, 0, none⟩ ∧ g < w.heap.size ∧ ∀ j v, xs[j]? = some v → w.cell? ⟨g, j, none⟩ = some v := by
  obtain ⟨hl, ⟨h1, h2⟩ | ⟨g, cap, cur, h1, _, h3, h4, h5, h6, h7⟩⟩ := h
  · omega
  · injection h1 with hA _ _
    refine ⟨g, hA, lt_of_heap h3, fun j v hv => ?_⟩
    rw [cell_of_row _ _ j _ _ (0, 0) h3]
    rw [← h7, List.getElem?_take] at hv
    split at hv
    · simpa using hv
    · cases hv
theorem acts_own {w : World} {L : Option Addr} {l : List Al} {n c : Nat} (hn : n = l.length) (h : w.ownsRow 0 27 14 (.slice L n c) n (acCells l)) (ha : ∀ x ∈ l, ActIn w x.r x.A x.c) (hl : l.length ≤ maxLen) : ActsIn w L l := by
  refine ⟨?_, ha, hl⟩
  subst hn
  rcases Nat.eq_zero_or_pos l.length with h0 | h0
  · exact .inl (List.eq_nil_of_length_eq_zero h0)
  · obtain ⟨g, hA, hg, hc⟩ := own_cell14 h h0
    exact .inr ⟨g, 0, hA, hg, fun i x hi j v hv => by rw [Nat.zero_add]; exact hc _ v (acCells_at l i x hi j v hv)⟩
end Go.Proofs.YtlpecaldodganaaGreatDoor
namespace Go.Proofs.YtlpecaldodganaaGreatDoor
open Go.RowKit MM
set_option linter.unusedVariables false
set_option linter.unusedSimpArgs false
/-- One act behind the other: what is there then, and all answers. -/
def RU.go (q : RC.Rc) (t : Bool) : List AC.Ac → RC.Rc × Bool × List RU.Ans
  | [] => (q, t, [])
  | a :: l => ((RU.go (RU.apply q t a).1 (RU.apply q t a).2.1 l).1, (RU.go (RU.apply q t a).1 (RU.apply q t a).2.1 l).2.1, (RU.apply q t a).2.2 :: (RU.go (RU.apply q t a).1 (RU.apply q t a).2.1 l).2.2)
theorem RU.go_append : ∀ (l m : List AC.Ac) (q : RC.Rc) (t : Bool), RU.go q t (l ++ m) = ((RU.go (RU.go q t l).1 (RU.go q t l).2.1 m).1, (RU.go (RU.go q t l).1 (RU.go q t l).2.1 m).2.1, (RU.go q t l).2.2 ++ (RU.go (RU.go q t l).1 (RU.go q t l).2.1 m).2.2)
  | [], m, q, t => rfl
  | a :: l, m, q, t => by
    show RU.go q t (a :: (l ++ m)) = _
    simp only [RU.go]
    rw [RU.go_append l m]
    rfl
theorem RU.go_len : ∀ (l : List AC.Ac) (q : RC.Rc) (t : Bool), (RU.go q t l).2.2.length = l.length
  | [], q, t => rfl
  | a :: l, q, t => by simp only [RU.go, List.length_cons, RU.go_len l]
theorem st_go (q : RC.Rc) (t : Bool) (l : List AC.Ac) : ∀ n, n ≤ l.length → RU.st q t l n = RU.go q t (l.take n)
  | 0, _ => rfl
  | n + 1, h => by
    have hn : n < l.length := by omega
    rw [RU.st_next q t l n l[n] (List.getElem?_eq_getElem hn), st_go q t l n (by omega), List.take_add_one, List.getElem?_eq_getElem hn, RU.go_append]
    rfl
theorem st_all (q : RC.Rc) (t : Bool) (l : List AC.Ac) : RU.st q t l l.length = RU.go q t l := by rw [st_go q t l l.length (Nat.le_refl _), List.take_length]
theorem one_past {a : AC.Ac} (ha : a.ok) (ca : AC.chk a = 0) : ∀ (m : List AC.Ac) {q : RC.Rc} {t : Bool}, Keeps q t → (∀ b ∈ m, b.ok ∧ AC.chk b = 0 ∧ RU.kinds6 a.kind b.kind = true) →
    (RU.go q t (a :: m)).1 = (RU.go q t (m ++ [a])).1 ∧ (RU.go q t (a :: m)).2.1 = (RU.go q t (m ++ [a])).2.1 ∧ (RU.go q t (m ++ [a])).2.2 = (RU.go (RU.apply q t a).1 (RU.apply q t a).2.1 m).2.2 ++ [(RU.apply q t a).2.2]
  | [], q, t, h, _ => ⟨rfl, rfl, rfl⟩
  | b :: m, q, t, h, hb => by
    obtain ⟨b1, b2, b3⟩ := hb b (List.mem_cons_self ..)
    have hs := sound_plain h ha b1 ca b2 b3
    obtain ⟨i1, i2, i3⟩ := one_past ha ca m (keeps_plain h b1).1 (fun c hc => hb c (List.mem_cons_of_mem _ hc))
    simp only [RU.go, List.cons_append] at i1 i2 i3 ⊢
    rw [← hs.rc, ← hs.th] at i1 i2 i3
    refine ⟨i1, i2, ?_⟩
    rw [i3, hs.two, ← hs.one]
theorem rows_past : ∀ (l m : List AC.Ac) {q : RC.Rc} {t : Bool}, Keeps q t → (∀ a ∈ l, a.ok ∧ AC.chk a = 0) → (∀ b ∈ m, b.ok ∧ AC.chk b = 0) → (∀ a ∈ l, ∀ b ∈ m, RU.kinds6 a.kind b.kind = true) →
    (RU.go q t (l ++ m)).1 = (RU.go q t (m ++ l)).1 ∧ (RU.go q t (l ++ m)).2.1 = (RU.go q t (m ++ l)).2.1 ∧ ∃ P Q, P.length = l.length ∧ Q.length = m.length ∧ (RU.go q t (l ++ m)).2.2 = P ++ Q ∧ (RU.go q t (m ++ l)).2.2 = Q ++ P
  | [], m, q, t, h, _, _, _ => by
    rw [List.append_nil]
    exact ⟨rfl, rfl, [], (RU.go q t m).2.2, rfl, RU.go_len m q t, rfl, by simp⟩
  | a :: l, m, q, t, h, ha, hb, hk => by
    obtain ⟨a1, a2⟩ := ha a (List.mem_cons_self ..)
    have K1 := (keeps_plain h a1).1
    obtain ⟨i1, i2, P, Q, p1, q1, i3, i4⟩ := rows_past l m K1 (fun c hc => ha c (List.mem_cons_of_mem _ hc)) hb (fun c hc => hk c (List.mem_cons_of_mem _ hc))
    obtain ⟨o1, o2, o3⟩ := one_past a1 a2 m h (fun b hb' => ⟨(hb b hb').1, (hb b hb').2, hk a (List.mem_cons_self ..) b hb'⟩)
    have e1 : m ++ a :: l = (m ++ [a]) ++ l := by simp
    rw [e1, RU.go_append (m ++ [a]) l, ← o1, ← o2, o3]
    rw [RU.go_append m l] at i1 i2 i4
    simp only [RU.go, List.cons_append] at i1 i2 i3 i4 ⊢
    have hl : (RU.go (RU.apply q t a).1 (RU.apply q t a).2.1 m).2.2.length = Q.length := by rw [RU.go_len, q1]
    obtain ⟨j1, j2⟩ := List.append_inj i4 hl
    refine ⟨i1, i2, (RU.apply q t a).2.2 :: P, Q, by simp [p1], q1, by rw [i3]; rfl, ?_⟩
    rw [j1, j2]
    simp
theorem rot_get {α : Type} {P Q : List α} {i : Nat} (hi : i < P.length + Q.length) : (P ++ Q)[i]? = (Q ++ P)[(i + Q.length) % (P.length + Q.length)]? := by
  by_cases h : i < P.length
  · rw [Nat.mod_eq_of_lt (by omega), List.getElem?_append_left h, List.getElem?_append_right (by omega)]
    congr 1
    omega
  · have e : (i + Q.length) % (P.length + Q.length) = i - P.length := by
      have h2 : i + Q.length = (i - P.length) + (P.length + Q.length) := by omega
      rw [h2, Nat.add_mod_right, Nat.mod_eq_of_lt (by omega)]
    rw [e, List.getElem?_append_right (by omega), List.getElem?_append_left (by omega)]
end Go.Proofs.YtlpecaldodganaaGreatDoor
namespace Go.Proofs.YtlpecaldodganaaGreatDoor
open Go.RowKit MM
set_option linter.unusedVariables false
set_option linter.unusedSimpArgs false
theorem rec_inf6 : (Tryz.prog.info? 25).map (fun i => i.size) = some 8 := by kernel_rfl
theorem ans_inf6 : (Tryz.prog.info? 49).map (fun i => i.size) = some 10 := by kernel_rfl
theorem act_info6 : (Tryz.prog.info? 27).map (fun i => (i.zero, i.size, i.bytes)) = some (some (.agg #[.int .i64 0, .string ⟨#[]⟩, .int .i64 0, .float .f64 0, .string ⟨#[]⟩, .int .i64 0, .int .i64 0, .int .i64 0, .int .i64 0, .float .f64 0, .int .i64 0, .string ⟨#[]⟩, .slice none 0 0, .bool false]), 14, 152) := by kernel_rfl
theorem posZ : Pos 10 AnF (Value.cells (.agg #[.int .i64 0, .int .i64 0, .int .i64 0, .int .i64 0, .int .i64 0, .int .i64 0, .float .f64 0, .int .i64 0, .string ⟨#[]⟩, .slice none 0 0])).toList := anF_cells ⟨⟨0, 0, RC.zero⟩, none, 0⟩
/-- How things stand behind i acts. -/
structure PyAt (w6 : World) (g : Nat) (q : RC.Rc) (A : Option Addr) (c : Nat) (ys : List An) (B : Option Addr) (i cb : Nat) (wr : World) : Prop where
  box : wr.heap[g]? = some (.cells (recC q.kind q.num q.low q.high q.real q.cap q.text (.slice A q.list.length c)) 25 (0, 0))
  its : Its wr A q.list
  ok : q.ok
  lim : Lim q.list.length
  ans : wr.ownsRow 0 49 10 (.slice B i cb) i (anCells ys)
  full : RowF 10 AnF wr B
  all : ∀ y ∈ ys, Its wr y.A y.x.rc.list ∧ y.x.rc.ok ∧ Lim y.x.rc.list.length
  newB : ∀ k, ob B = some k → w6.heap.size ≤ k
  keep : Kp (fun k => k = g) w6 wr
  len : ys.length = i
section
variable {w6 wr : World} {g : Nat} {q : RC.Rc} {A : Option Addr} {c : Nat} {ys : List An} {B : Option Addr} {i cb : Nat}
theorem PyAt.next (h : PyAt w6 g q A c ys B i cb wr) (hg6 : g < w6.heap.size) {p : RC.Rc} {A2 : Option Addr} {c2 : Nat} {x : RU.Ans} {D : Option Addr} {dd k : Nat} {w7 w8 w9 w10 : World} {B' : Option Addr} {cb' : Nat} {t2 : TypeId}
    (hb7 : Below wr.heap.size wr w7) (hI : Its w7 A2 p.list) (hJ : Its w7 D x.rc.list) (hp : p.ok ∧ Lim p.list.length) (hx : x.rc.ok ∧ Lim x.rc.list.length) (hk : wr.heap.size ≤ k)
    (hr0 : w7.heap[g]? = some (.cells (recC q.kind q.num q.low q.high q.real q.cap q.text (.slice A q.list.length c)) 25 (0, 0))) (hrk : w7.heap[k]? = some (.cells (ansC 0 0 RC.zero none 0) t2 (0, 0)))
    (hk8 : Kp (fun j => j = g ∨ j = k) w7 w8) (hbox : w8.heap[g]? = some (.cells (recC p.kind p.num p.low p.high p.real p.cap p.text (.slice A2 p.list.length c2)) 25 (0, 0))) (hb9 : Below w8.heap.size w8 w9)
    (hg : w9.grownBy w10 (ob B)) (hat : ob B' = ob B ∨ ob B' = some w9.heap.size) (ho : w10.ownsRow 0 49 10 (.slice B' (i + 1) cb') (i + 1) (anCells ys ++ (ansC x.code x.num x.rc D dd).toList)) (hf : RowF 10 AnF w10 B') :
    PyAt w6 g p A2 c2 (ys ++ [⟨x, D, dd⟩]) B' (i + 1) cb' w10 := by
  have hs := h.keep.size
  have hs7 := hb7.size
  have hs8 := hk8.size
  have hs9 := hb9.size
  have hBlt : ∀ k, ob B = some k → k < wr.heap.size := fun k e => in_row h.ans k e
  have hk10 : Kp (fun k => ob B = some k) w9 w10 := Kp.grown (Kp.refl _ _) hg (fun k e => .inl e)
  have hfull9 : RowF 10 AnF w9 B := h.full.of fun j e => by
    have h1 := h.newB j e
    have h2 := hBlt j e
    exact ((hb9.block j (by omega)).trans (hk8.block j (by omega) (by omega))).trans (hb7.block j h2)
  have hmove : ∀ {X : Option Addr} {l : List RC.It}, Its w7 X l → Its w10 X l := fun {X l} hX => by
    have h8 : Its w8 X l := by
      refine its_keep hX hk8 ?_
      rcases its_apart hX hr0 (rec_no _ _ _ _ _ _ _ _ _ _) with h1 | h1
      · exact .inl h1
      rcases its_apart hX hrk (ans_no 0 0 RC.zero none 0) with h2 | h2
      · exact .inl h2
      exact .inr fun ad e x => by rcases x with x | x; exact h1 ad e x; exact h2 ad e x
    have h9 := h8.below hb9
    refine its_keep h9 hk10 ?_
    rcases its_rowF h9 hfull9 with h1 | h1
    · exact .inl h1
    · exact .inr fun ad e x => h1 ad e x
  refine ⟨?_, hmove hI, hp.1, hp.2, ?_, hf, ?_, ?_, ?_, by simp [h.len]⟩
  · refine (hk10.block _ (by have := lt_of_heap hbox; omega) (fun e => by have := h.newB _ e; omega)).trans ((hb9.block _ (lt_of_heap hbox)).trans hbox)
  · rw [anCells_append]
    show w10.ownsRow _ _ _ _ _ (anCells ys ++ (An.cells _ ++ []))
    rw [List.append_nil]
    exact ho
  · intro y hy
    rcases List.mem_append.1 hy with hy | hy
    · have h1 := h.all y hy
      exact ⟨hmove (h1.1.below hb7), h1.2⟩
    · simp at hy
      subst hy
      exact ⟨hmove hJ, hx⟩
  · intro j e
    rcases hat with h1 | h1
    · exact h.newB j (h1 ▸ e)
    · rw [h1] at e; injection e with e; omega
  · have k1 : Kp (fun j => j = g) w6 w7 := h.keep.trans (Kp.of_below hb7 (fun j => j = g)) (fun _ _ x => x)
    have k2 : Kp (fun j => j = g) w6 w8 := k1.trans hk8 (fun i hi x => by rcases x with x | x; exact x; omega)
    have k3 : Kp (fun j => j = g) w6 w9 := k2.trans (Kp.of_below hb9 (fun j => j = g)) (fun _ _ x => x)
    exact k3.trans hk10 (fun i hi x => by have := h.newB i x; omega)
end
/-- What play answers. -/
def PyPost (r : RC.Rc) (th : Bool) (l : List AC.Ac) (w : World) (e : Ending) (w' : World) : Prop :=
  ∃ q t A c ys B cb, e = .returned (.tuple #[recV q A c, .bool t, .slice B l.length cb]) ∧ RU.go (ownR r th) th l = (q, t, ys.map (·.x)) ∧ ys.length = l.length ∧ Its w' A q.list ∧ q.ok ∧ Lim q.list.length ∧ w'.ownsRow 0 49 10 (.slice B l.length cb) l.length (anCells ys) ∧ (∀ y ∈ ys, Its w' y.A y.x.rc.list ∧ y.x.rc.ok ∧ Lim y.x.rc.list.length) ∧ (∀ k, ob B = some k → w.heap.size ≤ k) ∧ Below w.heap.size w w'
/-- A slice of one's own grown: what was there ahead stays. -/
theorem cat_step {w wa w4 : World} {B A4 : Option Addr} (hb : Below w.heap.size w wa) (hB : ∀ k, ob B = some k → w.heap.size + 2 ≤ k) (hg : wa.grownBy w4 (ob B)) (hat : ob A4 = ob B ∨ ob A4 = some wa.heap.size) (hz : w.heap.size + 2 ≤ wa.heap.size) :
    (∀ k, k < w.heap.size + 2 → w4.heap[k]? = wa.heap[k]?) ∧ (∀ k, ob A4 = some k → w.heap.size + 2 ≤ k) ∧ Below w.heap.size w w4 ∧ w.heap.size + 2 ≤ w4.heap.size := by
  have hk : Kp (fun k => ob B = some k) wa w4 := Kp.grown (Kp.refl _ _) hg (fun k e => .inl e)
  refine ⟨fun k h => hk.block k (by omega) (fun e => by have := hB k e; omega), fun k e => ?_, hb.trans (hk.below hb.size (fun i hi x => by have := hB i x; omega)), Nat.le_trans hz hk.size⟩
  rcases hat with h | h
  · exact hB k (h ▸ e)
  · rw [h] at e; injection e with e; omega
set_option maxHeartbeats 8000000 in
set_option maxRecDepth 100000 in
theorem play6_true (r : RC.Rc) (l m : List Al) (A L M : Option Addr) (c cl cm : Nat) (w : World) (hr : r.ok) (hA : Its w A r.list) (n1 : Lim r.list.length) (hl : ActsIn w L l) (hm : ActsIn w M m) (hn : (l ++ m).length ≤ 1000) (hs : ∀ x ∈ l ++ m, Lim x.r.make.list.length ∧ Lim x.r.key.size ∧ Lim x.r.s.size) :
    Calls Tryz.prog 23 #[recV r A c, .bool true, .slice L l.length cl, .slice M m.length cm] w (PyPost r true ((l ++ m).map (·.r)) w) := by
  obtain ⟨i0, hi0, hz0, hz1, hz2⟩ := info_parts act_info6
  obtain ⟨i1, hj0, hj1, hj2, hj3⟩ := info_parts ans_info
  have HI := Lib.hid hA
  have HS := Lib.hid hs
  have hlm : l.length + m.length ≤ 1000 := by rw [List.length_append] at hn; exact hn
  have HOK := Lib.hid hr
  have HLM := Lib.hid n1
  have HSl := Lib.hid (fun u (h : Below w.heap.size w u) => acts_src (c := cl) Tryz.underlying31 (hl.keep h))
  have HSm := Lib.hid (fun u (h : Below w.heap.size w u) => acts_src (c := cm) Tryz.underlying31 (hm.keep h))
  have HAll := Lib.hid (show ∀ x ∈ l ++ m, ActIn w x.r x.A x.c from fun x hx => by
    rcases List.mem_append.1 hx with hx | hx
    · exact hl.all x hx
    · exact hm.all x hx)
  clear hA hl hm hs hr n1
  obtain ⟨Q, hQ⟩ : ∃ Q, Q = (l ++ m).map (·.r) := ⟨_, rfl⟩
  rw [← hQ]
  have HQ := Lib.hid hQ
  clear hQ
  go_enter Tryz.func23, Tryz.ntmps23
  go_upto_region 4 with fail
  generalize hw2 : World.alloc (World.alloc w _) _ = w2
  have HB2 := Lib.hid (show Below w.heap.size w w2 by rw [← hw2]; exact below2 w _ _)
  have HZ2 := Lib.hid (show w.heap.size + 2 ≤ w2.heap.size by rw [← hw2]; simp)
  have E0 := Lib.hid (show w2.heap[w.heap.size]? = some (.cells (recC r.kind r.num r.low r.high r.real r.cap r.text (.slice A r.list.length c)) 25 (0, 0)) by rw [← hw2]; exact heap_alloc2_old w _ _)
  have E1 := Lib.hid (show w2.heap[w.heap.size + 1]? = some (.cells (recC 0 0 0 0 0 0 ⟨#[]⟩ (.slice none 0 0)) 25 (0, 0)) by rw [← hw2]; exact heap_alloc2_new w _ _)
  clear hw2
  have HO3 := Lib.hid (show (w2.alloc (.cells #[] 27)).ownsRow 0 27 14 (.slice (some ⟨w2.heap.size, 0, none⟩) 0 0) 0 [] from World.ownsRow_lit (base := 0) (e := 27) (size := 14) w2 #[] 0 (Nat.zero_le _) (by unfold maxLen; omega) rfl)
  have HB3 := Lib.hid (show Below w.heap.size w (w2.alloc (.cells #[] 27)) from HB2.out.trans ((below1 w2 _).mono HB2.out.size))
  have HN3 := Lib.hid (show ∀ k, ob (some (⟨w2.heap.size, 0, none⟩ : Addr)) = some k → w.heap.size + 2 ≤ k from fun k e => by injection e with e; have e' : w2.heap.size = k := e; have := HZ2.out; omega)
  have HZ3 := Lib.hid (show w.heap.size + 2 ≤ (w2.alloc (.cells #[] 27)).heap.size by have := HZ2.out; simp only [World.size_alloc]; omega)
  go_wp2_with (first
    | (at_builtin
       refine wpList_append_at rfl _ _ _ _ rfl 27 i0 _ 14 152 Tryz.underlying31 hi0 hz0 hz1 hz2 rfl (some ⟨w2.heap.size, 0, none⟩) 0 0 [] rfl HO3.out _ l.length _ rfl (HSl.out _ HB3.out) (by unfold maxLen; omega) (by omega) ?_
       intro A4 c4 w4 ho4 hg4 hat4
       rw [Nat.zero_add] at ho4 ⊢
       rw [List.nil_append] at ho4
       obtain ⟨k4, n4, b4, z4⟩ := cat_step HB3.out HN3.out hg4 hat4 HZ3.out
       have HO4 := Lib.hid ho4
       have HK4 := Lib.hid k4
       have HN4 := Lib.hid n4
       have HB4 := Lib.hid b4
       have HZ4 := Lib.hid z4
       clear ho4 hg4 hat4 k4 n4 b4 z4)
    | (at_builtin
       refine wpList_append_at rfl _ _ _ _ rfl 27 i0 _ 14 152 Tryz.underlying31 hi0 hz0 hz1 hz2 rfl A4 l.length c4 (acCells l) rfl HO4.out _ m.length _ rfl (HSm.out _ HB4.out) (by unfold maxLen; omega) (by omega) ?_
       intro A5 c5 w5 ho5 hg5 hat5
       obtain ⟨k5, n5, b5, z5⟩ := cat_step HB4.out HN4.out hg5 hat5 HZ4.out
       obtain ⟨N, hN⟩ : ∃ N, N = l.length + m.length := ⟨_, rfl⟩
       rw [← hN] at ho5 ⊢
       have HO5 := Lib.hid ho5
       have HK5 := Lib.hid k5
       have HN5 := Lib.hid n5
       have HB5 := Lib.hid b5
       have HZ5 := Lib.hid z5
       have HNN := Lib.hid hN
       clear ho5 hg5 hat5 k5 n5 b5 z5 hN))
  obtain rfl : N = (l ++ m).length := by have := HNN.out; rw [List.length_append]; omega
  have HP := Lib.hid (show ActsIn w5 A5 (l ++ m) from acts_own rfl (by have h := HO5.out; rw [← acCells_append] at h; exact h) (fun x hx => (HAll.out x hx).keep HB5.out) (by unfold maxLen; omega))
  have F0 := Lib.hid (show w5.heap[w.heap.size]? = some (.cells (recC r.kind r.num r.low r.high r.real r.cap r.text (.slice A r.list.length c)) 25 (0, 0)) from (HK5.out _ (by omega)).trans ((HK4.out _ (by omega)).trans ((heap_alloc_old w2 _ (lt_of_heap E0.out)).trans E0.out)))
  have F1 := Lib.hid (show w5.heap[w.heap.size + 1]? = some (.cells (recC 0 0 0 0 0 0 ⟨#[]⟩ (.slice none 0 0)) 25 (0, 0)) from (HK5.out _ (by omega)).trans ((HK4.out _ (by omega)).trans ((heap_alloc_old w2 _ (lt_of_heap E1.out)).trans E1.out)))
  clear HSl HSm HO3 HB3 HN3 HZ3 HO4 HK4 HN4 HB4 HZ4 HO5 HK5 HNN HB2 HZ2 E0 E1 HAll
  generalize l ++ m = P at *
  have HI0 := Lib.hid (show PyAt w5 w.heap.size r A c [] none 0 0 w5 from ⟨F0.out, HI.out.below HB5.out, HOK.out, HLM.out, World.ownsRow_nil _ _ _ _, RowF.none, fun y hy => (by cases hy), fun k e => (by cases e), Kp.refl _ _, rfl⟩)
  have HOW := Lib.hid (show ownR r true = r from rfl)
  have hgl : w.heap.size < w5.heap.size := by have := HZ5.out; omega
  have hg1 : w.heap.size + 1 < w5.heap.size := by have := HZ5.out; omega
  have HGS := Lib.hid (show w.heap.size < w5.heap.size ∧ w.heap.size + 1 < w5.heap.size from ⟨hgl, hg1⟩)
  clear hgl hg1
  generalize hg : w.heap.size = g at *
  have HG := Lib.hid hg
  have HN1 := Lib.hid hn
  clear hg hn hlm
  go_loopw [1, 11, 24] (fun t1 t11 t24 wr => ∃ (i : Nat) (q : RC.Rc) (t' : Bool) (A1 : Option Addr) (c1 : Nat) (ys : List An) (B : Option Addr) (cb : Nat), t24 = .int .i64 i ∧ t1 = .bool t' ∧ t11 = .slice B i cb ∧ i ≤ P.length ∧ RU.st r true (P.map (·.r)) i = (q, t', ys.map (·.x)) ∧ PyAt w5 g q A1 c1 ys B i cb wr) (fun _ _ t24 _ => P.length - (intOf t24).toNat)
  case atStart => exact ⟨0, r, true, A, c, [], none, 0, rfl, rfl, rfl, Nat.zero_le _, rfl, HI0.out⟩
  case round =>
    obtain ⟨i, q, t', A1, c1, ys, B, cb, rfl, rfl, rfl, hi, hst, hv⟩ := hrel
    have HV := Lib.hid hv
    have HST := Lib.hid hst
    clear hv hst HI0
    by_cases hlt : i < P.length
    · have hin := HP.out.all _ (List.getElem_mem hlt)
      have hsm := HS.out _ (List.getElem_mem hlt)
      have hget : (P.map (·.r))[i]? = some P[i].r := by simp [hlt]
      have hnx := RU.st_next r true (P.map (·.r)) i _ hget
      rw [HST.out] at hnx
      have HNX := Lib.hid hnx
      obtain ⟨b1, o1, hA5, hr1⟩ := acts_range9 HP.out hlt
      have hbn : b1 ≠ g := by
        have h1 := HN5.out b1 (by rw [hA5]; rfl)
        omega
      subst hA5
      generalize P[i] = a at *
      have HIN := Lib.hid hin
      have HSM := Lib.hid hsm
      have HMK := Lib.hid (show Its wr a.A a.r.make.list by
        refine its_keep hin.make.its HV.out.keep ?_
        rcases its_apart hin.make.its F0.out (rec_no _ _ _ _ _ _ _ _ _ _) with h1 | h1
        · exact .inl h1
        · exact .inr fun ad e x => h1 ad e x)
      have HR1 := Lib.hid (show wr.rangeAt b1 (o1 + i * 14) (actC a.r a.A a.c).toList from fun j v hv => HV.out.keep.cell (hr1 j v hv) hbn)
      have hi1 : (i : Int) < (P.length : Int) := by omega
      have HIP := Lib.hid (show i < P.length ∧ P.length ≤ 1000 from ⟨hlt, HN1.out⟩)
      have hB5 := HB5.out
      clear hin hsm hget hnx hr1 hbn
      go_upto_region 7 with (first
        | (refine wpList_load_mid rfl _ _ rfl b1 (o1 + i * 14) rfl (actC a.r a.A a.c).toList _ HR1.out Tryz.underlying27 rfl act_inf9 ?_)
        | (refine wpList_store_row rfl _ _ _ rfl _ (actC a.r a.A a.c) rfl rfl 27 _ (heap_alloc_new _ _) act_inf9 rfl (by kernel_rfl) ?_))
      rw [World.setRow_alloc_new]
      generalize hwb : World.alloc wr _ = wb
      have R13 := Lib.hid (show wb.heap[wr.heap.size]? = some (.cells (actC a.r a.A a.c) 27 (0, 0)) by rw [← hwb]; exact heap_alloc_new wr _)
      have hsb : wb.heap.size = wr.heap.size + 1 := by rw [← hwb]; simp
      have HBB := Lib.hid (show Below wr.heap.size wr wb by rw [← hwb]; exact below1 wr _)
      clear hwb HR1
      go_upto_region 8 with fail
      generalize hwc : World.alloc wb _ = wc
      have hbc : Below wb.heap.size wb wc := by rw [← hwc]; exact below1 wb _
      have HBC := Lib.hid (show Below wr.heap.size wr wc from HBB.out.trans (hbc.mono (by omega)))
      have G13 := Lib.hid ((hbc.block _ (by omega)).trans R13.out)
      have G4 := Lib.hid ((HBC.out.block _ (lt_of_heap HV.out.box)).trans HV.out.box)
      have G14 := Lib.hid (show wc.heap[wr.heap.size + 1]? = some (.cells (ansC 0 0 RC.zero none 0) 49 (0, 0)) by rw [← hwc, ← hsb]; exact heap_alloc_new wb _)
      have HSZ := Lib.hid (show wc.heap.size = wr.heap.size + 2 by rw [← hwc]; simp [hsb])
      have HAp := Lib.hid (r5apply_any q t' a.r A1 a.A c1 a.c wc HV.out.ok HIN.out.ok (HV.out.its.below HBC.out) (HMK.out.below HBC.out) HV.out.lim HSM.out.1 HSM.out.2.1 HSM.out.2.2)
      clear hwc hbc R13 HBB hsb
      generalize hg13 : wr.heap.size = g13 at *
      have HG13 := Lib.hid hg13
      clear hg13
      go_wp2_with (first
        | (refine wpList_load_row rfl _ _ rfl g rfl 25 _ (0, 0) _ G4.out Tryz.underlying25 rfl rec_inf6 ?_)
        | (refine wpList_load_row rfl _ _ rfl g13 rfl 27 _ (0, 0) _ G13.out Tryz.underlying27 rfl act_inf9 ?_))
      refine HAp.out.mono ?_
      have HOKA := Lib.hid (apply_ok (there := t') HV.out.ok HIN.out.ok)
      have HLMA := Lib.hid (apply_lim (there := t') HV.out.ok HIN.out.ok HV.out.lim)
      clear HAp
      generalize hap : RU.apply q t' a.r = out at *
      obtain ⟨p, tb, xx⟩ := out
      clear hap
      rintro e w7 ⟨B2, d2, D, dd, rfl, hi1', hi2', hb7⟩
      have HI1 := Lib.hid (show Its w7 B2 p.list from hi1')
      have HI2 := Lib.hid (show Its w7 D xx.rc.list from hi2')
      have J4 := Lib.hid ((hb7.block _ (lt_of_heap G4.out)).trans G4.out)
      have J14 := Lib.hid ((hb7.block _ (lt_of_heap G14.out)).trans G14.out)
      have HB7 := Lib.hid (show Below g13 wr w7 from HBC.out.trans (hb7.mono (by have := HSZ.out; omega)))
      have hne : (g13 + 1) ≠ g := by have := HSZ.out; have := lt_of_heap HV.out.box; have := HG13.out; omega
      have J14s := Lib.hid (fun cs => (setRow_other w7 g (g13 + 1) cs hne).trans J14.out)
      clear hi1' hi2' hb7 G4 G13 G14
      go_upto_region 9 with (first
        | (refine wpList_store_row rfl _ _ _ rfl g (recC p.kind p.num p.low p.high p.real p.cap p.text (.slice B2 p.list.length d2)) rfl rfl 25 _ J4.out rec_inf6 rfl (by kernel_rfl) ?_)
        | (refine wpList_store_row rfl _ _ _ rfl (g13 + 1) (ansC xx.code xx.num xx.rc D dd) rfl rfl 49 _ (J14s.out _) ans_inf6 rfl (by kernel_rfl) ?_))
      generalize hw8 : World.setRow (World.setRow w7 _ _) _ _ = w8
      have hk8 : Kp (fun j => j = g ∨ j = (g13 + 1)) w7 w8 := by rw [← hw8]; exact Kp.setRow (S := fun j => j = g ∨ j = (g13 + 1)) (Kp.setRow (S := fun j => j = g ∨ j = (g13 + 1)) (Kp.refl _ _) (.inl (.inl rfl)) _) (.inl (.inr rfl)) _
      have K4 : w8.heap[g]? = some (.cells (recC p.kind p.num p.low p.high p.real p.cap p.text (.slice B2 p.list.length d2)) 25 (0, 0)) := by rw [← hw8, setRow_other _ _ _ _ (fun e => hne e.symm)]; exact setRow_heap w7 g _ _ _ _ J4.out
      have K14 := Lib.hid (show w8.heap[(g13 + 1)]? = some (.cells (ansC xx.code xx.num xx.rc D dd) 49 (0, 0)) by rw [← hw8]; exact setRow_heap _ (g13 + 1) _ _ _ _ (J14s.out _))
      have hB8 : ∀ k, ob B = some k → k ≠ g ∧ k ≠ (g13 + 1) ∧ k < g13 := fun k e => by
        have h1 := HV.out.newB k e
        have h2 := in_row HV.out.ans k e
        have h3 := HSZ.out
        have h4 := HG13.out
        have h5 := HGS.out
        exact ⟨by omega, by omega, by omega⟩
      have KO := Lib.hid (show ∀ X, (w8.alloc X).ownsRow 0 49 10 (.slice B i cb) i (anCells ys) from fun X => (hk8.own (own_below HV.out.ans (by rw [HG13.out]; exact HB7.out)) (fun k e x => by rw [ownBlock_slice] at e; have := hB8 k e; omega)).alloc X)
      have KF := Lib.hid (show ∀ X, RowF 10 AnF (w8.alloc X) B from fun X => HV.out.full.of fun k e => by
        have h1 := hB8 k e
        have h2 := hk8.size
        have h3 := HB7.out.size
        have h4 := HG13.out
        exact ((heap_alloc_old w8 X (by omega)).trans (hk8.block k (by omega) (by omega))).trans (HB7.out.block k h1.2.2))
      have HNXT := Lib.hid (fun w9 w10 B' cb' => HV.out.next (dd := dd) (w9 := w9) (w10 := w10) (B' := B') (cb' := cb') HGS.out.1 (by rw [HG13.out]; exact HB7.out) HI1.out HI2.out ⟨HOKA.out.1, HLMA.out.1⟩ ⟨HOKA.out.2, HLMA.out.2⟩ (by have := HSZ.out; have := HG13.out; omega) J4.out J14.out hk8 K4)
      clear hw8 hk8 K4 hB8 hne J4 J14 J14s
      have hPl : P.length ≤ 1000 := HIP.out.2
      go_wp2_with (first
        | (refine wpList_load_row rfl _ _ rfl (g13 + 1) rfl 49 _ (0, 0) _ K14.out Tryz.underlying49 rfl ans_inf6 ?_)
        | (at_builtin
           refine wpList_append_full rfl _ _ _ _ rfl 49 i1 _ 10 104 Tryz.underlying43 hj0 hj1 hj2 hj3 rfl B i cb (anCells ys) rfl (KO.out _) _ 1 _ rfl (src_row Tryz.underlying43 _ (ansC xx.code xx.num xx.rc D dd) _ (by simp) rfl (List.all_eq_true.1 rfl)) (by have := HIP.out; unfold maxLen; omega) (by have := HIP.out; omega) AnF (KF.out _) (anF_all ys) (anF_cells ⟨xx, D, dd⟩) posZ ?_
           intro B' cb' w10 ho10 hg10 hat10 hf10))
      have HT := Lib.hid (HNXT.out _ w10 B' cb' (below1 w8 _) hg10 hat10 ho10 hf10)
      clear ho10 hg10 hat10 hf10
      go_wp2_with fail
      go_roundw
      case rel => exact ⟨i + 1, p, tb, B2, d2, ys ++ [⟨xx, D, dd⟩], B', cb', by go_num, rfl, rfl, by omega, by rw [HNX.out]; simp, HT.out⟩
      case measure => simp [intOf]; omega
    · have hi' : i = P.length := by omega
      subst hi'
      have hi1 : ¬ (P.length : Int) < (P.length : Int) := by omega
      have G4 := Lib.hid HV.out.box
      have G8 := Lib.hid ((HV.out.keep.block _ HGS.out.2 (by show ¬ g + 1 = g; omega)).trans F1.out)
      go_wp2_with (first
        | (refine wpList_load_row rfl _ _ rfl g rfl 25 _ (0, 0) _ G4.out Tryz.underlying25 rfl rec_inf6 ?_)
        | (refine wpList_store_row rfl _ _ _ rfl (g + 1) (recC q.kind q.num q.low q.high q.real q.cap q.text (.slice A1 q.list.length c1)) rfl rfl 25 _ G8.out rec_inf6 rfl (by kernel_rfl) ?_))
      generalize hwf : World.setRow wr _ _ = wf
      have hk : Kp (fun j => j = g + 1) wr wf := by rw [← hwf]; exact Kp.setRow (S := fun j => j = g + 1) (Kp.refl _ _) (.inl rfl) _
      have X8 : wf.heap[g + 1]? = some (.cells (recC q.kind q.num q.low q.high q.real q.cap q.text (.slice A1 q.list.length c1)) 25 (0, 0)) := by rw [← hwf]; exact setRow_heap wr _ _ _ _ _ G8.out
      have k8 := fun o => cell_of_row wf _ o _ _ (0, 0) X8
      have hmv : ∀ {X : Option Addr} {l : List RC.It}, Its wr X l → Its wf X l := fun {X l} hX => by
        refine its_keep hX hk ?_
        rcases its_apart hX G8.out (rec_no _ _ _ _ _ _ _ _ _ _) with h1 | h1
        · exact .inl h1
        · exact .inr fun ad e x => h1 ad e x
      have HPo := Lib.hid (show PyPost r true Q w (.returned (.tuple #[recV q A1 c1, .bool t', .slice B P.length cb])) wf by
        rw [HQ.out]
        refine ⟨q, t', A1, c1, ys, B, cb, by simp, ?_, by simp [HV.out.len], hmv HV.out.its, HV.out.ok, HV.out.lim, ?_, fun y hy => ⟨hmv (HV.out.all y hy).1, (HV.out.all y hy).2⟩, fun k e => ?_, ?_⟩
        · rw [HOW.out, ← st_all, List.length_map]
          exact HST.out
        · rw [List.length_map]
          exact hk.own HV.out.ans (fun k e x => by rw [ownBlock_slice] at e; have := HV.out.newB k e; have := HGS.out; omega)
        · have := HV.out.newB k e; have := HGS.out; have := HG.out; omega
        · rw [HG.out]
          exact HB5.out.trans ((HV.out.keep.below (by have := HGS.out; omega) (fun i hi x => by omega)).trans (hk.below (by have := HV.out.keep.size; have := HGS.out; omega) (fun i hi x => by omega))))
      clear hwf X8 hk hmv
      exact bodyPost_ret (v := .tuple #[recV q A1 c1, .bool t', .slice B P.length cb]) (by simp [results, Tryz.results23, go_sem, k8]) rfl HPo.out
set_option maxHeartbeats 8000000 in
set_option maxRecDepth 100000 in
theorem play6_false (r : RC.Rc) (l m : List Al) (A L M : Option Addr) (c cl cm : Nat) (w : World) (hr : r.ok) (hA : Its w A r.list) (n1 : Lim r.list.length) (hl : ActsIn w L l) (hm : ActsIn w M m) (hn : (l ++ m).length ≤ 1000) (hs : ∀ x ∈ l ++ m, Lim x.r.make.list.length ∧ Lim x.r.key.size ∧ Lim x.r.s.size) :
    Calls Tryz.prog 23 #[recV r A c, .bool false, .slice L l.length cl, .slice M m.length cm] w (PyPost r false ((l ++ m).map (·.r)) w) := by
  obtain ⟨i0, hi0, hz0, hz1, hz2⟩ := info_parts act_info6
  obtain ⟨i1, hj0, hj1, hj2, hj3⟩ := info_parts ans_info
  have HI := Lib.hid hA
  have HS := Lib.hid hs
  have hlm : l.length + m.length ≤ 1000 := by rw [List.length_append] at hn; exact hn
  have HOK := Lib.hid hr
  have HLM := Lib.hid n1
  have HSl := Lib.hid (fun u (h : Below w.heap.size w u) => acts_src (c := cl) Tryz.underlying31 (hl.keep h))
  have HSm := Lib.hid (fun u (h : Below w.heap.size w u) => acts_src (c := cm) Tryz.underlying31 (hm.keep h))
  have HAll := Lib.hid (show ∀ x ∈ l ++ m, ActIn w x.r x.A x.c from fun x hx => by
    rcases List.mem_append.1 hx with hx | hx
    · exact hl.all x hx
    · exact hm.all x hx)
  clear hA hl hm hs hr n1
  obtain ⟨Q, hQ⟩ : ∃ Q, Q = (l ++ m).map (·.r) := ⟨_, rfl⟩
  rw [← hQ]
  have HQ := Lib.hid hQ
  clear hQ
  go_enter Tryz.func23, Tryz.ntmps23
  go_upto_region 2 with fail
  generalize hw1 : World.alloc (World.alloc w _) _ = w1
  have HB1 := Lib.hid (show Below w.heap.size w w1 by rw [← hw1]; exact below2 w _ _)
  have HZ1 := Lib.hid (show w.heap.size + 2 ≤ w1.heap.size by rw [← hw1]; simp)
  have D0 := Lib.hid (show w1.heap[w.heap.size]? = some (.cells (recC r.kind r.num r.low r.high r.real r.cap r.text (.slice A r.list.length c)) 25 (0, 0)) by rw [← hw1]; exact heap_alloc2_old w _ _)
  have D1 := Lib.hid (show w1.heap[w.heap.size + 1]? = some (.cells (recC 0 0 0 0 0 0 ⟨#[]⟩ (.slice none 0 0)) 25 (0, 0)) by rw [← hw1]; exact heap_alloc2_new w _ _)
  clear hw1
  go_upto_region 4 with (first
    | (refine wpList_store_row rfl _ _ _ rfl w.heap.size (recC 0 0 0 0 0 0 ⟨#[]⟩ (.slice none 0 0)) rfl rfl 25 _ D0.out rec_inf6 rfl (by kernel_rfl) ?_))
  generalize hw2 : World.setRow w1 _ _ = w2
  have hk2 : Kp (fun j => j = w.heap.size) w1 w2 := by rw [← hw2]; exact Kp.setRow (S := fun j => j = w.heap.size) (Kp.refl _ _) (.inl rfl) _
  have HB2 := Lib.hid (show Below w.heap.size w w2 from HB1.out.trans (hk2.below HB1.out.size (fun i hi x => by omega)))
  have HZ2 := Lib.hid (show w.heap.size + 2 ≤ w2.heap.size by have := HZ1.out; have := hk2.size; omega)
  have E0 := Lib.hid (show w2.heap[w.heap.size]? = some (.cells (recC 0 0 0 0 0 0 ⟨#[]⟩ (.slice none 0 0)) 25 (0, 0)) by rw [← hw2]; exact setRow_heap w1 _ _ _ _ _ D0.out)
  have E1 := Lib.hid (show w2.heap[w.heap.size + 1]? = some (.cells (recC 0 0 0 0 0 0 ⟨#[]⟩ (.slice none 0 0)) 25 (0, 0)) from (hk2.block _ (lt_of_heap D1.out) (by omega)).trans D1.out)
  clear hw2 hk2 HB1 HZ1 D0 D1
  have HO3 := Lib.hid (show (w2.alloc (.cells #[] 27)).ownsRow 0 27 14 (.slice (some ⟨w2.heap.size, 0, none⟩) 0 0) 0 [] from World.ownsRow_lit (base := 0) (e := 27) (size := 14) w2 #[] 0 (Nat.zero_le _) (by unfold maxLen; omega) rfl)
  have HB3 := Lib.hid (show Below w.heap.size w (w2.alloc (.cells #[] 27)) from HB2.out.trans ((below1 w2 _).mono HB2.out.size))
  have HN3 := Lib.hid (show ∀ k, ob (some (⟨w2.heap.size, 0, none⟩ : Addr)) = some k → w.heap.size + 2 ≤ k from fun k e => by injection e with e; have e' : w2.heap.size = k := e; have := HZ2.out; omega)
  have HZ3 := Lib.hid (show w.heap.size + 2 ≤ (w2.alloc (.cells #[] 27)).heap.size by have := HZ2.out; simp only [World.size_alloc]; omega)
  go_wp2_with (first
    | (at_builtin
       refine wpList_append_at rfl _ _ _ _ rfl 27 i0 _ 14 152 Tryz.underlying31 hi0 hz0 hz1 hz2 rfl (some ⟨w2.heap.size, 0, none⟩) 0 0 [] rfl HO3.out _ l.length _ rfl (HSl.out _ HB3.out) (by unfold maxLen; omega) (by omega) ?_
       intro A4 c4 w4 ho4 hg4 hat4
       rw [Nat.zero_add] at ho4 ⊢
       rw [List.nil_append] at ho4
       obtain ⟨k4, n4, b4, z4⟩ := cat_step HB3.out HN3.out hg4 hat4 HZ3.out
       have HO4 := Lib.hid ho4
       have HK4 := Lib.hid k4
       have HN4 := Lib.hid n4
       have HB4 := Lib.hid b4
       have HZ4 := Lib.hid z4
       clear ho4 hg4 hat4 k4 n4 b4 z4)
    | (at_builtin
       refine wpList_append_at rfl _ _ _ _ rfl 27 i0 _ 14 152 Tryz.underlying31 hi0 hz0 hz1 hz2 rfl A4 l.length c4 (acCells l) rfl HO4.out _ m.length _ rfl (HSm.out _ HB4.out) (by unfold maxLen; omega) (by omega) ?_
       intro A5 c5 w5 ho5 hg5 hat5
       obtain ⟨k5, n5, b5, z5⟩ := cat_step HB4.out HN4.out hg5 hat5 HZ4.out
       obtain ⟨N, hN⟩ : ∃ N, N = l.length + m.length := ⟨_, rfl⟩
       rw [← hN] at ho5 ⊢
       have HO5 := Lib.hid ho5
       have HK5 := Lib.hid k5
       have HN5 := Lib.hid n5
       have HB5 := Lib.hid b5
       have HZ5 := Lib.hid z5
       have HNN := Lib.hid hN
       clear ho5 hg5 hat5 k5 n5 b5 z5 hN))
  obtain rfl : N = (l ++ m).length := by have := HNN.out; rw [List.length_append]; omega
  have HP := Lib.hid (show ActsIn w5 A5 (l ++ m) from acts_own rfl (by have h := HO5.out; rw [← acCells_append] at h; exact h) (fun x hx => (HAll.out x hx).keep HB5.out) (by unfold maxLen; omega))
  have F0 := Lib.hid (show w5.heap[w.heap.size]? = some (.cells (recC 0 0 0 0 0 0 ⟨#[]⟩ (.slice none 0 0)) 25 (0, 0)) from (HK5.out _ (by omega)).trans ((HK4.out _ (by omega)).trans ((heap_alloc_old w2 _ (lt_of_heap E0.out)).trans E0.out)))
  have F1 := Lib.hid (show w5.heap[w.heap.size + 1]? = some (.cells (recC 0 0 0 0 0 0 ⟨#[]⟩ (.slice none 0 0)) 25 (0, 0)) from (HK5.out _ (by omega)).trans ((HK4.out _ (by omega)).trans ((heap_alloc_old w2 _ (lt_of_heap E1.out)).trans E1.out)))
  clear HSl HSm HO3 HB3 HN3 HZ3 HO4 HK4 HN4 HB4 HZ4 HO5 HK5 HNN HB2 HZ2 E0 E1 HAll
  generalize l ++ m = P at *
  have HI0 := Lib.hid (show PyAt w5 w.heap.size RC.zero none 0 [] none 0 0 w5 from ⟨F0.out, (.inl rfl), RC.zero_ok, (by unfold Lim; decide), World.ownsRow_nil _ _ _ _, RowF.none, fun y hy => (by cases hy), fun k e => (by cases e), Kp.refl _ _, rfl⟩)
  have HOW := Lib.hid (show ownR r false = RC.zero from rfl)
  have hgl : w.heap.size < w5.heap.size := by have := HZ5.out; omega
  have hg1 : w.heap.size + 1 < w5.heap.size := by have := HZ5.out; omega
  have HGS := Lib.hid (show w.heap.size < w5.heap.size ∧ w.heap.size + 1 < w5.heap.size from ⟨hgl, hg1⟩)
  clear hgl hg1
  generalize hg : w.heap.size = g at *
  have HG := Lib.hid hg
  have HN1 := Lib.hid hn
  clear hg hn hlm
  go_loopw [1, 11, 24] (fun t1 t11 t24 wr => ∃ (i : Nat) (q : RC.Rc) (t' : Bool) (A1 : Option Addr) (c1 : Nat) (ys : List An) (B : Option Addr) (cb : Nat), t24 = .int .i64 i ∧ t1 = .bool t' ∧ t11 = .slice B i cb ∧ i ≤ P.length ∧ RU.st RC.zero false (P.map (·.r)) i = (q, t', ys.map (·.x)) ∧ PyAt w5 g q A1 c1 ys B i cb wr) (fun _ _ t24 _ => P.length - (intOf t24).toNat)
  case atStart => exact ⟨0, RC.zero, false, none, 0, [], none, 0, rfl, rfl, rfl, Nat.zero_le _, rfl, HI0.out⟩
  case round =>
    obtain ⟨i, q, t', A1, c1, ys, B, cb, rfl, rfl, rfl, hi, hst, hv⟩ := hrel
    have HV := Lib.hid hv
    have HST := Lib.hid hst
    clear hv hst HI0
    by_cases hlt : i < P.length
    · have hin := HP.out.all _ (List.getElem_mem hlt)
      have hsm := HS.out _ (List.getElem_mem hlt)
      have hget : (P.map (·.r))[i]? = some P[i].r := by simp [hlt]
      have hnx := RU.st_next RC.zero false (P.map (·.r)) i _ hget
      rw [HST.out] at hnx
      have HNX := Lib.hid hnx
      obtain ⟨b1, o1, hA5, hr1⟩ := acts_range9 HP.out hlt
      have hbn : b1 ≠ g := by
        have h1 := HN5.out b1 (by rw [hA5]; rfl)
        omega
      subst hA5
      generalize P[i] = a at *
      have HIN := Lib.hid hin
      have HSM := Lib.hid hsm
      have HMK := Lib.hid (show Its wr a.A a.r.make.list by
        refine its_keep hin.make.its HV.out.keep ?_
        rcases its_apart hin.make.its F0.out (rec_no _ _ _ _ _ _ _ _ _ _) with h1 | h1
        · exact .inl h1
        · exact .inr fun ad e x => h1 ad e x)
      have HR1 := Lib.hid (show wr.rangeAt b1 (o1 + i * 14) (actC a.r a.A a.c).toList from fun j v hv => HV.out.keep.cell (hr1 j v hv) hbn)
      have hi1 : (i : Int) < (P.length : Int) := by omega
      have HIP := Lib.hid (show i < P.length ∧ P.length ≤ 1000 from ⟨hlt, HN1.out⟩)
      have hB5 := HB5.out
      clear hin hsm hget hnx hr1 hbn
      go_upto_region 7 with (first
        | (refine wpList_load_mid rfl _ _ rfl b1 (o1 + i * 14) rfl (actC a.r a.A a.c).toList _ HR1.out Tryz.underlying27 rfl act_inf9 ?_)
        | (refine wpList_store_row rfl _ _ _ rfl _ (actC a.r a.A a.c) rfl rfl 27 _ (heap_alloc_new _ _) act_inf9 rfl (by kernel_rfl) ?_))
      rw [World.setRow_alloc_new]
      generalize hwb : World.alloc wr _ = wb
      have R13 := Lib.hid (show wb.heap[wr.heap.size]? = some (.cells (actC a.r a.A a.c) 27 (0, 0)) by rw [← hwb]; exact heap_alloc_new wr _)
      have hsb : wb.heap.size = wr.heap.size + 1 := by rw [← hwb]; simp
      have HBB := Lib.hid (show Below wr.heap.size wr wb by rw [← hwb]; exact below1 wr _)
      clear hwb HR1
      go_upto_region 8 with fail
      generalize hwc : World.alloc wb _ = wc
      have hbc : Below wb.heap.size wb wc := by rw [← hwc]; exact below1 wb _
      have HBC := Lib.hid (show Below wr.heap.size wr wc from HBB.out.trans (hbc.mono (by omega)))
      have G13 := Lib.hid ((hbc.block _ (by omega)).trans R13.out)
      have G4 := Lib.hid ((HBC.out.block _ (lt_of_heap HV.out.box)).trans HV.out.box)
      have G14 := Lib.hid (show wc.heap[wr.heap.size + 1]? = some (.cells (ansC 0 0 RC.zero none 0) 49 (0, 0)) by rw [← hwc, ← hsb]; exact heap_alloc_new wb _)
      have HSZ := Lib.hid (show wc.heap.size = wr.heap.size + 2 by rw [← hwc]; simp [hsb])
      have HAp := Lib.hid (r5apply_any q t' a.r A1 a.A c1 a.c wc HV.out.ok HIN.out.ok (HV.out.its.below HBC.out) (HMK.out.below HBC.out) HV.out.lim HSM.out.1 HSM.out.2.1 HSM.out.2.2)
      clear hwc hbc R13 HBB hsb
      generalize hg13 : wr.heap.size = g13 at *
      have HG13 := Lib.hid hg13
      clear hg13
      go_wp2_with (first
        | (refine wpList_load_row rfl _ _ rfl g rfl 25 _ (0, 0) _ G4.out Tryz.underlying25 rfl rec_inf6 ?_)
        | (refine wpList_load_row rfl _ _ rfl g13 rfl 27 _ (0, 0) _ G13.out Tryz.underlying27 rfl act_inf9 ?_))
      refine HAp.out.mono ?_
      have HOKA := Lib.hid (apply_ok (there := t') HV.out.ok HIN.out.ok)
      have HLMA := Lib.hid (apply_lim (there := t') HV.out.ok HIN.out.ok HV.out.lim)
      clear HAp
      generalize hap : RU.apply q t' a.r = out at *
      obtain ⟨p, tb, xx⟩ := out
      clear hap
      rintro e w7 ⟨B2, d2, D, dd, rfl, hi1', hi2', hb7⟩
      have HI1 := Lib.hid (show Its w7 B2 p.list from hi1')
      have HI2 := Lib.hid (show Its w7 D xx.rc.list from hi2')
      have J4 := Lib.hid ((hb7.block _ (lt_of_heap G4.out)).trans G4.out)
      have J14 := Lib.hid ((hb7.block _ (lt_of_heap G14.out)).trans G14.out)
      have HB7 := Lib.hid (show Below g13 wr w7 from HBC.out.trans (hb7.mono (by have := HSZ.out; omega)))
      have hne : (g13 + 1) ≠ g := by have := HSZ.out; have := lt_of_heap HV.out.box; have := HG13.out; omega
      have J14s := Lib.hid (fun cs => (setRow_other w7 g (g13 + 1) cs hne).trans J14.out)
      clear hi1' hi2' hb7 G4 G13 G14
      go_upto_region 9 with (first
        | (refine wpList_store_row rfl _ _ _ rfl g (recC p.kind p.num p.low p.high p.real p.cap p.text (.slice B2 p.list.length d2)) rfl rfl 25 _ J4.out rec_inf6 rfl (by kernel_rfl) ?_)
        | (refine wpList_store_row rfl _ _ _ rfl (g13 + 1) (ansC xx.code xx.num xx.rc D dd) rfl rfl 49 _ (J14s.out _) ans_inf6 rfl (by kernel_rfl) ?_))
      generalize hw8 : World.setRow (World.setRow w7 _ _) _ _ = w8
      have hk8 : Kp (fun j => j = g ∨ j = (g13 + 1)) w7 w8 := by rw [← hw8]; exact Kp.setRow (S := fun j => j = g ∨ j = (g13 + 1)) (Kp.setRow (S := fun j => j = g ∨ j = (g13 + 1)) (Kp.refl _ _) (.inl (.inl rfl)) _) (.inl (.inr rfl)) _
      have K4 : w8.heap[g]? = some (.cells (recC p.kind p.num p.low p.high p.real p.cap p.text (.slice B2 p.list.length d2)) 25 (0, 0)) := by rw [← hw8, setRow_other _ _ _ _ (fun e => hne e.symm)]; exact setRow_heap w7 g _ _ _ _ J4.out
      have K14 := Lib.hid (show w8.heap[(g13 + 1)]? = some (.cells (ansC xx.code xx.num xx.rc D dd) 49 (0, 0)) by rw [← hw8]; exact setRow_heap _ (g13 + 1) _ _ _ _ (J14s.out _))
      have hB8 : ∀ k, ob B = some k → k ≠ g ∧ k ≠ (g13 + 1) ∧ k < g13 := fun k e => by
        have h1 := HV.out.newB k e
        have h2 := in_row HV.out.ans k e
        have h3 := HSZ.out
        have h4 := HG13.out
        have h5 := HGS.out
        exact ⟨by omega, by omega, by omega⟩
      have KO := Lib.hid (show ∀ X, (w8.alloc X).ownsRow 0 49 10 (.slice B i cb) i (anCells ys) from fun X => (hk8.own (own_below HV.out.ans (by rw [HG13.out]; exact HB7.out)) (fun k e x => by rw [ownBlock_slice] at e; have := hB8 k e; omega)).alloc X)
      have KF := Lib.hid (show ∀ X, RowF 10 AnF (w8.alloc X) B from fun X => HV.out.full.of fun k e => by
        have h1 := hB8 k e
        have h2 := hk8.size
        have h3 := HB7.out.size
        have h4 := HG13.out
        exact ((heap_alloc_old w8 X (by omega)).trans (hk8.block k (by omega) (by omega))).trans (HB7.out.block k h1.2.2))
      have HNXT := Lib.hid (fun w9 w10 B' cb' => HV.out.next (dd := dd) (w9 := w9) (w10 := w10) (B' := B') (cb' := cb') HGS.out.1 (by rw [HG13.out]; exact HB7.out) HI1.out HI2.out ⟨HOKA.out.1, HLMA.out.1⟩ ⟨HOKA.out.2, HLMA.out.2⟩ (by have := HSZ.out; have := HG13.out; omega) J4.out J14.out hk8 K4)
      clear hw8 hk8 K4 hB8 hne J4 J14 J14s
      have hPl : P.length ≤ 1000 := HIP.out.2
      go_wp2_with (first
        | (refine wpList_load_row rfl _ _ rfl (g13 + 1) rfl 49 _ (0, 0) _ K14.out Tryz.underlying49 rfl ans_inf6 ?_)
        | (at_builtin
           refine wpList_append_full rfl _ _ _ _ rfl 49 i1 _ 10 104 Tryz.underlying43 hj0 hj1 hj2 hj3 rfl B i cb (anCells ys) rfl (KO.out _) _ 1 _ rfl (src_row Tryz.underlying43 _ (ansC xx.code xx.num xx.rc D dd) _ (by simp) rfl (List.all_eq_true.1 rfl)) (by have := HIP.out; unfold maxLen; omega) (by have := HIP.out; omega) AnF (KF.out _) (anF_all ys) (anF_cells ⟨xx, D, dd⟩) posZ ?_
           intro B' cb' w10 ho10 hg10 hat10 hf10))
      have HT := Lib.hid (HNXT.out _ w10 B' cb' (below1 w8 _) hg10 hat10 ho10 hf10)
      clear ho10 hg10 hat10 hf10
      go_wp2_with fail
      go_roundw
      case rel => exact ⟨i + 1, p, tb, B2, d2, ys ++ [⟨xx, D, dd⟩], B', cb', by go_num, rfl, rfl, by omega, by rw [HNX.out]; simp, HT.out⟩
      case measure => simp [intOf]; omega
    · have hi' : i = P.length := by omega
      subst hi'
      have hi1 : ¬ (P.length : Int) < (P.length : Int) := by omega
      have G4 := Lib.hid HV.out.box
      have G8 := Lib.hid ((HV.out.keep.block _ HGS.out.2 (by show ¬ g + 1 = g; omega)).trans F1.out)
      go_wp2_with (first
        | (refine wpList_load_row rfl _ _ rfl g rfl 25 _ (0, 0) _ G4.out Tryz.underlying25 rfl rec_inf6 ?_)
        | (refine wpList_store_row rfl _ _ _ rfl (g + 1) (recC q.kind q.num q.low q.high q.real q.cap q.text (.slice A1 q.list.length c1)) rfl rfl 25 _ G8.out rec_inf6 rfl (by kernel_rfl) ?_))
      generalize hwf : World.setRow wr _ _ = wf
      have hk : Kp (fun j => j = g + 1) wr wf := by rw [← hwf]; exact Kp.setRow (S := fun j => j = g + 1) (Kp.refl _ _) (.inl rfl) _
      have X8 : wf.heap[g + 1]? = some (.cells (recC q.kind q.num q.low q.high q.real q.cap q.text (.slice A1 q.list.length c1)) 25 (0, 0)) := by rw [← hwf]; exact setRow_heap wr _ _ _ _ _ G8.out
      have k8 := fun o => cell_of_row wf _ o _ _ (0, 0) X8
      have hmv : ∀ {X : Option Addr} {l : List RC.It}, Its wr X l → Its wf X l := fun {X l} hX => by
        refine its_keep hX hk ?_
        rcases its_apart hX G8.out (rec_no _ _ _ _ _ _ _ _ _ _) with h1 | h1
        · exact .inl h1
        · exact .inr fun ad e x => h1 ad e x
      have HPo := Lib.hid (show PyPost r false Q w (.returned (.tuple #[recV q A1 c1, .bool t', .slice B P.length cb])) wf by
        rw [HQ.out]
        refine ⟨q, t', A1, c1, ys, B, cb, by simp, ?_, by simp [HV.out.len], hmv HV.out.its, HV.out.ok, HV.out.lim, ?_, fun y hy => ⟨hmv (HV.out.all y hy).1, (HV.out.all y hy).2⟩, fun k e => ?_, ?_⟩
        · rw [HOW.out, ← st_all, List.length_map]
          exact HST.out
        · rw [List.length_map]
          exact hk.own HV.out.ans (fun k e x => by rw [ownBlock_slice] at e; have := HV.out.newB k e; have := HGS.out; omega)
        · have := HV.out.newB k e; have := HGS.out; have := HG.out; omega
        · rw [HG.out]
          exact HB5.out.trans ((HV.out.keep.below (by have := HGS.out; omega) (fun i hi x => by omega)).trans (hk.below (by have := HV.out.keep.size; have := HGS.out; omega) (fun i hi x => by omega))))
      clear hwf X8 hk hmv
      exact bodyPost_ret (v := .tuple #[recV q A1 c1, .bool t', .slice B P.length cb]) (by simp [results, Tryz.results23, go_sem, k8]) rfl HPo.out
theorem play6_any (r : RC.Rc) (t : Bool) (l m : List Al) (A L M : Option Addr) (c cl cm : Nat) (w : World) (hr : r.ok) (hA : Its w A r.list) (n1 : Lim r.list.length) (hl : ActsIn w L l) (hm : ActsIn w M m) (hn : (l ++ m).length ≤ 1000) (hs : ∀ x ∈ l ++ m, Lim x.r.make.list.length ∧ Lim x.r.key.size ∧ Lim x.r.s.size) :
    Calls Tryz.prog 23 #[recV r A c, .bool t, .slice L l.length cl, .slice M m.length cm] w (PyPost r t ((l ++ m).map (·.r)) w) := by
  cases t
  · exact play6_false r l m A L M c cl cm w hr hA n1 hl hm hn hs
  · exact play6_true r l m A L M c cl cm w hr hA n1 hl hm hn hs
end Go.Proofs.YtlpecaldodganaaGreatDoor
