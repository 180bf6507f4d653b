/- Contracts of package rec: lists are read. -/
import Derived.Test.YtbkcmnmbcldjoaaGreatDoorRecMP7d
namespace Go.Proofs.YtbkcmnmbcldjoaaGreatDoor
open Go.RowKit MM
def itCells (xs : List RC.It) : List Value := xs.flatMap fun x => [.float .f64 x.score, .string x.name]
theorem itCells_snoc (xs : List RC.It) (x : RC.It) : itCells (xs ++ [x]) = itCells xs ++ [.float .f64 x.score, .string x.name] := by simp [itCells]
theorem itCells_length (xs : List RC.It) : (itCells xs).length = xs.length * 2 := by
  induction xs with
  | nil => rfl
  | cons q l ih =>
    have : itCells (q :: l) = [.float .f64 q.score, .string q.name] ++ itCells l := by simp [itCells]
    rw [this, List.length_append, ih]
    simp
    omega
theorem itCells_get : ∀ (xs : List RC.It) (i : Nat) (x : RC.It), xs[i]? = some x → (itCells xs)[i * 2]? = some (.float .f64 x.score) ∧ (itCells xs)[i * 2 + 1]? = some (.string x.name)
  | [], i, x, h => by simp at h
  | q :: l, i, x, h => by
    have e : itCells (q :: l) = [.float .f64 q.score, .string q.name] ++ itCells l := by simp [itCells]
    rw [e]
    cases i with
    | zero =>
      simp only [List.getElem?_cons_zero, Option.some.injEq] at h
      subst h
      exact ⟨rfl, rfl⟩
    | succ i =>
      have ih := itCells_get l i x (by simpa using h)
      rw [show (i + 1) * 2 = i * 2 + 2 by omega]
      constructor
      · rw [List.getElem?_append_right (by simp)]; exact ih.1
      · rw [List.getElem?_append_right (by simp)]
        rw [show i * 2 + 2 + 1 - ([Value.float .f64 q.score, .string q.name] : List Value).length = i * 2 + 1 by simp]
        exact ih.2
theorem Its.own {w : World} {A : Option Addr} {c : Nat} {xs : List RC.It} {E : TypeId} (h : w.ownsRow 0 E 2 (.slice A xs.length c) xs.length (itCells xs)) : Its w A xs := by
  rcases h.2 with ⟨hv, h0⟩ | ⟨g, cap, cur, hv, _⟩
  · exact .inl (List.eq_nil_of_length_eq_zero h0)
  · injection hv with hA _ hc
    subst hA hc
    refine .inr ⟨g, 0, rfl, own_inside h _ rfl, fun i x hx => ?_⟩
    obtain ⟨h1, h2⟩ := itCells_get xs i x hx
    have a := h.cells (g := g) rfl (i * 2) _ h1
    have b := h.cells (g := g) rfl (i * 2 + 1) _ h2
    rw [MM.add_plain] at a b
    exact ⟨a, by rw [← Nat.add_assoc] at b; exact b⟩
theorem item_info : (Tryz.prog.info? 91).map (fun i => (i.zero, i.size, i.bytes)) = some (some (.agg #[.float .f64 0, .string ⟨#[]⟩]), 2, 24) := by kernel_rfl
theorem itsR_cons {k m : Nat} {l : List UInt8} {x : RC.It} {n : Nat} (h : itR k l = .ok x n) : itsR k (m + 1) l = lift [x] n (itsR k m (l.drop n)) := by
  show andR (itR k l) l _ = _
  rw [andR_ok h]
  cases itsR k m (l.drop n) <;> rfl
/-- What holds at each round's head. -/
structure TakeInv (k N at0 : Nat) (bs : List UInt8) (w : World) (p : Nat) (A : Option Addr) (c : Nat) (i d : Nat) (xs : List RC.It) (A2 : Option Addr) (c2 : Nat) (wr : World) : Prop where
  spec : itsR k N (bs.drop at0) = lift xs d (itsR k (N - i) (bs.drop (at0 + d)))
  len : xs.length = i
  rd : Rd 5 wr p A c bs (at0 + d)
  own : wr.ownsRow 0 91 2 (.slice A2 xs.length c2) xs.length (itCells xs)
  new : ∀ k, ob A2 = some k → w.heap.size ≤ k
  kp : Kp (fun k => k = p) w wr
section
variable {k N at0 : Nat} {bs : List UInt8} {w wr w2 w3 : World} {p : Nat} {A A2 A3 : Option Addr} {c i d n c2 c3 : Nat} {xs : List RC.It} {x : RC.It} {o : Obj}
theorem TakeInv.own2 (hv : TakeInv k N at0 bs w p A c i d xs A2 c2 wr) (hp : p < w.heap.size) (hk : Kp (fun k => k = p) wr w2) : w2.ownsRow 0 91 2 (.slice A2 xs.length c2) xs.length (itCells xs) :=
  hk.own hv.own (fun k e x => by rw [ownBlock_slice] at e; have := hv.new k e; have x' : k = p := x; omega)
theorem TakeInv.next (hv : TakeInv k N at0 bs w p A c i d xs A2 c2 wr) (hp : p < w.heap.size) (hA : ∀ k, ob A = some k → k < w.heap.size) (hi : i < N) (hk : Kp (fun k => k = p) wr w2) (hr : Rd 5 w2 p A c bs (at0 + d + n))
    (hs : itR k (bs.drop (at0 + d)) = .ok x n) (hg : (w2.alloc o).grownBy w3 (ob A2)) (hat : ob A3 = ob A2 ∨ ob A3 = some (w2.alloc o).heap.size)
    (ho : w3.ownsRow 0 91 2 (.slice A3 (xs ++ [x]).length c3) (xs ++ [x]).length (itCells (xs ++ [x]))) : TakeInv k N at0 bs w p A c (i + 1) (d + n) (xs ++ [x]) A3 c3 w3 := by
  have hK : Kp (fun k => ob A2 = some k) w2 w3 := ((Kp.refl _ w2).alloc o).grown hg (fun k e => .inl e)
  refine ⟨?_, by rw [List.length_append, hv.len]; rfl, ?_, ho, fun k e => ?_, ?_⟩
  · rw [hv.spec, show N - i = (N - (i + 1)) + 1 by omega, itsR_cons hs, lift_lift, List.drop_drop, Nat.add_assoc]
  · rw [← Nat.add_assoc]
    exact hr.keep hK (fun e => by have := hv.new p e; omega) (fun k e x => by have := hA k e; have := hv.new k x; omega)
  · rcases hat with x | x
    · exact hv.new k (x ▸ e)
    · rw [x] at e
      injection e with e
      have e' : (w2.alloc o).heap.size = w2.heap.size + 1 := by simp
      have := hk.size
      have := hv.kp.size
      have h2 : (w2.alloc o).heap.size = k := e
      omega
  · exact (hv.kp.same hk).trans hK (fun i hi e => by have := hv.new i e; omega)
end
end Go.Proofs.YtbkcmnmbcldjoaaGreatDoor
namespace Go.Proofs.YtbkcmnmbcldjoaaGreatDoor
open Go.RowKit MM
section
variable {l : List UInt8} {k n0 n e : Nat} {r : RC.Rc}
end
abbrev recC (k n l h : Int) (x : Nat) (cap : Int) (t : ByteArray) (v : Value) : Array Value := #[.int .i64 k, .int .i64 n, .int .i64 l, .int .i64 h, .float .f64 x, .int .i64 cap, .string t, v]
end Go.Proofs.YtbkcmnmbcldjoaaGreatDoor
namespace Go.Proofs.YtbkcmnmbcldjoaaGreatDoor
open Go.RowKit MM
def RRecPost (r : Res RC.Rc) (w : World) (e : Ending) (w' : World) : Prop :=
  match r with
  | .ok r _ => ∃ A c, e = .returned (.tuple #[recV r A c, fltV 0 0]) ∧ w'.ownsRow 0 91 2 (.slice A r.list.length c) r.list.length (itCells r.list) ∧ (∀ k, ob A = some k → w.heap.size ≤ k) ∧ Below w.heap.size w w'
  | .bad code n => e = .returned (.tuple #[recV RC.zero none 0, fltV code n]) ∧ Below w.heap.size w w'
theorem RRecPost.bad {r : Res RC.Rc} {code n : Nat} {z : Int} {w w' : World} (h : r = .bad code n) (hz : z = (n : Int)) (hb : Below w.heap.size w w') : RRecPost r w (.returned (.tuple #[.agg (recC 0 0 0 0 0 0 ⟨#[]⟩ (.slice none 0 0)), .agg #[.int .i64 (code : Int), .int .i64 z]])) w' := by
  subst h hz
  exact ⟨rfl, hb⟩
section
variable {w : World} {g : Nat} {x0 x1 x2 x3 x4 x5 x6 x7 c0 c1 c2 c3 c4 c5 c6 c7 : Value} {t : TypeId}
theorem rec_stores (hq : w.heap[g]? = some (.cells #[x0, x1, x2, x3, x4, x5, x6, x7] t (0, 0))) :
    ((((((((w.setCell ⟨g, 0, none⟩ c0).setCell ⟨g, 1, none⟩ c1).setCell ⟨g, 2, none⟩ c2).setCell ⟨g, 3, none⟩ c3).setCell ⟨g, 4, none⟩ c4).setCell ⟨g, 5, none⟩ c5).setCell ⟨g, 6, none⟩ c6).setCell ⟨g, 7, none⟩ c7).heap[g]? = some (.cells #[c0, c1, c2, c3, c4, c5, c6, c7] t (0, 0)) := by
  have h0 : (w.setCell ⟨g, 0, none⟩ c0).heap[g]? = some (.cells #[c0, x1, x2, x3, x4, x5, x6, x7] t (0, 0)) := heap_setCell_same _ _ _ _ _ _ hq
  have h1 : ((w.setCell ⟨g, 0, none⟩ c0).setCell ⟨g, 1, none⟩ c1).heap[g]? = some (.cells #[c0, c1, x2, x3, x4, x5, x6, x7] t (0, 0)) := heap_setCell_same _ _ _ _ _ _ h0
  have h2 : (((w.setCell ⟨g, 0, none⟩ c0).setCell ⟨g, 1, none⟩ c1).setCell ⟨g, 2, none⟩ c2).heap[g]? = some (.cells #[c0, c1, c2, x3, x4, x5, x6, x7] t (0, 0)) := heap_setCell_same _ _ _ _ _ _ h1
  have h3 : ((((w.setCell ⟨g, 0, none⟩ c0).setCell ⟨g, 1, none⟩ c1).setCell ⟨g, 2, none⟩ c2).setCell ⟨g, 3, none⟩ c3).heap[g]? = some (.cells #[c0, c1, c2, c3, x4, x5, x6, x7] t (0, 0)) := heap_setCell_same _ _ _ _ _ _ h2
  have h4 : (((((w.setCell ⟨g, 0, none⟩ c0).setCell ⟨g, 1, none⟩ c1).setCell ⟨g, 2, none⟩ c2).setCell ⟨g, 3, none⟩ c3).setCell ⟨g, 4, none⟩ c4).heap[g]? = some (.cells #[c0, c1, c2, c3, c4, x5, x6, x7] t (0, 0)) := heap_setCell_same _ _ _ _ _ _ h3
  have h5 : ((((((w.setCell ⟨g, 0, none⟩ c0).setCell ⟨g, 1, none⟩ c1).setCell ⟨g, 2, none⟩ c2).setCell ⟨g, 3, none⟩ c3).setCell ⟨g, 4, none⟩ c4).setCell ⟨g, 5, none⟩ c5).heap[g]? = some (.cells #[c0, c1, c2, c3, c4, c5, x6, x7] t (0, 0)) := heap_setCell_same _ _ _ _ _ _ h4
  have h6 : (((((((w.setCell ⟨g, 0, none⟩ c0).setCell ⟨g, 1, none⟩ c1).setCell ⟨g, 2, none⟩ c2).setCell ⟨g, 3, none⟩ c3).setCell ⟨g, 4, none⟩ c4).setCell ⟨g, 5, none⟩ c5).setCell ⟨g, 6, none⟩ c6).heap[g]? = some (.cells #[c0, c1, c2, c3, c4, c5, c6, x7] t (0, 0)) := heap_setCell_same _ _ _ _ _ _ h5
  have h7 : ((((((((w.setCell ⟨g, 0, none⟩ c0).setCell ⟨g, 1, none⟩ c1).setCell ⟨g, 2, none⟩ c2).setCell ⟨g, 3, none⟩ c3).setCell ⟨g, 4, none⟩ c4).setCell ⟨g, 5, none⟩ c5).setCell ⟨g, 6, none⟩ c6).setCell ⟨g, 7, none⟩ c7).heap[g]? = some (.cells #[c0, c1, c2, c3, c4, c5, c6, c7] t (0, 0)) := heap_setCell_same _ _ _ _ _ _ h6
  exact h7
theorem rec_stores_other {k : Nat} (h : k ≠ g) :
    ((((((((w.setCell ⟨g, 0, none⟩ c0).setCell ⟨g, 1, none⟩ c1).setCell ⟨g, 2, none⟩ c2).setCell ⟨g, 3, none⟩ c3).setCell ⟨g, 4, none⟩ c4).setCell ⟨g, 5, none⟩ c5).setCell ⟨g, 6, none⟩ c6).setCell ⟨g, 7, none⟩ c7).heap[k]? = w.heap[k]? := by
  iterate 8 refine (heap_setCell_other _ _ _ _ h).trans ?_
  rfl
end
end Go.Proofs.YtbkcmnmbcldjoaaGreatDoor
namespace Go.Proofs.YtbkcmnmbcldjoaaGreatDoor
open Go.RowKit MM
theorem its_src {w : World} {A : Option Addr} {c : Nat} {xs : List RC.It} {tx e' : TypeId} (hk : Tryz.prog.underlying tx = some (.slice e')) (h : Its w A xs) (hs : A.isSome = true) :
    Src Tryz.prog 2 tx (.slice A xs.length c) xs.length (itCells xs) w := by
  have hone : ∀ u ∈ itCells xs, u.oneCell' = true := by
    intro u hu
    simp only [itCells, List.mem_flatMap] at hu
    obtain ⟨x, _, hx⟩ := hu
    simp at hx
    rcases hx with rfl | rfl <;> rfl
  cases A with
  | none => cases hs
  | some ad =>
    refine Src.ofSlice w hk ad _ _ _ (itCells_length xs) ?_ hone
    rcases h with rfl | ⟨b, off, e, hb, hc⟩
    · intro j u hu; simp [itCells] at hu
    · injection e with e
      subst e
      intro j u hu
      rw [MM.add_plain]
      have hl : j < xs.length * 2 := by
        have := (List.getElem?_eq_some_iff.1 hu).1
        rw [itCells_length] at this
        exact this
      obtain ⟨q, hq⟩ : ∃ q, j = q * 2 ∨ j = q * 2 + 1 := ⟨j / 2, by omega⟩
      have hi : q < xs.length := by omega
      obtain ⟨g0, g1⟩ := itCells_get xs q xs[q] (List.getElem?_eq_getElem hi)
      obtain ⟨h0, h1⟩ := hc q xs[q] (List.getElem?_eq_getElem hi)
      rcases hq with rfl | rfl
      · exact h0.trans (g0.symm.trans hu)
      · exact h1.trans (g1.symm.trans hu)
def CPost (xs : List RC.It) (w : World) (e : Ending) (w' : World) : Prop := ∃ A' c', e = .returned (.slice A' xs.length c') ∧ w'.ownsRow 0 91 2 (.slice A' xs.length c') xs.length (itCells xs) ∧ (∀ k, ob A' = some k → w.heap.size ≤ k) ∧ Below w.heap.size w w'
set_option maxHeartbeats 1000000 in
set_option maxRecDepth 100000 in
theorem itClone_any (A : Option Addr) (c : Nat) (xs : List RC.It) (w : World) (hA : Its w A xs) (hn : Lim xs.length) :
    Calls Tryz.prog 109 #[.slice A xs.length c] w (CPost xs w) := by
  obtain ⟨i0, hi0, hz0, hz1, hz2⟩ := info_parts item_info
  have hnil := fun n w => Lib.run_eql_slice_nil (P := Tryz.prog) w 23 91 A n c 0 0 Tryz.underlying23
  cases A with
  | none =>
    have hx : xs = [] := by rcases hA with h | ⟨b, off, h, _⟩; exact h; cases h
    subst hx
    go_enter Tryz.func109, Tryz.ntmps109
    go_wp2
    go_ret
    exact ⟨none, 0, rfl, World.ownsRow_nil _ _ _ _, (fun k h => by cases h), Below.refl _ _⟩
  | some ad =>
    have HA := Lib.hid hA
    clear hA
    go_enter Tryz.func109, Tryz.ntmps109
    go_wp2_with (first
      | (at_builtin
         refine wpList_append_at rfl (.tmp 5) (.tmp 6) _ _ rfl 91 i0 _ 2 24 Tryz.underlying23 hi0 hz0 hz1 hz2 rfl (some ⟨w.heap.size, 0, none⟩) 0 0 [] rfl (World.ownsRow_lit w #[] 0 (Nat.zero_le _) (by unfold maxLen; omega) rfl) _ xs.length _ rfl (its_src Tryz.underlying23 (HA.out.alloc _) rfl) (Lim.len (by simpa using hn)) (Lim.fit (by simpa using hn) 24 (by omega)) ?_
         intro A2 c2 w2 ho2 hg2 hat2))
    go_ret
    rw [Nat.zero_add, List.nil_append] at ho2
    have hbw : Below w.heap.size w w2 := ((Below.refl w.heap.size w).alloc (Nat.le_refl _) _).grown hg2 (by simp) (fun k e => by injection e with e; simp at e; omega)
    refine ⟨A2, c2, rfl, ho2, fun k e => ?_, hbw⟩
    rcases hat2 with h | h
    · rw [h] at e; injection e with e; simp at e; omega
    · rw [h] at e; injection e with e; simp at e; omega
set_option maxHeartbeats 1000000 in
set_option maxRecDepth 100000 in
theorem recClone_any (r : RC.Rc) (A : Option Addr) (c : Nat) (w : World) (hA : Its w A r.list) (hn : Lim r.list.length) :
    Calls Tryz.prog 76 #[recV r A c] w fun e w' => ∃ A' c', e = .returned (recV r A' c') ∧ w'.ownsRow 0 91 2 (.slice A' r.list.length c') r.list.length (itCells r.list) ∧ (∀ k, ob A' = some k → w.heap.size ≤ k) ∧ Below w.heap.size w w' := by
  have HC := Lib.hid (fun w (hA : Its w A r.list) => itClone_any A c r.list w hA hn)
  have HA := Lib.hid hA
  clear hA
  obtain ⟨k, n, l, h, x, cap, t, s⟩ := r
  go_enter Tryz.func76, Tryz.ntmps76
  go_wp2_with fail
  refine (HC.out _ ((HA.out.alloc _).alloc _)).mono ?_
  rintro e w1 ⟨A1, c1, rfl, ho1, hk1, hb1⟩
  simp only [World.size_alloc] at hk1
  have e0 := (hb1.block w.heap.size (by simp only [World.size_alloc]; omega)).trans (heap_alloc2_old w _ _)
  have e1 := (hb1.block (w.heap.size + 1) (by simp only [World.size_alloc]; omega)).trans (heap_alloc2_new w _ _)
  have c0 := fun o => cell_of_row w1 _ o _ _ (0, 0) e0
  have c1' := fun o => cell_of_row w1 _ o _ _ (0, 0) e1
  have f0 : ∀ o, w1.frozen? ⟨w.heap.size, o, none⟩ = false := fun o => frozen_of_row _ _ o _ _ e0
  have f1 : ∀ o, w1.frozen? ⟨w.heap.size + 1, o, none⟩ = false := fun o => frozen_of_row _ _ o _ _ e1
  have HB1 := Lib.hid (show Below w.heap.size w w1 from (below2 w _ _).trans (hb1.mono (by simp only [World.size_alloc]; omega)))
  have HO := Lib.hid ho1
  have HK := Lib.hid hk1
  clear e0 e1 hb1 ho1 hk1
  go_wp2_with fail
  refine bodyPost_ret (v := recV ⟨k, n, l, h, x, cap, t, s⟩ A1 c1) (by simp [results, Tryz.results76, go_sem, c1']) rfl ?_
  refine ⟨A1, c1, rfl, ?_, fun k e => by have := HK.out k e; omega, ?_⟩
  · refine Kp.own (S := fun k => w.heap.size ≤ k ∧ k ≤ w.heap.size + 1) ?_ HO.out (fun k e x => by rw [ownBlock_slice] at e; have := HK.out k e; have x' : w.heap.size ≤ k ∧ k ≤ w.heap.size + 1 := x; omega)
    iterate 9 refine Kp.setCell ?_ (Or.inl (by show w.heap.size ≤ _ ∧ _ ≤ w.heap.size + 1; simp only; omega)) _
    exact Kp.refl _ _
  · iterate 9 refine Below.setCell ?_ (by simp only; omega) _
    exact HB1.out
end Go.Proofs.YtbkcmnmbcldjoaaGreatDoor
