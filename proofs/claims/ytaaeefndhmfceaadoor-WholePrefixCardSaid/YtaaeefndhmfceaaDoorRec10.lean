/- Contracts of package rec: a record's bytes; a kind's name; a clone. -/
import Derived.Test.YtaaeefndhmfceaaDoorRec9
namespace Go.Proofs.YtaaeefndhmfceaaDoor
open Go.RowKit MM

/-- A record's bytes: none of one that may not be. -/
def bytesOf (r : RC.Rc) : List UInt8 := if RC.chk r = 0 then RC.recB r else []

theorem recB_len (r : RC.Rc) (hr : r.ok) (hm : RC.May r) : (RC.recB r).length ≤ 2000 := by
  have d : ∀ n, n < 18446744073709551616 → (PK.digits n).length ≤ 10 := fun n h => PK.digits_length h
  have z : ∀ i, RC.I64 i → (PK.digits (PK.zig i)).length ≤ 10 := fun i h => d _ (PK.zag_zig i (wf_i64 h)).2
  have hk := RC.kind9 hm.known
  have ht := hm.text
  have hc := hm.cap
  have hl := hm.len
  have hi := itsB_len r.kind r.list (fun x hx => (hm.items x hx).1)
  have h0 : (PK.digits r.kind.toNat).length ≤ 10 := d _ (by omega)
  have hF : (RC.fieldB r).length ≤ 1500 := by
    unfold RC.fieldB
    split
    · unfold PK.textB
      have h1 := d r.text.data.toList.length (by rw [sz_list]; omega)
      rw [List.length_append, sz_list]
      rw [sz_list] at h1
      omega
    · split
      · have := z _ hr.num; omega
      · split
        · have := z _ hr.num; have := z _ hr.low; have := z _ hr.high
          rw [List.length_append, List.length_append]; omega
        · split
          · rw [PK.placeB_length]; omega
          · split
            · unfold RC.listB
              have := d r.cap.toNat (by omega)
              have := d r.list.length (by omega)
              rw [List.length_append, List.length_append]
              have : 34 * r.list.length ≤ 34 * 32 := Nat.mul_le_mul_left _ hl
              omega
            · exact Nat.zero_le _
  unfold RC.recB
  rw [List.length_append]; omega

set_option maxHeartbeats 1000000 in
set_option maxRecDepth 100000 in
theorem recBytes_any (r : RC.Rc) (A : Option Addr) (c : Nat) (w : World) (hr : r.ok) (hA : Its w A r.list) (hn : Lim r.list.length) :
    Calls Tryd.prog 29 #[recV r A c] w (Fresh 5 (bytesOf r) w) := by
  have HC := Lib.hid (fun w (hA : Its w A r.list) => recCheck_any r A c w hr hA hn)
  have HA := Lib.hid hA
  rcases Nat.eq_zero_or_pos (RC.chk r) with hc | hc
  · have Hb := Lib.hid (show bytesOf r = RC.recB r by unfold bytesOf; rw [if_pos hc])
    have hm := RC.chk_may hr hc
    have HL := Lib.hid (recB_len r hr hm)
    have HP := Lib.hid (fun (L : Option Addr) (p : Nat) (w : World) (hI : Its w A r.list) (hw : Wr 5 w p none 0 []) (hB : Beside r.list A p none) => put_any r A c p none 0 [] w hr hm hI hw (by have := HL.out; unfold Lim; simp; omega) hB)
    have Hc := Lib.hid hc
    clear hc hm hA
    obtain ⟨k, n, l, h, x, cap, t, s⟩ := r
    go_enter Tryd.func29, Tryd.ntmps29
    go_wp2_with fail
    refine (HC.out _ (HA.out.alloc _)).mono ?_
    rintro e w1 ⟨rfl, hb1⟩
    rw [Hc.out]
    have e0 := (hb1.block w.heap.size (by simp)).trans (heap_alloc_new w _)
    have c0 := fun o => cell_of_row w1 _ o _ _ (0, 0) e0
    have HB1 := Lib.hid (show Below w.heap.size w w1 from (below1 w _).trans (hb1.mono (by simp)))
    have hlt : w.heap.size < w1.heap.size := lt_of_heap e0
    have hne : ¬ w.heap.size = w1.heap.size := by omega
    clear e0 hb1
    go_wp2_with fail
    refine (HP.out none _ _ ((HA.out.below HB1.out).alloc _) (Wr.new' _ _ _ _ rfl) ?_).mono ?_
    · rcases HA.out.below HB1.out with e | ⟨b, off, e, hb, _⟩
      · exact .inl e
      · refine .inr fun ad e2 => ⟨?_, fun e => by cases e⟩
        rw [e] at e2
        injection e2 with e2
        subst e2
        show b ≠ _
        omega
    rintro e w2 ⟨rfl, A2, c2, hw2, hs2⟩
    rw [List.nil_append] at hw2
    go_wp2_with fail
    refine (bytes_any _ A2 c2 _ w2 hw2 (by have := HL.out; unfold Lim; omega)).mono ?_
    rintro e w3 ⟨A3, c3, rfl, ho3, hk3, hb3⟩
    have hb2 := (hs2.below (B := w.heap.size) (by have := HB1.out.size; simp; omega) (by have := HB1.out.size; omega) (fun k e => by cases e)).1
    have hB : Below w.heap.size w w2 := (HB1.out.alloc HB1.out.size _).trans hb2
    go_wp2
    go_ret
    rw [Hb.out]
    exact ⟨A3, c3, rfl, ho3, fun k e => Nat.le_trans hB.size (hk3 k e), hB.trans (hb3.mono hB.size)⟩
  · have Hb := Lib.hid (show bytesOf r = [] by unfold bytesOf; rw [if_neg (Nat.ne_of_gt hc)])
    generalize RC.chk r = E at *
    have hE : ((E : Int) != 0) = true := by simp; omega
    clear hA
    obtain ⟨k, n, l, h, x, cap, t, s⟩ := r
    go_enter Tryd.func29, Tryd.ntmps29
    go_wp2_with fail
    refine (HC.out _ (HA.out.alloc _)).mono ?_
    rintro e w1 ⟨rfl, hb1⟩
    go_wp2_with fail
    go_ret
    rw [Hb.out]
    exact ⟨none, 0, rfl, World.ownsRow_nil _ _ _ _, (fun k e => by cases e), (below1 w _).trans (hb1.mono (by simp))⟩

theorem its_src {w : World} {A : Option Addr} {c : Nat} {xs : List RC.It} {tx e' : TypeId} (hk : Tryd.prog.underlying tx = some (.slice e')) (h : Its w A xs) (hs : A.isSome = true) :
    Src Tryd.prog 2 tx (.slice A xs.length c) xs.length (itCells xs) w := by
  have hone : ∀ u ∈ itCells xs, u.oneCell' = true := by
    intro u hu
    simp only [itCells, List.mem_flatMap] at hu
    obtain ⟨x, _, hx⟩ := hu
    simp at hx
    rcases hx with rfl | rfl <;> rfl
  cases A with
  | none => cases hs
  | some ad =>
    refine Src.ofSlice w hk ad _ _ _ (itCells_length xs) ?_ hone
    rcases h with rfl | ⟨b, off, e, hb, hc⟩
    · intro j u hu; simp [itCells] at hu
    · injection e with e
      subst e
      intro j u hu
      rw [MM.add_plain]
      have hl : j < xs.length * 2 := by
        have := (List.getElem?_eq_some_iff.1 hu).1
        rw [itCells_length] at this
        exact this
      obtain ⟨q, hq⟩ : ∃ q, j = q * 2 ∨ j = q * 2 + 1 := ⟨j / 2, by omega⟩
      have hi : q < xs.length := by omega
      obtain ⟨g0, g1⟩ := itCells_get xs q xs[q] (List.getElem?_eq_getElem hi)
      obtain ⟨h0, h1⟩ := hc q xs[q] (List.getElem?_eq_getElem hi)
      rcases hq with rfl | rfl
      · exact h0.trans (g0.symm.trans hu)
      · exact h1.trans (g1.symm.trans hu)

def CPost (xs : List RC.It) (w : World) (e : Ending) (w' : World) : Prop := ∃ A' c', e = .returned (.slice A' xs.length c') ∧ w'.ownsRow 0 49 2 (.slice A' xs.length c') xs.length (itCells xs) ∧ (∀ k, ob A' = some k → w.heap.size ≤ k) ∧ Below w.heap.size w w'

set_option maxHeartbeats 1000000 in
set_option maxRecDepth 100000 in
theorem itClone_any (A : Option Addr) (c : Nat) (xs : List RC.It) (w : World) (hA : Its w A xs) (hn : Lim xs.length) :
    Calls Tryd.prog 53 #[.slice A xs.length c] w (CPost xs w) := by
  obtain ⟨i0, hi0, hz0, hz1, hz2⟩ := info_parts item_info
  have hnil := fun n w => Lib.run_eql_slice_nil (P := Tryd.prog) w 23 49 A n c 0 0 Tryd.underlying23
  cases A with
  | none =>
    have hx : xs = [] := by rcases hA with h | ⟨b, off, h, _⟩; exact h; cases h
    subst hx
    go_enter Tryd.func53, Tryd.ntmps53
    go_wp2
    go_ret
    exact ⟨none, 0, rfl, World.ownsRow_nil _ _ _ _, (fun k h => by cases h), Below.refl _ _⟩
  | some ad =>
    have HA := Lib.hid hA
    clear hA
    go_enter Tryd.func53, Tryd.ntmps53
    go_wp2_with (first
      | (at_builtin
         refine wpList_append_at rfl (.tmp 5) (.tmp 6) _ _ rfl 49 i0 _ 2 24 Tryd.underlying23 hi0 hz0 hz1 hz2 rfl (some ⟨w.heap.size, 0, none⟩) 0 0 [] rfl (World.ownsRow_lit w #[] 0 (Nat.zero_le _) (by unfold maxLen; omega) rfl) _ xs.length _ rfl (its_src Tryd.underlying23 (HA.out.alloc _) rfl) (Lim.len (by simpa using hn)) (Lim.fit (by simpa using hn) 24 (by omega)) ?_
         intro A2 c2 w2 ho2 hg2 hat2))
    go_ret
    rw [Nat.zero_add, List.nil_append] at ho2
    have hbw : Below w.heap.size w w2 := ((Below.refl w.heap.size w).alloc (Nat.le_refl _) _).grown hg2 (by simp) (fun k e => by injection e with e; simp at e; omega)
    refine ⟨A2, c2, rfl, ho2, fun k e => ?_, hbw⟩
    rcases hat2 with h | h
    · rw [h] at e; injection e with e; simp at e; omega
    · rw [h] at e; injection e with e; simp at e; omega

set_option maxHeartbeats 1000000 in
set_option maxRecDepth 100000 in
theorem recClone_any (r : RC.Rc) (A : Option Addr) (c : Nat) (w : World) (hA : Its w A r.list) (hn : Lim r.list.length) :
    Calls Tryd.prog 19 #[recV r A c] w fun e w' => ∃ A' c', e = .returned (recV r A' c') ∧ w'.ownsRow 0 49 2 (.slice A' r.list.length c') r.list.length (itCells r.list) ∧ (∀ k, ob A' = some k → w.heap.size ≤ k) ∧ Below w.heap.size w w' := by
  have HC := Lib.hid (fun w (hA : Its w A r.list) => itClone_any A c r.list w hA hn)
  have HA := Lib.hid hA
  clear hA
  obtain ⟨k, n, l, h, x, cap, t, s⟩ := r
  go_enter Tryd.func19, Tryd.ntmps19
  go_wp2_with fail
  refine (HC.out _ ((HA.out.alloc _).alloc _)).mono ?_
  rintro e w1 ⟨A1, c1, rfl, ho1, hk1, hb1⟩
  simp only [World.size_alloc] at hk1
  have e0 := (hb1.block w.heap.size (by simp only [World.size_alloc]; omega)).trans (heap_alloc2_old w _ _)
  have e1 := (hb1.block (w.heap.size + 1) (by simp only [World.size_alloc]; omega)).trans (heap_alloc2_new w _ _)
  have c0 := fun o => cell_of_row w1 _ o _ _ (0, 0) e0
  have c1' := fun o => cell_of_row w1 _ o _ _ (0, 0) e1
  have f0 : ∀ o, w1.frozen? ⟨w.heap.size, o, none⟩ = false := fun o => frozen_of_row _ _ o _ _ e0
  have f1 : ∀ o, w1.frozen? ⟨w.heap.size + 1, o, none⟩ = false := fun o => frozen_of_row _ _ o _ _ e1
  have HB1 := Lib.hid (show Below w.heap.size w w1 from (below2 w _ _).trans (hb1.mono (by simp only [World.size_alloc]; omega)))
  have HO := Lib.hid ho1
  have HK := Lib.hid hk1
  clear e0 e1 hb1 ho1 hk1
  go_wp2_with fail
  refine bodyPost_ret (v := recV ⟨k, n, l, h, x, cap, t, s⟩ A1 c1) (by simp [results, Tryd.results19, go_sem, c1']) rfl ?_
  refine ⟨A1, c1, rfl, ?_, fun k e => by have := HK.out k e; omega, ?_⟩
  · refine Kp.own (S := fun k => w.heap.size ≤ k ∧ k ≤ w.heap.size + 1) ?_ HO.out (fun k e x => by rw [ownBlock_slice] at e; have := HK.out k e; have x' : w.heap.size ≤ k ∧ k ≤ w.heap.size + 1 := x; omega)
    iterate 9 refine Kp.setCell ?_ (Or.inl (by show w.heap.size ≤ _ ∧ _ ≤ w.heap.size + 1; simp only; omega)) _
    exact Kp.refl _ _
  · iterate 9 refine Below.setCell ?_ (by simp only; omega) _
    exact HB1.out

end Go.Proofs.YtaaeefndhmfceaaDoor
