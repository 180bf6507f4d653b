/- Contracts of package share: what an act counts as upon a slice; the document's Do. -/
import Derived.Test.YtbkcmnmbcldjoaaGreatDoorSh1P7d
import Derived.Test.YtbkcmnmbcldjoaaGreatDoorR5XP7d
import Derived.Test.YtbkcmnmbcldjoaaGreatDoorOpnMP7d
import Derived.Test.YtbkcmnmbcldjoaaGreatDoorPrBP7d
namespace Go.Proofs.YtbkcmnmbcldjoaaGreatDoor
open Go.RowKit MM
set_option linter.unusedVariables false
set_option linter.unusedSimpArgs false
/-- What an act counts as upon a slice. -/
def SH.upon (a : AC.Ac) : AC.Ac := if a.kind = 8 ∨ a.kind = 10 then { a with kind := 7 } else if a.kind = 11 then { a with kind := 7, n := RU.w64 (-a.n) } else a
theorem SH.upon_ok {a : AC.Ac} (h : a.ok) : (SH.upon a).ok := by
  unfold SH.upon
  split
  · exact ⟨show (Lit.int .i64 7).wf = true by decide, h.n, h.x, h.make⟩
  · split
    · exact ⟨show (Lit.int .i64 7).wf = true by decide, i64_w64 _, h.x, h.make⟩
    · exact h
theorem SH.upon_rest (a : AC.Ac) : (SH.upon a).key = a.key ∧ (SH.upon a).s = a.s ∧ (SH.upon a).make = a.make ∧ (SH.upon a).x = a.x ∧ (SH.upon a).must = a.must := by
  unfold SH.upon
  split
  · exact ⟨rfl, rfl, rfl, rfl, rfl⟩
  · split <;> exact ⟨rfl, rfl, rfl, rfl, rfl⟩
/-- What an act leaves of a slice. -/
def SH.do_ (r : RC.Rc) (a : AC.Ac) : RC.Rc := (RU.apply r true (SH.upon a)).1
theorem ans_inf7 : (Tryz.prog.info? 82).map (fun i => i.size) = some 10 := by kernel_rfl
set_option maxHeartbeats 4000000 in
set_option maxRecDepth 100000 in
theorem supon_any (a : AC.Ac) (L : Option Addr) (cl : Nat) (w : World) :
    Calls Tryz.prog 49 #[actV a L cl] w fun e w' => e = .returned (actV (SH.upon a) L cl) ∧ Below w.heap.size w w' := by
  obtain ⟨k, key, n, x, s, mk, must⟩ := a
  have HV := Lib.hid (show SH.upon ⟨k, key, n, x, s, mk, must⟩ = if k = 8 ∨ k = 10 then ⟨7, key, n, x, s, mk, must⟩ else if k = 11 then ⟨7, key, RU.w64 (-n), x, s, mk, must⟩ else ⟨k, key, n, x, s, mk, must⟩ from rfl)
  generalize SH.upon ⟨k, key, n, x, s, mk, must⟩ = v at *
  go_enter Tryz.func49, Tryz.ntmps49
  go_upto_region 1 with fail
  generalize hw1 : World.alloc (World.alloc w _) _ = w1
  have HB := Lib.hid (show Below w.heap.size w w1 by rw [← hw1]; exact below2 w _ _)
  have E1 := Lib.hid (show w1.heap[w.heap.size]? = some (.cells (actC ⟨k, key, n, x, s, mk, must⟩ L cl) 37 (0, 0)) by rw [← hw1]; exact heap_alloc2_old w _ _)
  have E2 := Lib.hid (show w1.heap[w.heap.size + 1]? = some (.cells (actC AC.zero none 0) 37 (0, 0)) by rw [← hw1]; exact heap_alloc2_new w _ _)
  have d1 := fun o => cell_of_row w1 _ o _ _ (0, 0) E1.out
  have f1 : ∀ o, w1.frozen? ⟨w.heap.size, o, none⟩ = false := fun o => frozen_of_row _ _ o _ _ E1.out
  clear hw1
  by_cases h8 : k = 8
  · subst h8
    have HW := Lib.hid (show v = ⟨7, key, n, x, s, mk, must⟩ by rw [HV.out] <;> rfl)
    go_upto_region 7 with fail
    generalize hwb : World.setCell _ _ _ = wb
    have hkb : Kp (fun j => j = w.heap.size) w1 wb := by rw [← hwb]; first | exact Kp.setCell (S := fun j => j = w.heap.size) (p := ⟨w.heap.size, 0, none⟩) (Kp.refl _ _) (.inl rfl) _ | exact Kp.setCell (S := fun j => j = w.heap.size) (p := ⟨w.heap.size, 2, none⟩) (Kp.setCell (S := fun j => j = w.heap.size) (p := ⟨w.heap.size, 0, none⟩) (Kp.refl _ _) (.inl rfl) _) (.inl rfl) _
    have F1 := Lib.hid (show wb.heap[w.heap.size]? = some (.cells (actC ⟨7, key, n, x, s, mk, must⟩ L cl) 37 (0, 0)) by rw [← hwb]; first | exact heap_setCell_same w1 _ 0 _ _ _ E1.out | exact heap_setCell_same _ _ 2 _ _ _ (heap_setCell_same w1 _ 0 _ _ _ E1.out))
    have F2 := Lib.hid ((hkb.block _ (lt_of_heap E2.out) (by omega)).trans E2.out)
    have HBb := Lib.hid (HB.out.trans (hkb.below HB.out.size (fun i hi x => by omega)))
    clear hwb hkb d1 f1 E1 E2
    go_wp2_with (first
      | (refine wpList_load_row rfl _ _ rfl w.heap.size rfl 37 _ (0, 0) _ F1.out Tryz.underlying37 rfl act_inf9 ?_)
      | (refine wpList_store_row rfl _ _ _ rfl (w.heap.size + 1) (actC ⟨7, key, n, x, s, mk, must⟩ L cl) rfl rfl 37 _ F2.out act_inf9 rfl (by kernel_rfl) ?_))
    generalize hwf : World.setRow wb _ _ = wf
    have hkf : Kp (fun j => j = w.heap.size + 1) wb wf := by rw [← hwf]; exact kpRow7 (S := fun j => j = w.heap.size + 1) (Kp.refl _ _) (.inl rfl) _
    have X2 : wf.heap[w.heap.size + 1]? = some (.cells (actC ⟨7, key, n, x, s, mk, must⟩ L cl) 37 (0, 0)) := by rw [← hwf]; exact setRow_heap wb _ _ _ _ _ F2.out
    have k2 := fun o => cell_of_row wf _ o _ _ (0, 0) X2
    have HBf := Lib.hid (HBb.out.trans (hkf.below HBb.out.size (fun i hi x => by omega)))
    clear hwf X2 hkf
    exact bodyPost_ret (v := actV ⟨7, key, n, x, s, mk, must⟩ L cl) (by simp [results, Tryz.results49, go_sem, k2]) rfl ⟨by rw [HW.out], HBf.out⟩
  by_cases h10 : k = 10
  · subst h10
    have HW := Lib.hid (show v = ⟨7, key, n, x, s, mk, must⟩ by rw [HV.out] <;> rfl)
    go_upto_region 7 with fail
    generalize hwb : World.setCell _ _ _ = wb
    have hkb : Kp (fun j => j = w.heap.size) w1 wb := by rw [← hwb]; first | exact Kp.setCell (S := fun j => j = w.heap.size) (p := ⟨w.heap.size, 0, none⟩) (Kp.refl _ _) (.inl rfl) _ | exact Kp.setCell (S := fun j => j = w.heap.size) (p := ⟨w.heap.size, 2, none⟩) (Kp.setCell (S := fun j => j = w.heap.size) (p := ⟨w.heap.size, 0, none⟩) (Kp.refl _ _) (.inl rfl) _) (.inl rfl) _
    have F1 := Lib.hid (show wb.heap[w.heap.size]? = some (.cells (actC ⟨7, key, n, x, s, mk, must⟩ L cl) 37 (0, 0)) by rw [← hwb]; first | exact heap_setCell_same w1 _ 0 _ _ _ E1.out | exact heap_setCell_same _ _ 2 _ _ _ (heap_setCell_same w1 _ 0 _ _ _ E1.out))
    have F2 := Lib.hid ((hkb.block _ (lt_of_heap E2.out) (by omega)).trans E2.out)
    have HBb := Lib.hid (HB.out.trans (hkb.below HB.out.size (fun i hi x => by omega)))
    clear hwb hkb d1 f1 E1 E2
    go_wp2_with (first
      | (refine wpList_load_row rfl _ _ rfl w.heap.size rfl 37 _ (0, 0) _ F1.out Tryz.underlying37 rfl act_inf9 ?_)
      | (refine wpList_store_row rfl _ _ _ rfl (w.heap.size + 1) (actC ⟨7, key, n, x, s, mk, must⟩ L cl) rfl rfl 37 _ F2.out act_inf9 rfl (by kernel_rfl) ?_))
    generalize hwf : World.setRow wb _ _ = wf
    have hkf : Kp (fun j => j = w.heap.size + 1) wb wf := by rw [← hwf]; exact kpRow7 (S := fun j => j = w.heap.size + 1) (Kp.refl _ _) (.inl rfl) _
    have X2 : wf.heap[w.heap.size + 1]? = some (.cells (actC ⟨7, key, n, x, s, mk, must⟩ L cl) 37 (0, 0)) := by rw [← hwf]; exact setRow_heap wb _ _ _ _ _ F2.out
    have k2 := fun o => cell_of_row wf _ o _ _ (0, 0) X2
    have HBf := Lib.hid (HBb.out.trans (hkf.below HBb.out.size (fun i hi x => by omega)))
    clear hwf X2 hkf
    exact bodyPost_ret (v := actV ⟨7, key, n, x, s, mk, must⟩ L cl) (by simp [results, Tryz.results49, go_sem, k2]) rfl ⟨by rw [HW.out], HBf.out⟩
  by_cases h11 : k = 11
  · subst h11
    have HW := Lib.hid (show v = ⟨7, key, RU.w64 (-n), x, s, mk, must⟩ by rw [HV.out] <;> rfl)
    go_upto_region 7 with fail
    generalize hwb : World.setCell _ _ _ = wb
    have hkb : Kp (fun j => j = w.heap.size) w1 wb := by rw [← hwb]; first | exact Kp.setCell (S := fun j => j = w.heap.size) (p := ⟨w.heap.size, 0, none⟩) (Kp.refl _ _) (.inl rfl) _ | exact Kp.setCell (S := fun j => j = w.heap.size) (p := ⟨w.heap.size, 2, none⟩) (Kp.setCell (S := fun j => j = w.heap.size) (p := ⟨w.heap.size, 0, none⟩) (Kp.refl _ _) (.inl rfl) _) (.inl rfl) _
    have F1 := Lib.hid (show wb.heap[w.heap.size]? = some (.cells (actC ⟨7, key, RU.w64 (-n), x, s, mk, must⟩ L cl) 37 (0, 0)) by rw [← hwb]; first | exact heap_setCell_same w1 _ 0 _ _ _ E1.out | exact heap_setCell_same _ _ 2 _ _ _ (heap_setCell_same w1 _ 0 _ _ _ E1.out))
    have F2 := Lib.hid ((hkb.block _ (lt_of_heap E2.out) (by omega)).trans E2.out)
    have HBb := Lib.hid (HB.out.trans (hkb.below HB.out.size (fun i hi x => by omega)))
    clear hwb hkb d1 f1 E1 E2
    go_wp2_with (first
      | (refine wpList_load_row rfl _ _ rfl w.heap.size rfl 37 _ (0, 0) _ F1.out Tryz.underlying37 rfl act_inf9 ?_)
      | (refine wpList_store_row rfl _ _ _ rfl (w.heap.size + 1) (actC ⟨7, key, RU.w64 (-n), x, s, mk, must⟩ L cl) rfl rfl 37 _ F2.out act_inf9 rfl (by kernel_rfl) ?_))
    generalize hwf : World.setRow wb _ _ = wf
    have hkf : Kp (fun j => j = w.heap.size + 1) wb wf := by rw [← hwf]; exact kpRow7 (S := fun j => j = w.heap.size + 1) (Kp.refl _ _) (.inl rfl) _
    have X2 : wf.heap[w.heap.size + 1]? = some (.cells (actC ⟨7, key, RU.w64 (-n), x, s, mk, must⟩ L cl) 37 (0, 0)) := by rw [← hwf]; exact setRow_heap wb _ _ _ _ _ F2.out
    have k2 := fun o => cell_of_row wf _ o _ _ (0, 0) X2
    have HBf := Lib.hid (HBb.out.trans (hkf.below HBb.out.size (fun i hi x => by omega)))
    clear hwf X2 hkf
    exact bodyPost_ret (v := actV ⟨7, key, RU.w64 (-n), x, s, mk, must⟩ L cl) (by simp [results, Tryz.results49, go_sem, k2]) rfl ⟨by rw [HW.out], HBf.out⟩
  have HW := Lib.hid (show v = ⟨k, key, n, x, s, mk, must⟩ by rw [HV.out, if_neg (by omega), if_neg h11])
  go_upto_region 7 with fail
  have F1 := E1
  have F2 := E2
  have HBb := HB
  generalize w1 = wb at *
  clear d1 f1 E1 E2
  go_wp2_with (first
    | (refine wpList_load_row rfl _ _ rfl w.heap.size rfl 37 _ (0, 0) _ F1.out Tryz.underlying37 rfl act_inf9 ?_)
    | (refine wpList_store_row rfl _ _ _ rfl (w.heap.size + 1) (actC ⟨k, key, n, x, s, mk, must⟩ L cl) rfl rfl 37 _ F2.out act_inf9 rfl (by kernel_rfl) ?_))
  generalize hwf : World.setRow wb _ _ = wf
  have hkf : Kp (fun j => j = w.heap.size + 1) wb wf := by rw [← hwf]; exact kpRow7 (S := fun j => j = w.heap.size + 1) (Kp.refl _ _) (.inl rfl) _
  have X2 : wf.heap[w.heap.size + 1]? = some (.cells (actC ⟨k, key, n, x, s, mk, must⟩ L cl) 37 (0, 0)) := by rw [← hwf]; exact setRow_heap wb _ _ _ _ _ F2.out
  have k2 := fun o => cell_of_row wf _ o _ _ (0, 0) X2
  have HBf := Lib.hid (HBb.out.trans (hkf.below HBb.out.size (fun i hi x => by omega)))
  clear hwf X2 hkf
  exact bodyPost_ret (v := actV ⟨k, key, n, x, s, mk, must⟩ L cl) (by simp [results, Tryz.results49, go_sem, k2]) rfl ⟨by rw [HW.out], HBf.out⟩
/-- What Do answers. -/
def DoS (p : RC.Rc) (w : World) (e : Ending) (w' : World) : Prop := ∃ B d, e = .returned (recV p B d) ∧ Its w' B p.list ∧ Below w.heap.size w w'
end Go.Proofs.YtbkcmnmbcldjoaaGreatDoor
