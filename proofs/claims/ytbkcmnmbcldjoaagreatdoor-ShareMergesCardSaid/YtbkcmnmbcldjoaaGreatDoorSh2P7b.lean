/- Contracts of package share: what an act counts as upon a slice; the document's Do. -/
import Derived.Test.YtbkcmnmbcldjoaaGreatDoorSh1P7b
import Derived.Test.YtbkcmnmbcldjoaaGreatDoorR5EP7b
import Derived.Test.YtbkcmnmbcldjoaaGreatDoorOpnMP7b
import Derived.Test.YtbkcmnmbcldjoaaGreatDoorPrBP7b
namespace Go.Proofs.YtbkcmnmbcldjoaaGreatDoor
open Go.RowKit MM
set_option linter.unusedVariables false
set_option linter.unusedSimpArgs false
/-- What an act counts as upon a slice. -/
def SH.upon (a : AC.Ac) : AC.Ac := if a.kind = 8 ∨ a.kind = 10 then { a with kind := 7 } else if a.kind = 11 then { a with kind := 7, n := RU.w64 (-a.n) } else a
theorem SH.upon_ok {a : AC.Ac} (h : a.ok) : (SH.upon a).ok := by
  unfold SH.upon
  split
  · exact ⟨show (Lit.int .i64 7).wf = true by decide, h.n, h.x, h.make⟩
  · split
    · exact ⟨show (Lit.int .i64 7).wf = true by decide, i64_w64 _, h.x, h.make⟩
    · exact h
theorem SH.upon_rest (a : AC.Ac) : (SH.upon a).key = a.key ∧ (SH.upon a).s = a.s ∧ (SH.upon a).make = a.make ∧ (SH.upon a).x = a.x ∧ (SH.upon a).must = a.must := by
  unfold SH.upon
  split
  · exact ⟨rfl, rfl, rfl, rfl, rfl⟩
  · split <;> exact ⟨rfl, rfl, rfl, rfl, rfl⟩
/-- What an act leaves of a slice. -/
def SH.do_ (r : RC.Rc) (a : AC.Ac) : RC.Rc := (RU.apply r true (SH.upon a)).1
theorem ans_inf7 : (Tryz.prog.info? 82).map (fun i => i.size) = some 10 := by kernel_rfl
set_option maxHeartbeats 4000000 in
set_option maxRecDepth 100000 in
theorem supon_any (a : AC.Ac) (L : Option Addr) (cl : Nat) (w : World) :
    Calls Tryz.prog 49 #[actV a L cl] w fun e w' => e = .returned (actV (SH.upon a) L cl) ∧ Below w.heap.size w w' := by
  obtain ⟨k, key, n, x, s, mk, must⟩ := a
  have HV := Lib.hid (show SH.upon ⟨k, key, n, x, s, mk, must⟩ = if k = 8 ∨ k = 10 then ⟨7, key, n, x, s, mk, must⟩ else if k = 11 then ⟨7, key, RU.w64 (-n), x, s, mk, must⟩ else ⟨k, key, n, x, s, mk, must⟩ from rfl)
  generalize SH.upon ⟨k, key, n, x, s, mk, must⟩ = v at *
  go_enter Tryz.func49, Tryz.ntmps49
  go_upto_region 1 with fail
  generalize hw1 : World.alloc (World.alloc w _) _ = w1
  have HB := Lib.hid (show Below w.heap.size w w1 by rw [← hw1]; exact below2 w _ _)
  have E1 := Lib.hid (show w1.heap[w.heap.size]? = some (.cells (actC ⟨k, key, n, x, s, mk, must⟩ L cl) 37 (0, 0)) by rw [← hw1]; exact heap_alloc2_old w _ _)
  have E2 := Lib.hid (show w1.heap[w.heap.size + 1]? = some (.cells (actC AC.zero none 0) 37 (0, 0)) by rw [← hw1]; exact heap_alloc2_new w _ _)
  have d1 := fun o => cell_of_row w1 _ o _ _ (0, 0) E1.out
  have f1 : ∀ o, w1.frozen? ⟨w.heap.size, o, none⟩ = false := fun o => frozen_of_row _ _ o _ _ E1.out
  clear hw1
  by_cases h8 : k = 8
  · subst h8
    have HW := Lib.hid (show v = ⟨7, key, n, x, s, mk, must⟩ by rw [HV.out] <;> rfl)
    go_upto_region 7 with fail
    generalize hwb : World.setCell _ _ _ = wb
    have hkb : Kp (fun j => j = w.heap.size) w1 wb := by rw [← hwb]; first | exact Kp.setCell (S := fun j => j = w.heap.size) (p := ⟨w.heap.size, 0, none⟩) (Kp.refl _ _) (.inl rfl) _ | exact Kp.setCell (S := fun j => j = w.heap.size) (p := ⟨w.heap.size, 2, none⟩) (Kp.setCell (S := fun j => j = w.heap.size) (p := ⟨w.heap.size, 0, none⟩) (Kp.refl _ _) (.inl rfl) _) (.inl rfl) _
    have F1 := Lib.hid (show wb.heap[w.heap.size]? = some (.cells (actC ⟨7, key, n, x, s, mk, must⟩ L cl) 37 (0, 0)) by rw [← hwb]; first | exact heap_setCell_same w1 _ 0 _ _ _ E1.out | exact heap_setCell_same _ _ 2 _ _ _ (heap_setCell_same w1 _ 0 _ _ _ E1.out))
    have F2 := Lib.hid ((hkb.block _ (lt_of_heap E2.out) (by omega)).trans E2.out)
    have HBb := Lib.hid (HB.out.trans (hkb.below HB.out.size (fun i hi x => by omega)))
    clear hwb hkb d1 f1 E1 E2
    go_wp2_with (first
      | (refine wpList_load_row rfl _ _ rfl w.heap.size rfl 37 _ (0, 0) _ F1.out Tryz.underlying37 rfl act_inf9 ?_)
      | (refine wpList_store_row rfl _ _ _ rfl (w.heap.size + 1) (actC ⟨7, key, n, x, s, mk, must⟩ L cl) rfl rfl 37 _ F2.out act_inf9 rfl (by kernel_rfl) ?_))
    generalize hwf : World.setRow wb _ _ = wf
    have hkf : Kp (fun j => j = w.heap.size + 1) wb wf := by rw [← hwf]; exact kpRow7 (S := fun j => j = w.heap.size + 1) (Kp.refl _ _) (.inl rfl) _
    have X2 : wf.heap[w.heap.size + 1]? = some (.cells (actC ⟨7, key, n, x, s, mk, must⟩ L cl) 37 (0, 0)) := by rw [← hwf]; exact setRow_heap wb _ _ _ _ _ F2.out
    have k2 := fun o => cell_of_row wf _ o _ _ (0, 0) X2
    have HBf := Lib.hid (HBb.out.trans (hkf.below HBb.out.size (fun i hi x => by omega)))
    clear hwf X2 hkf
    exact bodyPost_ret (v := actV ⟨7, key, n, x, s, mk, must⟩ L cl) (by simp [results, Tryz.results49, go_sem, k2]) rfl ⟨by rw [HW.out], HBf.out⟩
  by_cases h10 : k = 10
  · subst h10
    have HW := Lib.hid (show v = ⟨7, key, n, x, s, mk, must⟩ by rw [HV.out] <;> rfl)
    go_upto_region 7 with fail
    generalize hwb : World.setCell _ _ _ = wb
    have hkb : Kp (fun j => j = w.heap.size) w1 wb := by rw [← hwb]; first | exact Kp.setCell (S := fun j => j = w.heap.size) (p := ⟨w.heap.size, 0, none⟩) (Kp.refl _ _) (.inl rfl) _ | exact Kp.setCell (S := fun j => j = w.heap.size) (p := ⟨w.heap.size, 2, none⟩) (Kp.setCell (S := fun j => j = w.heap.size) (p := ⟨w.heap.size, 0, none⟩) (Kp.refl _ _) (.inl rfl) _) (.inl rfl) _
    have F1 := Lib.hid (show wb.heap[w.heap.size]? = some (.cells (actC ⟨7, key, n, x, s, mk, must⟩ L cl) 37 (0, 0)) by rw [← hwb]; first | exact heap_setCell_same w1 _ 0 _ _ _ E1.out | exact heap_setCell_same _ _ 2 _ _ _ (heap_setCell_same w1 _ 0 _ _ _ E1.out))
    have F2 := Lib.hid ((hkb.block _ (lt_of_heap E2.out) (by omega)).trans E2.out)
    have HBb := Lib.hid (HB.out.trans (hkb.below HB.out.size (fun i hi x => by omega)))
    clear hwb hkb d1 f1 E1 E2
    go_wp2_with (first
      | (refine wpList_load_row rfl _ _ rfl w.heap.size rfl 37 _ (0, 0) _ F1.out Tryz.underlying37 rfl act_inf9 ?_)
      | (refine wpList_store_row rfl _ _ _ rfl (w.heap.size + 1) (actC ⟨7, key, n, x, s, mk, must⟩ L cl) rfl rfl 37 _ F2.out act_inf9 rfl (by kernel_rfl) ?_))
    generalize hwf : World.setRow wb _ _ = wf
    have hkf : Kp (fun j => j = w.heap.size + 1) wb wf := by rw [← hwf]; exact kpRow7 (S := fun j => j = w.heap.size + 1) (Kp.refl _ _) (.inl rfl) _
    have X2 : wf.heap[w.heap.size + 1]? = some (.cells (actC ⟨7, key, n, x, s, mk, must⟩ L cl) 37 (0, 0)) := by rw [← hwf]; exact setRow_heap wb _ _ _ _ _ F2.out
    have k2 := fun o => cell_of_row wf _ o _ _ (0, 0) X2
    have HBf := Lib.hid (HBb.out.trans (hkf.below HBb.out.size (fun i hi x => by omega)))
    clear hwf X2 hkf
    exact bodyPost_ret (v := actV ⟨7, key, n, x, s, mk, must⟩ L cl) (by simp [results, Tryz.results49, go_sem, k2]) rfl ⟨by rw [HW.out], HBf.out⟩
  by_cases h11 : k = 11
  · subst h11
    have HW := Lib.hid (show v = ⟨7, key, RU.w64 (-n), x, s, mk, must⟩ by rw [HV.out] <;> rfl)
    go_upto_region 7 with fail
    generalize hwb : World.setCell _ _ _ = wb
    have hkb : Kp (fun j => j = w.heap.size) w1 wb := by rw [← hwb]; first | exact Kp.setCell (S := fun j => j = w.heap.size) (p := ⟨w.heap.size, 0, none⟩) (Kp.refl _ _) (.inl rfl) _ | exact Kp.setCell (S := fun j => j = w.heap.size) (p := ⟨w.heap.size, 2, none⟩) (Kp.setCell (S := fun j => j = w.heap.size) (p := ⟨w.heap.size, 0, none⟩) (Kp.refl _ _) (.inl rfl) _) (.inl rfl) _
    have F1 := Lib.hid (show wb.heap[w.heap.size]? = some (.cells (actC ⟨7, key, RU.w64 (-n), x, s, mk, must⟩ L cl) 37 (0, 0)) by rw [← hwb]; first | exact heap_setCell_same w1 _ 0 _ _ _ E1.out | exact heap_setCell_same _ _ 2 _ _ _ (heap_setCell_same w1 _ 0 _ _ _ E1.out))
    have F2 := Lib.hid ((hkb.block _ (lt_of_heap E2.out) (by omega)).trans E2.out)
    have HBb := Lib.hid (HB.out.trans (hkb.below HB.out.size (fun i hi x => by omega)))
    clear hwb hkb d1 f1 E1 E2
    go_wp2_with (first
      | (refine wpList_load_row rfl _ _ rfl w.heap.size rfl 37 _ (0, 0) _ F1.out Tryz.underlying37 rfl act_inf9 ?_)
      | (refine wpList_store_row rfl _ _ _ rfl (w.heap.size + 1) (actC ⟨7, key, RU.w64 (-n), x, s, mk, must⟩ L cl) rfl rfl 37 _ F2.out act_inf9 rfl (by kernel_rfl) ?_))
    generalize hwf : World.setRow wb _ _ = wf
    have hkf : Kp (fun j => j = w.heap.size + 1) wb wf := by rw [← hwf]; exact kpRow7 (S := fun j => j = w.heap.size + 1) (Kp.refl _ _) (.inl rfl) _
    have X2 : wf.heap[w.heap.size + 1]? = some (.cells (actC ⟨7, key, RU.w64 (-n), x, s, mk, must⟩ L cl) 37 (0, 0)) := by rw [← hwf]; exact setRow_heap wb _ _ _ _ _ F2.out
    have k2 := fun o => cell_of_row wf _ o _ _ (0, 0) X2
    have HBf := Lib.hid (HBb.out.trans (hkf.below HBb.out.size (fun i hi x => by omega)))
    clear hwf X2 hkf
    exact bodyPost_ret (v := actV ⟨7, key, RU.w64 (-n), x, s, mk, must⟩ L cl) (by simp [results, Tryz.results49, go_sem, k2]) rfl ⟨by rw [HW.out], HBf.out⟩
  have HW := Lib.hid (show v = ⟨k, key, n, x, s, mk, must⟩ by rw [HV.out, if_neg (by omega), if_neg h11])
  go_upto_region 7 with fail
  have F1 := E1
  have F2 := E2
  have HBb := HB
  generalize w1 = wb at *
  clear d1 f1 E1 E2
  go_wp2_with (first
    | (refine wpList_load_row rfl _ _ rfl w.heap.size rfl 37 _ (0, 0) _ F1.out Tryz.underlying37 rfl act_inf9 ?_)
    | (refine wpList_store_row rfl _ _ _ rfl (w.heap.size + 1) (actC ⟨k, key, n, x, s, mk, must⟩ L cl) rfl rfl 37 _ F2.out act_inf9 rfl (by kernel_rfl) ?_))
  generalize hwf : World.setRow wb _ _ = wf
  have hkf : Kp (fun j => j = w.heap.size + 1) wb wf := by rw [← hwf]; exact kpRow7 (S := fun j => j = w.heap.size + 1) (Kp.refl _ _) (.inl rfl) _
  have X2 : wf.heap[w.heap.size + 1]? = some (.cells (actC ⟨k, key, n, x, s, mk, must⟩ L cl) 37 (0, 0)) := by rw [← hwf]; exact setRow_heap wb _ _ _ _ _ F2.out
  have k2 := fun o => cell_of_row wf _ o _ _ (0, 0) X2
  have HBf := Lib.hid (HBb.out.trans (hkf.below HBb.out.size (fun i hi x => by omega)))
  clear hwf X2 hkf
  exact bodyPost_ret (v := actV ⟨k, key, n, x, s, mk, must⟩ L cl) (by simp [results, Tryz.results49, go_sem, k2]) rfl ⟨by rw [HW.out], HBf.out⟩
/-- What Do answers. -/
def DoS (p : RC.Rc) (w : World) (e : Ending) (w' : World) : Prop := ∃ B d, e = .returned (recV p B d) ∧ Its w' B p.list ∧ Below w.heap.size w w'
theorem SH.do_ok {r : RC.Rc} {a : AC.Ac} (hr : r.ok) (ha : a.ok) : (SH.do_ r a).ok := (apply_ok (there := true) hr (SH.upon_ok ha)).1
theorem SH.do_lim {r : RC.Rc} {a : AC.Ac} (hr : r.ok) (ha : a.ok) (n1 : Lim r.list.length) : Lim (SH.do_ r a).list.length := (apply_lim (there := true) hr (SH.upon_ok ha) n1).1
set_option maxHeartbeats 8000000 in
set_option maxRecDepth 100000 in
theorem r7do_any (r : RC.Rc) (a : AC.Ac) (A L : Option Addr) (c cl : Nat) (w : World) (hr : r.ok) (ha : a.ok) (hA : Its w A r.list) (hL : Its w L a.make.list) (n1 : Lim r.list.length) (n2 : Lim a.make.list.length) (n3 : Lim a.key.size) (n4 : Lim a.s.size) :
    Calls Tryz.prog 19 #[recV r A c, actV a L cl] w (DoS (SH.do_ r a) w) := by
  have hup := SH.upon_ok ha
  have HAp := Lib.hid (fun u (h : Below w.heap.size w u) => by
    have h1 := SH.upon_rest a
    exact r5apply_any r true (SH.upon a) A L c cl u hr hup (hA.below h) (by rw [h1.2.2.1]; exact hL.below h) n1 (by rw [h1.2.2.1]; exact n2) (by rw [h1.1]; exact n3) (by rw [h1.2.1]; exact n4))
  have HD := Lib.hid (show SH.do_ r a = (RU.apply r true (SH.upon a)).1 from rfl)
  generalize SH.do_ r a = p at *
  generalize hap : RU.apply r true (SH.upon a) = out at *
  obtain ⟨q, tb, xx⟩ := out
  obtain rfl : p = q := HD.out
  clear hap hup hr ha hA hL n1 n2 n3 n4
  obtain ⟨k, key, n, x, s, mk, must⟩ := a
  have HV := Lib.hid (show SH.upon ⟨k, key, n, x, s, mk, must⟩ = if k = 8 ∨ k = 10 then ⟨7, key, n, x, s, mk, must⟩ else if k = 11 then ⟨7, key, RU.w64 (-n), x, s, mk, must⟩ else ⟨k, key, n, x, s, mk, must⟩ from rfl)
  generalize SH.upon ⟨k, key, n, x, s, mk, must⟩ = v at *
  go_enter Tryz.func19, Tryz.ntmps19
  go_upto_region 1 with fail
  generalize hw1 : World.alloc (World.alloc (World.alloc w _) _) _ = w1
  have HB := Lib.hid (show Below w.heap.size w w1 by rw [← hw1]; exact below3 w _ _ _)
  have E1 := Lib.hid (show w1.heap[w.heap.size]? = some (.cells (recC r.kind r.num r.low r.high r.real r.cap r.text (.slice A r.list.length c)) 25 (0, 0)) by rw [← hw1]; exact (heap_alloc_old _ _ (by simp only [World.size_alloc]; omega)).trans (heap_alloc2_old w _ _))
  have E2 := Lib.hid (show w1.heap[w.heap.size + 1]? = some (.cells (actC ⟨k, key, n, x, s, mk, must⟩ L cl) 37 (0, 0)) by rw [← hw1]; exact (heap_alloc_old _ _ (by simp only [World.size_alloc]; omega)).trans (heap_alloc2_new w _ _))
  have E4 := Lib.hid (show w1.heap[w.heap.size + 1 + 1]? = some (.cells (recC 0 0 0 0 0 0 ⟨#[]⟩ (.slice none 0 0)) 25 (0, 0)) by rw [← hw1]; exact heap_new _ _ _ (by simp))
  clear hw1
  by_cases h8 : k = 8
  · subst h8
    have HW := Lib.hid (show v = ⟨7, key, n, x, s, mk, must⟩ by rw [HV.out] <;> rfl)
    have d2 := fun o => cell_of_row w1 _ o _ _ (0, 0) E2.out
    have f2 : ∀ o, w1.frozen? ⟨w.heap.size + 1, o, none⟩ = false := fun o => frozen_of_row _ _ o _ _ E2.out
    go_upto_region 5 with fail
    generalize hwb : World.setCell _ _ _ = wb
    have hkb : Kp (fun j => j = w.heap.size + 1) w1 wb := by rw [← hwb]; first | exact Kp.setCell (S := fun j => j = w.heap.size + 1) (p := ⟨w.heap.size + 1, 0, none⟩) (Kp.refl _ _) (.inl rfl) _ | exact Kp.setCell (S := fun j => j = w.heap.size + 1) (p := ⟨w.heap.size + 1, 0, none⟩) (Kp.setCell (S := fun j => j = w.heap.size + 1) (p := ⟨w.heap.size + 1, 2, none⟩) (Kp.refl _ _) (.inl rfl) _) (.inl rfl) _
    have F2 := Lib.hid (show wb.heap[w.heap.size + 1]? = some (.cells (actC v L cl) 37 (0, 0)) by rw [← hwb, HW.out]; first | exact heap_setCell_same w1 _ 0 _ _ _ E2.out | exact heap_setCell_same _ _ 0 _ _ _ (heap_setCell_same w1 _ 2 _ _ _ E2.out))
    have F1 := Lib.hid ((hkb.block _ (lt_of_heap E1.out) (by omega)).trans E1.out)
    have F4 := Lib.hid ((hkb.block _ (lt_of_heap E4.out) (by omega)).trans E4.out)
    have HBb := Lib.hid (HB.out.trans (hkb.below HB.out.size (fun i hi x => by omega)))
    clear hwb hkb d2 f2 E1 E2 E4
    go_wp2_with (first
      | (refine wpList_load_row rfl _ _ rfl w.heap.size rfl 25 _ (0, 0) _ F1.out Tryz.underlying25 rfl rec_inf7 ?_)
      | (refine wpList_load_row rfl _ _ rfl (w.heap.size + 1) rfl 37 _ (0, 0) _ F2.out Tryz.underlying37 rfl act_inf9 ?_))
    refine (HAp.out _ HBb.out).mono ?_
    rintro e w7 ⟨B2, d2, D, dd, rfl, hi1, hi2, hb7⟩
    have HI1 := Lib.hid (show Its w7 B2 p.list from hi1)
    have G4 := Lib.hid ((hb7.block _ (lt_of_heap F4.out)).trans F4.out)
    have HB7 := Lib.hid (HBb.out.trans (hb7.mono HBb.out.size))
    clear hi1 hi2 hb7 F1 F2 F4
    go_upto_region 6 with (first
      | (refine wpList_store_row rfl _ _ _ rfl w7.heap.size (recC p.kind p.num p.low p.high p.real p.cap p.text (.slice B2 p.list.length d2)) rfl rfl 25 _ (heap_alloc2_old w7 _ _) rec_inf7 rfl (by kernel_rfl) ?_)
      | (refine wpList_store_row rfl _ _ _ rfl (w7.heap.size + 1) (ansC xx.code xx.num xx.rc D dd) rfl rfl 82 _ ((setRow_other _ _ _ _ (by omega)).trans (heap_alloc2_new w7 _ _)) ans_inf7 rfl (by kernel_rfl) ?_))
    generalize hw8 : World.setRow (World.setRow _ _ _) _ _ = w8
    have hk8 : Below w7.heap.size w7 w8 := by
      rw [← hw8]
      exact (kpRow7 (S := fun _ => False) (kpRow7 (S := fun _ => False) (Kp.of_below (below2 w7 _ _) _) (.inr (Nat.le_refl _)) _) (.inr (by omega)) _).below (Nat.le_refl _) (fun i hi x => x)
    have R5 := Lib.hid (show w8.heap[w7.heap.size]? = some (.cells (recC p.kind p.num p.low p.high p.real p.cap p.text (.slice B2 p.list.length d2)) 25 (0, 0)) by rw [← hw8, setRow_other _ _ _ _ (by omega)]; exact setRow_heap _ _ _ _ _ _ (heap_alloc2_old w7 _ _))
    have HI1 := Lib.hid (HI1.out.below hk8)
    have G4 := Lib.hid ((hk8.block _ (lt_of_heap G4.out)).trans G4.out)
    have HB8 := Lib.hid (HB7.out.trans (hk8.mono HB7.out.size))
    generalize hg7 : w7.heap.size = g7 at *
    clear hw8 hk8 hg7
    go_wp2_with (first
      | (refine wpList_load_row rfl _ _ rfl g7 rfl 25 _ (0, 0) _ R5.out Tryz.underlying25 rfl rec_inf7 ?_)
      | (refine wpList_store_row rfl _ _ _ rfl (w.heap.size + 1 + 1) (recC p.kind p.num p.low p.high p.real p.cap p.text (.slice B2 p.list.length d2)) rfl rfl 25 _ G4.out rec_inf7 rfl (by kernel_rfl) ?_))
    generalize hwf : World.setRow w8 _ _ = wf
    have hkf : Kp (fun j => j = w.heap.size + 1 + 1) w8 wf := by rw [← hwf]; exact kpRow7 (S := fun j => j = w.heap.size + 1 + 1) (Kp.refl _ _) (.inl rfl) _
    have X2 : wf.heap[w.heap.size + 1 + 1]? = some (.cells (recC p.kind p.num p.low p.high p.real p.cap p.text (.slice B2 p.list.length d2)) 25 (0, 0)) := by rw [← hwf]; exact setRow_heap w8 _ _ _ _ _ G4.out
    have k2 := fun o => cell_of_row wf _ o _ _ (0, 0) X2
    have HPo := Lib.hid (show DoS p w (.returned (recV p B2 d2)) wf from ⟨B2, d2, rfl, its_keep HI1.out hkf (by
      rcases its_apart HI1.out G4.out (rec_no _ _ _ _ _ _ _ _ _ _) with h1 | h1
      · exact .inl h1
      · exact .inr fun ad e x => h1 ad e x), HB8.out.trans (hkf.below HB8.out.size (fun i hi x => by omega))⟩)
    clear hwf X2 hkf
    exact bodyPost_ret (v := recV p B2 d2) (by simp [results, Tryz.results19, go_sem, k2]) rfl HPo.out
  by_cases h10 : k = 10
  · subst h10
    have HW := Lib.hid (show v = ⟨7, key, n, x, s, mk, must⟩ by rw [HV.out] <;> rfl)
    have d2 := fun o => cell_of_row w1 _ o _ _ (0, 0) E2.out
    have f2 : ∀ o, w1.frozen? ⟨w.heap.size + 1, o, none⟩ = false := fun o => frozen_of_row _ _ o _ _ E2.out
    go_upto_region 5 with fail
    generalize hwb : World.setCell _ _ _ = wb
    have hkb : Kp (fun j => j = w.heap.size + 1) w1 wb := by rw [← hwb]; first | exact Kp.setCell (S := fun j => j = w.heap.size + 1) (p := ⟨w.heap.size + 1, 0, none⟩) (Kp.refl _ _) (.inl rfl) _ | exact Kp.setCell (S := fun j => j = w.heap.size + 1) (p := ⟨w.heap.size + 1, 0, none⟩) (Kp.setCell (S := fun j => j = w.heap.size + 1) (p := ⟨w.heap.size + 1, 2, none⟩) (Kp.refl _ _) (.inl rfl) _) (.inl rfl) _
    have F2 := Lib.hid (show wb.heap[w.heap.size + 1]? = some (.cells (actC v L cl) 37 (0, 0)) by rw [← hwb, HW.out]; first | exact heap_setCell_same w1 _ 0 _ _ _ E2.out | exact heap_setCell_same _ _ 0 _ _ _ (heap_setCell_same w1 _ 2 _ _ _ E2.out))
    have F1 := Lib.hid ((hkb.block _ (lt_of_heap E1.out) (by omega)).trans E1.out)
    have F4 := Lib.hid ((hkb.block _ (lt_of_heap E4.out) (by omega)).trans E4.out)
    have HBb := Lib.hid (HB.out.trans (hkb.below HB.out.size (fun i hi x => by omega)))
    clear hwb hkb d2 f2 E1 E2 E4
    go_wp2_with (first
      | (refine wpList_load_row rfl _ _ rfl w.heap.size rfl 25 _ (0, 0) _ F1.out Tryz.underlying25 rfl rec_inf7 ?_)
      | (refine wpList_load_row rfl _ _ rfl (w.heap.size + 1) rfl 37 _ (0, 0) _ F2.out Tryz.underlying37 rfl act_inf9 ?_))
    refine (HAp.out _ HBb.out).mono ?_
    rintro e w7 ⟨B2, d2, D, dd, rfl, hi1, hi2, hb7⟩
    have HI1 := Lib.hid (show Its w7 B2 p.list from hi1)
    have G4 := Lib.hid ((hb7.block _ (lt_of_heap F4.out)).trans F4.out)
    have HB7 := Lib.hid (HBb.out.trans (hb7.mono HBb.out.size))
    clear hi1 hi2 hb7 F1 F2 F4
    go_upto_region 6 with (first
      | (refine wpList_store_row rfl _ _ _ rfl w7.heap.size (recC p.kind p.num p.low p.high p.real p.cap p.text (.slice B2 p.list.length d2)) rfl rfl 25 _ (heap_alloc2_old w7 _ _) rec_inf7 rfl (by kernel_rfl) ?_)
      | (refine wpList_store_row rfl _ _ _ rfl (w7.heap.size + 1) (ansC xx.code xx.num xx.rc D dd) rfl rfl 82 _ ((setRow_other _ _ _ _ (by omega)).trans (heap_alloc2_new w7 _ _)) ans_inf7 rfl (by kernel_rfl) ?_))
    generalize hw8 : World.setRow (World.setRow _ _ _) _ _ = w8
    have hk8 : Below w7.heap.size w7 w8 := by
      rw [← hw8]
      exact (kpRow7 (S := fun _ => False) (kpRow7 (S := fun _ => False) (Kp.of_below (below2 w7 _ _) _) (.inr (Nat.le_refl _)) _) (.inr (by omega)) _).below (Nat.le_refl _) (fun i hi x => x)
    have R5 := Lib.hid (show w8.heap[w7.heap.size]? = some (.cells (recC p.kind p.num p.low p.high p.real p.cap p.text (.slice B2 p.list.length d2)) 25 (0, 0)) by rw [← hw8, setRow_other _ _ _ _ (by omega)]; exact setRow_heap _ _ _ _ _ _ (heap_alloc2_old w7 _ _))
    have HI1 := Lib.hid (HI1.out.below hk8)
    have G4 := Lib.hid ((hk8.block _ (lt_of_heap G4.out)).trans G4.out)
    have HB8 := Lib.hid (HB7.out.trans (hk8.mono HB7.out.size))
    generalize hg7 : w7.heap.size = g7 at *
    clear hw8 hk8 hg7
    go_wp2_with (first
      | (refine wpList_load_row rfl _ _ rfl g7 rfl 25 _ (0, 0) _ R5.out Tryz.underlying25 rfl rec_inf7 ?_)
      | (refine wpList_store_row rfl _ _ _ rfl (w.heap.size + 1 + 1) (recC p.kind p.num p.low p.high p.real p.cap p.text (.slice B2 p.list.length d2)) rfl rfl 25 _ G4.out rec_inf7 rfl (by kernel_rfl) ?_))
    generalize hwf : World.setRow w8 _ _ = wf
    have hkf : Kp (fun j => j = w.heap.size + 1 + 1) w8 wf := by rw [← hwf]; exact kpRow7 (S := fun j => j = w.heap.size + 1 + 1) (Kp.refl _ _) (.inl rfl) _
    have X2 : wf.heap[w.heap.size + 1 + 1]? = some (.cells (recC p.kind p.num p.low p.high p.real p.cap p.text (.slice B2 p.list.length d2)) 25 (0, 0)) := by rw [← hwf]; exact setRow_heap w8 _ _ _ _ _ G4.out
    have k2 := fun o => cell_of_row wf _ o _ _ (0, 0) X2
    have HPo := Lib.hid (show DoS p w (.returned (recV p B2 d2)) wf from ⟨B2, d2, rfl, its_keep HI1.out hkf (by
      rcases its_apart HI1.out G4.out (rec_no _ _ _ _ _ _ _ _ _ _) with h1 | h1
      · exact .inl h1
      · exact .inr fun ad e x => h1 ad e x), HB8.out.trans (hkf.below HB8.out.size (fun i hi x => by omega))⟩)
    clear hwf X2 hkf
    exact bodyPost_ret (v := recV p B2 d2) (by simp [results, Tryz.results19, go_sem, k2]) rfl HPo.out
  by_cases h11 : k = 11
  · subst h11
    have HW := Lib.hid (show v = ⟨7, key, RU.w64 (-n), x, s, mk, must⟩ by rw [HV.out] <;> rfl)
    have d2 := fun o => cell_of_row w1 _ o _ _ (0, 0) E2.out
    have f2 : ∀ o, w1.frozen? ⟨w.heap.size + 1, o, none⟩ = false := fun o => frozen_of_row _ _ o _ _ E2.out
    go_upto_region 5 with fail
    generalize hwb : World.setCell _ _ _ = wb
    have hkb : Kp (fun j => j = w.heap.size + 1) w1 wb := by rw [← hwb]; first | exact Kp.setCell (S := fun j => j = w.heap.size + 1) (p := ⟨w.heap.size + 1, 0, none⟩) (Kp.refl _ _) (.inl rfl) _ | exact Kp.setCell (S := fun j => j = w.heap.size + 1) (p := ⟨w.heap.size + 1, 0, none⟩) (Kp.setCell (S := fun j => j = w.heap.size + 1) (p := ⟨w.heap.size + 1, 2, none⟩) (Kp.refl _ _) (.inl rfl) _) (.inl rfl) _
    have F2 := Lib.hid (show wb.heap[w.heap.size + 1]? = some (.cells (actC v L cl) 37 (0, 0)) by rw [← hwb, HW.out]; first | exact heap_setCell_same w1 _ 0 _ _ _ E2.out | exact heap_setCell_same _ _ 0 _ _ _ (heap_setCell_same w1 _ 2 _ _ _ E2.out))
    have F1 := Lib.hid ((hkb.block _ (lt_of_heap E1.out) (by omega)).trans E1.out)
    have F4 := Lib.hid ((hkb.block _ (lt_of_heap E4.out) (by omega)).trans E4.out)
    have HBb := Lib.hid (HB.out.trans (hkb.below HB.out.size (fun i hi x => by omega)))
    clear hwb hkb d2 f2 E1 E2 E4
    go_wp2_with (first
      | (refine wpList_load_row rfl _ _ rfl w.heap.size rfl 25 _ (0, 0) _ F1.out Tryz.underlying25 rfl rec_inf7 ?_)
      | (refine wpList_load_row rfl _ _ rfl (w.heap.size + 1) rfl 37 _ (0, 0) _ F2.out Tryz.underlying37 rfl act_inf9 ?_))
    refine (HAp.out _ HBb.out).mono ?_
    rintro e w7 ⟨B2, d2, D, dd, rfl, hi1, hi2, hb7⟩
    have HI1 := Lib.hid (show Its w7 B2 p.list from hi1)
    have G4 := Lib.hid ((hb7.block _ (lt_of_heap F4.out)).trans F4.out)
    have HB7 := Lib.hid (HBb.out.trans (hb7.mono HBb.out.size))
    clear hi1 hi2 hb7 F1 F2 F4
    go_upto_region 6 with (first
      | (refine wpList_store_row rfl _ _ _ rfl w7.heap.size (recC p.kind p.num p.low p.high p.real p.cap p.text (.slice B2 p.list.length d2)) rfl rfl 25 _ (heap_alloc2_old w7 _ _) rec_inf7 rfl (by kernel_rfl) ?_)
      | (refine wpList_store_row rfl _ _ _ rfl (w7.heap.size + 1) (ansC xx.code xx.num xx.rc D dd) rfl rfl 82 _ ((setRow_other _ _ _ _ (by omega)).trans (heap_alloc2_new w7 _ _)) ans_inf7 rfl (by kernel_rfl) ?_))
    generalize hw8 : World.setRow (World.setRow _ _ _) _ _ = w8
    have hk8 : Below w7.heap.size w7 w8 := by
      rw [← hw8]
      exact (kpRow7 (S := fun _ => False) (kpRow7 (S := fun _ => False) (Kp.of_below (below2 w7 _ _) _) (.inr (Nat.le_refl _)) _) (.inr (by omega)) _).below (Nat.le_refl _) (fun i hi x => x)
    have R5 := Lib.hid (show w8.heap[w7.heap.size]? = some (.cells (recC p.kind p.num p.low p.high p.real p.cap p.text (.slice B2 p.list.length d2)) 25 (0, 0)) by rw [← hw8, setRow_other _ _ _ _ (by omega)]; exact setRow_heap _ _ _ _ _ _ (heap_alloc2_old w7 _ _))
    have HI1 := Lib.hid (HI1.out.below hk8)
    have G4 := Lib.hid ((hk8.block _ (lt_of_heap G4.out)).trans G4.out)
    have HB8 := Lib.hid (HB7.out.trans (hk8.mono HB7.out.size))
    generalize hg7 : w7.heap.size = g7 at *
    clear hw8 hk8 hg7
    go_wp2_with (first
      | (refine wpList_load_row rfl _ _ rfl g7 rfl 25 _ (0, 0) _ R5.out Tryz.underlying25 rfl rec_inf7 ?_)
      | (refine wpList_store_row rfl _ _ _ rfl (w.heap.size + 1 + 1) (recC p.kind p.num p.low p.high p.real p.cap p.text (.slice B2 p.list.length d2)) rfl rfl 25 _ G4.out rec_inf7 rfl (by kernel_rfl) ?_))
    generalize hwf : World.setRow w8 _ _ = wf
    have hkf : Kp (fun j => j = w.heap.size + 1 + 1) w8 wf := by rw [← hwf]; exact kpRow7 (S := fun j => j = w.heap.size + 1 + 1) (Kp.refl _ _) (.inl rfl) _
    have X2 : wf.heap[w.heap.size + 1 + 1]? = some (.cells (recC p.kind p.num p.low p.high p.real p.cap p.text (.slice B2 p.list.length d2)) 25 (0, 0)) := by rw [← hwf]; exact setRow_heap w8 _ _ _ _ _ G4.out
    have k2 := fun o => cell_of_row wf _ o _ _ (0, 0) X2
    have HPo := Lib.hid (show DoS p w (.returned (recV p B2 d2)) wf from ⟨B2, d2, rfl, its_keep HI1.out hkf (by
      rcases its_apart HI1.out G4.out (rec_no _ _ _ _ _ _ _ _ _ _) with h1 | h1
      · exact .inl h1
      · exact .inr fun ad e x => h1 ad e x), HB8.out.trans (hkf.below HB8.out.size (fun i hi x => by omega))⟩)
    clear hwf X2 hkf
    exact bodyPost_ret (v := recV p B2 d2) (by simp [results, Tryz.results19, go_sem, k2]) rfl HPo.out
  have HW := Lib.hid (show v = ⟨k, key, n, x, s, mk, must⟩ by rw [HV.out, if_neg (by omega), if_neg h11])
  have d2 := fun o => cell_of_row w1 _ o _ _ (0, 0) E2.out
  have f2 : ∀ o, w1.frozen? ⟨w.heap.size + 1, o, none⟩ = false := fun o => frozen_of_row _ _ o _ _ E2.out
  have b8 : (k == 8) = false := beq_eq_false_iff_ne.2 h8
  have b10 : (k == 10) = false := beq_eq_false_iff_ne.2 h10
  have b11 : (k == 11) = false := beq_eq_false_iff_ne.2 h11
  go_upto_region 5 with fail
  have F2 := Lib.hid (show w1.heap[w.heap.size + 1]? = some (.cells (actC v L cl) 37 (0, 0)) by rw [HW.out]; exact E2.out)
  have F1 := E1
  have F4 := E4
  have HBb := HB
  generalize w1 = wb at *
  clear d2 f2 E1 E2 E4 b8 b10 b11
  go_wp2_with (first
    | (refine wpList_load_row rfl _ _ rfl w.heap.size rfl 25 _ (0, 0) _ F1.out Tryz.underlying25 rfl rec_inf7 ?_)
    | (refine wpList_load_row rfl _ _ rfl (w.heap.size + 1) rfl 37 _ (0, 0) _ F2.out Tryz.underlying37 rfl act_inf9 ?_))
  refine (HAp.out _ HBb.out).mono ?_
  rintro e w7 ⟨B2, d2, D, dd, rfl, hi1, hi2, hb7⟩
  have HI1 := Lib.hid (show Its w7 B2 p.list from hi1)
  have G4 := Lib.hid ((hb7.block _ (lt_of_heap F4.out)).trans F4.out)
  have HB7 := Lib.hid (HBb.out.trans (hb7.mono HBb.out.size))
  clear hi1 hi2 hb7 F1 F2 F4
  go_upto_region 6 with (first
    | (refine wpList_store_row rfl _ _ _ rfl w7.heap.size (recC p.kind p.num p.low p.high p.real p.cap p.text (.slice B2 p.list.length d2)) rfl rfl 25 _ (heap_alloc2_old w7 _ _) rec_inf7 rfl (by kernel_rfl) ?_)
    | (refine wpList_store_row rfl _ _ _ rfl (w7.heap.size + 1) (ansC xx.code xx.num xx.rc D dd) rfl rfl 82 _ ((setRow_other _ _ _ _ (by omega)).trans (heap_alloc2_new w7 _ _)) ans_inf7 rfl (by kernel_rfl) ?_))
  generalize hw8 : World.setRow (World.setRow _ _ _) _ _ = w8
  have hk8 : Below w7.heap.size w7 w8 := by
    rw [← hw8]
    exact (kpRow7 (S := fun _ => False) (kpRow7 (S := fun _ => False) (Kp.of_below (below2 w7 _ _) _) (.inr (Nat.le_refl _)) _) (.inr (by omega)) _).below (Nat.le_refl _) (fun i hi x => x)
  have R5 := Lib.hid (show w8.heap[w7.heap.size]? = some (.cells (recC p.kind p.num p.low p.high p.real p.cap p.text (.slice B2 p.list.length d2)) 25 (0, 0)) by rw [← hw8, setRow_other _ _ _ _ (by omega)]; exact setRow_heap _ _ _ _ _ _ (heap_alloc2_old w7 _ _))
  have HI1 := Lib.hid (HI1.out.below hk8)
  have G4 := Lib.hid ((hk8.block _ (lt_of_heap G4.out)).trans G4.out)
  have HB8 := Lib.hid (HB7.out.trans (hk8.mono HB7.out.size))
  generalize hg7 : w7.heap.size = g7 at *
  clear hw8 hk8 hg7
  go_wp2_with (first
    | (refine wpList_load_row rfl _ _ rfl g7 rfl 25 _ (0, 0) _ R5.out Tryz.underlying25 rfl rec_inf7 ?_)
    | (refine wpList_store_row rfl _ _ _ rfl (w.heap.size + 1 + 1) (recC p.kind p.num p.low p.high p.real p.cap p.text (.slice B2 p.list.length d2)) rfl rfl 25 _ G4.out rec_inf7 rfl (by kernel_rfl) ?_))
  generalize hwf : World.setRow w8 _ _ = wf
  have hkf : Kp (fun j => j = w.heap.size + 1 + 1) w8 wf := by rw [← hwf]; exact kpRow7 (S := fun j => j = w.heap.size + 1 + 1) (Kp.refl _ _) (.inl rfl) _
  have X2 : wf.heap[w.heap.size + 1 + 1]? = some (.cells (recC p.kind p.num p.low p.high p.real p.cap p.text (.slice B2 p.list.length d2)) 25 (0, 0)) := by rw [← hwf]; exact setRow_heap w8 _ _ _ _ _ G4.out
  have k2 := fun o => cell_of_row wf _ o _ _ (0, 0) X2
  have HPo := Lib.hid (show DoS p w (.returned (recV p B2 d2)) wf from ⟨B2, d2, rfl, its_keep HI1.out hkf (by
    rcases its_apart HI1.out G4.out (rec_no _ _ _ _ _ _ _ _ _ _) with h1 | h1
    · exact .inl h1
    · exact .inr fun ad e x => h1 ad e x), HB8.out.trans (hkf.below HB8.out.size (fun i hi x => by omega))⟩)
  clear hwf X2 hkf
  exact bodyPost_ret (v := recV p B2 d2) (by simp [results, Tryz.results19, go_sem, k2]) rfl HPo.out
end Go.Proofs.YtbkcmnmbcldjoaaGreatDoor
