/- speaks of layer 6. -/
import Derived.Test.YtlpecaldodganaaGreatDoorPrCq
import Derived.Test.YtlpecaldodganaaGreatDoorPrBq
namespace Go.Proofs.YtlpecaldodganaaGreatDoor
open Go.RowKit MM
set_option linter.unusedVariables false
set_option linter.unusedSimpArgs false
theorem wit_of {k l : Int} (hk : 1 ≤ k ∧ k ≤ 21) (hl : 1 ≤ l ∧ l ≤ 21) (h : RU.kinds6 k l = false) : RU.witness k l = true := by
  have h1 := List.all_eq_true.1 wit_all (k - 1).toNat (List.mem_range.2 (by omega))
  have h2 := List.all_eq_true.1 h1 (l - 1).toNat (List.mem_range.2 (by omega))
  rw [show (((k - 1).toNat : Int) + 1) = k by omega, show (((l - 1).toNat : Int) + 1) = l by omega, h, Bool.false_or] at h2
  exact h2
theorem pacts_kind {k : Int} : ∀ a ∈ RU.pacts k, a.kind = k ∧ a.key = RU.sA := fun a ha => by
  unfold RU.pacts at ha
  obtain ⟨b, hb, rfl⟩ := List.mem_map.1 ha
  exact ⟨rfl, rfl⟩
/-- What Witness answers of kinds that don't change places. -/
theorem witness_some {k l : Int} {w : World} (hR : RowsAt w) (hk : 1 ≤ k ∧ k ≤ 21) (hl : 1 ≤ l ∧ l ≤ 21) (h : RU.kinds6 k l = false) : Calls Tryz.prog 19 #[.int .i64 k, .int .i64 l] w fun e w' => ∃ r t a b A c, e = .returned (.tuple #[.agg (wcaseC r A c t a b), .bool true]) ∧ (r, t) ∈ RU.pgrounds k l ∧ a ∈ RU.pacts k ∧ b ∈ RU.pacts l ∧ RU.differs r t a b = true ∧ Its w' A r.list ∧ Below w.heap.size w w' := by
  have k1 : AC.known k = true := decide_eq_true (by omega)
  have k2 : AC.known l = true := decide_eq_true (by omega)
  refine (pwitness_yes k l w hR k1 k2 h).mono ?_
  rintro e w' (⟨r, t, a, b, A, c, he, _, h1, h2, h3, h4, h5, h6⟩ | ⟨_, hno, _⟩)
  · exact ⟨r, t, a, b, A, c, he, h1, h2, h3, h4, h5, h6⟩
  · have hw := wit_of hk hl h
    rcases hno with hn | hn | hn | hn
    · rw [k1] at hn; cases hn
    · rw [k2] at hn; cases hn
    · rw [h] at hn; cases hn
    · unfold RU.witness at hw
      obtain ⟨g, hg, hw⟩ := List.any_eq_true.1 hw
      obtain ⟨a, ha, hw⟩ := List.any_eq_true.1 hw
      obtain ⟨b, hb, hw⟩ := List.any_eq_true.1 hw
      rw [hn g hg a ha b hb] at hw
      cases hw
theorem witness_none {k l : Int} {w : World} (hR : RowsAt w) (h : AC.known k = false ∨ AC.known l = false ∨ RU.kinds6 k l = true) : Calls Tryz.prog 19 #[.int .i64 k, .int .i64 l] w fun e w' => e = .returned (.tuple #[.agg (wcaseC RC.zero none 0 false AC.zero AC.zero), .bool false]) ∧ Below w.heap.size w w' := by
  refine (pwitness_no k l w hR h).mono ?_
  rintro e w' (⟨r, t, a, b, A, c, _, ⟨h1, h2, h3⟩, _⟩ | ⟨he, _, hb⟩)
  · rcases h with h | h | h
    · rw [h1] at h; cases h
    · rw [h2] at h; cases h
    · rw [h3] at h; cases h
  · exact ⟨he, hb⟩
def sp6A : AC.Ac := ⟨8, RU.sA, 1, 0, ⟨#[]⟩, RC.zero, false⟩
def sp6B : AC.Ac := ⟨8, RU.sB, 1, 0, ⟨#[]⟩, RC.zero, false⟩
def sp6C : AC.Ac := ⟨10, RU.sA, 1, 0, ⟨#[]⟩, RC.zero, false⟩
def sp6R : RC.Rc := ⟨4, 0, 0, 1, 0, 0, ⟨#[]⟩, []⟩
theorem sp6_differs : RU.differs sp6R true sp6C sp6C = true := by decide +kernel
theorem sp6_comm : RU.comm sp6A sp6B = true := by decide +kernel
theorem sp6_rows : RU.rows6 [sp6A] [sp6B] = true := by decide +kernel
set_option maxHeartbeats 8000000 in
set_option maxRecDepth 100000 in
theorem speaks6_any (w : World) (hR : RowsAt w) :
    Calls Tryz.prog 13 #[] w fun e w' => e = .returned (.bool true) ∧ Below w.heap.size w w' := by
  have HR := Lib.hid hR
  clear hR
  go_enter Tryz.func13, Tryz.ntmps13
  go_wp2_with fail
  refine (witness_some HR.out (by omega) (by omega) (by rfl)).mono ?_
  rintro e w1 ⟨r, t, a, b, A, c, rfl, _, ha, _, _, _, hb1⟩
  have hak := (pacts_kind a ha).1
  have HK := Lib.hid hak
  have B1 := Lib.hid hb1
  clear hb1 ha hak
  go_wp2_with (first
    | (refine wpList_store_row rfl _ _ _ rfl _ (wcaseC r A c t a b) rfl rfl 37 _ (heap_alloc_new _ _) case_inf rfl (by kernel_rfl) ?_))
  rw [World.setRow_alloc_new]
  generalize hwa : World.alloc w1 _ = wa
  have R1 := Lib.hid (show wa.heap[w1.heap.size]? = some (.cells (wcaseC r A c t a b) 37 (0, 0)) by rw [← hwa]; exact heap_alloc_new w1 _)
  have B2 := Lib.hid (show Below w.heap.size w wa by rw [← hwa]; exact B1.out.trans ((below1 w1 _).mono B1.out.size))
  generalize hg1 : w1.heap.size = g1 at *
  clear hwa hg1
  refine (witness_none (HR.out.below B2.out) (.inr (.inr (by rfl)))).mono ?_
  rintro e w2 ⟨rfl, hb2⟩
  have R1 := Lib.hid ((hb2.block _ (lt_of_heap R1.out)).trans R1.out)
  have B3 := Lib.hid (B2.out.trans (hb2.mono B2.out.size))
  clear hb2 B2
  go_upto_region 3 with (first
    | (refine wpList_store_row rfl _ _ _ rfl _ (wcaseC RC.zero none 0 false AC.zero AC.zero) rfl rfl 37 _ (heap_alloc_new _ _) case_inf rfl (by kernel_rfl) ?_))
  rw [World.setRow_alloc_new]
  generalize hwb : World.alloc w2 _ = wb
  have hbb : Below w2.heap.size w2 wb := by rw [← hwb]; exact below1 w2 _
  have R1 := Lib.hid ((hbb.block _ (lt_of_heap R1.out)).trans R1.out)
  have B4 := Lib.hid (B3.out.trans (hbb.mono B3.out.size))
  clear hwb hbb B3
  go_wp2_with fail
  generalize hwc : World.alloc (World.alloc wb _) _ = wc
  have hbc : Below wb.heap.size wb wc := by rw [← hwc]; exact below2 wb _ _
  have R5 := Lib.hid (show wc.heap[wb.heap.size]? = some (.cells (actC sp6A none 0) 27 (0, 0)) by rw [← hwc]; exact heap_alloc2_old wb _ _)
  have R6 := Lib.hid (show wc.heap[wb.heap.size + 1]? = some (.cells (actC sp6B none 0) 27 (0, 0)) by rw [← hwc]; exact heap_alloc2_new wb _ _)
  have R1 := Lib.hid ((hbc.block _ (lt_of_heap R1.out)).trans R1.out)
  have B5 := Lib.hid (B4.out.trans (hbc.mono B4.out.size))
  generalize hg5 : wb.heap.size = g5 at *
  clear hwc hbc B4 hg5
  refine (pairKinds_any 7 7 _ (HR.out.below B5.out)).mono ?_
  rw [show RU.kinds6 7 7 = true by rfl]
  rintro e w3 ⟨rfl, hb⟩
  have R1 := Lib.hid ((hb.block _ (lt_of_heap R1.out)).trans R1.out)
  have R5 := Lib.hid ((hb.block _ (lt_of_heap R5.out)).trans R5.out)
  have R6 := Lib.hid ((hb.block _ (lt_of_heap R6.out)).trans R6.out)
  have B6 := Lib.hid (B5.out.trans (hb.mono B5.out.size))
  clear hb
  go_wp2_with fail
  refine (pairKinds_any 8 8 _ (HR.out.below B6.out)).mono ?_
  rw [show RU.kinds6 8 8 = false by rfl]
  rintro e w4 ⟨rfl, hb⟩
  have R1 := Lib.hid ((hb.block _ (lt_of_heap R1.out)).trans R1.out)
  have R5 := Lib.hid ((hb.block _ (lt_of_heap R5.out)).trans R5.out)
  have R6 := Lib.hid ((hb.block _ (lt_of_heap R6.out)).trans R6.out)
  have B7 := Lib.hid (B6.out.trans (hb.mono B6.out.size))
  clear hb
  have k1 : w4.cell? ⟨g1, 9, none⟩ = some (.int .i64 8) := ((cell_of_row w4 _ 9 _ _ (0, 0) R1.out).trans (show (wcaseC r A c t a b)[9]? = some (.int .i64 a.kind) from rfl)).trans (by rw [HK.out])
  have k5 := fun o => cell_of_row w4 _ o _ _ (0, 0) R5.out
  have k6 := fun o => cell_of_row w4 _ o _ _ (0, 0) R6.out
  clear HK
  go_wp2_with fail
  refine (pcommute_any sp6A sp6B none none 0 0 _ (HR.out.below B7.out)).mono ?_
  rw [sp6_comm]
  rintro e w5 ⟨rfl, hb⟩
  have R5 := Lib.hid ((hb.block _ (lt_of_heap R5.out)).trans R5.out)
  have R6 := Lib.hid ((hb.block _ (lt_of_heap R6.out)).trans R6.out)
  have B8 := Lib.hid (B7.out.trans (hb.mono B7.out.size))
  clear hb k1 k5 k6
  have k5 := fun o => cell_of_row w5 _ o _ _ (0, 0) R5.out
  have k6 := fun p o => cell_of_row (w5.alloc p) _ o _ _ (0, 0) ((heap_alloc_old w5 p (lt_of_heap R6.out)).trans R6.out)
  have HLs := Lib.hid (show ActsIn ((w5.alloc (.cells (actC sp6A none 0) 27)).alloc (.cells (actC sp6B none 0) 27)) (some ⟨w5.heap.size, 0, none⟩) [⟨sp6A, none, 0⟩] from (acts_one 27 (okA_in (by decide +kernel) w5).1).keep (below1 _ _))
  have HMs := Lib.hid (show ActsIn ((w5.alloc (.cells (actC sp6A none 0) 27)).alloc (.cells (actC sp6B none 0) 27)) (some ⟨w5.heap.size + 1, 0, none⟩) [⟨sp6B, none, 0⟩] from by
    have h := acts_one 27 (okA_in (a := sp6B) (by decide +kernel) (w5.alloc (.cells (actC sp6A none 0) 27))).1
    rw [World.size_alloc] at h
    exact h)
  go_wp2_with fail
  refine (prows_any [⟨sp6A, none, 0⟩] [⟨sp6B, none, 0⟩] (some ⟨w5.heap.size, 0, none⟩) (some ⟨w5.heap.size + 1, 0, none⟩) 1 1 _ HLs.out HMs.out (by simp) (by simp) (HR.out.below (B8.out.trans ((below2 w5 _ _).mono B8.out.size)))).mono ?_
  rw [show RU.rows6 (([⟨sp6A, none, 0⟩] : List Al).map (·.r)) (([⟨sp6B, none, 0⟩] : List Al).map (·.r)) = true from sp6_rows]
  rintro e w6 ⟨rfl, hb⟩
  have B9 := Lib.hid (show Below w.heap.size w w6 from B8.out.trans (((below2 w5 _ _).trans (hb.mono (by simp only [World.size_alloc]; omega))).mono B8.out.size))
  clear hb k5 k6 HLs HMs
  go_wp2_with fail
  refine (pairDiffers_any sp6R true sp6C sp6C none none none 0 0 0 _ ⟨rfl, rfl, rfl, rfl, by unfold MF.W64; decide, rfl, fun x h => by cases h⟩ (.inl rfl) (by unfold Lim; decide) (okA_in (by decide +kernel) _).1 (okA_in (by decide +kernel) _).1 (okA_in (by decide +kernel) w).2 (okA_in (by decide +kernel) w).2 (HR.out.below B9.out)).mono ?_
  rw [sp6_differs]
  rintro e w7 ⟨rfl, hb⟩
  have B10 := Lib.hid (B9.out.trans (hb.mono B9.out.size))
  clear hb
  go_wp2_with fail
  go_ret
  exact ⟨rfl, B10.out⟩
end Go.Proofs.YtlpecaldodganaaGreatDoor
