/- The walk of PairSharp. -/
import Derived.Test.YtlpecaldodganaaGreatDoorSp6
import Derived.Test.YtlpecaldodganaaGreatDoorLaw6
import Derived.Test.YtlpecaldodganaaGreatDoorRef6
import Derived.Test.YtlpecaldodganaaGreatDoorRef6d
namespace Go.Proofs.YtlpecaldodganaaGreatDoor
open Go.RowKit MM
set_option linter.unusedVariables false
set_option linter.unusedSimpArgs false

theorem sharp_acts : ((List.range 21).all fun i => (RU.pacts ((i : Int) + 1)).all fun a => AC.chk a == 0) = true := by decide +kernel
theorem sharp_recs : ((List.range 10).all fun i => (RU.recsP (i : Int)).all fun r => RC.chk r == 0) = true := by decide +kernel
theorem pacts_chk {k : Int} (hk : 1 ≤ k ∧ k ≤ 21) : ∀ a ∈ RU.pacts k, AC.chk a = 0 := fun a ha => by
  have h1 := List.all_eq_true.1 sharp_acts (k - 1).toNat (List.mem_range.2 (by omega))
  rw [show (((k - 1).toNat : Int) + 1) = k by omega] at h1
  simpa using List.all_eq_true.1 h1 a ha
theorem pgrounds_chk {k l : Int} : ∀ x ∈ RU.pgrounds k l, (x.2 = true → RC.chk x.1 = 0) ∧ (x.2 = false → x.1 = RC.zero) := fun x hx => by
  unfold RU.pgrounds at hx
  rcases List.mem_cons.1 hx with rfl | hx
  · exact ⟨fun h => (by cases h), fun _ => rfl⟩
  · obtain ⟨r, hr, rfl⟩ := List.mem_map.1 hx
    refine ⟨fun _ => ?_, fun h => by cases h⟩
    have hm : 0 ≤ RU.onMax k l ∧ RU.onMax k l ≤ 9 := by have := on_bd k; have := on_bd l; unfold RU.onMax; omega
    have h1 := List.all_eq_true.1 sharp_recs (RU.onMax k l).toNat (List.mem_range.2 (by omega))
    rw [show (((RU.onMax k l).toNat : Int)) = RU.onMax k l by omega] at h1
    simpa using List.all_eq_true.1 h1 r hr

set_option maxHeartbeats 8000000 in
set_option maxRecDepth 100000 in
theorem pairSharp_no (k l : Int) (w : World) (hR : RowsAt w) (h : ¬ (1 ≤ k ∧ k ≤ 21 ∧ 1 ≤ l ∧ l ≤ 21 ∧ RU.kinds6 k l = false)) :
    Calls Tryz.prog 5 #[.int .i64 k, .int .i64 l] w fun e w' => e = .returned (.bool true) ∧ Below w.heap.size w w' := by
  have HR := Lib.hid hR
  have hn : AC.known k = false ∨ AC.known l = false ∨ RU.kinds6 k l = true := by
    by_cases h1 : 0 < k ∧ k < 22
    · by_cases h2 : 0 < l ∧ l < 22
      · refine .inr (.inr ?_)
        cases hk : RU.kinds6 k l
        · exact absurd ⟨by omega, by omega, by omega, by omega, hk⟩ h
        · rfl
      · exact .inr (.inl (decide_eq_false h2))
    · exact .inl (decide_eq_false h1)
  have HN := Lib.hid hn
  have HK := Lib.hid (show (1 ≤ k ∧ k ≤ 21 ∧ 1 ≤ l ∧ l ≤ 21) → RU.kinds6 k l = true from fun h1 => by
    cases hk : RU.kinds6 k l
    · exact absurd ⟨h1.1, h1.2.1, h1.2.2.1, h1.2.2.2, hk⟩ h
    · rfl)
  clear hR hn h
  go_enter Tryz.func5, Tryz.ntmps5
  go_wp2_with fail
  refine (speaks6_any _ HR.out).mono ?_
  rintro e w1 ⟨rfl, hb⟩
  have B1 := Lib.hid hb
  clear hb
  go_wp2_with fail
  refine (witness_none (HR.out.below B1.out) HN.out).mono ?_
  rintro e w2 ⟨rfl, hb⟩
  have B2 := Lib.hid (B1.out.trans (hb.mono B1.out.size))
  clear hb
  go_upto_region 4 with (first
    | (refine wpList_store_row rfl _ _ _ rfl _ (wcaseC RC.zero none 0 false AC.zero AC.zero) rfl rfl 37 _ (heap_alloc_new _ _) case_inf rfl (by kernel_rfl) ?_))
  rw [World.setRow_alloc_new]
  generalize hwa : World.alloc w2 _ = wa
  have R5 := Lib.hid (show wa.heap[w2.heap.size]? = some (.cells (wcaseC RC.zero none 0 false AC.zero AC.zero) 37 (0, 0)) by rw [← hwa]; exact heap_alloc_new w2 _)
  have B3 := Lib.hid (show Below w.heap.size w wa by rw [← hwa]; exact B2.out.trans ((below1 w2 _).mono B2.out.size))
  generalize hg : w2.heap.size = g at *
  clear hwa hg B2
  go_cut [36] (fun t36 wx => t36 = .bool false ∧ Below wa.heap.size wa wx)
  case first =>
    by_cases g1 : 1 ≤ k
    case neg =>
      go_wp2_with fail
      go_meet
      exact ⟨rfl, Below.refl _ _⟩
    by_cases g2 : k ≤ 21
    case neg =>
      go_wp2_with fail
      go_meet
      exact ⟨rfl, Below.refl _ _⟩
    by_cases g3 : 1 ≤ l
    case neg =>
      go_wp2_with fail
      go_meet
      exact ⟨rfl, Below.refl _ _⟩
    by_cases g4 : l ≤ 21
    case neg =>
      go_wp2_with fail
      go_meet
      exact ⟨rfl, Below.refl _ _⟩
    have hv := HK.out ⟨g1, g2, g3, g4⟩
    have HQ := Lib.hid (r6kinds_any k l wa)
    rw [hv] at HQ
    clear hv
    go_wp2_with fail
    refine HQ.out.mono ?_
    rintro e w3 ⟨rfl, hb⟩
    go_wp2_with fail
    go_meet
    exact ⟨rfl, hb⟩
  case rest =>
  obtain ⟨rfl, hb⟩ := hcut
  generalize hwc : wc = wb at *
  clear hwc
  have R5 := Lib.hid ((hb.block _ (lt_of_heap R5.out)).trans R5.out)
  have B4 := Lib.hid (B3.out.trans (hb.mono B3.out.size))
  clear hb
  have k5 := fun o => cell_of_row wb _ o _ _ (0, 0) R5.out
  go_wp2_with fail
  refine (show Calls Tryz.prog 21 #[recV RC.zero none 0, recV RC.zero none 0] wb (fun e w' => e = .returned (.bool (RC.same RC.zero RC.zero)) ∧ Below wb.heap.size wb w') from rsame3_any RC.zero RC.zero none none 0 0 wb RC.zero_ok RC.zero_ok (.inl rfl) (.inl rfl) (by unfold Lim; decide) (by unfold Lim; decide)).mono ?_
  rw [RC.same_refl']
  rintro e w5 ⟨rfl, hb⟩
  have R5 := Lib.hid ((hb.block _ (lt_of_heap R5.out)).trans R5.out)
  have B5 := Lib.hid (B4.out.trans (hb.mono B4.out.size))
  clear hb k5
  have k5 := fun o => cell_of_row w5 _ o _ _ (0, 0) R5.out
  go_wp2_with fail
  refine (show Calls Tryz.prog 22 #[actV AC.zero none 0, actV AC.zero none 0] w5 (fun e w' => e = .returned (.bool (AC.same AC.zero AC.zero)) ∧ Below w5.heap.size w5 w') from rsame4_any AC.zero AC.zero none none 0 0 w5 AC.zero_ok AC.zero_ok (.inl rfl) (.inl rfl) (by unfold Lim; decide) (by unfold Lim; decide)).mono ?_
  rw [AC.same_refl']
  rintro e w6 ⟨rfl, hb⟩
  have R5 := Lib.hid ((hb.block _ (lt_of_heap R5.out)).trans R5.out)
  have B6 := Lib.hid (B5.out.trans (hb.mono B5.out.size))
  clear hb k5
  have k5 := fun o => cell_of_row w6 _ o _ _ (0, 0) R5.out
  go_wp2_with fail
  refine (show Calls Tryz.prog 22 #[actV AC.zero none 0, actV AC.zero none 0] w6 (fun e w' => e = .returned (.bool (AC.same AC.zero AC.zero)) ∧ Below w6.heap.size w6 w') from rsame4_any AC.zero AC.zero none none 0 0 w6 AC.zero_ok AC.zero_ok (.inl rfl) (.inl rfl) (by unfold Lim; decide) (by unfold Lim; decide)).mono ?_
  rw [AC.same_refl']
  rintro e w7 ⟨rfl, hb⟩
  have B7 := Lib.hid (B6.out.trans (hb.mono B6.out.size))
  clear hb k5
  go_wp2_with fail
  go_ret
  exact ⟨rfl, B7.out⟩

set_option maxHeartbeats 8000000 in
set_option maxRecDepth 100000 in
theorem pairSharp_yes (k l : Int) (w : World) (hR : RowsAt w) (g1 : 1 ≤ k) (g2 : k ≤ 21) (g3 : 1 ≤ l) (g4 : l ≤ 21) (hk : RU.kinds6 k l = false) :
    Calls Tryz.prog 5 #[.int .i64 k, .int .i64 l] w fun e w' => e = .returned (.bool true) ∧ Below w.heap.size w w' := by
  have HR := Lib.hid hR
  have HQ := Lib.hid (fun u => (show Calls Tryz.prog 20 #[.int .i64 k, .int .i64 l] u (fun e w' => e = .returned (.bool false) ∧ Below u.heap.size u w') from by have := r6kinds_any k l u; rw [hk] at this; exact this))
  have HW := Lib.hid (fun u (h : Below w.heap.size w u) => witness_some (hR.below h) ⟨g1, g2⟩ ⟨g3, g4⟩ hk)
  have HCa := Lib.hid (fun a (ha : a ∈ RU.pacts k) => And.intro (pacts_chk ⟨g1, g2⟩ a ha) (And.intro (pacts_okA ⟨g1, g2⟩ a ha) (pacts_kind a ha)))
  have HCb := Lib.hid (fun a (ha : a ∈ RU.pacts l) => And.intro (pacts_chk ⟨g3, g4⟩ a ha) (And.intro (pacts_okA ⟨g3, g4⟩ a ha) (pacts_kind a ha)))
  clear hR hk
  go_enter Tryz.func5, Tryz.ntmps5
  go_wp2_with fail
  refine (speaks6_any _ HR.out).mono ?_
  rintro e w1 ⟨rfl, hb⟩
  have B1 := Lib.hid hb
  clear hb
  go_wp2_with fail
  refine (HW.out _ B1.out).mono ?_
  rintro e w2 ⟨r, t, a, b, A, c, rfl, hg, ha, hb', hdf, hI, hb⟩
  have hca := HCa.out a ha
  have hcb := HCb.out b hb'
  have hg1 := pgrounds_chk _ hg
  have hg2 := okR_ok (pgrounds_ok k l _ hg)
  have hmay : RU.may6 r t [a, b] = true := by
    unfold RU.may6
    cases t
    · simp [hca.1, hcb.1]
    · have := hg1.1 rfl
      simp [hca.1, hcb.1, this]
  obtain ⟨_, hoa, hka, hya⟩ := hca
  obtain ⟨_, hob, hkb, hyb⟩ := hcb
  have HMay := Lib.hid hmay
  have HDf := Lib.hid hdf
  have HOa := Lib.hid hoa
  have HOb := Lib.hid hob
  have HOr := Lib.hid hg2
  have HZ := Lib.hid hg1.2
  have HII := Lib.hid (show Its w2 A r.list from hI)
  have B2 := Lib.hid (B1.out.trans (hb.mono B1.out.size))
  have KA := Lib.hid hka
  have KB := Lib.hid hkb
  have YA := Lib.hid hya
  have YB := Lib.hid hyb
  clear hb hg ha hb' hdf hI hg1 hg2 hmay hoa hob hka hkb hya hyb HCa HCb HW
  go_upto_region 4 with (first
    | (refine wpList_store_row rfl _ _ _ rfl _ (wcaseC r A c t a b) rfl rfl 37 _ (heap_alloc_new _ _) case_inf rfl (by kernel_rfl) ?_))
  rw [World.setRow_alloc_new]
  generalize hwa : World.alloc w2 _ = wa
  have R5 := Lib.hid (show wa.heap[w2.heap.size]? = some (.cells (wcaseC r A c t a b) 37 (0, 0)) by rw [← hwa]; exact heap_alloc_new w2 _)
  have hba : Below w2.heap.size w2 wa := by rw [← hwa]; exact below1 w2 _
  have B3 := Lib.hid (B2.out.trans (hba.mono B2.out.size))
  have HII := Lib.hid (HII.out.below hba)
  generalize hg : w2.heap.size = g at *
  clear hwa hg B2 hba
  go_wp2_with fail
  refine (HQ.out _).mono ?_
  rintro e wb ⟨rfl, hb⟩
  have R5 := Lib.hid ((hb.block _ (lt_of_heap R5.out)).trans R5.out)
  have B4 := Lib.hid (B3.out.trans (hb.mono B3.out.size))
  have HII := Lib.hid (HII.out.below hb)
  clear hb
  obtain ⟨ka, ya, na, xa, sa, ma, ua⟩ := a
  obtain ⟨kb, yb, nb, xb, sb, mb, ub⟩ := b
  obtain rfl : ka = k := KA.out
  obtain rfl : kb = l := KB.out
  obtain rfl : ya = RU.sA := YA.out
  obtain rfl : yb = RU.sA := YB.out
  have k5 := fun o => cell_of_row wb _ o _ _ (0, 0) R5.out
  clear KA KB YA YB
  go_wp2_with fail
  generalize hwc : World.alloc wb _ = wc
  have hbc : Below wb.heap.size wb wc := by rw [← hwc]; exact below1 wb _
  have HAc := Lib.hid (show ActsIn wc (some ⟨wb.heap.size, 0, none⟩) [⟨⟨ka, RU.sA, na, xa, sa, ma, ua⟩, none, 0⟩, ⟨⟨kb, RU.sA, nb, xb, sb, mb, ub⟩, none, 0⟩] by rw [← hwc]; exact acts_two 27 (okA_in HOa.out wb).1 (okA_in HOb.out wb).1)
  have R5 := Lib.hid ((hbc.block _ (lt_of_heap R5.out)).trans R5.out)
  have B5 := Lib.hid (B4.out.trans (hbc.mono B4.out.size))
  have HII := Lib.hid (HII.out.below hbc)
  clear hwc hbc k5
  refine (may6_any r t [⟨⟨ka, RU.sA, na, xa, sa, ma, ua⟩, none, 0⟩, ⟨⟨kb, RU.sA, nb, xb, sb, mb, ub⟩, none, 0⟩] A (some ⟨wb.heap.size, 0, none⟩) c 2 wc HOr.out.1 HII.out HOr.out.2 HAc.out (by simp) (fun x hx => by
    simp at hx
    rcases hx with rfl | rfl
    · exact (okA_in HOa.out w).2
    · exact (okA_in HOb.out w).2)).mono ?_
  rw [show RU.may6 r t (([⟨⟨ka, RU.sA, na, xa, sa, ma, ua⟩, none, 0⟩, ⟨⟨kb, RU.sA, nb, xb, sb, mb, ub⟩, none, 0⟩] : List Al).map (·.r)) = true from HMay.out]
  rintro e w6 ⟨rfl, hb⟩
  have R5 := Lib.hid ((hb.block _ (lt_of_heap R5.out)).trans R5.out)
  have B6 := Lib.hid (B5.out.trans (hb.mono B5.out.size))
  have HII := Lib.hid (HII.out.below hb)
  clear hb HAc
  have HDi := Lib.hid (fun u (h : Its u A r.list) => (show Calls Tryz.prog 16 #[recV r A c, .bool t, actV ⟨ka, RU.sA, na, xa, sa, ma, ua⟩ none 0, actV ⟨kb, RU.sA, nb, xb, sb, mb, ub⟩ none 0] u (fun e w' => e = .returned (.bool true) ∧ Below u.heap.size u w') from by
    have := r6differs_any r t ⟨ka, RU.sA, na, xa, sa, ma, ua⟩ ⟨kb, RU.sA, nb, xb, sb, mb, ub⟩ A none none c 0 0 u HOr.out.1 h HOr.out.2 (okA_in HOa.out u).1 (okA_in HOb.out u).1 (okA_in HOa.out u).2 (okA_in HOb.out u).2
    rw [HDf.out] at this
    exact this))
  have k5 := fun o => cell_of_row w6 _ o _ _ (0, 0) R5.out
  cases t
  · have hz : r = RC.zero := HZ.out rfl
    have HS := Lib.hid (show Calls Tryz.prog 21 #[recV r A c, recV RC.zero none 0] w6 (fun e w' => e = .returned (.bool true) ∧ Below w6.heap.size w6 w') from by
      have := rsame3_any r RC.zero A none c 0 w6 HOr.out.1 RC.zero_ok HII.out (.inl rfl) HOr.out.2 (by unfold Lim; decide)
      have h2 : RC.same r RC.zero = true := by rw [hz]; exact RC.same_refl' _
      exact this.mono (fun e w' x => ⟨by rw [← h2]; exact x.1, x.2⟩))
    clear hz
    go_wp2_with fail
    refine HS.out.mono ?_
    rintro e w7 ⟨rfl, hb⟩
    have R5 := Lib.hid ((hb.block _ (lt_of_heap R5.out)).trans R5.out)
    have B7 := Lib.hid (B6.out.trans (hb.mono B6.out.size))
    have HII := Lib.hid (HII.out.below hb)
    clear hb k5
    have k5 := fun o => cell_of_row w7 _ o _ _ (0, 0) R5.out
    go_wp2_with fail
    refine (HDi.out _ HII.out).mono ?_
    rintro e w8 ⟨rfl, hb⟩
    have B8 := Lib.hid (B7.out.trans (hb.mono B7.out.size))
    clear hb k5
    go_wp2_with fail
    go_ret
    exact ⟨rfl, B8.out⟩
  · go_wp2_with fail
    refine (HDi.out _ HII.out).mono ?_
    rintro e w8 ⟨rfl, hb⟩
    have B8 := Lib.hid (B6.out.trans (hb.mono B6.out.size))
    clear hb k5
    go_wp2_with fail
    go_ret
    exact ⟨rfl, B8.out⟩

theorem pairSharp_any (k l : Int) (w : World) (hk : (Lit.int .i64 k).wf = true) (hl : (Lit.int .i64 l).wf = true) (hR : RowsAt w) :
    Calls Tryz.prog 5 #[.int .i64 k, .int .i64 l] w fun e w' => e = .returned (.bool true) ∧ Below w.heap.size w w' := by
  by_cases h : 1 ≤ k ∧ k ≤ 21 ∧ 1 ≤ l ∧ l ≤ 21 ∧ RU.kinds6 k l = false
  · exact pairSharp_yes k l w hR h.1 h.2.1 h.2.2.1 h.2.2.2.1 h.2.2.2.2
  · exact pairSharp_no k l w hR h

end Go.Proofs.YtlpecaldodganaaGreatDoor
