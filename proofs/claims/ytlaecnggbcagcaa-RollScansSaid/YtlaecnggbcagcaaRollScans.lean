/- Law of layer 19: the entries of any sectors are the document's; behind an Open what stands behind them is blank, for good, and they are the same. -/
import Derived.Test.YtlaecnggbcagcaaRl22
import Derived.Deep.RegionWith
import Derived.Deep.RegionHeld3
import Derived.Deep.Cut
import Derived.Deep.DeepCutAuto
namespace Go.Proofs.Ytlaecnggbcagcaa
open Go.RowKit MM
set_option linter.unusedVariables false
set_option linter.unusedSimpArgs false

set_option maxHeartbeats 4000000 in
set_option maxRecDepth 100000 in
theorem rollScans_any (A : Option Addr) (c : Nat) (l : List (List UInt8)) (f n : Int) (w : World) (hA : Sls w A l) (hs : ∀ s ∈ l, s.length = 64) (hcap : l.length ≤ c) (hl : l.length ≤ 9223372036854775807)
    (hf : -9223372036854775808 ≤ f ∧ f ≤ 9223372036854775807) (hn : -9223372036854775808 ≤ n ∧ n ≤ 9223372036854775807) :
    Calls Try.prog 11 #[.slice A l.length c, .agg (arV f n)] w fun e w' => e = .returned (.bool true) ∧ Below w.heap.size w w' := by
  have HA := Lib.hid hA
  have HS := Lib.hid hs
  have HC := Lib.hid hcap
  have HF := Lib.hid (And.intro hf hn)
  have HB0 := Lib.hid ((Below.refl w.heap.size w).alloc (Nat.le_refl _) (.cells (arV f n) 65))
  have HG0 := Lib.hid (heap_alloc_new w (.cells (arV f n) 65))
  have HSp := Lib.hid (speaks19_any (w.alloc (.cells (arV f n) 65)))
  have HGl := Lib.hid (show w.heap.size < (w.alloc (.cells (arV f n) 65)).heap.size by simp)
  clear hA hs hcap hf hn
  by_cases hout : 60 < l.length ∨ l.length = 0
  · by_cases h1 : 60 < l.length
    · have h1' : (60 : Int) < (l.length : Int) := by omega
      go_enter Try.func11, Try.ntmps11
      go_wp2_with (first
        | (go_at_call 39; refine HSp.out.mono ?_; rintro e w1 ⟨rfl, hb1⟩; have HB1 := Lib.hid (HB0.out.trans (hb1.mono HB0.out.size)); clear hb1))
      go_ret
      exact ⟨rfl, HB1.out⟩
    · have h1' : ¬ (60 : Int) < (l.length : Int) := by omega
      have h2' : (l.length : Int) = 0 := by omega
      go_enter Try.func11, Try.ntmps11
      go_wp2_with (first
        | (go_at_call 39; refine HSp.out.mono ?_; rintro e w1 ⟨rfl, hb1⟩; have HB1 := Lib.hid (HB0.out.trans (hb1.mono HB0.out.size)); clear hb1))
      go_ret
      exact ⟨rfl, HB1.out⟩
  have h1' : ¬ (60 : Int) < (l.length : Int) := by omega
  have h2' : ¬ (l.length : Int) = 0 := by omega
  have h3' : ((l.length : Int) == 0) = false := beq_false_of_ne h2'
  have h4' : decide ((60 : Int) < (l.length : Int)) = false := decide_eq_false h1'
  have HM := Lib.hid (show 0 < l.length ∧ l.length ≤ 60 by omega)
  clear hout
  go_enter Try.func11, Try.ntmps11
  go_wp2_with (first
    | (go_at_call 39; refine HSp.out.mono ?_; rintro e w1 ⟨rfl, hb1⟩; have HB1 := Lib.hid (HB0.out.trans (hb1.mono HB0.out.size)); have HG1 := Lib.hid ((hb1.block _ (lt_of_heap HG0.out)).trans HG0.out); clear hb1))
  refine (tNew l.length w1 (by have := HM.out; omega) (by have := HM.out; omega)).mono ?_
  rintro e w2 ⟨p, rfl, h2, hb2⟩
  have HB2 := Lib.hid (HB1.out.trans (hb2.mono HB1.out.size))
  have HG2 := Lib.hid ((hb2.block _ (lt_of_heap HG1.out)).trans HG1.out)
  obtain ⟨T, hT⟩ : ∃ T : Nat → Prop, T = fun k => w1.heap.size ≤ k := ⟨_, rfl⟩
  rw [← hT] at h2
  have HT := Lib.hid (show (∀ k, T k → w.heap.size ≤ k) ∧ ¬ T w.heap.size by
    rw [hT]
    exact ⟨fun k x => Nat.le_trans HB1.out.size x, fun x => by have := lt_of_heap HG1.out; have h : w1.heap.size ≤ w.heap.size := x; omega⟩)
  have H2 := Lib.hid h2
  have HD2 := Lib.hid (show (Dk.new l.length).now = layL l 0 ∧ (Dk.new l.length).pend.length = 0 ∧ (Dk.new l.length).down = false ∧ (Dk.new l.length).left = 0 from ⟨by unfold layL; rw [List.take_zero, List.nil_append, Nat.sub_zero]; rfl, rfl, rfl, rfl⟩)
  obtain ⟨d2, hd2⟩ : ∃ d2, d2 = Dk.new l.length := ⟨_, rfl⟩
  rw [← hd2] at H2 HD2
  clear h2 hb2 hT hd2 HG1 HB1 HB0 HG0
  go_wp2_with fail
  go_loopw [42] (fun t wr => ∃ (i : Nat) (d : Dk), t = .int .i64 i ∧ i ≤ l.length ∧ OwnT T wr p d ∧ (d.now = layL l i ∧ d.pend.length = i ∧ d.down = false ∧ d.left = 0) ∧ wr.heap[w.heap.size]? = some (.cells (arV f n) 65 (0, 0)) ∧ Below w.heap.size w wr) (fun t _ => l.length - (intOf t).toNat)
  case atStart => exact ⟨0, d2, rfl, Nat.zero_le _, H2.out, HD2.out, HG2.out, HB2.out⟩
  case round =>
    obtain ⟨i, d, rfl, hi, hO, hD, hG, hB⟩ := hrel
    have HO := Lib.hid hO
    have HD := Lib.hid hD
    have HG := Lib.hid hG
    have HB := Lib.hid hB
    clear hO hD hG hB H2 HD2 HG2 HB2
    have hl60 : (l.length : Int) ≤ 60 := by omega
    by_cases hlt : i < l.length
    · have hlt' : (i : Int) < (l.length : Int) := by omega
      obtain ⟨s, hs⟩ : ∃ s, l[i]? = some s := ⟨_, List.getElem?_eq_getElem hlt⟩
      have HG9 := Lib.hid hs
      have HSL := Lib.hid (HS.out s (List.mem_of_getElem? hs))
      obtain ⟨ba, oa, rfl, hba, hra⟩ := (HA.out.below HB.out).at_ hlt
      have HR := Lib.hid (hra i s hs)
      have HWr := Lib.hid (show d.write (i : Int) s = (d.put i s, 0) from Dk.write_up HD.out.2.2.1 HD.out.2.2.2 (by rw [HD.out.1, layL_len (by omega)]; exact hlt))
      clear hs hba hra
      go_wp2_with (first
        | (refine wpList_load_mid rfl _ _ rfl ba (oa + i * 64) rfl (bc s) _ HR.out Try.underlying40 rfl (sec_info2 s HSL.out) ?_)
        | (refine wpList_alloc_row rfl _ rfl (secv zs) (bc zs).toArray sec_zero rfl ?_)
        | (refine wpList_store_row rfl _ _ _ rfl _ (bc s).toArray rfl rfl 40 (bc zs).toArray (heap_alloc_new _ _) (sec_info' s HSL.out) (by rw [bc_size, bc_size, HSL.out]; rfl) (bc_all s) ?_
           rw [World.setRow_alloc_new])
        | (refine wpList_load_row rfl _ _ rfl wr.heap.size rfl 40 _ (0, 0) _ (heap_alloc_new _ _) Try.underlying40 rfl (sec_info' _ HSL.out) ?_)
        | (go_at_call 22
           refine (tWrite T p d (i : Int) s _ HSL.out (by have := HD.out.2.1; omega) (HO.out.alloc (.cells (bc s).toArray 40))).mono ?_
           rintro e w5 ⟨rfl, h5, hk5⟩
           rw [HWr.out] at h5
           have HO5 := Lib.hid h5
           have hka := ((Kp.refl T wr).alloc (.cells (bc s).toArray 40)).same hk5
           have HG5 := Lib.hid ((hka.block _ (lt_of_heap HG.out) HT.out.2).trans HG.out)
           have HB5 := Lib.hid (HB.out.trans (hka.below HB.out.size (fun k hk x => by have := HT.out.1 k x; omega)))
           clear h5 hk5 hka))
      go_roundw
      case rel => exact ⟨i + 1, d.put i s, by go_num, by omega, HO5.out, ⟨by show d.now.set i s = _; rw [HD.out.1, layL_set HG9.out], by show (d.pend ++ [(i, s)]).length = _; rw [List.length_append, HD.out.2.1]; rfl, HD.out.2.2.1, HD.out.2.2.2⟩, HG5.out, HB5.out⟩
      case measure => simp [intOf]; omega
    · obtain rfl : i = l.length := by omega
      have HSy := Lib.hid (Dk.sync_up HD.out.2.2.1)
      obtain ⟨d3, hd3⟩ : ∃ d3 : Dk, d3 = { d with good := d.now, pend := [] } := ⟨_, rfl⟩
      rw [← hd3] at HSy
      have HD3 := Lib.hid (show d3.now = l ∧ d3.pend = [] ∧ d3.down = false ∧ d3.left = 0 ∧ Frm d3 by rw [hd3]; exact ⟨by show d.now = l; rw [HD.out.1, layL_all], rfl, HD.out.2.2.1, HD.out.2.2.2, rfl, rfl⟩)
      have HAx := Lib.hid (show ∀ wx, Below w.heap.size w wx → Sls wx A l from fun wx hx => HA.out.below hx)
      clear hd3 hlt
      go_upto_region 12 with (first
        | (go_at_call 24
           refine (tSync T p d wr (by have := HD.out.2.1; omega) HO.out).mono ?_
           rintro e w5 ⟨rfl, h5, hk5⟩
           rw [HSy.out] at h5 ⊢
           have H5 := Lib.hid h5
           have HG5 := Lib.hid ((hk5.block _ (lt_of_heap HG.out) HT.out.2).trans HG.out)
           have HB5 := Lib.hid (HB.out.trans (hk5.below HB.out.size (fun k hk x => by have := HT.out.1 k x; omega)))
           clear h5 hk5))
      clear HO HD HG HB HSy
      by_cases hbad : f < 0 ∨ n < 1 ∨ (l.length : Int) - f < n
      · have HE := Lib.hid (areaE_1 (d := d3) (f := f) (n := n) HD3.out.2.2.1 (by rw [HD3.out.1]; exact hbad))
        go_upto_region 13 with (first
          | (refine wpList_load_row rfl _ _ rfl w.heap.size rfl 65 _ (0, 0) _ HG5.out Try.underlying65 rfl (area_info f n) ?_)
          | (go_at_call 40
             refine (scan_err p T d3 f n HF.out.1 w5 (by rw [HE.out]; decide) H5.out.1).mono ?_
             rintro e w6 ⟨rfl, hb6⟩
             rw [HE.out]
             have H6 := Lib.hid (H5.out.below hb6)
             have HG6 := Lib.hid ((hb6.block _ (lt_of_heap HG5.out)).trans HG5.out)
             have HB6 := Lib.hid (HB5.out.trans (hb6.mono HB5.out.size))
             clear hb6))
        have k0 := cell_of_row _ w.heap.size 0 _ _ (0, 0) HG6.out
        have k1 := cell_of_row _ w.heap.size 1 _ _ (0, 0) HG6.out
        by_cases c1 : f < 0
        · have e1 : decide (f < 0) = true := decide_eq_true c1
          clear hbad
          go_upto_region 14 with fail
          clear k0 k1
          go_wp2_with (first
            | (refine wpListG_load_row (by kernel_rfl) _ _ rfl w.heap.size rfl 65 _ (0, 0) _ HG7.out Try.underlying65 rfl (area_info f n) ?_)
            | (go_at_call 42
               refine (clear_any T p d3 f n HF.out.1 w7 (by rw [HD3.out.2.1]; simp) H7.out).mono ?_
               rintro e w8 ⟨rfl, -, hk8⟩
               rw [show (d3.clearA f n).2 = 1 from by unfold Dk.clearA; rw [if_neg (by rw [HE.out]; decide)]; exact HE.out]
               have HB8 := Lib.hid (HB7.out.trans (hk8.below HB7.out.size (fun k hk x => by have := HT.out.1 k x; omega)))
               clear hk8)
            | (go_at_call 41
               refine (ropen_err T p d3 f n HF.out.1 w6 (by rw [HE.out]; decide) H6.out).mono ?_
               rintro e w7 ⟨rfl, h7, hb7⟩
               rw [HE.out]
               have H7 := Lib.hid h7
               have HG7 := Lib.hid ((hb7.block _ (lt_of_heap HG6.out)).trans HG6.out)
               have HB7 := Lib.hid (HB6.out.trans (hb7.mono HB6.out.size))
               clear h7 hb7)
            | (refine wpList_load_row rfl _ _ rfl w.heap.size rfl 65 _ (0, 0) _ HG6.out Try.underlying65 rfl (area_info f n) ?_))
          go_ret
          exact ⟨rfl, HB8.out⟩
        have e1 : decide (f < 0) = false := decide_eq_false c1
        by_cases c2 : n < 1
        · have e2 : decide (n < 1) = true := decide_eq_true c2
          clear hbad
          go_upto_region 14 with fail
          clear k0 k1
          go_wp2_with (first
            | (refine wpListG_load_row (by kernel_rfl) _ _ rfl w.heap.size rfl 65 _ (0, 0) _ HG7.out Try.underlying65 rfl (area_info f n) ?_)
            | (go_at_call 42
               refine (clear_any T p d3 f n HF.out.1 w7 (by rw [HD3.out.2.1]; simp) H7.out).mono ?_
               rintro e w8 ⟨rfl, -, hk8⟩
               rw [show (d3.clearA f n).2 = 1 from by unfold Dk.clearA; rw [if_neg (by rw [HE.out]; decide)]; exact HE.out]
               have HB8 := Lib.hid (HB7.out.trans (hk8.below HB7.out.size (fun k hk x => by have := HT.out.1 k x; omega)))
               clear hk8)
            | (go_at_call 41
               refine (ropen_err T p d3 f n HF.out.1 w6 (by rw [HE.out]; decide) H6.out).mono ?_
               rintro e w7 ⟨rfl, h7, hb7⟩
               rw [HE.out]
               have H7 := Lib.hid h7
               have HG7 := Lib.hid ((hb7.block _ (lt_of_heap HG6.out)).trans HG6.out)
               have HB7 := Lib.hid (HB6.out.trans (hb7.mono HB6.out.size))
               clear h7 hb7)
            | (refine wpList_load_row rfl _ _ rfl w.heap.size rfl 65 _ (0, 0) _ HG6.out Try.underlying65 rfl (area_info f n) ?_))
          go_ret
          exact ⟨rfl, HB8.out⟩
        have e2 : decide (n < 1) = false := decide_eq_false c2
        by_cases c3 : (l.length : Int) < f
        · have e3 : decide ((l.length : Int) < f) = true := decide_eq_true c3
          clear hbad
          go_upto_region 14 with fail
          clear k0 k1
          go_wp2_with (first
            | (refine wpListG_load_row (by kernel_rfl) _ _ rfl w.heap.size rfl 65 _ (0, 0) _ HG7.out Try.underlying65 rfl (area_info f n) ?_)
            | (go_at_call 42
               refine (clear_any T p d3 f n HF.out.1 w7 (by rw [HD3.out.2.1]; simp) H7.out).mono ?_
               rintro e w8 ⟨rfl, -, hk8⟩
               rw [show (d3.clearA f n).2 = 1 from by unfold Dk.clearA; rw [if_neg (by rw [HE.out]; decide)]; exact HE.out]
               have HB8 := Lib.hid (HB7.out.trans (hk8.below HB7.out.size (fun k hk x => by have := HT.out.1 k x; omega)))
               clear hk8)
            | (go_at_call 41
               refine (ropen_err T p d3 f n HF.out.1 w6 (by rw [HE.out]; decide) H6.out).mono ?_
               rintro e w7 ⟨rfl, h7, hb7⟩
               rw [HE.out]
               have H7 := Lib.hid h7
               have HG7 := Lib.hid ((hb7.block _ (lt_of_heap HG6.out)).trans HG6.out)
               have HB7 := Lib.hid (HB6.out.trans (hb7.mono HB6.out.size))
               clear h7 hb7)
            | (refine wpList_load_row rfl _ _ rfl w.heap.size rfl 65 _ (0, 0) _ HG6.out Try.underlying65 rfl (area_info f n) ?_))
          go_ret
          exact ⟨rfl, HB8.out⟩
        have e3 : decide ((l.length : Int) < f) = false := decide_eq_false c3
        have c4 : (l.length : Int) - f < n := by omega
        have e4 : decide ((l.length : Int) - f < n) = true := decide_eq_true c4
        clear hbad
        go_upto_region 14 with fail
        clear k0 k1
        go_wp2_with (first
          | (refine wpListG_load_row (by kernel_rfl) _ _ rfl w.heap.size rfl 65 _ (0, 0) _ HG7.out Try.underlying65 rfl (area_info f n) ?_)
          | (go_at_call 42
             refine (clear_any T p d3 f n HF.out.1 w7 (by rw [HD3.out.2.1]; simp) H7.out).mono ?_
             rintro e w8 ⟨rfl, -, hk8⟩
             rw [show (d3.clearA f n).2 = 1 from by unfold Dk.clearA; rw [if_neg (by rw [HE.out]; decide)]; exact HE.out]
             have HB8 := Lib.hid (HB7.out.trans (hk8.below HB7.out.size (fun k hk x => by have := HT.out.1 k x; omega)))
             clear hk8)
          | (go_at_call 41
             refine (ropen_err T p d3 f n HF.out.1 w6 (by rw [HE.out]; decide) H6.out).mono ?_
             rintro e w7 ⟨rfl, h7, hb7⟩
             rw [HE.out]
             have H7 := Lib.hid h7
             have HG7 := Lib.hid ((hb7.block _ (lt_of_heap HG6.out)).trans HG6.out)
             have HB7 := Lib.hid (HB6.out.trans (hb7.mono HB6.out.size))
             clear h7 hb7)
          | (refine wpList_load_row rfl _ _ rfl w.heap.size rfl 65 _ (0, 0) _ HG6.out Try.underlying65 rfl (area_info f n) ?_))
        go_ret
        exact ⟨rfl, HB8.out⟩
      · obtain ⟨f', rfl⟩ : ∃ f' : Nat, f = (f' : Int) := ⟨f.toNat, by omega⟩
        obtain ⟨n', rfl⟩ : ∃ n' : Nat, n = (n' : Int) := ⟨n.toNat, by omega⟩
        have HX := Lib.hid (show f' + n' ≤ l.length ∧ 0 < n' by omega)
        have hf60 : (f' : Int) ≤ 60 := by have := HX.out; omega
        have hn60 : (n' : Int) ≤ 60 := by have := HX.out; omega
        have e1 : decide ((f' : Int) < 0) = false := decide_eq_false (by omega)
        have e2 : decide ((n' : Int) < 1) = false := decide_eq_false (by omega)
        have e3 : decide ((l.length : Int) < (f' : Int)) = false := decide_eq_false (by omega)
        have e4 : decide ((l.length : Int) - (f' : Int) < (n' : Int)) = false := decide_eq_false (by omega)
        have c3 : f' ≤ l.length := by have := HX.out; omega
        obtain ⟨sub, hsub⟩ : ∃ sub, sub = (l.drop f').take n' := ⟨_, rfl⟩
        have HSu := Lib.hid hsub
        have HSL := Lib.hid (show sub.length = n' by rw [hsub, List.length_take, List.length_drop]; have := HX.out; omega)
        have HSA := Lib.hid (show areaL d3 f' n' = sub by unfold areaL; rw [HD3.out.1, hsub])
        have HSS := Lib.hid (show ∀ s ∈ sub, s.length = 64 from fun s hs => HS.out s (by rw [hsub] at hs; exact List.mem_of_mem_drop (List.mem_of_mem_take hs)))
        have hcut : ∀ w9, (Instr.slice 63 (.slice A l.length c) (some (.int .i64 (f' : Int))) (some (.int .i64 ((f' : Int) + (n' : Int)))) none).run Try.prog w9 = .ok (.slice (cut64 A f' c) sub.length (c - f')) w9 := fun w9 => by
          have h := slice_mid64 A l.length c f' (f' + n') (by omega) (by have := HX.out; have := HC.out; omega) w9
          rwa [show f' + n' - f' = sub.length by have := HSL.out; omega, Int.natCast_add] at h
        clear hsub hbad
        go_upto_region 13 with (first
          | (refine wpList_load_row rfl _ _ rfl w.heap.size rfl 65 _ (0, 0) _ HG5.out Try.underlying65 rfl (area_info _ _) ?_)
          | (go_at_call 40
             refine (scan_ok p T d3 f' n' w5 HD3.out.2.2.1 HX.out.2 (by rw [HD3.out.1]; exact HX.out.1) H5.out.1).mono ?_
             rintro e w6 ⟨hb6, es, vs6, A6, c6, r, hsc, hrl, rfl, he6⟩
             rw [HSA.out] at hsc
             obtain ⟨m, hm⟩ : ∃ m, m = (flE es).length := ⟨_, rfl⟩
             have HMe := Lib.hid hm
             have HMr := Lib.hid (show m + r.length = n' by have h := congrArg List.length hsc.1; rw [List.length_append, HSL.out] at h; rw [hm]; unfold flE; omega)
             rw [show ((n' : Nat) : Int) - (r.length : Int) = (m : Int) by have := HMr.out; omega]
             have HSc := Lib.hid hsc
             have HE6 := Lib.hid he6
             have HG6 := Lib.hid ((hb6.block _ (lt_of_heap HG5.out)).trans HG5.out)
             have HB56 := Lib.hid hb6
             have HB6 := Lib.hid (HB5.out.trans (hb6.mono HB5.out.size))
             clear hb6 hsc hrl he6 hm))
        have HEl := Lib.hid (show es.length ≤ 100000 by have h1 := flE_le es; have := HMe.out; have := HMr.out; have := HX.out; omega)
        have HRS := Lib.hid (rscan_any (cut64 A f' c) (c - f') sub w6 (by have h := ((HA.out.below HB6.out).drop (n := f') (cap := c) (by have := HX.out; omega) HC.out).take n'; rw [← HSu.out] at h; exact h) HSS.out (by rw [HSL.out]; have := HX.out; have := HC.out; omega) (by rw [HSL.out]; have := HX.out; omega))
        have k0 := cell_of_row _ w.heap.size 0 _ _ (0, 0) HG6.out
        have k1 := cell_of_row _ w.heap.size 1 _ _ (0, 0) HG6.out
        have hm60 : (m : Int) ≤ 60 := by have := HMr.out; omega
        go_upto_region 17 with (first
          | (go_at_call 43
             refine HRS.out.mono ?_
             rintro e w7 ⟨hb7, es', vs7, A7, c7, r', hsc', rfl, he7⟩
             obtain ⟨rfl, rfl⟩ := scn_unique hsc' HSc.out
             rw [← HMe.out]
             have HE7 := Lib.hid he7
             have HB67 := Lib.hid hb7
             have HE6b := Lib.hid (HE6.out.read.toA.below hb7)
             clear hb7 hsc' he7))
        clear k0 k1 hcut HRS HE6
        go_upto_region 19 with (first
          | (go_at_call 44
             refine (same19_any A6 A7 c6 c7 es' es' w7 HE6b.out HE7.out.read.toA HEl.out HEl.out).mono ?_
             rintro e w8 ⟨rfl, hb8⟩
             rw [decide_eq_true (rfl : es' = es')]
             have HE8 := Lib.hid (HE7.out.below hb8)
             have HB58 := Lib.hid ((HB56.out.trans (HB67.out.mono HB56.out.size)).trans (hb8.mono (Nat.le_trans HB56.out.size HB67.out.size)))
             have HB68 := Lib.hid hb8.size
             clear hb8))
        have HB8 := Lib.hid (HB5.out.trans (HB58.out.mono HB5.out.size))
        have HG8 := Lib.hid ((HB58.out.block _ (lt_of_heap HG5.out)).trans HG5.out)
        have h8 := H5.out.now HB58.out
        obtain ⟨T8, hT8⟩ : ∃ T8 : Nat → Prop, T8 = fun k => T k ∧ (k < w5.heap.size ∨ w8.heap.size ≤ k) := ⟨_, rfl⟩
        rw [← hT8] at h8
        have H8 := Lib.hid h8
        have HT8 := Lib.hid (show (∀ k, T8 k → w.heap.size ≤ k) ∧ ¬ T8 w.heap.size ∧ ∀ k, w6.heap.size ≤ k → k < w8.heap.size → ¬ T8 k by
          rw [hT8]
          exact ⟨fun k x => HT.out.1 k x.1, fun x => HT.out.2 x.1, fun k h1 h2 x => by have := HB56.out.size; rcases x.2 with y | y <;> omega⟩)
        clear h8 hT8 HB67 HB68 H5 HG5 HE6b HE7 HG6 HB6 HB56 HB58
        have HPl := Lib.hid (show (l.take f').length = f' by rw [List.length_take]; omega)
        obtain ⟨P, hP⟩ : ∃ P, P = l.take f' := ⟨_, rfl⟩
        obtain ⟨R, hR⟩ : ∃ R, R = l.drop (f' + n') := ⟨_, rfl⟩
        have HLd := Lib.hid (show l = P ++ (flE es' ++ (r' ++ R)) by
          have h1 : sub = flE es' ++ r' := HSc.out.1
          rw [← List.append_assoc (flE es'), ← h1, HSu.out, hP, hR, ← List.drop_drop, List.take_append_drop, List.take_append_drop])
        have HSc2 := Lib.hid (show Scn (flE es' ++ r') es' r' by have h := HSc.out; rwa [show sub = flE es' ++ r' from h.1] at h)
        rw [← hP] at HPl
        clear hP hR HSc HSu HSA
        go_upto_region 20 with (first
          | (go_at_call 41
             obtain ⟨d4, ⟨hst4, hfr4⟩, hop⟩ := rol_scn w.heap.size T8 p d3 P R es' r' f' n' w8 HD3.out.2.2.1 HD3.out.2.2.2.1 (by rw [HD3.out.1]; have := HM.out; omega) (by rw [HD3.out.1]; exact HLd.out) HSc2.out HPl.out.symm (by rw [← HMe.out]; exact HMr.out.symm) HX.out.2 (by rw [HD3.out.2.1]; simp) HT8.out.1 HB8.out.size H8.out
             refine hop.mono ?_
             rintro e w9 ⟨hk9, q, A9, c9, vs9, U9, rfl, hr9, he9, hq9, hu9⟩
             obtain ⟨T9, hT9⟩ : ∃ T9 : Nat → Prop, T9 = fun k => T8 k ∧ ¬ U9 k := ⟨_, rfl⟩
             rw [← hT9] at hr9
             have HR9 := Lib.hid hr9
             have HE9 := Lib.hid he9.read.toA
             have HW9 := Lib.hid (HE8.out.keep hk9 (fun k h1 h2 => HT8.out.2.2 k h1 h2)).read.toA
             have HS4 := Lib.hid hst4
             have HF4 := Lib.hid (hfr4 HD3.out.2.2.2.2)
             have HG9 := Lib.hid ((hk9.block _ (lt_of_heap HG8.out) HT8.out.2.1).trans HG8.out)
             have HB9 := Lib.hid (HB8.out.trans (hk9.below HB8.out.size (fun k hk x => by have := HT8.out.1 k x; omega)))
             have HT9 := Lib.hid (show ¬ T9 w.heap.size by rw [hT9]; exact fun x => HT8.out.2.1 x.1)
             clear hk9 hr9 he9 hq9 hu9 hT9 hst4 hfr4 hop)
          | (refine wpList_load_row rfl _ _ rfl w.heap.size rfl 65 _ (0, 0) _ HG8.out Try.underlying65 rfl (area_info _ _) ?_))
        clear H8 HE8 HG8 HB8 HT8 HSc2
        have hsub9 : IntKind.i64.wrap ((n' : Int) - (m : Int)) = (n' : Int) - (m : Int) := by have := HMr.out; simp [IntKind.wrap, IntKind.signed, IntKind.bits]; omega
        have HWr := Lib.hid hsub9
        have HLe := Lib.hid (show ((f' + n' - (f' + (flE es').length) : Nat) : Int) = (n' : Int) - (m : Int) by rw [← HMe.out]; have := HMr.out; omega)
        clear hsub9
        refine wp_region_held_drew (S := fun W => Below w9.heap.size w9 W) (by kernel_rfl) (below_drew (Below.refl _ _)) (fun hHeld => ?_)
        refine wpAnyH_take (i := 0) (oi := ⟨_, _, _, _, _, _⟩) (v := ?_) rfl (by kernel_rfl) (by kernel_rfl) (by kernel_rfl) (fun _ _ _ h => h) (Or.inl ⟨by kernel_rfl, ?_⟩) hHeld ?_
        rotate_left 1
        · intro W hW; first | (go_simp; done) | (go_simp; with_reducible rfl)
        try simp only [Act.put, List.setIfInBounds_toArray, List.set_cons_zero, List.set_cons_succ]
        refine wpAnyH_take (i := 1) (oi := ⟨_, _, _, _, _, _⟩) (v := ?_) rfl (by kernel_rfl) (by kernel_rfl) (by kernel_rfl) (fun _ _ _ h => h) (Or.inl ⟨by kernel_rfl, ?_⟩) hHeld ?_
        rotate_left 1
        · intro W hW; first | (go_simp; done) | (go_simp; with_reducible rfl)
        try simp only [Act.put, List.setIfInBounds_toArray, List.set_cons_zero, List.set_cons_succ]
        refine wpAnyH_take (i := 2) (oi := ⟨_, _, _, _, _, _⟩) (v := ?_) rfl (by kernel_rfl) (by kernel_rfl) (by kernel_rfl) (fun _ _ _ h => h) (Or.inl ⟨by kernel_rfl, ?_⟩) hHeld ?_
        rotate_left 1
        · intro W hW; first | (go_simp; done) | (go_simp; with_reducible rfl)
        try simp only [Act.put, List.setIfInBounds_toArray, List.set_cons_zero, List.set_cons_succ]
        refine wpAnyH_take (i := 3) (oi := ⟨_, _, _, _, _, _⟩) (v := ?_) rfl (by kernel_rfl) (by kernel_rfl) (by kernel_rfl) (fun _ _ _ h => h) (Or.inl ⟨by kernel_rfl, ?_⟩) hHeld ?_
        rotate_left 1
        · intro W hW; first | (go_simp; done) | (go_simp; with_reducible rfl)
        try simp only [Act.put, List.setIfInBounds_toArray, List.set_cons_zero, List.set_cons_succ]
        refine wpAnyH_take (i := 4) (oi := ⟨_, _, _, _, _, _⟩) (v := ?_) rfl (by kernel_rfl) (by kernel_rfl) (by kernel_rfl) (fun _ _ _ h => h) (Or.inl ⟨by kernel_rfl, ?_⟩) hHeld ?_
        rotate_left 1
        · intro W hW; first | (go_simp; done) | (go_simp; with_reducible rfl)
        try simp only [Act.put, List.setIfInBounds_toArray, List.set_cons_zero, List.set_cons_succ]
        refine wpAnyH_take (i := 5) (oi := ⟨_, _, _, _, _, _⟩) (v := ?_) rfl (by kernel_rfl) (by kernel_rfl) (by kernel_rfl) (fun _ _ _ h => h) (Or.inl ⟨by kernel_rfl, ?_⟩) hHeld ?_
        rotate_left 1
        · intro W hW; first | (go_simp; done) | (go_simp; with_reducible rfl)
        try simp only [Act.put, List.setIfInBounds_toArray, List.set_cons_zero, List.set_cons_succ]
        refine wpAnyH_take (i := 6) (oi := ⟨_, _, _, _, _, _⟩) (v := ?_) rfl (by kernel_rfl) (by kernel_rfl) (by kernel_rfl) (fun _ _ _ h => h) (Or.inl ⟨by kernel_rfl, ?_⟩) hHeld ?_
        rotate_left 1
        · intro W hW; first | (go_simp; done) | (go_simp; with_reducible rfl)
        try simp only [Act.put, List.setIfInBounds_toArray, List.set_cons_zero, List.set_cons_succ]
        refine wpAnyH_take (i := 7) (oi := ⟨_, _, _, _, _, _⟩) (v := ?_) rfl (by kernel_rfl) (by kernel_rfl) (by kernel_rfl) (fun _ _ _ h => h) (Or.inl ⟨by kernel_rfl, ?_⟩) hHeld ?_
        rotate_left 1
        · intro W hW; first | (go_simp; done) | (go_simp; with_reducible rfl)
        try simp only [Act.put, List.setIfInBounds_toArray, List.set_cons_zero, List.set_cons_succ]
        refine wpAnyH_take (i := 8) (oi := ⟨_, _, _, _, _, _⟩) (v := ?_) rfl (by kernel_rfl) (by kernel_rfl) (by kernel_rfl) (fun _ _ _ h => h) (Or.inl ⟨by kernel_rfl, ?_⟩) hHeld ?_
        rotate_left 1
        · intro W hW; first | (go_simp; done) | (go_simp; with_reducible rfl)
        try simp only [Act.put, List.setIfInBounds_toArray, List.set_cons_zero, List.set_cons_succ]
        refine wpAnyH_ready (rs := [9]) (by kernel_rfl) (by simp) ?_
        refine AllReadyH.cons rfl (fun K hK => ?_) AllReadyH.nil
        rw [if_pos (by kernel_rfl)]
        go_simp
        refine (same19_any A9 A7 c9 c7 es' es' _ (HE9.out.below hHeld) (HW9.out.below hHeld) HEl.out HEl.out).mono ?_
        rintro e wv ⟨rfl, hbv⟩
        rw [decide_eq_true (rfl : es' = es')]
        go_wp2_with fail
        refine hK.out _ _ ?_ (fun hHelda => ?_)
        · exact hHeld.trans (hbv.mono hHeld.size)
        clear hK K
        try simp only [Act.put, List.setIfInBounds_toArray, List.set_cons_zero, List.set_cons_succ]
        clear hbv
        refine wpAnyH_take (i := 10) (oi := ⟨_, _, _, _, _, _⟩) (v := ?_) rfl (by kernel_rfl) (by kernel_rfl) (by kernel_rfl) (fun _ _ _ h => h) (Or.inl ⟨by kernel_rfl, ?_⟩) hHelda ?_
        rotate_left 1
        · intro W hW; first | (go_simp; done) | (go_simp; with_reducible rfl)
        try simp only [Act.put, List.setIfInBounds_toArray, List.set_cons_zero, List.set_cons_succ]
        refine wpAnyH_take (i := 11) (oi := ⟨_, _, _, _, _, _⟩) (v := ?_) rfl (by kernel_rfl) (by kernel_rfl) (by kernel_rfl) (fun _ _ _ h => h) (Or.inl ⟨by kernel_rfl, ?_⟩) hHelda ?_
        rotate_left 1
        · intro W hW; first | (go_simp; done) | (go_simp; with_reducible rfl)
        try simp only [Act.put, List.setIfInBounds_toArray, List.set_cons_zero, List.set_cons_succ]
        refine wpAnyH_take (i := 12) (oi := ⟨_, _, _, _, _, _⟩) (v := ?_) rfl (by kernel_rfl) (by kernel_rfl) (by kernel_rfl) (fun _ _ _ h => h) (Or.inl ⟨by kernel_rfl, ?_⟩) hHelda ?_
        rotate_left 1
        · intro W hW; first | (go_simp; done) | (go_simp; with_reducible rfl)
        try simp only [Act.put, List.setIfInBounds_toArray, List.set_cons_zero, List.set_cons_succ]
        refine wpAnyH_take (i := 13) (oi := ⟨_, _, _, _, _, _⟩) (v := ?_) rfl (by kernel_rfl) (by kernel_rfl) (by kernel_rfl) (fun _ _ _ h => h) (Or.inl ⟨by kernel_rfl, ?_⟩) hHelda ?_
        rotate_left 1
        · intro W hW; first | (go_simp; done) | (go_simp; with_reducible rfl)
        try simp only [Act.put, List.setIfInBounds_toArray, List.set_cons_zero, List.set_cons_succ]
        refine wpAnyH_take (i := 15) (oi := ⟨_, _, _, _, _, _⟩) (v := ?_) rfl (by kernel_rfl) (by kernel_rfl) (by kernel_rfl) (fun _ _ _ h => h) (Or.inl ⟨by kernel_rfl, ?_⟩) hHelda ?_
        rotate_left 1
        · intro W hW; first | (go_simp; done) | (go_simp; with_reducible rfl)
        try simp only [Act.put, List.setIfInBounds_toArray, List.set_cons_zero, List.set_cons_succ]
        refine wpAnyH_take (i := 16) (oi := ⟨_, _, _, _, _, _⟩) (v := ?_) rfl (by kernel_rfl) (by kernel_rfl) (by kernel_rfl) (fun _ _ _ h => h) (Or.inl ⟨by kernel_rfl, ?_⟩) hHelda ?_
        rotate_left 1
        · intro W hW; have k0 :=  cell_of_row W w.heap.size 1 _ _ (0, 0) ((hW.block _ (lt_of_heap HG9.out)).trans HG9.out); first | (go_simp; done) | (go_simp; with_reducible rfl)
        try simp only [Act.put, List.setIfInBounds_toArray, List.set_cons_zero, List.set_cons_succ]
        refine wpAnyH_take (i := 17) (oi := ⟨_, _, _, _, _, _⟩) (v := ?_) rfl (by kernel_rfl) (by kernel_rfl) (by kernel_rfl) (fun _ _ _ h => h) (Or.inl ⟨by kernel_rfl, ?_⟩) hHelda ?_
        rotate_left 1
        · intro W hW; first | (go_simp; done) | (go_simp; with_reducible rfl)
        try simp only [Act.put, List.setIfInBounds_toArray, List.set_cons_zero, List.set_cons_succ]
        refine wpAnyH_take (i := 18) (oi := ⟨_, _, _, _, _, _⟩) (v := ?_) rfl (by kernel_rfl) (by kernel_rfl) (by kernel_rfl) (fun _ _ _ h => h) (Or.inl ⟨by kernel_rfl, ?_⟩) hHelda ?_
        rotate_left 1
        · intro W hW; have k0 :=  HWr.out; first | (go_simp; done) | (go_simp; with_reducible rfl)
        try simp only [Act.put, List.setIfInBounds_toArray, List.set_cons_zero, List.set_cons_succ]
        refine wpAnyH_ready (rs := [14]) (by kernel_rfl) (by simp) ?_
        refine AllReadyH.cons rfl (fun K hK => ?_) AllReadyH.nil
        rw [if_pos (by kernel_rfl)]
        go_simp
        refine (left_any q p _ _ _ (HR9.out.box.below hHelda) (by have := HMe.out; have := HMr.out; omega) (by have := HX.out; have := HM.out; omega)).mono ?_
        rintro e wv ⟨rfl, hbv⟩
        rw [HLe.out]
        go_wp2_with fail
        refine hK.out _ _ ?_ (fun hHeldaa => ?_)
        · exact hHelda.trans (hbv.mono hHelda.size)
        clear hK K
        try simp only [Act.put, List.setIfInBounds_toArray, List.set_cons_zero, List.set_cons_succ]
        clear hbv
        refine wpAnyH_take (i := 19) (oi := ⟨_, _, _, _, _, _⟩) (v := ?_) rfl (by kernel_rfl) (by kernel_rfl) (by kernel_rfl) (fun _ _ _ h => h) (Or.inl ⟨by kernel_rfl, ?_⟩) hHeldaa ?_
        rotate_left 1
        · intro W hW; first | (go_simp; done) | (go_simp; with_reducible rfl)
        try simp only [Act.put, List.setIfInBounds_toArray, List.set_cons_zero, List.set_cons_succ]
        refine wpAnyH_take (i := 20) (oi := ⟨_, _, _, _, _, _⟩) (v := ?_) rfl (by kernel_rfl) (by kernel_rfl) (by kernel_rfl) (fun _ _ _ h => h) (Or.inl ⟨by kernel_rfl, ?_⟩) hHeldaa ?_
        rotate_left 1
        · intro W hW; first | (go_simp; done) | (go_simp; with_reducible rfl)
        try simp only [Act.put, List.setIfInBounds_toArray, List.set_cons_zero, List.set_cons_succ]
        refine wpAnyH_done (by kernel_rfl) ?_ _
        have HKz := Lib.hid hHeldaa
        clear hHeldaa
        have HS5 := Lib.hid (HS4.out.crash HF4.out [])
        obtain ⟨d5, hd5⟩ : ∃ d5, d5 = d4.crash [] := ⟨_, rfl⟩
        have HD5 := Lib.hid hd5
        rw [← hd5] at HS5
        clear hd5
        rename_i wz _
        go_wp2_with (first
          | (go_at_call 26
             refine (show Calls Try.prog 26 #[.pointer (some ⟨p, 0, none⟩), .slice none 0 0] _ _ from tCrash T9 p d4 none 0 [] _ (by rw [HF4.out.2]; simp) (by simp) (.inl rfl) (fun h => absurd rfl h) (HR9.out.own.below HKz.out)).mono ?_
             rintro e w11 ⟨⟨v11, rfl⟩, h11, hk11⟩
             rw [← HD5.out] at h11
             have HO11 := Lib.hid h11
             have HG11 := Lib.hid ((hk11.block _ (Nat.lt_of_lt_of_le (lt_of_heap HG9.out) HKz.out.size) HT9.out).trans ((HKz.out.block _ (lt_of_heap HG9.out)).trans HG9.out))
             have HB11 := Lib.hid ((HB9.out.trans (HKz.out.mono HB9.out.size)).trans (hk11.below (Nat.le_trans HB9.out.size HKz.out.size) (fun k hk x => by have := HR9.out.low k x; omega)))
             clear h11 hk11))
        clear HKz HE9 HW9 HR9 HG9 HB9 HS4 HF4 HT9 HWr HLe
        go_loopw [168] (fun t wr => ∃ i : Nat, t = .int .i64 i ∧ i ≤ l.length ∧ Below w11.heap.size w11 wr) (fun t _ => l.length - (intOf t).toNat)
        case atStart => exact ⟨0, rfl, Nat.zero_le _, Below.refl _ _⟩
        case round =>
          obtain ⟨i, rfl, hi, hbi⟩ := hrel
          have HBi := Lib.hid hbi
          clear hbi
          by_cases hlt : i < l.length
          · have hlt' : (i : Int) < (l.length : Int) := by omega
            obtain ⟨s, hs⟩ : ∃ s, l[i]? = some s := ⟨_, List.getElem?_eq_getElem hlt⟩
            have HSl := Lib.hid (HS.out s (List.mem_of_getElem? hs))
            obtain ⟨ba, oa, rfl, hba, hra⟩ := (HA.out.below (HB11.out.trans (HBi.out.mono HB11.out.size))).at_ hlt
            have HRa := Lib.hid (hra i s hs)
            have HRq := Lib.hid (read_opened HS5.out.1 HLd.out hs)
            have hk := (((Below.refl wr.heap.size wr).alloc (Nat.le_refl _) (.cells (bc s).toArray 40)).block _ (Nat.lt_of_lt_of_le (lt_of_heap HG11.out) HBi.out.size)).trans ((HBi.out.block _ (lt_of_heap HG11.out)).trans HG11.out)
            have k0 := cell_of_row _ w.heap.size 0 _ _ (0, 0) hk
            have k1 := cell_of_row _ w.heap.size 1 _ _ (0, 0) hk
            clear hs hba hra hk
            go_upto_region 26 with (first
              | (refine wpList_load_mid rfl _ _ rfl ba (oa + i * 64) rfl (bc s) _ HRa.out Try.underlying40 rfl (sec_info2 s HSl.out) ?_)
              | (refine wpList_alloc_row rfl _ rfl (secv zs) (bc zs).toArray sec_zero rfl ?_)
              | (refine wpList_store_row rfl _ _ _ rfl _ (bc s).toArray rfl rfl 40 (bc zs).toArray (heap_alloc_new _ _) (sec_info' s HSl.out) (by rw [bc_size, bc_size, HSl.out]; rfl) (bc_all s) ?_
                 rw [World.setRow_alloc_new]))
            by_cases hin : f' + m ≤ i ∧ i < f' + n'
            · have c5 : f' + m ≤ i := hin.1
              have c6 : i < f' + n' := hin.2
              have c5' : (f' : Int) + (m : Int) ≤ (i : Int) := by omega
              have c6' : (i : Int) < (f' : Int) + (n' : Int) := by omega
              obtain ⟨t, ht⟩ : ∃ t, t = zs := ⟨_, rfl⟩
              have HTl := Lib.hid (show t.length = 64 by rw [ht]; rfl)
              have HRd := Lib.hid (show d5.readS (i : Int) = t by rw [HRq.out, if_pos (by rw [HPl.out, ← HMe.out]; have := HMr.out; omega), ht])
              have heq : ∀ w, (binOp .neq 40 (secv t) (secv t)).run Try.prog w = .ok (.bool false) w := fun w => by rw [sec_ne t t HTl.out HTl.out w]; simp
              have HTz := Lib.hid ht
              clear ht hin
              go_upto_region 28 with (first
                | (refine wpList_build_row rfl _ #[] rfl (bc t).toArray (by rw [HTz.out]; kernel_rfl) ?_)
                | (refine wpList_store_row rfl _ _ _ rfl _ (bc t).toArray rfl rfl 40 (bc s).toArray (heap_alloc_new _ _) (sec_info' t HTl.out) (by rw [bc_size, bc_size, HTl.out, HSl.out]) (bc_all t) ?_
                   rw [World.setRow_alloc_new]))
              go_wp2_with (first
                | (refine wpList_load_row rfl _ _ rfl w12.heap.size rfl 40 _ (0, 0) _ (heap_alloc_new _ _) Try.underlying40 rfl (sec_info' _ HTl.out) ?_)
                | (refine wpList_load_row rfl _ _ rfl wr.heap.size rfl 40 _ (0, 0) _ ((((Below.refl _ w12).alloc (Nat.le_refl _) _).block _ (lt_of_heap HX12.out)).trans HX12.out) Try.underlying40 rfl (sec_info' _ HTl.out) ?_)
                | (refine wpList_store_row rfl _ _ _ rfl _ (bc t).toArray rfl rfl 40 (bc zs).toArray (heap_alloc_new _ _) (sec_info' t HTl.out) (by rw [bc_size, bc_size, HTl.out]; rfl) (bc_all t) ?_
                   rw [World.setRow_alloc_new])
                | (go_at_call 25
                   refine (tRead T9 p d5 (i : Int) _ ((HO11.out.below HBi.out).alloc (.cells (bc t).toArray 40))).mono ?_
                   rintro e w12 ⟨rfl, hb12⟩
                   rw [HRd.out]
                   have HX12 := Lib.hid ((hb12.block _ (by simp)).trans (heap_alloc_new wr (.cells (bc t).toArray 40)))
                   have HB12 := Lib.hid (HBi.out.trans (((Below.refl wr.heap.size wr).alloc (Nat.le_refl _) (.cells (bc t).toArray 40)).trans (hb12.mono (by simp)) |>.mono HBi.out.size))
                   clear hb12 k0 k1)
                | (refine wpList_alloc_row rfl _ rfl (secv zs) (bc zs).toArray sec_zero rfl ?_))
              go_roundw
              case rel => exact ⟨i + 1, by go_num, by omega, HB12.out.alloc (by have := HB12.out.size; omega) _⟩
              case measure => simp [intOf]; omega
            · have HTl0 := HSl
              obtain ⟨t, ht⟩ : ∃ t, t = s := ⟨_, rfl⟩
              have HRd := Lib.hid (show d5.readS (i : Int) = t by rw [HRq.out, if_neg (by rw [HPl.out, ← HMe.out]; have := HMr.out; omega), ht])
              have HTl := Lib.hid (show t.length = 64 by rw [ht]; exact HSl.out)
              have heq : ∀ w, (binOp .neq 40 (secv t) (secv t)).run Try.prog w = .ok (.bool false) w := fun w => by rw [sec_ne t t HTl.out HTl.out w]; simp
              subst ht
              by_cases c5 : f' + m ≤ i
              · have c6 : ¬ i < f' + n' := fun x => hin ⟨c5, x⟩
                have c5' : (f' : Int) + (m : Int) ≤ (i : Int) := by omega
                have c6' : ¬ (i : Int) < (f' : Int) + (n' : Int) := by omega
                clear hin
                go_upto_region 28 with fail
                go_wp2_with (first
                  | (refine wpList_load_row rfl _ _ rfl w12.heap.size rfl 40 _ (0, 0) _ (heap_alloc_new _ _) Try.underlying40 rfl (sec_info' _ HTl.out) ?_)
                  | (refine wpList_load_row rfl _ _ rfl wr.heap.size rfl 40 _ (0, 0) _ ((((Below.refl _ w12).alloc (Nat.le_refl _) _).block _ (lt_of_heap HX12.out)).trans HX12.out) Try.underlying40 rfl (sec_info' _ HTl.out) ?_)
                  | (refine wpList_store_row rfl _ _ _ rfl _ (bc t).toArray rfl rfl 40 (bc zs).toArray (heap_alloc_new _ _) (sec_info' t HTl.out) (by rw [bc_size, bc_size, HTl.out]; rfl) (bc_all t) ?_
                     rw [World.setRow_alloc_new])
                  | (go_at_call 25
                     refine (tRead T9 p d5 (i : Int) _ ((HO11.out.below HBi.out).alloc (.cells (bc t).toArray 40))).mono ?_
                     rintro e w12 ⟨rfl, hb12⟩
                     rw [HRd.out]
                     have HX12 := Lib.hid ((hb12.block _ (by simp)).trans (heap_alloc_new wr (.cells (bc t).toArray 40)))
                     have HB12 := Lib.hid (HBi.out.trans (((Below.refl wr.heap.size wr).alloc (Nat.le_refl _) (.cells (bc t).toArray 40)).trans (hb12.mono (by simp)) |>.mono HBi.out.size))
                     clear hb12 k0 k1)
                  | (refine wpList_alloc_row rfl _ rfl (secv zs) (bc zs).toArray sec_zero rfl ?_))
                go_roundw
                case rel => exact ⟨i + 1, by go_num, by omega, HB12.out.alloc (by have := HB12.out.size; omega) _⟩
                case measure => simp [intOf]; omega
              · have c5' : ¬ (f' : Int) + (m : Int) ≤ (i : Int) := by omega
                clear hin
                go_upto_region 28 with fail
                go_wp2_with (first
                  | (refine wpList_load_row rfl _ _ rfl w12.heap.size rfl 40 _ (0, 0) _ (heap_alloc_new _ _) Try.underlying40 rfl (sec_info' _ HTl.out) ?_)
                  | (refine wpList_load_row rfl _ _ rfl wr.heap.size rfl 40 _ (0, 0) _ ((((Below.refl _ w12).alloc (Nat.le_refl _) _).block _ (lt_of_heap HX12.out)).trans HX12.out) Try.underlying40 rfl (sec_info' _ HTl.out) ?_)
                  | (refine wpList_store_row rfl _ _ _ rfl _ (bc t).toArray rfl rfl 40 (bc zs).toArray (heap_alloc_new _ _) (sec_info' t HTl.out) (by rw [bc_size, bc_size, HTl.out]; rfl) (bc_all t) ?_
                     rw [World.setRow_alloc_new])
                  | (go_at_call 25
                     refine (tRead T9 p d5 (i : Int) _ ((HO11.out.below HBi.out).alloc (.cells (bc t).toArray 40))).mono ?_
                     rintro e w12 ⟨rfl, hb12⟩
                     rw [HRd.out]
                     have HX12 := Lib.hid ((hb12.block _ (by simp)).trans (heap_alloc_new wr (.cells (bc t).toArray 40)))
                     have HB12 := Lib.hid (HBi.out.trans (((Below.refl wr.heap.size wr).alloc (Nat.le_refl _) (.cells (bc t).toArray 40)).trans (hb12.mono (by simp)) |>.mono HBi.out.size))
                     clear hb12 k0 k1)
                  | (refine wpList_alloc_row rfl _ rfl (secv zs) (bc zs).toArray sec_zero rfl ?_))
                go_roundw
                case rel => exact ⟨i + 1, by go_num, by omega, HB12.out.alloc (by have := HB12.out.size; omega) _⟩
                case measure => simp [intOf]; omega
          · obtain rfl : i = l.length := by omega
            go_wp2_with fail
            go_ret
            exact ⟨rfl, HB11.out.trans (HBi.out.mono HB11.out.size)⟩

end Go.Proofs.Ytlaecnggbcagcaa
