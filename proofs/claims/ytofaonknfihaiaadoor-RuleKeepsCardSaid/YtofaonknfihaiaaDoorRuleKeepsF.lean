/- The walk of RuleKeeps where none is there. -/
import Derived.Test.YtofaonknfihaiaaDoorRuleKeepsT
namespace Go.Proofs.YtofaonknfihaiaaDoor
open Go.RowKit MM

set_option maxHeartbeats 16000000 in
set_option maxRecDepth 100000 in
theorem ruleKeeps_f (r : RC.Rc) (A : Option Addr) (c : Nat) (L : Option Addr) (cl : Nat) (l : List Al) (w : World) (hr : RecIn w r A c) (hl : ActsIn w L l) (hR : RowsAt w) :
    Calls Tryd.prog 3 #[recV r A c, .bool false, .slice L l.length cl] w fun e w' => e = .returned (.bool true) ∧ Below w.heap.size w w' := by
  have HR := Lib.hid hR
  have HI := Lib.hid hr
  have HL := Lib.hid hl
  have hlen := hl.len
  unfold maxLen at hlen
  clear hR hr hl
  go_enter Tryd.func3, Tryd.ntmps3
  go_wp2_with fail
  refine (speaks5_any _ (HR.out.below (below1 w _))).mono ?_
  rintro e w1 ⟨rfl, hb1⟩
  have hs1 := hb1.size
  simp only [World.size_alloc] at hs1
  have E0 := Lib.hid ((hb1.block w.heap.size (by simp only [World.size_alloc]; omega)).trans (heap_alloc_new w _))
  have c0 := fun o => cell_of_row w1 _ o _ _ (0, 0) E0.out
  have HB1 := Lib.hid (show Below w.heap.size w w1 from (below1 w _).trans (hb1.mono (by simp only [World.size_alloc]; omega)))
  clear hb1
  go_wp2_with fail
  refine (big5_any r A L c cl l _ (HI.out.its.below HB1.out) HI.out.len (HL.out.keep HB1.out)).mono ?_
  rintro e w2 ⟨rfl, hb2⟩
  have F0 := Lib.hid ((hb2.block _ (lt_of_heap E0.out)).trans E0.out)
  have HB2 := Lib.hid (show Below w.heap.size w w2 from HB1.out.trans (hb2.mono HB1.out.size))
  have hs2 := lt_of_heap F0.out
  clear hb2 E0 c0
  have c0 := fun o => cell_of_row w2 _ o _ _ (0, 0) F0.out
  cases hbig : big5 r l
  case true =>
    go_wp2_with fail
    go_ret
    exact ⟨rfl, HB2.out⟩
  have hb5 := big5_not hbig
  have HS := Lib.hid (show ∀ x ∈ l, Lim x.r.make.list.length ∧ Lim x.r.key.size ∧ Lim x.r.s.size from fun x hx => act_smallP (hb5.2.2 x hx))
  have HM0 := Lib.hid (show Lim r.list.length by have := (big_not hb5.1).1; unfold Lim; omega)
  clear hbig hb5
  have f0 : ∀ o, w2.frozen? ⟨w.heap.size, o, none⟩ = false := fun o => frozen_of_row _ _ o _ _ F0.out
  go_wp2_with fail
  generalize hw3 : World.setCell _ _ _ = w3
  have HK0 := Lib.hid (show KpAt w RC.zero false none 0 w3 by
    have hk : Kp (fun k => k = w.heap.size) w2 w3 := by rw [← hw3]; exact kp8g (Kp.refl _ _) (Or.inl rfl)
    exact ⟨by rw [← hw3]; exact rec_stores F0.out, Its.nil _ _, ⟨RC.zero_ok, fun h => (by cases h), fun _ => rfl⟩, by unfold Lim; decide, HB2.out.trans (hk.below (by omega) (fun i hi x => by have x' : i = w.heap.size := x; omega))⟩)
  clear hw3 f0 F0 HB1 HB2 HI c0
  go_loopw [1, 30] (fun t1 t30 wr => ∃ (i : Nat) (q : RC.Rc) (t : Bool) (A1 : Option Addr) (c1 : Nat), t30 = .int .i64 i ∧ t1 = .bool t ∧ i ≤ l.length ∧ KpAt w q t A1 c1 wr) (fun _ t30 _ => l.length - (intOf t30).toNat)
  case atStart => exact ⟨0, RC.zero, false, none, 0, rfl, rfl, Nat.zero_le _, HK0.out⟩
  case round =>
    obtain ⟨i, q, t, A1, c1, rfl, rfl, hi, hv⟩ := hrel
    have HV := Lib.hid hv
    clear hv
    by_cases hlt : i < l.length
    · have hin := HL.out.all _ (List.getElem_mem hlt)
      have hsm := HS.out _ (List.getElem_mem hlt)
      rcases HL.out.rows with hA | ⟨b, off, rfl, hbl, hrows⟩
      · subst hA; simp at hlt
      have hrow := hrows i l[i] (List.getElem?_eq_getElem hlt)
      clear hrows
      generalize l[i] = y at *
      obtain ⟨⟨k, key, n, x, s, m, must⟩, RA, rc⟩ := y
      have r0 : wr.cell? ⟨b, off + i * 14, none⟩ = some (.int .i64 k) := below_keep HV.out.below (hrow 0 _ rfl)
      have r1 : wr.cell? ⟨b, off + i * 14 + 1, none⟩ = some (.string key) := below_keep HV.out.below (hrow 1 _ rfl)
      have r2 : wr.cell? ⟨b, off + i * 14 + 2, none⟩ = some (.int .i64 n) := below_keep HV.out.below (hrow 2 _ rfl)
      have r3 : wr.cell? ⟨b, off + i * 14 + 3, none⟩ = some (.float .f64 x) := below_keep HV.out.below (hrow 3 _ rfl)
      have r4 : wr.cell? ⟨b, off + i * 14 + 4, none⟩ = some (.string s) := below_keep HV.out.below (hrow 4 _ rfl)
      have r5 : wr.cell? ⟨b, off + i * 14 + 5, none⟩ = some (.int .i64 m.kind) := below_keep HV.out.below (hrow 5 _ rfl)
      have r6 : wr.cell? ⟨b, off + i * 14 + 6, none⟩ = some (.int .i64 m.num) := below_keep HV.out.below (hrow 6 _ rfl)
      have r7 : wr.cell? ⟨b, off + i * 14 + 7, none⟩ = some (.int .i64 m.low) := below_keep HV.out.below (hrow 7 _ rfl)
      have r8 : wr.cell? ⟨b, off + i * 14 + 8, none⟩ = some (.int .i64 m.high) := below_keep HV.out.below (hrow 8 _ rfl)
      have r9 : wr.cell? ⟨b, off + i * 14 + 9, none⟩ = some (.float .f64 m.real) := below_keep HV.out.below (hrow 9 _ rfl)
      have r10 : wr.cell? ⟨b, off + i * 14 + 10, none⟩ = some (.int .i64 m.cap) := below_keep HV.out.below (hrow 10 _ rfl)
      have r11 : wr.cell? ⟨b, off + i * 14 + 11, none⟩ = some (.string m.text) := below_keep HV.out.below (hrow 11 _ rfl)
      have r12 : wr.cell? ⟨b, off + i * 14 + 12, none⟩ = some (.slice RA m.list.length rc) := below_keep HV.out.below (hrow 12 _ rfl)
      have r13 : wr.cell? ⟨b, off + i * 14 + 13, none⟩ = some (.bool must) := below_keep HV.out.below (hrow 13 _ rfl)
      have HAp := Lib.hid (fun u (b : Below w.heap.size w u) (hA : Its u A1 q.list) => apply_any q t ⟨k, key, n, x, s, m, must⟩ A1 RA c1 rc u HV.out.keeps.ok hin.ok (HR.out.below b) hA (hin.make.its.below b) HV.out.lim hsm.1 hsm.2.1 hsm.2.2)
      have hkp := keeps_plain HV.out.keeps hin.ok
      have hap1 := apply_ok (there := t) HV.out.keeps.ok hin.ok
      have hap2 := apply_lim (there := t) HV.out.keeps.ok hin.ok HV.out.lim
      have hi1 : (i : Int) < (l.length : Int) := by omega
      have hs0 := lt_of_heap HV.out.box
      have d0 := fun o => cell_of_row wr _ o _ _ (0, 0) HV.out.box
      clear hin hsm hrow hbl
      go_wp2_with fail
      refine (HAp.out _ (HV.out.below.trans ((below1 wr _).mono HV.out.below.size)) (HV.out.its.below (below1 wr _))).mono ?_
      generalize hap : RU.apply q t ⟨k, key, n, x, s, m, must⟩ = out at hkp hap1 hap2
      obtain ⟨p, t', xx⟩ := out
      clear hap
      have HK := Lib.hid hkp
      have HQ := Lib.hid hap1
      have HM := Lib.hid hap2
      clear hkp hap1 hap2
      rintro e w2 ⟨A2, c2, C, cc, rfl, ho1, ho2, hn1, hn2, hb2⟩
      have hs2 := hb2.size
      simp only [World.size_alloc] at hs2 hn1
      have e0 := (hb2.block w.heap.size (by simp only [World.size_alloc]; omega)).trans ((heap_alloc_old _ _ hs0).trans HV.out.box)
      have e8 := (hb2.block wr.heap.size (by simp only [World.size_alloc]; omega)).trans (heap_alloc_new wr _)
      have HB2 := Lib.hid (show Below wr.heap.size wr w2 from (below1 wr _).trans (hb2.mono (by simp only [World.size_alloc]; omega)))
      have E0 := Lib.hid e0
      have E8 := Lib.hid e8
      have HO1 := Lib.hid ho1
      have HO2 := Lib.hid ho2
      have HN1 := Lib.hid hn1
      clear e0 e8 ho1 ho2 hn1 hn2 hb2 d0 r0 r1 r2 r3 r4 r5 r6 r7 r8 r9 r10 r11 r12 r13 HAp
      go_upto_region 11 with fail
      generalize hw3 : World.alloc (World.alloc w2 _) _ = w3
      have hb3 : Below w2.heap.size w2 w3 := by rw [← hw3]; exact below2 w2 _ _
      have F9 := Lib.hid (show w3.heap[w2.heap.size]? = some (.cells (recC p.kind p.num p.low p.high p.real p.cap p.text (.slice A2 p.list.length c2)) 25 (0, 0)) by rw [← hw3]; exact heap_alloc2_old w2 _ _)
      have F11 := Lib.hid (show w3.heap[w2.heap.size + 1]? = some (.cells (ansC xx.code xx.num xx.rc C cc) 34 (0, 0)) by rw [← hw3]; exact heap_alloc2_new w2 _ _)
      have F0 := Lib.hid ((hb3.block _ (lt_of_heap E0.out)).trans E0.out)
      have F8 := Lib.hid ((hb3.block _ (lt_of_heap E8.out)).trans E8.out)
      have HB3 := Lib.hid (show Below wr.heap.size wr w3 from HB2.out.trans (hb3.mono HB2.out.size))
      have HI9 := Lib.hid ((Its.own HO1.out).below hb3)
      have HI11 := Lib.hid ((Its.own HO2.out).below hb3)
      clear hw3 hb3 E0 E8
      go_cut [57] (fun t57 wx => t57 = .bool false ∧ Below w3.heap.size w3 wx)
      case first =>
        have c9 := fun o => cell_of_row w3 _ o _ _ (0, 0) F9.out
        cases t'
        · have hz := HK.out.1.no rfl
          have HZ := Lib.hid hz
          clear hz
          go_wp2_with fail
          refine (recSame_any p RC.zero A2 none c2 0 _ HQ.out.1 RC.zero_ok HI9.out (Its.nil _ _) HM.out.1).mono ?_
          rintro e w4 ⟨rfl, hb4⟩
          rw [show RC.same p RC.zero = true by rw [HZ.out]; exact RC.same_refl' _]
          clear c9
          go_wp2_with fail
          go_meet
          exact ⟨rfl, hb4⟩
        · have hz := HK.out.1.yes rfl
          have HZ := Lib.hid hz
          clear hz
          go_wp2_with fail
          refine (recCheck_any p A2 c2 _ HQ.out.1 HI9.out HM.out.1).mono ?_
          rw [HZ.out]
          rintro e w4 ⟨rfl, hb4⟩
          clear c9
          go_wp2_with fail
          go_meet
          exact ⟨rfl, hb4⟩
      case rest =>
      obtain ⟨rfl, hb4⟩ := hcut
      generalize hwc : wc = w4 at *
      clear hwc
      have G9 := Lib.hid ((hb4.block _ (lt_of_heap F9.out)).trans F9.out)
      have G11 := Lib.hid ((hb4.block _ (lt_of_heap F11.out)).trans F11.out)
      have G0 := Lib.hid ((hb4.block _ (lt_of_heap F0.out)).trans F0.out)
      have G8 := Lib.hid ((hb4.block _ (lt_of_heap F8.out)).trans F8.out)
      have HB4 := Lib.hid (show Below wr.heap.size wr w4 from HB3.out.trans (hb4.mono HB3.out.size))
      have HJ9 := Lib.hid (HI9.out.below hb4)
      have HJ11 := Lib.hid (HI11.out.below hb4)
      clear hb4 F9 F11 F0 F8 HI9 HI11
      go_upto_region 13 with fail
      go_cut [76] (fun t76 wx => t76 = .bool false ∧ Below w4.heap.size w4 wx)
      case first =>
        have c9 := fun o => cell_of_row w4 _ o _ _ (0, 0) G9.out
        have c11 := fun o => cell_of_row w4 _ o _ _ (0, 0) G11.out
        have c0 := fun o => cell_of_row w4 _ o _ _ (0, 0) G0.out
        have c8 := fun o => cell_of_row w4 _ o _ _ (0, 0) G8.out
        rcases Nat.eq_zero_or_pos xx.code with hc | hc
        · have hc0 : (xx.code : Int) = 0 := by omega
          clear hc
          go_wp2_with fail
          refine (actReads_any k _ (HR.out.below (HV.out.below.trans (HB4.out.mono HV.out.below.size)))).mono ?_
          have HRd := Lib.hid (show (rowAt k).reads = true → t' = t ∧ p = q from fun h => HK.out.2.1 (.inr h))
          generalize (rowAt k).reads = rd at *
          rintro e w5 ⟨rfl, hb5⟩
          have d9 := fun o => cell_of_row w5 _ o _ _ (0, 0) ((hb5.block _ (lt_of_heap G9.out)).trans G9.out)
          have d0 := fun o => cell_of_row w5 _ o _ _ (0, 0) ((hb5.block _ (lt_of_heap G0.out)).trans G0.out)
          have HB5 := Lib.hid hb5
          clear hb5 c9 c11 c0 c8
          cases rd
          · go_wp2_with fail
            go_meet
            exact ⟨rfl, HB5.out⟩
          · obtain ⟨ht, hp⟩ := HRd.out rfl
            subst ht hp
            have htt : (t' != t') = false := by cases t' <;> rfl
            go_wp2_with fail
            refine (recSame_any p p A2 A1 c2 c1 _ HQ.out.1 HQ.out.1 (HJ9.out.below HB5.out) (HV.out.its.below (HB4.out.trans (HB5.out.mono HB4.out.size))) HM.out.1).mono ?_
            rintro e w6 ⟨rfl, hb6⟩
            rw [RC.same_refl']
            clear d9 d0
            go_wp2_with fail
            go_meet
            exact ⟨rfl, HB5.out.trans (hb6.mono HB5.out.size)⟩
        · obtain ⟨ht, hp⟩ := HK.out.2.1 (.inl (Nat.ne_of_gt hc))
          have ht : t' = t := ht
          have hp : p = q := hp
          subst ht hp
          have htt : (t' != t') = false := by cases t' <;> rfl
          have hc0 : ((xx.code : Int) != 0) = true := by simp; omega
          clear hc
          go_wp2_with fail
          refine (recSame_any p p A2 A1 c2 c1 _ HQ.out.1 HQ.out.1 HJ9.out (HV.out.its.below HB4.out) HM.out.1).mono ?_
          rintro e w6 ⟨rfl, hb6⟩
          rw [RC.same_refl']
          clear c9 c11 c0 c8
          go_wp2_with fail
          go_meet
          exact ⟨rfl, hb6⟩
      case rest =>
      obtain ⟨rfl, hb5⟩ := hcut
      generalize hwc : wc = w5 at *
      clear hwc
      have I9 := Lib.hid ((hb5.block _ (lt_of_heap G9.out)).trans G9.out)
      have I11 := Lib.hid ((hb5.block _ (lt_of_heap G11.out)).trans G11.out)
      have I0 := Lib.hid ((hb5.block _ (lt_of_heap G0.out)).trans G0.out)
      have HB5 := Lib.hid (show Below wr.heap.size wr w5 from HB4.out.trans (hb5.mono HB4.out.size))
      have HL9 := Lib.hid (HJ9.out.below hb5)
      have HL11 := Lib.hid (HJ11.out.below hb5)
      clear hb5 G9 G11 G0 G8 HJ9 HJ11
      go_upto_region 15 with fail
      go_cut [87] (fun t87 wx => t87 = .bool false ∧ Below w5.heap.size w5 wx)
      case first =>
        have c11 := fun o => cell_of_row w5 _ o _ _ (0, 0) I11.out
        rcases Nat.eq_zero_or_pos xx.code with hc | hc
        · have hc0 : (xx.code : Int) = 0 := by omega
          clear hc
          go_wp2_with fail
          go_meet
          exact ⟨rfl, Below.refl _ _⟩
        · have he : xx = RU.err xx.code := HK.out.2.2 (Nat.ne_of_gt hc)
          have HE := Lib.hid he
          have hc0 : ((xx.code : Int) != 0) = true := by simp; omega
          clear hc he
          go_wp2_with fail
          refine (ruleSame_any xx (RU.err xx.code) C none cc 0 _ HQ.out.2 RC.zero_ok HL11.out (Its.nil _ _) HM.out.2).mono ?_
          rw [show RU.sameAns xx (RU.err xx.code) = true by rw [← HE.out]; exact sameAns_refl xx]
          rintro e w6 ⟨rfl, hb6⟩
          clear c11
          go_wp2_with fail
          go_meet
          exact ⟨rfl, hb6⟩
      case rest =>
      obtain ⟨rfl, hb6⟩ := hcut
      generalize hwc : wc = w6 at *
      clear hwc
      have K9 := Lib.hid ((hb6.block _ (lt_of_heap I9.out)).trans I9.out)
      have K0 := Lib.hid ((hb6.block _ (lt_of_heap I0.out)).trans I0.out)
      have HB6 := Lib.hid (show Below wr.heap.size wr w6 from HB5.out.trans (hb6.mono HB5.out.size))
      have HM9 := Lib.hid (HL9.out.below hb6)
      have c9 := fun o => cell_of_row w6 _ o _ _ (0, 0) K9.out
      have c0 := fun o => cell_of_row w6 _ o _ _ (0, 0) K0.out
      have f0 : ∀ o, w6.frozen? ⟨w.heap.size, o, none⟩ = false := fun o => frozen_of_row _ _ o _ _ K0.out
      have hsw := HB2.out.size
      have hn9 : w2.heap.size ≠ w.heap.size := by omega
      have hn9' := hn9.symm
      clear hb6 I9 I11 I0 HL9 HL11
      go_wp2_with fail
      generalize hwf : World.setCell _ _ _ = wf
      have hk : Kp (fun k => k = w.heap.size) w6 wf := by rw [← hwf]; exact kp8g (Kp.refl _ _) (Or.inl rfl)
      have HT := Lib.hid (show KpAt w p t' A2 c2 wf from ⟨by rw [← hwf]; exact rec_stores K0.out, HM9.out.kp hk (fun ad e x => by
          have h1 := HN1.out ad.block (by rw [e]; rfl)
          have x' : ad.block = w.heap.size := x
          omega), HK.out.1, HM.out.1, (HV.out.below.trans (HB6.out.mono HV.out.below.size)).trans (hk.below (by have := HV.out.below.size; have := HB6.out.size; omega) (fun i hi x => by have x' : i = w.heap.size := x; omega))⟩)
      clear hwf hk c9 c0 f0
      go_roundw
      case rel => exact ⟨i + 1, p, t', A2, c2, by go_num, rfl, by omega, HT.out⟩
      case measure => simp [intOf]; omega
    · have hi1 : ¬ (i : Int) < (l.length : Int) := by omega
      go_wp2_with fail
      go_ret
      exact ⟨rfl, HV.out.below⟩

end Go.Proofs.YtofaonknfihaiaaDoor
