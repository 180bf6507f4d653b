/- The walk of WholePrefix: two acts that may be. -/
import Derived.Test.YtaaeefndhmfceaaDoorWholePfx0
import Derived.Deep.DeepCutAuto
namespace Go.Proofs.YtaaeefndhmfceaaDoor
open Go.RowKit MM

set_option maxHeartbeats 8000000 in
set_option maxRecDepth 100000 in
theorem wholePrefix_ff (a : AC.Ac) (A : Option Addr) (ca : Nat) (b : AC.Ac) (B : Option Addr) (cb : Nat) (w : World) (ha : ActIn w a A ca) (hb : ActIn w b B cb) (hR : RowsAt w) (h1 : AC.big a = false) (h2 : AC.big b = false) (h3 : AC.chk a = 0) (h4 : AC.chk b = 0) :
    Calls Tryd.prog 8 #[actV a A ca, actV b B cb] w fun e w' => e = .returned (.bool true) ∧ Below w.heap.size w w' := by
  have HR := Lib.hid hR
  have HIa := Lib.hid ha.make.its
  have HIb := Lib.hid hb.make.its
  have HGa := Lib.hid (fun w hA => big4_any a A ca w hA ha.make.len)
  have HGb := Lib.hid (fun w hB => big4_any b B cb w hB hb.make.len)
  rw [h1] at HGa
  rw [h2] at HGb
  have HCa := Lib.hid (fun w hI => rcheck4_any a A ca w ha.ok hI (act_smallP ha h1).1 (act_smallP ha h1).2.1 (act_smallP ha h1).2.2)
  have HCb := Lib.hid (fun w hI => rcheck4_any b B cb w hb.ok hI (act_smallP hb h2).1 (act_smallP hb h2).2.1 (act_smallP hb h2).2.2)
  have HBa := Lib.hid (fun w hR hI => actBytes_any a A ca w ha.ok hR hI (act_smallP ha h1).1 (act_smallP ha h1).2.1 (act_smallP ha h1).2.2)
  have HBb := Lib.hid (fun w hR hI => actBytes_any b B cb w hb.ok hR hI (act_smallP hb h2).1 (act_smallP hb h2).2.1 (act_smallP hb h2).2.2)
  have HM := Lib.hid (fun w hA hB => actSame_any a b A B ca cb w ha.ok hb.ok hA hB (act_smallP ha h1).1)
  have HRb := Lib.hid (fun w hI => recBytes_any a.make A ca w ha.ok.make hI (act_smallP ha h1).1)
  have Hp := Lib.hid (prefix_three ha.ok hb.ok h3 h4)
  have Hm := Lib.hid (fun (y : a.kind = 1) => made_end ha.ok h3 y)
  have Hla := Lib.hid (show (bytesA a).length ≤ 2200 by unfold bytesA; rw [if_pos h3]; exact actB_len a ha.ok (AC.chk_may ha.ok h3))
  have Hlb := Lib.hid (show (bytesA b).length ≤ 2200 by unfold bytesA; rw [if_pos h4]; exact actB_len b hb.ok (AC.chk_may hb.ok h4))
  rw [h3] at HCa
  rw [h4] at HCb
  generalize bytesA a = xa at *
  generalize bytesA b = xb at *
  generalize bytesOf a.make = xm at *
  unfold SAPost at HM
  generalize AC.same a b = sm at *
  clear h3 h4
  clear ha hb hR
  obtain ⟨k1, ky1, n1, fx1, s1, m1, mu1⟩ := a
  obtain ⟨k2, ky2, n2, fx2, s2', m2, mu2⟩ := b
  have q0 : IntKind.i64.wrap 0 = 0 := rfl
  have q1 : IntKind.i64.wrap 1 = 1 := rfl
  have q2 : IntKind.i64.wrap 2 = 2 := rfl
  go_enter Tryd.func8, Tryd.ntmps8
  go_wp2_with fail
  refine (actBytes_any d4 none 0 _ d4_ok (HR.out.below (below2 w _ _)) (Its.nil _ _) (by unfold Lim; decide) (by unfold Lim; decide) (by unfold Lim; decide)).mono ?_
  rw [d4_bytes]
  rintro e v1 ⟨A1, c1, rfl, ho1, hn1, hb1⟩
  have HV1 := Lib.hid (show Below w.heap.size w v1 from (below2 w _ _).trans (hb1.mono (by simp only [World.size_alloc]; omega)))
  have E0 := Lib.hid ((hb1.block w.heap.size (by simp only [World.size_alloc]; omega)).trans (heap_alloc2_old w _ _))
  have E1 := Lib.hid ((hb1.block (w.heap.size + 1) (by simp only [World.size_alloc]; omega)).trans (heap_alloc2_new w _ _))
  clear hb1 ho1 hn1
  go_wp2_with fail
  refine (recBytes_any s2 none 0 _ s2_ok (Its.nil _ _) (by unfold Lim; decide)).mono ?_
  rw [s2_bytes]
  rintro e w1 ⟨A2, c2, rfl, ho2, hn2, hb2⟩
  have HB1 := Lib.hid (HV1.out.trans (hb2.mono HV1.out.size))
  have e0 := (hb2.block _ (lt_of_heap E0.out)).trans E0.out
  have e1 := (hb2.block _ (lt_of_heap E1.out)).trans E1.out
  have cf := fun o => cell_of_row w1 _ o _ _ (0, 0) e0
  have cg := fun o => cell_of_row w1 _ o _ _ (0, 0) e1
  have hlt0 : w.heap.size < w1.heap.size := lt_of_heap e0
  have hlt1 : w.heap.size + 1 < w1.heap.size := lt_of_heap e1
  have HIa1 := Lib.hid (HIa.out.below HB1.out)
  have HIb1 := Lib.hid (HIb.out.below HB1.out)
  clear hb2 ho2 hn2 e0 e1 E0 E1 HV1
  go_wp2_with fail
  go_region_held3 (fun w' => (∀ o, w'.cell? ⟨w.heap.size, o, none⟩ = (actC ⟨k1, ky1, n1, fx1, s1, m1, mu1⟩ A ca)[o]?) ∧ (∀ o, w'.cell? ⟨w.heap.size + 1, o, none⟩ = (actC ⟨k2, ky2, n2, fx2, s2', m2, mu2⟩ B cb)[o]?) ∧ Below w1.heap.size w1 w')
     (first
       | (go_split_ands; exact ⟨by assumption, by assumption, below_drew (Below.refl _ _)⟩)
       | (go_split_ands; exact ⟨by assumption, by assumption, below_drew (by assumption)⟩)
       | (go_split_ands; exact ⟨prefix_keep hb3 (by assumption) hlt0 (by assumption), prefix_keep hb3 (by assumption) hlt1 (by assumption), Below.trans (by assumption) (hb3.mono (Below.size (by assumption)))⟩)
       | (go_split_ands; exact ⟨prefix_keep hb2 (by assumption) hlt0 (by assumption), prefix_keep hb2 (by assumption) hlt1 (by assumption), Below.trans (by assumption) (hb2.mono (Below.size (by assumption)))⟩)
       | (go_split_ands; exact ⟨prefix_keep hb4 (by assumption) hlt0 (by assumption), prefix_keep hb4 (by assumption) hlt1 (by assumption), Below.trans (by assumption) (hb4.mono (Below.size (by assumption)))⟩)
       | (go_split_ands; exact ⟨prefix_keep hb5 (by assumption) hlt0 (by assumption), prefix_keep hb5 (by assumption) hlt1 (by assumption), Below.trans (by assumption) (hb5.mono (Below.size (by assumption)))⟩))
     (first
       | (go_at_call 30; go_split_ands; (with_reducible refine (HGa.out _ (HIa1.out.below (by assumption))).mono ?_); rintro e w2 ⟨rfl, hb2⟩)
       | (go_at_call 30; go_split_ands; (with_reducible refine (HGb.out _ (HIb1.out.below (by assumption))).mono ?_); rintro e w3 ⟨rfl, hb3⟩)
       | (go_at_call 17; go_split_ands; (with_reducible refine (HCa.out _ (HIa1.out.below (by assumption))).mono ?_); rintro e w4 ⟨rfl, hb4⟩)
       | (go_at_call 17; go_split_ands; (with_reducible refine (HCb.out _ (HIb1.out.below (by assumption))).mono ?_); rintro e w5 ⟨rfl, hb5⟩))
  rename_i hH
  obtain ⟨cf3, cg3, hB13⟩ := hH
  have hs3 := hB13.size
  have HB12 := Lib.hid (HB1.out.trans (hB13.mono HB1.out.size))
  have HR12 := Lib.hid (HR.out.below HB12.out)
  have HIa3 := Lib.hid (HIa.out.below HB12.out)
  have HIb3 := Lib.hid (HIb.out.below HB12.out)
  clear HCa HCb HGa HGb hb2 hb3 hb4 hb5 hB13 cf cg
  generalize hw12 : w5 = w12 at *
  clear hw12
  go_wp2_with fail
  have hd12 : Its w12.drew A m1.list := HIa3.out
  have hr12 : RowsAt w12.drew := HR12.out
  have hl11 : w.heap.size < w12.heap.size := by omega
  have hl12 : w.heap.size + 1 < w12.heap.size := by omega
  go_cut [5, 6] (fun t5 t6 wx => t5 = .string ⟨xa.toArray⟩ ∧ t6 = .string ⟨xb.toArray⟩ ∧ (∀ o, wx.cell? ⟨w.heap.size + 1, o, none⟩ = (actC ⟨k2, ky2, n2, fx2, s2', m2, mu2⟩ B cb)[o]?) ∧ (∀ o, wx.cell? ⟨w.heap.size, o, none⟩ = (actC ⟨k1, ky1, n1, fx1, s1, m1, mu1⟩ A ca)[o]?) ∧ Below w12.heap.size w12 wx)
  case first =>
    go_region_with (first
      | (go_at_call 28; (with_reducible refine (HBa.out _ hr12 hd12).mono ?_); rintro e w13 ⟨A13, c13, rfl, ho13, hn13, hb13⟩; have hB13 : Below w12.heap.size w12 w13 := (below_a w12).trans hb13; have hI13 := HIb3.out.below hB13; have hR13 := HR12.out.below hB13; have k13 := run_text (P := Tryd.prog) w13 55 9 5 A13 c13 xa Tryd.underlying55 Tryd.underlying5 Tryd.underlying9 (Bts.own ho13); have x0 : ∀ o, w13.cell? ⟨w.heap.size + 1, o, none⟩ = _ := fun o => (hB13.cell (p := ⟨w.heap.size + 1, o, none⟩) hl12).trans (cg3 o); have y0 : ∀ o, w13.cell? ⟨w.heap.size, o, none⟩ = _ := fun o => (hB13.cell (p := ⟨w.heap.size, o, none⟩) hl11).trans (cf3 o))
      | (go_at_call 28; (with_reducible refine (HBb.out _ hR13 hI13).mono ?_); rintro e w14 ⟨A14, c14, rfl, ho14, hn14, hb14⟩; have hB14 : Below w12.heap.size w12 w14 := hB13.trans (hb14.mono hB13.size); have k14 := run_text (P := Tryd.prog) w14 55 9 5 A14 c14 xb Tryd.underlying55 Tryd.underlying5 Tryd.underlying9 (Bts.own ho14); have k13' := run_text (P := Tryd.prog) w14 55 9 5 A13 c13 xa Tryd.underlying55 Tryd.underlying5 Tryd.underlying9 ((Bts.own ho13).below hb14); have x1 : ∀ o, w14.cell? ⟨w.heap.size + 1, o, none⟩ = _ := fun o => (hB14.cell (p := ⟨w.heap.size + 1, o, none⟩) hl12).trans (cg3 o); have y1 : ∀ o, w14.cell? ⟨w.heap.size, o, none⟩ = _ := fun o => (hB14.cell (p := ⟨w.heap.size, o, none⟩) hl11).trans (cf3 o)))
    all_goals
      go_wp2_with fail
      go_meet
      exact ⟨rfl, rfl, x1, y1, hB14⟩
  case rest =>
  obtain ⟨rfl, rfl, x1, y1, hB14⟩ := hcut
  clear hd12 hr12 cf3 cg3
  rcases Hp.out with hc | ⟨hc1, hc2⟩ | ⟨hc1, hc2, hc3⟩
  · have hle : ¬ (xa.length : Int) ≤ (xb.length : Int) := by omega
    clear hc
    go_wp2_with fail
    refine (HRb.out _ (HIa3.out.below hB14)).mono ?_
    rintro e w15 ⟨A15, c15, rfl, ho15, hn15, hb15⟩
    have hB15 : Below w12.heap.size w12 w15 := hB14.trans (hb15.mono hB14.size)
    have k15 := run_text (P := Tryd.prog) w15 55 9 5 A15 c15 xm Tryd.underlying55 Tryd.underlying5 Tryd.underlying9 (Bts.own ho15)
    have y2 : ∀ o, w15.cell? ⟨w.heap.size, o, none⟩ = _ := fun o => (hb15.cell (p := ⟨w.heap.size, o, none⟩) (Nat.lt_of_lt_of_le hl11 hB14.size)).trans (y1 o)
    have HB15 := Lib.hid (HB12.out.trans (hB15.mono HB12.out.size))
    clear x1 y1 ho15 hn15 hb15 hB15 hB14
    by_cases hk : k1 = 1
    · subst hk
      obtain ⟨m1', m2'⟩ := Hm.out rfl
      have hg : (xm.length : Int) < (xa.length : Int) := by omega
      have hw : IntKind.i64.wrap ((xa.length : Int) - (xm.length : Int)) = ((xa.length - xm.length : Nat) : Int) := by have := Hla.out; rw [IntKind.wrap_i64]; omega
      have hsl := fun w => str_from xa (xa.length - xm.length) (by omega) w
      rw [m2'] at hsl
      have heq : ((⟨xm.toArray⟩ : ByteArray).toList == (⟨xm.toArray⟩ : ByteArray).toList) = true := by rw [arr_eqP]; simp
      clear m1' m2'
      go_wp2_with fail
      go_ret
      exact ⟨rfl, HB15.out⟩
    · have hk' : (k1 != 1) = true := by simpa using hk
      go_wp2_with fail
      go_ret
      exact ⟨rfl, HB15.out⟩
  · have hle : (xa.length : Int) ≤ (xb.length : Int) := by omega
    have hst := fun w => str_to xb xa.length hc1 w
    have hne : ((⟨(xb.take xa.length).toArray⟩ : ByteArray).toList == (⟨xa.toArray⟩ : ByteArray).toList) = false := by rw [arr_eqP]; simpa using hc2
    generalize xb.take xa.length = z at hst hne hc2
    have hzb : (z == xa) = false := by simpa using hc2
    clear hc1
    go_wp2_with fail
    refine (HRb.out _ (HIa3.out.below hB14)).mono ?_
    rintro e w15 ⟨A15, c15, rfl, ho15, hn15, hb15⟩
    have hB15 : Below w12.heap.size w12 w15 := hB14.trans (hb15.mono hB14.size)
    have k15 := run_text (P := Tryd.prog) w15 55 9 5 A15 c15 xm Tryd.underlying55 Tryd.underlying5 Tryd.underlying9 (Bts.own ho15)
    have y2 : ∀ o, w15.cell? ⟨w.heap.size, o, none⟩ = _ := fun o => (hb15.cell (p := ⟨w.heap.size, o, none⟩) (Nat.lt_of_lt_of_le hl11 hB14.size)).trans (y1 o)
    have HB15 := Lib.hid (HB12.out.trans (hB15.mono HB12.out.size))
    clear x1 y1 ho15 hn15 hb15 hB15 hB14
    by_cases hk : k1 = 1
    · subst hk
      obtain ⟨m1', m2'⟩ := Hm.out rfl
      have hg : (xm.length : Int) < (xa.length : Int) := by omega
      have hw : IntKind.i64.wrap ((xa.length : Int) - (xm.length : Int)) = ((xa.length - xm.length : Nat) : Int) := by have := Hla.out; rw [IntKind.wrap_i64]; omega
      have hsl := fun w => str_from xa (xa.length - xm.length) (by omega) w
      rw [m2'] at hsl
      have heq : ((⟨xm.toArray⟩ : ByteArray).toList == (⟨xm.toArray⟩ : ByteArray).toList) = true := by rw [arr_eqP]; simp
      clear m1' m2'
      go_wp2_with fail
      go_ret
      exact ⟨rfl, HB15.out⟩
    · have hk' : (k1 != 1) = true := by simpa using hk
      go_wp2_with fail
      go_ret
      exact ⟨rfl, HB15.out⟩
  · subst hc3
    have hle : (xa.length : Int) ≤ (xb.length : Int) := by omega
    have hst := fun w => str_to xb xa.length hc1 w
    rw [hc2] at hst
    have hne : ((⟨xa.toArray⟩ : ByteArray).toList == (⟨xa.toArray⟩ : ByteArray).toList) = true := by rw [arr_eqP]; simp
    clear hc1 hc2
    go_wp2_with fail
    refine (HM.out _ (HIa3.out.below hB14) (HIb3.out.below hB14)).mono ?_
    rintro e w16 ⟨rfl, hb16⟩
    replace y1 : ∀ o, w16.cell? ⟨w.heap.size, o, none⟩ = _ := fun o => (hb16.cell (p := ⟨w.heap.size, o, none⟩) (Nat.lt_of_lt_of_le hl11 hB14.size)).trans (y1 o)
    replace hB14 : Below w12.heap.size w12 w16 := hB14.trans (hb16.mono hB14.size)
    go_wp2_with fail
    refine (HRb.out _ (HIa3.out.below hB14)).mono ?_
    rintro e w15 ⟨A15, c15, rfl, ho15, hn15, hb15⟩
    have hB15 : Below w12.heap.size w12 w15 := hB14.trans (hb15.mono hB14.size)
    have k15 := run_text (P := Tryd.prog) w15 55 9 5 A15 c15 xm Tryd.underlying55 Tryd.underlying5 Tryd.underlying9 (Bts.own ho15)
    have y2 : ∀ o, w15.cell? ⟨w.heap.size, o, none⟩ = _ := fun o => (hb15.cell (p := ⟨w.heap.size, o, none⟩) (Nat.lt_of_lt_of_le hl11 hB14.size)).trans (y1 o)
    have HB15 := Lib.hid (HB12.out.trans (hB15.mono HB12.out.size))
    clear x1 y1 ho15 hn15 hb15 hB15 hB14
    by_cases hk : k1 = 1
    · subst hk
      obtain ⟨m1', m2'⟩ := Hm.out rfl
      have hg : (xm.length : Int) < (xa.length : Int) := by omega
      have hw : IntKind.i64.wrap ((xa.length : Int) - (xm.length : Int)) = ((xa.length - xm.length : Nat) : Int) := by have := Hla.out; rw [IntKind.wrap_i64]; omega
      have hsl := fun w => str_from xa (xa.length - xm.length) (by omega) w
      rw [m2'] at hsl
      have heq : ((⟨xm.toArray⟩ : ByteArray).toList == (⟨xm.toArray⟩ : ByteArray).toList) = true := by rw [arr_eqP]; simp
      clear m1' m2'
      go_wp2_with fail
      go_ret
      exact ⟨rfl, HB15.out⟩
    · have hk' : (k1 != 1) = true := by simpa using hk
      go_wp2_with fail
      go_ret
      exact ⟨rfl, HB15.out⟩

end Go.Proofs.YtaaeefndhmfceaaDoor
