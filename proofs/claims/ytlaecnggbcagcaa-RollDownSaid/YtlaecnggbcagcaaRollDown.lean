/- Law of layer 19: while the disk is down all calls tell it. -/
import Derived.Test.YtlaecnggbcagcaaRl13
namespace Go.Proofs.Ytlaecnggbcagcaa
open Go.RowKit MM
set_option linter.unusedVariables false
set_option linter.unusedSimpArgs false

theorem openL_blank : openL zs = none := by decide +kernel

set_option maxHeartbeats 4000000 in
set_option maxRecDepth 100000 in
theorem rollDown_any (A : Option Addr) (c : Nat) (b : List UInt8) (z : Int) (w : World) (hb : Bts w A b) (hbc : b.length ≤ c) (hbn : A = none → c = 0) (hbm : b.length ≤ 9223372036854775807) (hz : (Lit.int .u8 z).wf = true) :
    Calls Try.prog 14 #[.slice A b.length c, .int .u8 z] w fun e w' => e = .returned (.bool true) ∧ Below w.heap.size w w' := by
  have HB := Lib.hid hb
  have HBc := Lib.hid (And.intro hbc hbn)
  have hz' : 0 ≤ z ∧ z ≤ 255 := by simpa [Lit.wf, IntKind.min, IntKind.max, IntKind.signed, IntKind.bits] using hz
  have HSp := Lib.hid (speaks19_any w)
  clear hb hbc hbn hz
  by_cases hbig : 3000 < b.length
  · have hbig' : (3000 : Int) < (b.length : Int) := by omega
    go_enter Try.func14, Try.ntmps14
    go_wp2_with (first
      | (go_at_call 39; refine HSp.out.mono ?_; rintro e w0 ⟨rfl, hb0⟩; have HB0 := Lib.hid hb0; clear hb0))
    go_ret
    exact ⟨rfl, HB0.out⟩
  have hbl' : ¬ (3000 : Int) < (b.length : Int) := by omega
  have hbl : b.length ≤ 3000 := by omega
  have HBl := Lib.hid hbl
  obtain ⟨m, hm⟩ : ∃ m, m = needN b.length := ⟨_, rfl⟩
  have HM := Lib.hid (show 0 < m ∧ m ≤ 50 by rw [hm]; exact ⟨needN_pos _, by unfold needN; omega⟩)
  have HNd := Lib.hid (fun w9 => show Calls Try.prog 47 #[.int .i64 (b.length : Int)] w9 fun e w' => e = .returned (.int .i64 (m : Nat)) ∧ w' = w9 by rw [hm]; exact rneed_any b.length (by omega) w9)
  have HMe := Lib.hid hm
  obtain ⟨K, hK⟩ : ∃ K : Nat, 1 + z % 60 = (K : Int) := ⟨(1 + z % 60).toNat, by omega⟩
  have HK := Lib.hid (show 0 < K ∧ K ≤ 100 by omega)
  have hK2 : (K : Int) ≤ 100 := by have := HK.out; omega
  have hm2 : (m : Int) ≤ 50 := by have := HM.out; omega
  clear hbig hm hbl
  go_enter Try.func14, Try.ntmps14
  go_wp2_with (first
    | (go_at_call 39; refine HSp.out.mono ?_; rintro e w0 ⟨rfl, hb0⟩; have HB0 := Lib.hid hb0; clear hb0))
  refine (show Calls Try.prog 17 #[.int .i64 80] w0 _ from tNew 80 w0 (by omega) (by omega)).mono ?_
  rintro e w1 ⟨p, rfl, h1, hb1⟩
  have HN := Lib.hid (RSt.new (f := 0) (k := 80) (r := 0) (N := 80) rfl (by decide))
  obtain ⟨d1, hd1⟩ : ∃ d1, d1 = Dk.new 80 := ⟨_, rfl⟩
  have HP0 := Lib.hid (show d1.pend.length = 0 by rw [hd1]; rfl)
  have HPd := Lib.hid (show d1.pend.length ≤ 5000 by rw [hd1]; exact Nat.zero_le _)
  rw [← hd1] at h1 HN
  have hb1' := (Below.refl w1.heap.size w1).alloc (Nat.le_refl _) (.cells (arV 0 80) 65)
  have H1 := Lib.hid (h1.now hb1')
  have HB1 := Lib.hid (HB0.out.trans ((hb1.trans (hb1'.mono hb1.size)).mono HB0.out.size))
  have HL1 := Lib.hid (Nat.le_trans HB0.out.size hb1.size)
  have HL0 := Lib.hid HB0.out.size
  have HR1 := Lib.hid (heap_alloc_new w1 (.cells (arV 0 80) 65))
  have HS1 := Lib.hid (show (w1.alloc (.cells (arV 0 80) 65)).heap.size = w1.heap.size + 1 by simp)
  clear h1 hb1 hd1 hb1'
  go_upto_region 7 with (first
    | (refine wpList_alloc_row rfl _ rfl (.agg (arV 0 0)) (arV 0 0) (by kernel_rfl) rfl ?_)
    | (refine wpList_store_row rfl _ _ _ rfl _ (arV 0 80) rfl rfl 65 (arV 0 0) (heap_alloc_new _ _) (area_info 0 80) rfl (by kernel_rfl) ?_
       rw [World.setRow_alloc_new]))
  generalize World.alloc w1 _ = w2 at *
  obtain ⟨T1, hT1⟩ : ∃ T1 : Nat → Prop, T1 = fun k => w0.heap.size ≤ k ∧ (k < w1.heap.size ∨ w2.heap.size ≤ k) := ⟨_, rfl⟩
  rw [← hT1] at H1
  have HT1 := Lib.hid (show (∀ k, T1 k → w.heap.size ≤ k) ∧ ¬ T1 w1.heap.size by
    rw [hT1]
    refine ⟨fun k x => Nat.le_trans HL0.out x.1, fun x => ?_⟩
    have := HS1.out
    rcases x.2 with y | y <;> omega)
  have HAr := Lib.hid (show w.heap.size ≤ w1.heap.size ∧ w1.heap.size < w2.heap.size from ⟨HL1.out, by have := HS1.out; omega⟩)
  generalize w1.heap.size = g at *
  clear hT1 HL0 HL1 HS1 HB0
  go_wp2_with (first
    | (refine wpList_load_row rfl _ _ rfl g rfl 65 _ (0, 0) _ HR1.out Try.underlying65 rfl (area_info 0 80) ?_)
    | (go_at_call 41
       refine (show Calls Try.prog 41 #[.pointer (some ⟨p, 0, none⟩), .agg (arV 0 80)] w2 _ from rol_open w.heap.size T1 p d1 _ _ [] 80 0 80 w2 HN.out.1 rfl rfl (by decide) HPd.out HT1.out.1 HB1.out.size H1.out).mono ?_
       rintro e w3 ⟨hk3, q, A3, c3, vs3, U3, rfl, hr3, -, hq3, hu3⟩
       obtain ⟨T2, hT2⟩ : ∃ T2 : Nat → Prop, T2 = fun k => T1 k ∧ ¬ U3 k := ⟨_, rfl⟩
       rw [← hT2] at hr3
       have HR3 := Lib.hid (show Rol w.heap.size T2 w3 p q d1 0 80 from hr3)
       have HB3 := Lib.hid (HB1.out.trans (hk3.below HB1.out.size (fun k hk x => absurd (HT1.out.1 k x) (by omega))))
       have HG3 := Lib.hid ((hk3.block _ (lt_of_heap HR1.out) HT1.out.2).trans HR1.out)
       have HQg := Lib.hid (show ¬ T2 g ∧ ¬ g = q from ⟨by rw [hT2]; exact fun x => HT1.out.2 x.1, fun x => by have := (hu3 q hq3).1; have := HAr.out.2; omega⟩)
       clear hr3 hk3 hu3 hq3 hT2)
    | (go_at_call 47; refine (HNd.out _).mono ?_; rintro e wq ⟨rfl, hq⟩; rw [hq]; clear hq wq))
  first | rw [hK] | skip
  clear hK
  refine (tBreak T2 p d1 (K : Int) w3 (by omega) HR3.out.own).mono ?_
  rintro e w4 ⟨⟨v4, rfl⟩, h4, hk4⟩
  have HR4 := Lib.hid (show Rol w.heap.size T2 w4 p q (d1.brk (K : Int)) 0 80 from ⟨h4, HR3.out.box.kp hk4 HR3.out.nq, HR3.out.nq, HR3.out.low, HR3.out.lowq, Nat.le_trans HR3.out.le hk4.size⟩)
  have HB4 := Lib.hid (HB3.out.trans (HR3.out.belT hk4))
  have HG4 := Lib.hid ((hk4.block _ (lt_of_heap HG3.out) HQg.out.1).trans HG3.out)
  have HBr := Lib.hid (putN_brk (d := d1.brk (K : Int)) (a := 0) (K := K) (L := secsL b) HN.out.1.up (Int.toNat_natCast K) HK.out.1 (by rw [secsL_len, ← HMe.out]; show 0 + m ≤ d1.now.length; rw [HN.out.1.len]; have := HM.out; simp; omega) m (by rw [secsL_len, ← HMe.out]; exact Nat.le_refl _))
  have HPd4 := Lib.hid (show (d1.brk (K : Int)).pend.length = 0 from HP0.out)
  have HDn := Lib.hid (show (d1.brk (K : Int)).down = false from HN.out.1.up)
  obtain ⟨d4, hd4⟩ : ∃ d4, d4 = d1.brk (K : Int) := ⟨_, rfl⟩
  rw [← hd4] at HR4 HBr HPd4 HDn
  have HX := Lib.hid (show d4.app 0 80 b = if (d4.putN 0 (secsL b) m).2 = 0 then ((d4.putN 0 (secsL b) m).1, 0, 0 + m) else ((d4.putN 0 (secsL b) m).1, (d4.putN 0 (secsL b) m).2, 0) by unfold Dk.app; rw [if_neg (by rw [HDn.out]; decide), if_neg (by have := HBl.out; omega), ← HMe.out, if_neg (by have := HM.out; omega)])
  have HBt4 := Lib.hid (HB.out.below HB4.out)
  have HAp := Lib.hid (rol_append A c b w4 HBt4.out HBc.out.1 HBc.out.2 (by have := HBl.out; omega) (by decide) (by decide) (by have := HPd4.out; omega) HR4.out)
  clear h4 hk4 hd4 HN HPd HR3 HG3 HB3
  by_cases hkm : m < K
  · have hkm' : (m : Int) < (K : Int) := by omega
    have HE := Lib.hid (show (d4.app 0 80 b).2.1 = 0 by rw [HX.out, if_pos (HBr.out.1 hkm).1])
    go_wp2_with (first
      | (go_at_call 48; refine HAp.out.mono ?_; rintro e w5 ⟨rfl, hr5, hk5⟩; rw [HE.out]; have HB5 := Lib.hid (HB4.out.trans (HR4.out.bel hk5)); clear hr5 hk5))
    go_ret
    exact ⟨rfl, HB5.out⟩
  · have hkm' : ¬ (m : Int) < (K : Int) := by omega
    obtain ⟨D, hD⟩ : ∃ D, D = (d4.putN 0 (secsL b) m).1 := ⟨_, rfl⟩
    have HDw := Lib.hid (show D.down = true by rw [hD]; exact (HBr.out.2 (by omega)).2)
    have HE := Lib.hid (show d4.app 0 80 b = (D, 14, 0) by rw [HX.out, if_neg (by rw [(HBr.out.2 (by omega)).1]; decide), (HBr.out.2 (by omega)).1, hD])
    have HPD := Lib.hid (show D.pend.length ≤ 5000 by rw [hD]; have := d4.putN_pend 0 (secsL b) m; have := HPd4.out; have := HM.out; omega)
    have hae : areaE D 0 80 = 14 := areaE_down HDw.out
    have HAe := Lib.hid hae
    clear hD hae
    go_wp2_with (first
      | (go_at_call 48
         refine HAp.out.mono ?_
         rintro e w5 ⟨rfl, hr5, hk5⟩
         rw [HE.out] at hr5 ⊢
         have HR5 := Lib.hid hr5
         have HB5 := Lib.hid (HB4.out.trans (HR4.out.bel hk5))
         have HG5 := Lib.hid ((hk5.block _ (lt_of_heap HG4.out) (by rintro (x | x); exact HQg.out.1 x; exact HQg.out.2 x)).trans HG4.out)
         clear hr5 hk5)
      | (refine wpList_load_row rfl _ _ rfl g rfl 65 _ (0, 0) _ HG5.out Try.underlying65 rfl (area_info 0 80) ?_)
      | (go_at_call 40
         refine (show Calls Try.prog 40 #[.pointer (some ⟨p, 0, none⟩), .agg (arV 0 80)] w5 _ from scan_err p T2 D 0 80 (by decide) w5 (by rw [HAe.out]; decide) HR5.out.own.1).mono ?_
         rintro e w6 ⟨rfl, hb6⟩
         rw [HAe.out]
         have HR6 := Lib.hid (HR5.out.below hb6)
         have HB6 := Lib.hid (HB5.out.trans (hb6.mono HB5.out.size))
         have HG6 := Lib.hid ((hb6.block _ (lt_of_heap HG5.out)).trans HG5.out)
         clear hb6)
      | (refine wpList_load_row rfl _ _ rfl g rfl 65 _ (0, 0) _ HG6.out Try.underlying65 rfl (area_info 0 80) ?_)
      | (go_at_call 41
         refine (show Calls Try.prog 41 #[.pointer (some ⟨p, 0, none⟩), .agg (arV 0 80)] w6 _ from ropen_err T2 p D 0 80 (by decide) w6 (by rw [HAe.out]; decide) HR6.out.own).mono ?_
         rintro e w7 ⟨rfl, -, hb7⟩
         rw [HAe.out]
         have HR7 := Lib.hid (HR6.out.below hb7)
         have HB7 := Lib.hid (HB6.out.trans (hb7.mono HB6.out.size))
         have HG7 := Lib.hid ((hb7.block _ (lt_of_heap HG6.out)).trans HG6.out)
         clear hb7)
      | (refine wpList_build_row rfl _ #[] rfl (bc zs).toArray (by kernel_rfl) ?_)
      | (go_at_call 35
         refine (ropen_any zs rfl w7).mono ?_
         rintro e w8 ⟨hb8, hp8⟩
         rw [openL_blank] at hp8
         obtain rfl := hp8
         have HR8 := Lib.hid (HR7.out.below hb8)
         have HB8 := Lib.hid (HB7.out.trans (hb8.mono HB7.out.size))
         have HG8 := Lib.hid ((hb8.block _ (lt_of_heap HG7.out)).trans HG7.out)
         have HBt8 := Lib.hid (HB.out.below HB8.out)
         clear hb8)
      | (go_at_call 48
         refine (rol_append A c b w8 HBt8.out HBc.out.1 HBc.out.2 (by have := HBl.out; omega) (by decide) (by decide) HPD.out HR8.out).mono ?_
         rintro e w9 ⟨rfl, hr9, hk9⟩
         rw [app_down HDw.out] at hr9 ⊢
         have HR9 := Lib.hid hr9
         have HB9 := Lib.hid (HB8.out.trans (HR8.out.bel hk9))
         have HG9 := Lib.hid ((hk9.block _ (lt_of_heap HG8.out) (by rintro (x | x); exact HQg.out.1 x; exact HQg.out.2 x)).trans HG8.out)
         clear hr9 hk9)
      | (go_at_call 51
         refine (rol_sync w9 (by have := HPD.out; omega) HR9.out).mono ?_
         rintro e w10 ⟨rfl, hr10, hk10⟩
         rw [show D.sync = (D, 14) from if_pos HDw.out] at hr10 ⊢
         have HR10 := Lib.hid hr10
         have HB10 := Lib.hid (HB9.out.trans (HR9.out.belT hk10))
         have HG10 := Lib.hid ((hk10.block _ (lt_of_heap HG9.out) HQg.out.1).trans HG9.out)
         clear hr10 hk10)
      | (refine wpListG_load_row (by kernel_rfl) _ _ rfl g rfl 65 _ (0, 0) _ HG10.out Try.underlying65 rfl (area_info 0 80) ?_)
      | (go_at_call 42
         refine (show Calls Try.prog 42 #[.pointer (some ⟨p, 0, none⟩), .agg (arV 0 80)] w10 _ from clear_any T2 p D 0 80 (by decide) w10 HPD.out HR10.out.own).mono ?_
         rintro e w11 ⟨rfl, -, hk11⟩
         rw [show (D.clearA 0 80).2 = 14 from by unfold Dk.clearA; rw [if_neg (by rw [HAe.out]; decide)]; exact HAe.out]
         have HB11 := Lib.hid (HB10.out.trans (HR10.out.belT hk11))
         clear hk11))
    go_ret
    exact ⟨rfl, HB11.out⟩

end Go.Proofs.Ytlaecnggbcagcaa
