/- Contracts of package seal: sectors that are wiped. -/
import Derived.Test.YtlaecnggbcagcaaDk10
namespace Go.Proofs.Ytlaecnggbcagcaa
open Go.RowKit MM
set_option linter.unusedVariables false
set_option linter.unusedSimpArgs false

/-- One sector is blank: was it written, and the error. -/
def Dk.wipe1 (d : Dk) (i : Int) : Dk × Bool × Nat := if d.err i = 0 ∧ ¬ d.readS i = zs then ((d.write i zs).1, (d.write i zs).2 == 0, (d.write i zs).2) else (d, false, d.err i)
/-- Behind so many. -/
def Dk.wipeN (d : Dk) (a : Int) : Nat → Dk × Bool × Nat
  | 0 => (d, false, 0)
  | k + 1 => if (d.wipeN a k).2.2 = 0 then (((d.wipeN a k).1.wipe1 (wrap64 (a + k))).1, (d.wipeN a k).2.1 || ((d.wipeN a k).1.wipe1 (wrap64 (a + k))).2.1, ((d.wipeN a k).1.wipe1 (wrap64 (a + k))).2.2) else d.wipeN a k
def Dk.wipe (d : Dk) (a n : Int) : Dk × Nat := if (d.wipeN a n.toNat).2.2 = 0 then if (d.wipeN a n.toNat).2.1 = true then (d.wipeN a n.toNat).1.sync else ((d.wipeN a n.toNat).1, 0) else ((d.wipeN a n.toNat).1, (d.wipeN a n.toNat).2.2)
theorem Dk.write_pend (d : Dk) (i : Int) (s : List UInt8) : (d.write i s).1.pend.length ≤ d.pend.length + 1 := by
  unfold Dk.write
  split
  · unfold Dk.wear
    split
    · simp [Dk.put]
    · split <;> simp [Dk.put]
  · simp
theorem Dk.wipe1_pend (d : Dk) (i : Int) : (d.wipe1 i).1.pend.length ≤ d.pend.length + 1 := by
  unfold Dk.wipe1
  split
  · exact d.write_pend i zs
  · simp
theorem Dk.wipeN_pend (d : Dk) (a : Int) : ∀ k, (d.wipeN a k).1.pend.length ≤ d.pend.length + k
  | 0 => Nat.le_refl _
  | k + 1 => by
    have ih := d.wipeN_pend a k
    unfold Dk.wipeN
    split
    · have := ((d.wipeN a k).1).wipe1_pend (wrap64 (a + k))
      show (((d.wipeN a k).1.wipe1 (wrap64 (a + k))).1).pend.length ≤ _
      omega
    · omega
theorem Dk.wipeN_stop (d : Dk) (a : Int) {k : Nat} (h : (d.wipeN a k).2.2 ≠ 0) : ∀ m, d.wipeN a (k + m) = d.wipeN a k
  | 0 => rfl
  | m + 1 => by
    have ih := d.wipeN_stop a h m
    show d.wipeN a ((k + m) + 1) = _
    rw [Dk.wipeN, if_neg (by rw [ih]; exact h), ih]

set_option maxHeartbeats 1000000 in
set_option maxRecDepth 100000 in
theorem wipe1_any (b p : Nat) (d : Dk) (i : Int) (w : World) (hfew : d.pend.length ≤ 100000) (h : Own b w p d) :
    Calls Try.prog 62 #[.pointer (some ⟨p, 0, none⟩), .int .i64 i] w fun e w' => e = .returned (.tuple #[.bool (d.wipe1 i).2.1, .int .i64 ((d.wipe1 i).2.2 : Nat)]) ∧ Own b w' p (d.wipe1 i).1 ∧ Below b w w' := by
  have H := Lib.hid h
  have HS := Lib.hid (Dk.readS_len h.ok i)
  clear h
  have HW := Lib.hid (show d.wipe1 i = if d.err i = 0 ∧ ¬ d.readS i = zs then ((d.write i zs).1, (d.write i zs).2 == 0, (d.write i zs).2) else (d, false, d.err i) from rfl)
  obtain ⟨s, hs⟩ : ∃ s, s = d.readS i := ⟨_, rfl⟩
  rw [← hs] at HS HW
  by_cases h0 : d.err i = 0
  · by_cases hz : s = zs
    · have HR := Lib.hid (show d.wipe1 i = (d, false, 0) by rw [HW.out, if_neg (fun x => x.2 hz), h0])
      rw [HR.out]
      have HZ := Lib.hid hz
      clear hz
      go_enter Try.func62, Try.ntmps62
      go_wp2_with fail
      refine (oRead b p d i w H.out).mono ?_
      rintro e w1 ⟨rfl, hb1⟩
      rw [← hs, h0]
      have H1 := Lib.hid ((H.out.below hb1).alloc (.cells (bc s).toArray 40))
      have HB1 := Lib.hid ((hb1.mono H.out.2).alloc (Nat.le_trans H.out.2 hb1.size) (.cells (bc s).toArray 40))
      clear hb1 hs h0
      go_wp2_with (first
        | (refine wpList_alloc_row rfl _ rfl (secv zs) (bc zs).toArray sec_zero rfl ?_)
        | (refine wpList_store_row rfl _ _ _ rfl _ (bc s).toArray rfl rfl 40 (bc zs).toArray (heap_alloc_new _ _) (sec_info' _ HS.out) (by rw [bc_size, bc_size, HS.out]; rfl) (bc_all _) ?_
           rw [World.setRow_alloc_new])
        | (refine wpListG_load_row (by kernel_rfl) _ _ rfl w1.heap.size rfl 40 _ (0, 0) _ (heap_alloc_new _ _) Try.underlying40 rfl (sec_info' _ HS.out) ?_)
        | (go_at_call 32; refine (blank_any s HS.out _).mono ?_; rintro e w2 ⟨rfl, hb2⟩; rw [decide_eq_true HZ.out]))
      go_ret2
      exact ⟨rfl, H1.out.below hb2, HB1.out.trans (hb2.mono H1.out.2)⟩
    · have HR := Lib.hid (show d.wipe1 i = ((d.write i zs).1, (d.write i zs).2 == 0, (d.write i zs).2) by rw [HW.out, if_pos ⟨h0, hz⟩])
      rw [HR.out]
      obtain ⟨r, hr⟩ : ∃ r, r = d.write i zs := ⟨_, rfl⟩
      rw [← hr]
      have HZ := Lib.hid hz
      have HRr := Lib.hid hr
      clear hz hr HR HW
      go_enter Try.func62, Try.ntmps62
      go_wp2_with fail
      refine (oRead b p d i w H.out).mono ?_
      rintro e w1 ⟨rfl, hb1⟩
      rw [← hs, h0]
      have H1 := Lib.hid ((H.out.below hb1).alloc (.cells (bc s).toArray 40))
      have HB1 := Lib.hid ((hb1.mono H.out.2).alloc (Nat.le_trans H.out.2 hb1.size) (.cells (bc s).toArray 40))
      clear hb1 hs h0
      go_wp2_with (first
        | (refine wpList_alloc_row rfl _ rfl (secv zs) (bc zs).toArray sec_zero rfl ?_)
        | (refine wpList_store_row rfl _ _ _ rfl _ (bc s).toArray rfl rfl 40 (bc zs).toArray (heap_alloc_new _ _) (sec_info' _ HS.out) (by rw [bc_size, bc_size, HS.out]; rfl) (bc_all _) ?_
           rw [World.setRow_alloc_new])
        | (refine wpListG_load_row (by kernel_rfl) _ _ rfl w1.heap.size rfl 40 _ (0, 0) _ (heap_alloc_new _ _) Try.underlying40 rfl (sec_info' _ HS.out) ?_)
        | (go_at_call 32; refine (blank_any s HS.out _).mono ?_; rintro e w2 ⟨rfl, hb2⟩; rw [decide_eq_false HZ.out])
        | (refine wpList_build_row rfl _ #[] rfl (bc zs).toArray (by kernel_rfl) ?_))
      refine (oWrite b p d i zs w2 zs_len hfew (H1.out.below hb2)).mono ?_
      rintro e w3 ⟨rfl, h3, hb3⟩
      rw [← HRr.out] at h3 ⊢
      have H3 := Lib.hid h3
      have HB3 := Lib.hid ((HB1.out.trans (hb2.mono H1.out.2)).trans hb3)
      clear h3 hb2 hb3 HRr
      obtain ⟨r1, er⟩ := r
      have HQ := Lib.hid (show (((er : Nat) : Int) == 0) = (er == 0) by
        by_cases hx : er = 0
        · rw [hx]; rfl
        · have h1 : (((er : Nat) : Int) == 0) = false := by rw [beq_eq_false_iff_ne]; omega
          rw [h1]; simpa using hx)
      go_wp2_with fail
      go_ret2
      exact ⟨by show Ending.returned (.tuple #[.bool (((er : Nat) : Int) == 0), _]) = _; rw [HQ.out]; rfl, H3.out, HB3.out⟩
  · have HR := Lib.hid (show d.wipe1 i = (d, false, d.err i) by rw [HW.out, if_neg (fun x => h0 x.1)])
    have hne : ¬ ((d.err i : Nat) : Int) = 0 := by omega
    have HNe := Lib.hid hne
    rw [HR.out]
    obtain ⟨er, her⟩ : ∃ er, er = d.err i := ⟨_, rfl⟩
    rw [← her] at hne ⊢
    have HE := Lib.hid her
    clear her HR HW HNe
    go_enter Try.func62, Try.ntmps62
    go_wp2_with fail
    refine (oRead b p d i w H.out).mono ?_
    rintro e w1 ⟨rfl, hb1⟩
    rw [← hs, ← HE.out]
    have H1 := Lib.hid ((H.out.below hb1).alloc (.cells (bc s).toArray 40))
    have HB1 := Lib.hid ((hb1.mono H.out.2).alloc (Nat.le_trans H.out.2 hb1.size) (.cells (bc s).toArray 40))
    clear hb1 hs h0 HE
    go_wp2_with (first
      | (refine wpList_alloc_row rfl _ rfl (secv zs) (bc zs).toArray sec_zero rfl ?_)
      | (refine wpList_store_row rfl _ _ _ rfl _ (bc s).toArray rfl rfl 40 (bc zs).toArray (heap_alloc_new _ _) (sec_info' _ HS.out) (by rw [bc_size, bc_size, HS.out]; rfl) (bc_all _) ?_
         rw [World.setRow_alloc_new]))
    go_ret2
    exact ⟨rfl, H1.out, HB1.out⟩

set_option maxHeartbeats 2000000 in
set_option maxRecDepth 100000 in
theorem wipe_any (b p : Nat) (d : Dk) (a n : Int) (w : World) (hn : n ≤ 1000) (hfew : d.pend.length ≤ 1000) (h : Own b w p d) :
    Calls Try.prog 37 #[.pointer (some ⟨p, 0, none⟩), .int .i64 a, .int .i64 n] w fun e w' => e = .returned (.int .i64 ((d.wipe a n).2 : Nat)) ∧ Own b w' p (d.wipe a n).1 ∧ Below b w w' := by
  have H := Lib.hid h
  have HF := Lib.hid hfew
  have HWp := Lib.hid (show d.wipe a n = if (d.wipeN a n.toNat).2.2 = 0 then if (d.wipeN a n.toNat).2.1 = true then (d.wipeN a n.toNat).1.sync else ((d.wipeN a n.toNat).1, 0) else ((d.wipeN a n.toNat).1, (d.wipeN a n.toNat).2.2) from rfl)
  obtain ⟨r, hr⟩ : ∃ r, r = d.wipe a n := ⟨_, rfl⟩
  rw [← hr] at HWp ⊢
  clear h hfew hr
  go_enter Try.func37, Try.ntmps37
  go_wp2_with fail
  go_loopw [7, 12] (fun ts ti wr => ∃ (i : Nat) (sm : Bool), ti = .int .i64 i ∧ i ≤ n.toNat ∧ (d.wipeN a i).2.2 = 0 ∧ ts = .bool sm ∧ sm = (d.wipeN a i).2.1 ∧ Own b wr p (d.wipeN a i).1 ∧ Below b w wr) (fun _ ti _ => n.toNat - (intOf ti).toNat)
  case atStart => exact ⟨0, false, rfl, Nat.zero_le _, rfl, rfl, rfl, H.out, Below.refl _ _⟩
  case round =>
    obtain ⟨i, sm, rfl, hi, h0, rfl, hsm, h1, hb1⟩ := hrel
    have H0 := Lib.hid h0
    have HS := Lib.hid hsm
    have H1 := Lib.hid h1
    have HB1 := Lib.hid hb1
    clear h0 hsm h1 hb1 H
    by_cases hlt : i < n.toNat
    · have hlt' : (i : Int) < n := by omega
      obtain ⟨x, hx⟩ : ∃ x, wrap64 (a + (i : Int)) = x := ⟨_, rfl⟩
      have hst : d.wipeN a (i + 1) = (((d.wipeN a i).1.wipe1 x).1, (d.wipeN a i).2.1 || ((d.wipeN a i).1.wipe1 x).2.1, ((d.wipeN a i).1.wipe1 x).2.2) := by rw [Dk.wipeN, if_pos H0.out, hx]
      have hpd := Dk.wipeN_pend d a i
      obtain ⟨D, hD⟩ : ∃ D, D = (d.wipeN a i).1 := ⟨_, rfl⟩
      rw [← HS.out, ← hD] at hst
      rw [← hD] at H1 hpd
      obtain ⟨q, hq⟩ : ∃ q, q = D.wipe1 x := ⟨_, rfl⟩
      rw [← hq] at hst
      have HQ := Lib.hid hq
      have HST := Lib.hid hst
      have HPD := Lib.hid hpd
      clear hst hpd hD hq
      go_wp2_with fail
      refine (wipe1_any b p D x wr (by have := HPD.out; have := HF.out; omega) H1.out).mono ?_
      rintro e w2 ⟨rfl, h2, hb2⟩
      rw [← HQ.out] at h2 ⊢
      have H2 := Lib.hid h2
      have HB2 := Lib.hid (HB1.out.trans hb2)
      clear h2 hb2 HQ
      obtain ⟨D2, s2, e2⟩ := q
      by_cases he : e2 = 0
      · subst he
        cases sm
        all_goals
          go_wp2_with fail
          go_roundw
          case rel => exact ⟨i + 1, _, by go_num, by omega, by rw [HST.out], rfl, by rw [HST.out]; rfl, by rw [HST.out]; exact H2.out, HB2.out⟩
          case measure => simp [intOf]; omega
      · have hne : ¬ ((e2 : Nat) : Int) = 0 := by omega
        have HRr := Lib.hid (show r = (D2, e2) by
          have hs := Dk.wipeN_stop d a (k := i + 1) (by rw [HST.out]; exact he) (n.toNat - (i + 1))
          rw [show i + 1 + (n.toNat - (i + 1)) = n.toNat by omega, HST.out] at hs
          rw [HWp.out, hs, if_neg he])
        clear HST he
        go_wp2_with fail
        go_ret
        rw [HRr.out]
        exact ⟨rfl, H2.out, HB2.out⟩
    · have hlt' : ¬ (i : Int) < n := by omega
      obtain rfl : i = n.toNat := by omega
      have hd' : decide (((n.toNat : Nat) : Int) < n) = false := by rw [decide_eq_false_iff_not]; omega
      cases sm
      · have HRr := Lib.hid (show r = ((d.wipeN a n.toNat).1, 0) by rw [HWp.out, if_pos H0.out, if_neg (by rw [← HS.out]; decide)])
        go_wp2_with fail
        go_ret
        rw [HRr.out]
        exact ⟨rfl, H1.out, HB1.out⟩
      · have HRr := Lib.hid (show r = (d.wipeN a n.toNat).1.sync by rw [HWp.out, if_pos H0.out, if_pos HS.out.symm])
        have HPD := Lib.hid (Dk.wipeN_pend d a n.toNat)
        go_wp2_with fail
        refine (oSync b p _ wr (by have := HPD.out; have := HF.out; omega) H1.out).mono ?_
        rintro e w2 ⟨rfl, h2, hb2⟩
        rw [← HRr.out] at h2 ⊢
        have H2 := Lib.hid h2
        have HB2 := Lib.hid (HB1.out.trans hb2)
        clear h2 hb2
        go_wp2_with fail
        go_ret
        exact ⟨rfl, H2.out, HB2.out⟩

end Go.Proofs.Ytlaecnggbcagcaa
