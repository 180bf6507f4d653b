/- Contract of package roll: Append. -/
import Derived.Test.YtlaecnggbcagcaaRl7
namespace Go.Proofs.Ytlaecnggbcagcaa
open Go.RowKit MM
set_option linter.unusedVariables false
set_option linter.unusedSimpArgs false

set_option maxHeartbeats 4000000 in
set_option maxRecDepth 100000 in
theorem append_any (T : Nat → Prop) (p q a e : Nat) (d : Dk) (A : Option Addr) (c : Nat) (b : List UInt8) (w : World) (hb : Bts w A b) (hbc : b.length ≤ c) (hbn : A = none → c = 0) (hbl : b.length ≤ 100000) (hae : a ≤ e) (he : e ≤ 100000) (hp : d.pend.length ≤ 5000)
    (hr : RlAt w q p a e) (hq : ¬ T q) (h : OwnT T w p d) :
    Calls Try.prog 48 #[.pointer (some ⟨q, 0, none⟩), .slice A b.length c] w fun x w' => x = .returned (.int .i64 ((d.app a e b).2.1 : Nat)) ∧ OwnT T w' p (d.app a e b).1 ∧ RlAt w' q p (d.app a e b).2.2 e ∧ Kp (fun k => T k ∨ k = q) w w' := by
  have H := Lib.hid h
  have HR := Lib.hid hr
  have HQ := Lib.hid hq
  have HP := Lib.hid hp
  have HB := Lib.hid hb
  have HBc := Lib.hid (And.intro hbc hbn)
  have HAE := Lib.hid (And.intro hae he)
  have hbl' : (b.length : Int) ≤ 100000 := by omega
  have HDn := Lib.hid (dDown_any p _ d w h.1)
  have k0 := cell_of_row _ q 0 _ _ (0, 0) hr
  have hT : ∀ k, T k → T k ∨ k = q := fun k x => .inl x
  cases hdn : d.down
  case true =>
    have HX := Lib.hid (show d.app a e b = (d, 14, a) from if_pos hdn)
    rw [HX.out]
    rw [hdn] at HDn
    clear h hr hq hp hb hbc hbn hae he hbl HX
    go_enter Try.func48, Try.ntmps48
    go_wp2_with (first
      | (go_at_call 27; refine HDn.out.mono ?_; rintro e wq ⟨rfl, hq⟩; rw [hq]; clear hq wq))
    go_ret
    exact ⟨rfl, H.out, HR.out, Kp.refl _ _⟩
  rw [hdn] at HDn
  have HD := Lib.hid hdn
  clear hdn
  by_cases hlong : 3840 < b.length
  · have HX := Lib.hid (show d.app a e b = (d, 3, a) by unfold Dk.app; rw [if_neg (by rw [HD.out]; decide), if_pos hlong])
    rw [HX.out]
    have hl : (3840 : Int) < (b.length : Int) := by omega
    clear h hr hq hp hb hbc hbn hae he hbl HX hlong
    go_enter Try.func48, Try.ntmps48
    go_wp2_with (first
      | (go_at_call 27; refine HDn.out.mono ?_; rintro e wq ⟨rfl, hq⟩; rw [hq]; clear hq wq))
    go_ret
    exact ⟨rfl, H.out, HR.out, Kp.refl _ _⟩
  have HNd := Lib.hid (fun w9 => need_any b.length (by omega) w9)
  obtain ⟨m, hm⟩ : ∃ m, m = needN b.length := ⟨_, rfl⟩
  have HMp := Lib.hid (show 0 < m ∧ m ≤ 64 by rw [hm]; exact ⟨needN_pos _, needN_le (by omega)⟩)
  have HM := Lib.hid hm
  rw [← hm] at HNd
  have hl : ¬ (3840 : Int) < (b.length : Int) := by omega
  have HLf := Lib.hid (left_any q p a e w hr hae he)
  by_cases hfull : e - a < m
  · have HX := Lib.hid (show d.app a e b = (d, 8, a) by unfold Dk.app; rw [if_neg (by rw [HD.out]; decide), if_neg hlong, ← hm, if_pos hfull])
    rw [HX.out]
    have hf : ((e - a : Nat) : Int) < (m : Int) := by omega
    generalize e - a = ea at *
    clear h hr hq hp hb hbc hbn hae he hbl HX hlong hm hfull HAE
    go_enter Try.func48, Try.ntmps48
    go_wp2_with (first
      | (go_at_call 27; refine HDn.out.mono ?_; rintro e wq ⟨rfl, hq⟩; rw [hq]; clear hq wq)
      | (go_at_call 45; refine HLf.out.mono ?_; rintro e w2 ⟨rfl, hb2⟩; have HB2 := Lib.hid hb2; clear hb2)
      | (go_at_call 50; refine (HNd.out _).mono ?_; rintro e wq ⟨rfl, hq⟩; rw [hq]; clear hq wq))
    go_ret
    exact ⟨rfl, H.out.below HB2.out, HR.out.below HB2.out, Kp.of_below HB2.out _⟩
  have hf : ¬ ((e - a : Nat) : Int) < (m : Int) := by omega
  have ha4 : (a : Int) ≤ 100000 := by omega
  have HX := Lib.hid (show d.app a e b = if (d.putN a (secsL b) m).2 = 0 then ((d.putN a (secsL b) m).1, 0, a + m) else ((d.putN a (secsL b) m).1, (d.putN a (secsL b) m).2, a) by unfold Dk.app; rw [if_neg (by rw [HD.out]; decide), if_neg hlong, ← hm, if_neg hfull])
  obtain ⟨rx, hrx⟩ : ∃ rx, rx = d.app a e b := ⟨_, rfl⟩
  rw [← hrx] at HX ⊢
  have HSe := Lib.hid (fun w9 (h9 : Below w.heap.size w w9) => sectors_any A c b w9 (hb.below h9) (by omega) hbc hbn)
  have hle : b.length ≤ 3840 := by omega
  obtain ⟨L, hL⟩ : ∃ L, L = secsL b := ⟨_, rfl⟩
  have HLs := Lib.hid (show ∀ s ∈ L, s.length = 64 by rw [hL]; exact secsL_secs b)
  have HLL := Lib.hid (show L.length = m by rw [hL, secsL_len, hm])
  unfold SecsPost at HSe
  rw [← hL, ← hm] at HSe
  rw [← hL] at HX
  obtain ⟨i0, hi0, hz0, hz1, hz2⟩ := info_parts sec_info3
  generalize e - a = ea at *
  clear h hr hq hp hb hbc hbn hae he hbl hlong hm hfull HAE hrx hL hle HD HB HBc HM
  go_enter Try.func48, Try.ntmps48
  go_wp2_with (first
    | (go_at_call 27; refine HDn.out.mono ?_; rintro e wq ⟨rfl, hq⟩; rw [hq]; clear hq wq)
    | (go_at_call 45; refine HLf.out.mono ?_; rintro e w2 ⟨rfl, hb2⟩; have HB2 := Lib.hid hb2; clear hb2)
    | (go_at_call 50; refine (HNd.out _).mono ?_; rintro e wq ⟨rfl, hq⟩; rw [hq]; clear hq wq)
    | (go_at_call 67; refine (HSe.out _ HB2.out).mono ?_; rintro e w3 ⟨g, rfl, hg, hgk, hb3⟩
       have HB3 := Lib.hid (HB2.out.trans (hb3.mono HB2.out.size)); have HG3 := Lib.hid (And.intro hg (Nat.le_trans HB2.out.size hgk)); clear hb3 hg hgk))
  have HR3 := Lib.hid (HR.out.below HB3.out)
  have H3 := Lib.hid (H.out.now HB3.out)
  have HQ3 := Lib.hid (show q < w.heap.size ∧ q < w3.heap.size ∧ g < w3.heap.size from ⟨lt_of_heap HR.out, lt_of_heap HR3.out, lt_of_heap HG3.out.1⟩)
  obtain ⟨T', hT'⟩ : ∃ T' : Nat → Prop, T' = fun k => T k ∧ (k < w.heap.size ∨ w3.heap.size ≤ k) := ⟨_, rfl⟩
  rw [← hT'] at H3
  have HTq := Lib.hid (show ¬ T' q by rw [hT']; exact fun x => HQ.out x.1)
  have HTg := Lib.hid (show ¬ T' g by rw [hT']; exact fun x => by have := HG3.out.2; have := HQ3.out; rcases x.2 with y | y <;> omega)
  have HTn' := Lib.hid (show ∀ k, w3.heap.size ≤ k → T' k from H3.out.2)
  have HTo := Lib.hid (show ∀ k, T' k → T k by rw [hT']; exact fun k x => x.1)
  have HOu := Lib.hid (fun D' w5 (h5 : OwnT T' w5 p D') (hk5 : Kp T' w3 w5) => h5.cut (fun k _ y => HTo.out k y) (fun k hk => H.out.2 k (by have := HB3.out.size; have := hk5.size; omega)))
  have HFin := Lib.hid (fun w5 (hk5 : Kp T' w3 w5) => (Kp.of_below HB3.out (fun k => T k ∨ k = q)).same (hk5.mono fun k _ y => .inl (HTo.out k y)))
  clear hT' HSe HDn HLf HB2 k0
  go_loopw [28] (fun t wr => ∃ i : Nat, t = .int .i64 i ∧ i ≤ m ∧ (d.putN a L i).2 = 0 ∧ OwnT T' wr p (d.putN a L i).1 ∧ Kp T' w3 wr) (fun t _ => m - (intOf t).toNat)
  case atStart => exact ⟨0, rfl, Nat.zero_le _, rfl, H3.out, Kp.refl _ _⟩
  case round =>
    obtain ⟨i, rfl, hi, h0, h1, h2⟩ := hrel
    have H0 := Lib.hid h0
    have H1 := Lib.hid h1
    have H2 := Lib.hid h2
    clear h0 h1 h2 H3
    have HRr := Lib.hid (HR3.out.kp H2.out HTq.out)
    have HGr := Lib.hid ((H2.out.block _ HQ3.out.2.2 HTg.out).trans HG3.out.1)
    by_cases hlt : i < m
    · have hlt' : (i : Int) < (m : Int) := by omega
      have hm64 : (m : Int) ≤ 64 := by have := HMp.out; omega
      obtain ⟨s, hs⟩ : ∃ s, L[i]? = some s := ⟨_, List.getElem?_eq_getElem (by rw [HLL.out]; exact hlt)⟩
      have HSL := Lib.hid (HLs.out s (List.mem_of_getElem? hs))
      have hrg := secs_range HLs.out HGr.out hs
      have HRg := Lib.hid hrg
      obtain ⟨D, hD⟩ : ∃ D, D = (d.putN a L i).1 := ⟨_, rfl⟩
      have hst : d.putN a L (i + 1) = D.write ((a : Int) + (i : Int)) s := by rw [Dk.putN, if_pos H0.out, hD, List.getD_eq_getElem?_getD, hs]; rfl
      have HPD := Lib.hid (show D.pend.length ≤ 100000 by rw [hD]; have := d.putN_pend a L i; have := HP.out; have := HMp.out; omega)
      rw [← hD] at H1
      obtain ⟨x, hx⟩ : ∃ x, x = D.write ((a : Int) + (i : Int)) s := ⟨_, rfl⟩
      rw [← hx] at hst
      have HST := Lib.hid hst
      have HXx := Lib.hid hx
      clear hst hx hD hs hrg
      go_upto_region 10 with (first
        | (refine wpList_load_mid rfl _ _ rfl g (i * 64) rfl (bc s) _ HRg.out Try.underlying40 rfl (sec_info2 s HSL.out) ?_)
        | (refine wpList_alloc_row rfl _ rfl (secv zs) (bc zs).toArray sec_zero rfl ?_)
        | (refine wpList_store_row rfl _ _ _ rfl _ (bc s).toArray rfl rfl 40 (bc zs).toArray (heap_alloc_new _ _) (sec_info' _ HSL.out) (by rw [bc_size, bc_size, HSL.out]; rfl) (bc_all _) ?_
           rw [World.setRow_alloc_new]))
      have HKu := Lib.hid (show Kp T' wr (wr.alloc (.cells (bc s).toArray 40)) from (Kp.refl _ _).alloc _)
      have HRb := Lib.hid (heap_alloc_new wr (.cells (bc s).toArray 40))
      have HRu := Lib.hid (HRr.out.kp HKu.out HTq.out)
      have H1u := Lib.hid (H1.out.now (w' := wr.alloc (.cells (bc s).toArray 40)) ((Below.refl _ _).alloc (Nat.le_refl _) _))
      have HSz := Lib.hid (show (wr.alloc (.cells (bc s).toArray 40)).heap.size = wr.heap.size + 1 by simp)
      generalize World.alloc wr _ = u at *
      obtain ⟨T2, hT2⟩ : ∃ T2 : Nat → Prop, T2 = fun k => T' k ∧ (k < wr.heap.size ∨ u.heap.size ≤ k) := ⟨_, rfl⟩
      rw [← hT2] at H1u
      have HT2 := Lib.hid (show ∀ k, T2 k → T' k by rw [hT2]; exact fun k x => x.1)
      have HT2b := Lib.hid (show ¬ T2 wr.heap.size by rw [hT2]; exact fun x => by have := HSz.out; rcases x.2 with y | y <;> omega)
      clear hT2
      have KR := Lib.hid (fun W (hW : Kp T2 u W) => (hW.block wr.heap.size (lt_of_heap HRb.out) HT2b.out).trans HRb.out)
      have KC := Lib.hid (fun W (hW : Kp T2 u W) (o : Nat) (v : Value) (hv : (rlC p a e)[o]? = some v) => (show W.cell? ⟨q, o, none⟩ = some v from by rw [cell_of_row W q o _ _ (0, 0) (HRu.out.kp hW (fun x => HTq.out (HT2.out q x)))]; exact hv))
      have hw : IntKind.i64.wrap ((a : Int) + (i : Int)) = (a : Int) + (i : Int) := by simp [IntKind.wrap, IntKind.signed, IntKind.bits]; omega
      have HU := Lib.hid (show OwnT T2 (World.drew u) p D from H1u.out.below (below_drew (Below.refl _ _)))
      refine wp_region_held_drew (S := fun W => Kp T2 u W) (by kernel_rfl) (Kp.drew (Kp.refl _ _)) (fun hHeld => ?_)
      refine wpAnyH_take (i := 0) (oi := ⟨_, _, _, _, _, _⟩) (v := ?_) rfl (by kernel_rfl) (by kernel_rfl) (by kernel_rfl) (fun _ _ _ h => h) (Or.inl ⟨by kernel_rfl, ?_⟩) hHeld ?_
      rotate_left 1
      · intro W hW; first | (go_simp; done) | (go_simp; with_reducible rfl)
      try simp only [Act.put, List.setIfInBounds_toArray, List.set_cons_zero, List.set_cons_succ]
      refine wpAnyH_take (i := 1) (oi := ⟨_, _, _, _, _, _⟩) (v := ?_) rfl (by kernel_rfl) (by kernel_rfl) (by kernel_rfl) (fun _ _ _ h => h) (Or.inl ⟨by kernel_rfl, ?_⟩) hHeld ?_
      rotate_left 1
      · intro W hW; first | (go_simp; done) | (go_simp; with_reducible rfl)
      try simp only [Act.put, List.setIfInBounds_toArray, List.set_cons_zero, List.set_cons_succ]
      refine wpAnyH_take (i := 2) (oi := ⟨_, _, _, _, _, _⟩) (v := ?_) rfl (by kernel_rfl) (by kernel_rfl) (by kernel_rfl) (fun _ _ _ h => h) (Or.inl ⟨by kernel_rfl, ?_⟩) hHeld ?_
      rotate_left 1
      · intro W hW; first | (go_simp; done) | (go_simp; with_reducible rfl)
      try simp only [Act.put, List.setIfInBounds_toArray, List.set_cons_zero, List.set_cons_succ]
      refine wpAnyH_take (i := 3) (oi := ⟨_, _, _, _, _, _⟩) (v := ?_) rfl (by kernel_rfl) (by kernel_rfl) (by kernel_rfl) (fun _ _ _ h => h) (Or.inl ⟨by kernel_rfl, ?_⟩) hHeld ?_
      rotate_left 1
      · intro W hW; have k0 :=  (KC.out W hW 0 _ rfl); first | (go_simp; done) | (go_simp; with_reducible rfl)
      try simp only [Act.put, List.setIfInBounds_toArray, List.set_cons_zero, List.set_cons_succ]
      refine wpAnyH_take (i := 4) (oi := ⟨_, _, _, _, _, _⟩) (v := ?_) rfl (by kernel_rfl) (by kernel_rfl) (by kernel_rfl) (fun _ _ _ h => h) (Or.inl ⟨by kernel_rfl, ?_⟩) hHeld ?_
      rotate_left 1
      · intro W hW; first | (go_simp; done) | (go_simp; with_reducible rfl)
      try simp only [Act.put, List.setIfInBounds_toArray, List.set_cons_zero, List.set_cons_succ]
      refine wpAnyH_take (i := 5) (oi := ⟨_, _, _, _, _, _⟩) (v := ?_) rfl (by kernel_rfl) (by kernel_rfl) (by kernel_rfl) (fun _ _ _ h => h) (Or.inl ⟨by kernel_rfl, ?_⟩) hHeld ?_
      rotate_left 1
      · intro W hW; first | (go_simp; done) | (go_simp; with_reducible rfl)
      try simp only [Act.put, List.setIfInBounds_toArray, List.set_cons_zero, List.set_cons_succ]
      refine wpAnyH_take (i := 6) (oi := ⟨_, _, _, _, _, _⟩) (v := ?_) rfl (by kernel_rfl) (by kernel_rfl) (by kernel_rfl) (fun _ _ _ h => h) (Or.inl ⟨by kernel_rfl, ?_⟩) hHeld ?_
      rotate_left 1
      · intro W hW; first | (go_simp; done) | (go_simp; with_reducible rfl)
      try simp only [Act.put, List.setIfInBounds_toArray, List.set_cons_zero, List.set_cons_succ]
      refine wpAnyH_take (i := 7) (oi := ⟨_, _, _, _, _, _⟩) (v := ?_) rfl (by kernel_rfl) (by kernel_rfl) (by kernel_rfl) (fun _ _ _ h => h) (Or.inl ⟨by kernel_rfl, ?_⟩) hHeld ?_
      rotate_left 1
      · intro W hW; have k0 :=  (KC.out W hW 1 _ rfl); first | (go_simp; done) | (go_simp; with_reducible rfl)
      try simp only [Act.put, List.setIfInBounds_toArray, List.set_cons_zero, List.set_cons_succ]
      refine wpAnyH_take (i := 8) (oi := ⟨_, _, _, _, _, _⟩) (v := ?_) rfl (by kernel_rfl) (by kernel_rfl) (by kernel_rfl) (fun _ _ _ h => h) (Or.inl ⟨by kernel_rfl, ?_⟩) hHeld ?_
      rotate_left 1
      · intro W hW; first | (go_simp; done) | (go_simp; with_reducible rfl)
      try simp only [Act.put, List.setIfInBounds_toArray, List.set_cons_zero, List.set_cons_succ]
      refine wpAnyH_take (i := 9) (oi := ⟨_, _, _, _, _, _⟩) (v := ?_) rfl (by kernel_rfl) (by kernel_rfl) (by kernel_rfl) (fun _ _ _ h => h) (Or.inl ⟨by kernel_rfl, ?_⟩) hHeld ?_
      rotate_left 1
      · intro W hW; first | (go_simp; done) | (go_simp; with_reducible rfl)
      try simp only [Act.put, List.setIfInBounds_toArray, List.set_cons_zero, List.set_cons_succ]
      refine wpAnyH_take (i := 10) (oi := ⟨_, _, _, _, _, _⟩) (v := .agg (bc s).toArray) rfl (by kernel_rfl) (by kernel_rfl) (by kernel_rfl) (fun _ _ _ h => h) (yieldsIf_load_row (S := fun W => Kp T2 u W) (by kernel_rfl) 40 _ rfl wr.heap.size rfl (bc s).toArray 40 _ (fun W hW => KR.out W hW) Try.underlying40 rfl (sec_info' _ HSL.out)) hHeld ?_
      try simp only [Act.put, List.setIfInBounds_toArray, List.set_cons_zero, List.set_cons_succ]
      refine wpAnyH_ready (rs := [11]) (by kernel_rfl) (by simp) ?_
      refine AllReadyH.cons rfl (fun K hK => ?_) AllReadyH.nil
      rw [if_pos (by kernel_rfl)]
      go_simp
      try rw [hw]
      clear hw
      refine (tWrite T2 p D ((a : Int) + (i : Int)) s _ HSL.out HPD.out HU.out).mono ?_
      rintro e w5 ⟨rfl, h5, hk5⟩
      rw [← HXx.out] at h5 ⊢
      go_wp2_with fail
      refine hK.out _ _ ?_ (fun hHelda => ?_)
      · exact hHeld.same hk5
      clear hK K
      try simp only [Act.put, List.setIfInBounds_toArray, List.set_cons_zero, List.set_cons_succ]
      have H5 := Lib.hid (h5.cut (T' := T') (fun k _ y => HT2.out k y) (fun k hk => HTn'.out k (by have := H2.out.size; have := HKu.out.size; have := hk5.size; have : (World.drew u).heap.size = u.heap.size := rfl; omega)))
      clear h5 hk5
      refine wpAnyH_take (i := 12) (oi := ⟨_, _, _, _, _, _⟩) (v := ?_) rfl (by kernel_rfl) (by kernel_rfl) (by kernel_rfl) (fun _ _ _ h => h) (Or.inl ⟨by kernel_rfl, ?_⟩) hHelda ?_
      rotate_left 1
      · intro W hW; first | (go_simp; done) | (go_simp; with_reducible rfl)
      try simp only [Act.put, List.setIfInBounds_toArray, List.set_cons_zero, List.set_cons_succ]
      refine wpAnyH_done (by kernel_rfl) ?_ _
      have HK5 := Lib.hid (H2.out.same (HKu.out.same (hHelda.mono fun k _ y => HT2.out k y)))
      clear hHelda
      obtain ⟨D2, e2⟩ := x
      by_cases he : e2 = 0
      · subst he
        go_wp2_with fail
        go_roundw
        case rel => exact ⟨i + 1, by go_num, by omega, by rw [HST.out], by rw [HST.out]; exact H5.out, HK5.out⟩
        case measure => simp [intOf]; omega
      · have hne : ¬ ((e2 : Nat) : Int) = 0 := by omega
        have HF := Lib.hid (show rx = (D2, e2, a) by
          have hs := d.putN_stop a L (k := i + 1) (by rw [HST.out]; exact he) (m - (i + 1))
          rw [show i + 1 + (m - (i + 1)) = m by omega, HST.out] at hs
          rw [HX.out, hs, if_neg he])
        clear he
        go_wp2_with fail
        go_ret
        rw [HF.out]
        exact ⟨rfl, HOu.out _ _ H5.out HK5.out, HR3.out.kp HK5.out HTq.out, HFin.out _ HK5.out⟩
    · obtain rfl : i = m := by omega
      have HF := Lib.hid (show rx = ((d.putN a L i).1, 0, a + i) by rw [HX.out, if_pos H0.out])
      have hm64 : (i : Int) ≤ 64 := by have := HMp.out; omega
      have k1 := cell_of_row _ q 1 _ _ (0, 0) HRr.out
      have f1 := frozen_of_row _ _ 1 _ _ HRr.out
      go_upto_region 14 with fail
      have hw : IntKind.i64.wrap ((a : Int) + (i : Int)) = (a : Int) + (i : Int) := by simp [IntKind.wrap, IntKind.signed, IntKind.bits]; omega
      go_still_tail 10, (by kernel_rfl)
      still_call (HNd.out _)
      repeat still_step
      refine wpStill_nil ?_
      change wpList _ _ _ _ _ (World.drew wr)
      have HRv := Lib.hid (HRr.out.below (below_drew (Below.refl _ _)))
      have H1v := Lib.hid (H1.out.below (below_drew (Below.refl _ _)))
      have HKv := Lib.hid (H2.out.same (Kp.drew (S := T') (Kp.refl _ wr)))
      generalize World.drew wr = v0 at *
      replace k1 := cell_of_row _ q 1 _ _ (0, 0) HRv.out
      replace f1 := frozen_of_row _ _ 1 _ _ HRv.out
      go_wp2_with fail
      go_ret
      rw [HF.out]
      have hs : Kp (fun k => k = q) v0 (v0.setCell ⟨q, 1, none⟩ (.int .i64 ((a : Int) + (i : Int)))) := Kp.setCell (S := fun k => k = q) (p := ⟨q, 1, none⟩) (Kp.refl _ _) (.inl rfl) _
      refine ⟨rfl, (HOu.out _ _ H1v.out HKv.out).kp hs (fun k hk e => HQ.out (by rw [← e]; exact hk)), ?_, (HFin.out _ HKv.out).same (hs.mono fun k _ e => .inr e)⟩
      have := HRv.out.set (a + i)
      rwa [show ((a + i : Nat) : Int) = (a : Int) + (i : Int) by omega] at this

end Go.Proofs.Ytlaecnggbcagcaa
