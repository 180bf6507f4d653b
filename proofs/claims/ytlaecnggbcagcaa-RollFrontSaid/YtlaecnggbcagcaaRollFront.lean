/- Law of layer 19: whatever a crash keeps of what wasn't synced, all entries that were are found, and of the others a front; and it goes on. -/
import Derived.Test.YtlaecnggbcagcaaRl18
import Derived.Lib.SlBytesConst
namespace Go.Proofs.Ytlaecnggbcagcaa
open Go.RowKit MM
set_option linter.unusedVariables false
set_option linter.unusedSimpArgs false

def lastB : List UInt8 := [108, 97, 115, 116]
abbrev lastO : Obj := .cells (bc lastB).toArray 5 (4, 5)
theorem last_bts (w : World) : Bts (w.alloc lastO) (some ⟨w.heap.size, 0, none⟩) lastB := by
  intro j v hj
  rw [MM.add_plain, Nat.zero_add, cell_of_row _ _ _ _ _ (4, 5) (heap_alloc_new _ _)]
  simpa using hj
theorem need_last : needN lastB.length = 1 := by decide

set_option maxHeartbeats 4000000 in
set_option maxRecDepth 100000 in
theorem rollFront_any (A : Option Addr) (c : Nat) (es : List (List UInt8)) (B : Option Addr) (c2 : Nat) (ms : List (List UInt8)) (C : Option Addr) (cc : Nat) (ks : List Int) (w : World)
    (hb : EntsA w A es) (hbc : es.length ≤ c) (hl : es.length ≤ 9223372036854775807) (hx : ∀ x ∈ es, x.length ≤ 9223372036854775807)
    (hb2 : EntsA w B ms) (hbc2 : ms.length ≤ c2) (hl2 : ms.length ≤ 9223372036854775807) (hx2 : ∀ x ∈ ms, x.length ≤ 9223372036854775807) (hI : Ins w C ks) :
    Calls Try.prog 13 #[.slice A es.length c, .slice B ms.length c2, .slice C ks.length cc] w fun e w' => e = .returned (.bool true) ∧ Below w.heap.size w w' := by
  have HE := Lib.hid hb
  have HE2 := Lib.hid hb2
  have HIn := Lib.hid hI
  have HSp := Lib.hid (speaks19_any w)
  have HBg := Lib.hid (fun (w9 : World) (hb9 : Below w.heap.size w w9) => big19_any A c es w9 (hb.below hb9) hl hx)
  have HBg2 := Lib.hid (fun (w9 : World) (hb9 : Below w.heap.size w w9) => big19_any B c2 ms w9 (hb2.below hb9) hl2 hx2)
  have HNo := Lib.hid (@bigE_no es)
  have HNo2 := Lib.hid (@bigE_no ms)
  obtain ⟨t, ht⟩ : ∃ t, t = bigE es := ⟨_, rfl⟩
  obtain ⟨t2, ht2⟩ : ∃ t, t = bigE ms := ⟨_, rfl⟩
  rw [← ht] at HBg HNo
  rw [← ht2] at HBg2 HNo2
  clear hb hbc hl hx ht hb2 hbc2 hl2 hx2 ht2 hI
  by_cases hout : t = true ∨ t2 = true ∨ 200 < ks.length
  · by_cases h1 : t = true
    · subst h1
      go_enter Try.func13, Try.ntmps13
      go_wp2_with (first
        | (go_at_call 39; refine HSp.out.mono ?_; rintro e w0 ⟨rfl, hb0⟩; have HB0 := Lib.hid hb0; clear hb0)
        | (go_at_call 46; with_reducible refine (HBg.out _ HB0.out).mono ?_; rintro e wq ⟨rfl, hq⟩; rw [hq]; clear hq wq))
      go_ret
      exact ⟨rfl, HB0.out⟩
    · obtain rfl : t = false := by cases t; rfl; exact absurd rfl h1
      by_cases h2 : t2 = true
      · subst h2
        go_enter Try.func13, Try.ntmps13
        go_wp2_with (first
          | (go_at_call 39; refine HSp.out.mono ?_; rintro e w0 ⟨rfl, hb0⟩; have HB0 := Lib.hid hb0; clear hb0)
          | (go_at_call 46; with_reducible refine (HBg.out _ HB0.out).mono ?_; rintro e wq ⟨rfl, hq⟩; rw [hq]; clear hq wq)
          | (go_at_call 46; with_reducible refine (HBg2.out _ HB0.out).mono ?_; rintro e wq ⟨rfl, hq⟩; rw [hq]; clear hq wq))
        go_ret
        exact ⟨rfl, HB0.out⟩
      · obtain rfl : t2 = false := by cases t2; rfl; exact absurd rfl h2
        have h3 : (200 : Int) < (ks.length : Int) := by rcases hout with x | x | x; exact absurd x h1; exact absurd x h2; omega
        go_enter Try.func13, Try.ntmps13
        go_wp2_with (first
          | (go_at_call 39; refine HSp.out.mono ?_; rintro e w0 ⟨rfl, hb0⟩; have HB0 := Lib.hid hb0; clear hb0)
          | (go_at_call 46; with_reducible refine (HBg.out _ HB0.out).mono ?_; rintro e wq ⟨rfl, hq⟩; rw [hq]; clear hq wq)
          | (go_at_call 46; with_reducible refine (HBg2.out _ HB0.out).mono ?_; rintro e wq ⟨rfl, hq⟩; rw [hq]; clear hq wq))
        go_ret
        exact ⟨rfl, HB0.out⟩
  obtain rfl : t = false := by cases t; rfl; exact absurd (.inl rfl) hout
  obtain rfl : t2 = false := by cases t2; rfl; exact absurd (.inr (.inl rfl)) hout
  have hk3 : ¬ (200 : Int) < (ks.length : Int) := by omega
  have HKs := Lib.hid (show ks.length ≤ 200 by omega)
  have HNO := Lib.hid (HNo.out rfl)
  have HNO2 := Lib.hid (HNo2.out rfl)
  clear hout HNo HNo2
  go_enter Try.func13, Try.ntmps13
  go_wp2_with (first
    | (go_at_call 39; refine HSp.out.mono ?_; rintro e w0 ⟨rfl, hb0⟩; have HB0 := Lib.hid hb0; clear hb0)
    | (go_at_call 46; with_reducible refine (HBg.out _ HB0.out).mono ?_; rintro e wq ⟨rfl, hq⟩; rw [hq]; clear hq wq)
    | (go_at_call 46; with_reducible refine (HBg2.out _ HB0.out).mono ?_; rintro e wq ⟨rfl, hq⟩; rw [hq]; clear hq wq))
  refine (show Calls Try.prog 17 #[.int .i64 300] w0 _ from tNew 300 w0 (by omega) (by omega)).mono ?_
  rintro e w1 ⟨p, rfl, h1, hb1⟩
  have HN := Lib.hid (RSt.new (f := 7) (k := 290) (r := 3) (N := 300) (by omega) (by omega))
  obtain ⟨d1, hd1⟩ : ∃ d1, d1 = Dk.new 300 := ⟨_, rfl⟩
  have HP0 := Lib.hid (show d1.pend.length = 0 by rw [hd1]; rfl)
  rw [← hd1] at h1 HN
  obtain ⟨P, hP⟩ : ∃ P, P = List.replicate 7 zs := ⟨_, rfl⟩
  obtain ⟨R, hR⟩ : ∃ R, R = List.replicate 3 zs := ⟨_, rfl⟩
  have HPl := Lib.hid (show P.length = 7 by rw [hP]; rfl)
  rw [← hP, ← hR] at HN
  have hb1' := (Below.refl w1.heap.size w1).alloc (Nat.le_refl _) (.cells (arV 7 290) 65)
  have H1 := Lib.hid (h1.now hb1')
  have HB1 := Lib.hid (HB0.out.trans ((hb1.trans (hb1'.mono hb1.size)).mono HB0.out.size))
  have HL1 := Lib.hid (Nat.le_trans HB0.out.size hb1.size)
  have HL0 := Lib.hid HB0.out.size
  have HR1 := Lib.hid (show (w1.alloc (.cells (arV 7 290) 65)).heap[w1.heap.size]? = some (.cells (arV P.length (290 : Nat)) 65 (0, 0)) by rw [HPl.out]; exact heap_alloc_new w1 (.cells (arV 7 290) 65))
  have HS1 := Lib.hid (show (w1.alloc (.cells (arV 7 290) 65)).heap.size = w1.heap.size + 1 by simp)
  clear h1 hb1 hd1 hb1' hP hR
  go_upto_region 7 with (first
    | (refine wpList_alloc_row rfl _ rfl (.agg (arV 0 0)) (arV 0 0) (by kernel_rfl) rfl ?_)
    | (refine wpList_store_row rfl _ _ _ rfl _ (arV 7 290) rfl rfl 65 (arV 0 0) (heap_alloc_new _ _) (area_info 7 290) rfl (by kernel_rfl) ?_
       rw [World.setRow_alloc_new]))
  generalize World.alloc w1 _ = w2 at *
  obtain ⟨T1, hT1⟩ : ∃ T1 : Nat → Prop, T1 = fun k => w0.heap.size ≤ k ∧ (k < w1.heap.size ∨ w2.heap.size ≤ k) := ⟨_, rfl⟩
  rw [← hT1] at H1
  have HT1 := Lib.hid (show (∀ k, T1 k → w.heap.size ≤ k) ∧ ¬ T1 w1.heap.size by
    rw [hT1]
    refine ⟨fun k x => Nat.le_trans HL0.out x.1, fun x => ?_⟩
    have := HS1.out
    rcases x.2 with y | y <;> omega)
  have HAr := Lib.hid (show w.heap.size ≤ w1.heap.size ∧ w1.heap.size < w2.heap.size from ⟨HL1.out, by have := HS1.out; omega⟩)
  generalize w1.heap.size = g at *
  clear hT1 HL0 HL1 HS1 HB0
  go_wp2_with (first
    | (refine wpList_load_row rfl _ _ rfl g rfl 65 _ (0, 0) _ HR1.out Try.underlying65 rfl (area_info _ _) ?_)
    | (go_at_call 41
       refine (show Calls Try.prog 41 #[.pointer (some ⟨p, 0, none⟩), .agg (arV P.length (290 : Nat))] w2 _ from rol_open w.heap.size T1 p d1 P R [] 290 P.length 290 w2 HN.out.1 rfl (by simp [flE]) (by decide) (by have := HP0.out; omega) HT1.out.1 HB1.out.size H1.out).mono ?_
       rintro e w3 ⟨hk3, q, A3, c3, vs3, U3, rfl, hr3, -, hq3, hu3⟩
       obtain ⟨T2, hT2⟩ : ∃ T2 : Nat → Prop, T2 = fun k => T1 k ∧ ¬ U3 k := ⟨_, rfl⟩
       rw [← hT2] at hr3
       have HI0 := Lib.hid (show RkI w w3 P R [] [] 290 290 p q g T2 d1 none 0 from ⟨hr3, HN.out.1, by simp [flE], by have := HP0.out; omega, by omega, by have := HPl.out; omega, (hk3.block _ (lt_of_heap HR1.out) HT1.out.2).trans HR1.out,
         ⟨by rw [hT2]; exact fun x => HT1.out.2 x.1, fun x => by have := (hu3 q hq3).1; have := HAr.out.2; omega⟩, ⟨[], ⟨rfl, .inl ⟨rfl, rfl⟩⟩, fun j v x hx => (by cases hx)⟩, fun kk e => (by cases e),
         HB1.out.trans (hk3.below HB1.out.size (fun k hk x => absurd (HT1.out.1 k x) (by omega)))⟩)
       clear hr3 hk3 hu3 hq3 hT2))
  clear HN HP0 HB1 HR1 HT1 HAr H1
  obtain ⟨i1, hi1, hy0, hy1, hy2⟩ := info_parts bt_info3
  go_loopw [13, 53] (fun tw ti wr => ∃ (i k : Nat) (fs : List (List UInt8)) (W : Option Addr) (cw : Nat) (T : Nat → Prop) (d : Dk), tw = .slice W fs.length cw ∧ ti = .int .i64 i ∧ i ≤ es.length ∧ fs.length ≤ i ∧ RkI w wr P R fs fs 290 k p q g T d W cw) (fun _ t _ => es.length - (intOf t).toNat)
  case atStart => exact ⟨0, 290, [], none, 0, _, _, rfl, rfl, Nat.zero_le _, Nat.le_refl _, HI0.out⟩
  case round =>
    obtain ⟨i, k, fs, W, cw, T, d, rfl, rfl, hi, hfi, hI⟩ := hrel
    clear HI0
    have HI := Lib.hid hI
    have HFI := Lib.hid hfi
    clear hI hfi
    have he20 : (es.length : Int) ≤ 20 := by have := HNO.out.1; omega
    by_cases hlt : i < es.length
    · have hlt' : (i : Int) < (es.length : Int) := by omega
      have hx0 : es[i]? = some es[i] := List.getElem?_eq_getElem hlt
      obtain ⟨x, hxx⟩ : ∃ x, x = es[i] := ⟨_, rfl⟩
      rw [← hxx] at hx0
      have HXl := Lib.hid (HNO.out.2 x (List.mem_of_getElem? hx0))
      obtain ⟨gx, ox, a, cx, rfl, hgx, hcl, hbx, hxc, hxn⟩ := HE.out.at_ hx0
      have HX := Lib.hid (show EntA w (.slice a x.length cx) x from ⟨a, cx, rfl, hbx, hxc, hxn⟩)
      have hcl : wr.cell? ⟨gx, ox + i, none⟩ = some (.slice a x.length cx) := (HI.out.bel.cell (p := ⟨gx, ox + i, none⟩) hgx).trans hcl
      have hBx := hbx.below HI.out.bel
      clear hxx hx0 hgx hbx
      by_cases hlong : 3840 < x.length
      · have HAp := Lib.hid (HI.out.app_long a cx x hBx hxc hxn (by have := HXl.out; omega) hlong)
        clear hBx hxc hxn
        go_wp2_with (first
          | (go_at_call 48; refine HAp.out.mono ?_; rintro e w5 ⟨rfl, h5⟩; have HI5 := Lib.hid h5; clear h5))
        go_roundw
        case rel => exact ⟨i + 1, k, fs, W, cw, T, d, rfl, by go_num, by omega, by have := HFI.out; omega, HI5.out⟩
        case measure => simp [intOf]; omega
      · by_cases hfull : k < needN x.length
        · have HAp := Lib.hid (HI.out.app_full a cx x hBx hxc hxn (by have := HXl.out; omega) (by omega) hfull)
          clear hBx hxc hxn
          go_wp2_with (first
            | (go_at_call 48; refine HAp.out.mono ?_; rintro e w5 ⟨rfl, h5⟩; have HI5 := Lib.hid h5; clear h5))
          go_roundw
          case rel => exact ⟨i + 1, k, fs, W, cw, T, d, rfl, by go_num, by omega, by have := HFI.out; omega, HI5.out⟩
          case measure => simp [intOf]; omega
        · obtain ⟨d', -, hAp⟩ := HI.out.app_ok a cx x hBx hxc hxn (by have := HXl.out; omega) (by omega) (by omega)
          have HAp := Lib.hid hAp
          clear hBx hxc hxn hAp
          go_wp2_with (first
            | (go_at_call 48
               refine HAp.out.mono ?_
               rintro e w5 ⟨rfl, h5⟩
               have HI5 := Lib.hid h5
               obtain ⟨vs, hvo, hvv⟩ := h5.want
               have HVo := Lib.hid hvo
               have HVv := Lib.hid hvv
               have HVl := Lib.hid (show vs.length = fs.length by have := hvo.1; omega)
               clear h5 hvo hvv)
            | (at_builtin
               refine wpList_append_at rfl (.tmp 61) (.tmp 63) _ _ rfl 51 i1 _ 1 24 Try.underlying66 hi1 hy0 hy1 hy2 rfl W fs.length cw vs rfl (own_below HVo.out ((Below.refl _ _).alloc (Nat.le_refl _) _)) _ 1 _ rfl (src_one Try.underlying66 _ _ rfl) (by have := HFI.out; unfold maxLen; omega) (by have := HFI.out; omega) ?_
               intro W2 c2 w8 ho8 hg8 hat8
               have HI8 := Lib.hid (HI5.out.push _ HVv.out HVl.out ho8 hg8 hat8 HX.out)
               clear ho8 hg8 hat8))
          go_roundw
          case rel => exact ⟨i + 1, _, fs ++ [x], W2, c2, _, d', by rw [List.length_append]; rfl, by go_num, by omega, by have := HFI.out; rw [List.length_append]; simp; omega, HI8.out⟩
          case measure => simp [intOf]; omega
    · obtain rfl : i = es.length := by omega
      obtain ⟨d2, hsy, hst2, hfr⟩ := HI.out.st.sync
      have HSy := Lib.hid hsy
      have HS2 := Lib.hid hst2
      have HFr := Lib.hid hfr
      have HG2 := Lib.hid (show d2.good = P ++ (flE fs ++ (List.replicate k zs ++ R)) from hfr.1.trans hst2.now)
      have HF20 := Lib.hid (show fs.length ≤ 20 by have := HFI.out; have := HNO.out.1; omega)
      clear hsy hst2 hfr
      go_wp2_with (first
        | (go_at_call 51
           refine (rol_sync wr (by have := HI.out.few; have := HI.out.lim; omega) HI.out.rol).mono ?_
           rintro e w5 ⟨rfl, h5, hk5⟩
           rw [HSy.out] at h5 ⊢
           have HI5 := Lib.hid (show RkI w w5 P R fs fs 290 k p q g T d2 W cw by
             exact HI.out.kp h5 (hk5.mono fun _ _ x => .inl x) HS2.out HI.out.sum (by rw [HFr.out.2]; have := HI.out.sum; simp; omega))
           clear h5 hk5))
      clear HSy HS2
      go_loopw [13, 72] (fun tw ti wr => ∃ (i m : Nat) (gs al : List (List UInt8)) (W : Option Addr) (cw : Nat) (T : Nat → Prop) (d : Dk), al = fs ++ gs ∧ tw = .slice W al.length cw ∧ ti = .int .i64 i ∧ i ≤ ms.length ∧ gs.length ≤ i ∧ RkI w wr P R al al 290 m p q g T d W cw ∧
        d.good = P ++ (flE fs ++ (List.replicate k zs ++ R)) ∧ d.pend = atL (P.length + (flE fs).length) (flE gs) ∧ k = (flE gs).length + m) (fun _ t _ => ms.length - (intOf t).toNat)
      case atStart => exact ⟨0, k, [], fs, W, cw, T, d2, (List.append_nil _).symm, rfl, rfl, Nat.zero_le _, Nat.le_refl _, HI5.out, HG2.out, HFr.out.2, by simp [flE]⟩
      case round =>
        obtain ⟨i, m, gs, al, W, cw, T, d, hal, rfl, rfl, hi, hfi, hI, hgd, hpd, hkm⟩ := hrel
        have HAl := Lib.hid hal
        clear hal
        clear HI5 HFr HG2 HI
        have HI := Lib.hid hI
        have HFI := Lib.hid hfi
        have HGd := Lib.hid hgd
        have HPd := Lib.hid hpd
        have HKm := Lib.hid hkm
        clear hI hfi hgd hpd hkm
        have hm20 : (ms.length : Int) ≤ 20 := by have := HNO2.out.1; omega
        by_cases hlt : i < ms.length
        · have hlt' : (i : Int) < (ms.length : Int) := by omega
          have hx0 : ms[i]? = some ms[i] := List.getElem?_eq_getElem hlt
          obtain ⟨x, hxx⟩ : ∃ x, x = ms[i] := ⟨_, rfl⟩
          rw [← hxx] at hx0
          have HXl := Lib.hid (HNO2.out.2 x (List.mem_of_getElem? hx0))
          obtain ⟨gx, ox, a, cx, rfl, hgx, hcl, hbx, hxc, hxn⟩ := HE2.out.at_ hx0
          have HX := Lib.hid (show EntA w (.slice a x.length cx) x from ⟨a, cx, rfl, hbx, hxc, hxn⟩)
          have hcl : wr.cell? ⟨gx, ox + i, none⟩ = some (.slice a x.length cx) := (HI.out.bel.cell (p := ⟨gx, ox + i, none⟩) hgx).trans hcl
          have hBx := hbx.below HI.out.bel
          clear hxx hx0 hgx hbx
          by_cases hlong : 3840 < x.length
          · have HAp := Lib.hid (HI.out.app_long a cx x hBx hxc hxn (by have := HXl.out; omega) hlong)
            clear hBx hxc hxn
            go_wp2_with (first
              | (go_at_call 48; refine HAp.out.mono ?_; rintro e w5 ⟨rfl, h5⟩; have HI5 := Lib.hid h5; clear h5))
            go_roundw
            case rel => exact ⟨i + 1, m, gs, al, W, cw, T, d, HAl.out, rfl, by go_num, by omega, by have := HFI.out; omega, HI5.out, HGd.out, HPd.out, HKm.out⟩
            case measure => simp [intOf]; omega
          · by_cases hfull : m < needN x.length
            · have HAp := Lib.hid (HI.out.app_full a cx x hBx hxc hxn (by have := HXl.out; omega) (by omega) hfull)
              clear hBx hxc hxn
              go_wp2_with (first
                | (go_at_call 48; refine HAp.out.mono ?_; rintro e w5 ⟨rfl, h5⟩; have HI5 := Lib.hid h5; clear h5))
              go_roundw
              case rel => exact ⟨i + 1, m, gs, al, W, cw, T, d, HAl.out, rfl, by go_num, by omega, by have := HFI.out; omega, HI5.out, HGd.out, HPd.out, HKm.out⟩
              case measure => simp [intOf]; omega
            · obtain ⟨d', ⟨-, hgd', hpd'⟩, hAp⟩ := HI.out.app_ok a cx x hBx hxc hxn (by have := HXl.out; omega) (by omega) (by omega)
              have HAp := Lib.hid hAp
              have HGd' := Lib.hid (hgd'.trans HGd.out)
              have HPd' := Lib.hid (show d'.pend = atL (P.length + (flE fs).length) (flE (gs ++ [x])) by rw [hpd', HPd.out, HAl.out, flE_snoc, atL_append, flE_append, List.length_append, Nat.add_assoc])
              have HKm' := Lib.hid (show k = (flE (gs ++ [x])).length + (m - needN x.length) by rw [flE_snoc, List.length_append, secsL_len]; have := HKm.out; omega)
              clear hBx hxc hxn hAp hgd' hpd'
              go_wp2_with (first
                | (go_at_call 48
                   refine HAp.out.mono ?_
                   rintro e w5 ⟨rfl, h5⟩
                   have HI5 := Lib.hid h5
                   obtain ⟨vs, hvo, hvv⟩ := h5.want
                   have HVo := Lib.hid hvo
                   have HVv := Lib.hid hvv
                   have HVl := Lib.hid (show vs.length = al.length by have := hvo.1; omega)
                   have HVm := Lib.hid (show al.length ≤ 40 by have := HF20.out; have := HFI.out; rw [HAl.out, List.length_append]; omega)
                   clear h5 hvo hvv)
                | (at_builtin
                   refine wpList_append_at rfl (.tmp 80) (.tmp 82) _ _ rfl 51 i1 _ 1 24 Try.underlying66 hi1 hy0 hy1 hy2 rfl W al.length cw vs rfl (own_below HVo.out ((Below.refl _ _).alloc (Nat.le_refl _) _)) _ 1 _ rfl (src_one Try.underlying66 _ _ rfl) (by have := HVm.out; unfold maxLen; omega) (by have := HVm.out; omega) ?_
                   intro W2 c2 w8 ho8 hg8 hat8
                   have HI8 := Lib.hid (HI5.out.push _ HVv.out HVl.out ho8 hg8 hat8 HX.out)
                   clear ho8 hg8 hat8))
              go_roundw
              case rel => exact ⟨i + 1, _, gs ++ [x], al ++ [x], W2, c2, _, d', by rw [HAl.out, List.append_assoc], by rw [List.length_append]; rfl, by go_num, by omega, by have := HFI.out; rw [List.length_append]; simp; omega, HI8.out, HGd'.out, HPd'.out, HKm'.out⟩
              case measure => simp [intOf]; omega
        · obtain rfl : i = ms.length := by omega
          obtain ⟨j, r, hj, hnow, hsc, hsum⟩ := crash_front (d := d) (P := P) (R := R) (es := fs) (ms := gs) (k := m) (by rw [← HAl.out]; exact HI.out.st) (by rw [HGd.out, HKm.out]) HPd.out ks
          obtain ⟨es', hes'⟩ : ∃ es', es' = fs ++ gs.take j := ⟨_, rfl⟩
          rw [← hes'] at hnow hsc hsum
          rw [← HAl.out] at hsum
          have HEl := Lib.hid (show es'.length = fs.length + j by rw [hes', List.length_append, List.length_take]; omega)
          have HAl2 := Lib.hid (show al.length = fs.length + gs.length by rw [HAl.out, List.length_append])
          have HEt := Lib.hid (show al.take es'.length = es' by rw [HEl.out, HAl.out, hes', List.take_append, List.take_of_length_le (by omega), show fs.length + j - fs.length = j by omega])
          obtain ⟨d3, hd3⟩ : ∃ d3, d3 = d.crash ks := ⟨_, rfl⟩
          have HD3 := Lib.hid hd3
          have HU3 := Lib.hid (show d3.down = false ∧ d3.left = 0 ∧ d3.pend = [] ∧ Frm d3 by rw [hd3]; exact ⟨rfl, rfl, rfl, rfl, rfl⟩)
          rw [← hd3] at hnow
          have HSm := Lib.hid (show 290 = (flE es').length + r.length by have := HI.out.sum; omega)
          have HLm := Lib.hid (show d3.now.length ≤ 4096 by
            have h1 := HI.out.st.len
            have h2 := HI.out.st.lim
            rw [hnow, List.length_append, List.length_append, List.length_append]
            omega)
          have HNw := Lib.hid hnow
          have HSc := Lib.hid hsc
          have HE40 := Lib.hid (show es'.length ≤ 100000 by have := HEl.out; have := HF20.out; have := HFI.out; omega)
          have HE20 := Lib.hid (show es'.length ≤ 40 by have := HEl.out; have := HF20.out; have := HFI.out; have := HNO2.out.1; omega)
          have hg1 : ¬ (es'.length : Int) < (fs.length : Int) := by have := HEl.out; omega
          have hg2 : ¬ (al.length : Int) < (es'.length : Int) := by have := HEl.out; have := HAl2.out; omega
          have hg3 : (es'.length : Int) ≤ (cw : Int) := by have := HI.out.want.room; have := HEl.out; have := HAl2.out; omega
          clear hd3 hnow hsc hsum hj hes' HGd HPd HKm HEl
          go_upto_region 25 with (first
            | (go_at_call 26
               refine (tCrash T p d C cc ks wr (by have := HI.out.few; have := HI.out.lim; omega) (by have := HKs.out; omega) (HIn.out.kp (Kp.of_below (HI.out.bel) (fun _ => False)) (fun _ _ x => x)) (fun h0 a ha hx => by
                 rcases HIn.out with h | ⟨b, off, hA, hbl, _⟩
                 · exact h0 h
                 · rw [ha] at hA
                   injection hA with hA
                   subst hA
                   have := HI.out.rol.low _ hx
                   simp at this
                   omega) HI.out.rol.own).mono ?_
               rintro e w6 ⟨⟨v6, rfl⟩, h6, hk6⟩
               rw [← HD3.out] at h6
               have HO6 := Lib.hid h6
               have HK6 := Lib.hid hk6
               have HG6 := Lib.hid ((hk6.block _ (lt_of_heap HI.out.box) HI.out.ng.1).trans HI.out.box)
               clear h6 hk6)
            | (refine wpList_load_row rfl _ _ rfl g rfl 65 _ (0, 0) _ HG6.out Try.underlying65 rfl (area_info _ _) ?_)
            | (go_at_call 41
               obtain ⟨d4, ⟨hst4, hfr4⟩, hop⟩ := rol_scn w.heap.size T p d3 P R es' r P.length 290 w6 HU3.out.1 HU3.out.2.1 HLm.out HNw.out HSc.out rfl HSm.out (by decide) (by rw [HU3.out.2.2.1]; simp) HI.out.rol.low (Nat.le_trans HI.out.rol.le HK6.out.size) HO6.out
               refine (show Calls Try.prog 41 #[.pointer (some ⟨p, 0, none⟩), .agg (arV P.length (290 : Nat))] w6 _ from hop).mono ?_
               rintro e w7 ⟨hk7, q2, A7, c7, vs7, U7, rfl, hr7, hm7, hq7, hu7⟩
               obtain ⟨T7, hT7⟩ : ∃ T7 : Nat → Prop, T7 = fun k => T k ∧ ¬ U7 k := ⟨_, rfl⟩
               rw [← hT7] at hr7
               have HT7 := Lib.hid (show ∀ k, T7 k → ¬ U7 k by rw [hT7]; exact fun k x => x.2)
               have HS4 := Lib.hid hst4
               have HF4 := Lib.hid (hfr4 HU3.out.2.2.2)
               have HI7 := Lib.hid (HI.out.again (HK6.out.same hk7) hr7 hst4 HSm.out (hfr4 HU3.out.2.2.2).2 (by rw [hT7]; exact fun k x => x.1) (Nat.le_trans HK6.out.size (hu7 q2 hq7).1))
               have HM7 := Lib.hid hm7
               have HE7 := Lib.hid hm7.read.toA
               clear hk7 hr7 hm7 hq7 hu7 hT7 hst4 hfr4 hop))
          have HEW := Lib.hid (show EntsA w7 W es' by have h := (HI7.out.want.ents HI7.out.bel).take es'.length; rw [HEt.out] at h; exact h)
          clear HO6 HK6 HG6 HI HU3 HLm HNw HSc HD3 HEt
          have kc := fun (w : World) (C : Array Value) (n c : Nat) => Lib.run_convert_bytes_const (P := Try.prog) w 51 5 C n c Try.underlying51 Try.underlying5
          by_cases hr0 : r.length = 0
          · have hr0' : (r.length : Int) = 0 := by omega
            go_wp2_with (first
            | (go_at_call 44
               with_reducible refine (same19_any A7 W c7 cw es' es' w7 HE7.out HEW.out HE40.out HE40.out).mono ?_
               rintro e w8 ⟨rfl, hb8⟩
               rw [decide_eq_true (rfl : es' = es')]
               have HI8 := Lib.hid (HI7.out.below hb8)
               have HM8 := Lib.hid (HM7.out.below hb8)
               clear hb8)
            | (go_at_call 45
               have hb9 := (Below.refl w8.heap.size w8).alloc (Nat.le_refl _) lastO
               refine (show Calls Try.prog 45 #[.pointer (some ⟨q2, 0, none⟩)] (w8.alloc lastO) _ from (HI8.out.now hb9).left).mono ?_
               rintro e w9 ⟨rfl, h9, hb9'⟩
               have HI9 := Lib.hid h9
               have HM9 := Lib.hid ((HM8.out.below hb9).below hb9')
               have HT9 := Lib.hid (show ∀ k, U7 k ∧ k ≠ q2 → ¬ ((T7 k ∧ (k < w8.heap.size ∨ (w8.alloc lastO).heap.size ≤ k)) ∨ k = q2) from fun k hk x => by
                 rcases x with x | x
                 · exact HT7.out k x.1 hk.1
                 · exact hk.2 x)
               have HL9 := Lib.hid (show ¬ ((T7 w8.heap.size ∧ (w8.heap.size < w8.heap.size ∨ (w8.alloc lastO).heap.size ≤ w8.heap.size)) ∨ w8.heap.size = q2) from fun x => by
                 have := lt_of_heap HI8.out.rol.box
                 rcases x with x | x
                 · rcases x.2 with y | y
                   · omega
                   · rw [World.size_alloc] at y; omega
                 · omega)
               have HBt9 := Lib.hid (show Bts w9 (some ⟨w8.heap.size, 0, none⟩) lastB from (last_bts w8).below hb9')
               have HW9 := Lib.hid hb9'.size
               clear hb9 h9 hb9'))
            go_ret
            exact ⟨rfl, HI9.out.bel⟩
          · have hr0' : ¬ (r.length : Int) = 0 := by omega
            obtain ⟨d5, hap5, hst5, -, hp5⟩ := HS4.out.app (b := lastB) (by decide) (by rw [need_last]; omega) (a := P.length + (flE es').length) (e := P.length + 290) rfl (by have := HSm.out; omega)
            rw [need_last] at hap5 hst5
            obtain ⟨d6, hsy, hst6, hfr6⟩ := hst5.sync
            have HAp := Lib.hid hap5
            have HS5 := Lib.hid hst5
            have HP5 := Lib.hid (show d5.pend.length = 1 by rw [hp5, HF4.out.2, List.nil_append, atL_len, secsL_len, need_last])
            have HSy := Lib.hid hsy
            have HS6 := Lib.hid hst6
            have HP6 := Lib.hid (show d6.pend = [] from hfr6.2)
            obtain ⟨d7, hd7⟩ : ∃ d7, d7 = d6.crash [] := ⟨_, rfl⟩
            have HD7 := Lib.hid hd7
            have HS7 := Lib.hid (show RSt d7 P R (es' ++ [lastB]) (r.length - 1) ∧ Frm d7 by rw [hd7]; exact hst6.crash hfr6 [])
            obtain ⟨es2, hes2⟩ : ∃ es2, es2 = es' ++ [lastB] := ⟨_, rfl⟩
            have HE2 := Lib.hid hes2
            have HE2l := Lib.hid (show es2.length = es'.length + 1 by rw [hes2, List.length_append]; rfl)
            have HSm2 := Lib.hid (show 290 = (flE es2).length + (r.length - 1) by rw [hes2, flE_snoc, List.length_append, secsL_len, need_last]; have := HSm.out; omega)
            have HE42 := Lib.hid (show es2.length ≤ 100000 by rw [HE2l.out]; have := HE20.out; omega)
            have hgo : P.length + (flE es').length + 1 = P.length + (flE es2).length := by rw [hes2, flE_snoc, List.length_append, secsL_len, need_last]; omega
            have HGo := Lib.hid hgo
            rw [← hes2] at HS5 HS6 HS7
            clear hap5 hst5 hp5 hsy hst6 hfr6 hd7 hes2 hgo
            go_wp2_with (first
            | (go_at_call 44
               with_reducible refine (same19_any A7 W c7 cw es' es' w7 HE7.out HEW.out HE40.out HE40.out).mono ?_
               rintro e w8 ⟨rfl, hb8⟩
               rw [decide_eq_true (rfl : es' = es')]
               have HI8 := Lib.hid (HI7.out.below hb8)
               have HM8 := Lib.hid (HM7.out.below hb8)
               clear hb8)
            | (go_at_call 45
               have hb9 := (Below.refl w8.heap.size w8).alloc (Nat.le_refl _) lastO
               refine (show Calls Try.prog 45 #[.pointer (some ⟨q2, 0, none⟩)] (w8.alloc lastO) _ from (HI8.out.now hb9).left).mono ?_
               rintro e w9 ⟨rfl, h9, hb9'⟩
               have HI9 := Lib.hid h9
               have HM9 := Lib.hid ((HM8.out.below hb9).below hb9')
               have HT9 := Lib.hid (show ∀ k, U7 k ∧ k ≠ q2 → ¬ ((T7 k ∧ (k < w8.heap.size ∨ (w8.alloc lastO).heap.size ≤ k)) ∨ k = q2) from fun k hk x => by
                 rcases x with x | x
                 · exact HT7.out k x.1 hk.1
                 · exact hk.2 x)
               have HL9 := Lib.hid (show ¬ ((T7 w8.heap.size ∧ (w8.heap.size < w8.heap.size ∨ (w8.alloc lastO).heap.size ≤ w8.heap.size)) ∨ w8.heap.size = q2) from fun x => by
                 have := lt_of_heap HI8.out.rol.box
                 rcases x with x | x
                 · rcases x.2 with y | y
                   · omega
                   · rw [World.size_alloc] at y; omega
                 · omega)
               have HBt9 := Lib.hid (show Bts w9 (some ⟨w8.heap.size, 0, none⟩) lastB from (last_bts w8).below hb9')
               have HW9 := Lib.hid hb9'.size
               clear hb9 h9 hb9')
            | (go_at_call 48
               refine (rol_append (a := P.length + (flE es').length) (e := P.length + 290) (some ⟨w8.heap.size, 0, none⟩) 4 lastB w9 HBt9.out (by decide) (fun h => by cases h) (by decide) (by have := HSm.out; omega) (by have := HPl.out; omega) (by have := HI9.out.few; have := HI9.out.lim; omega) HI9.out.rol).mono ?_
               rintro e w10 ⟨rfl, hr10, hk10⟩
               rw [HAp.out] at hr10 ⊢
               have HI10 := Lib.hid (HI9.out.kp (by rw [← HGo.out]; exact hr10) hk10 HS5.out HSm2.out (by rw [HP5.out]; have := HSm.out; omega))
               have HM10 := Lib.hid (HM9.out.keep hk10 fun k x _ => HT9.out k x)
               have HBt10 := Lib.hid (HBt9.out.kp hk10 (fun ad e => by injection e with e; subst e; exact HL9.out))
               clear hr10 hk10)
            | (go_at_call 51
               refine (rol_sync w10 (by have := HP5.out; omega) HI10.out.rol).mono ?_
               rintro e w11 ⟨rfl, hr11, hk11⟩
               rw [HSy.out] at hr11 ⊢
               have hk11' := hk11.mono (S' := fun k => _ ∨ k = q2) fun _ _ x => .inl x
               have HI11 := Lib.hid (HI10.out.kp hr11 hk11' HS6.out HSm2.out (by rw [HP6.out]; have := HSm.out; simp; omega))
               have HM11 := Lib.hid (HM10.out.keep hk11' fun k x _ => HT9.out k x)
               have HBt11 := Lib.hid (HBt10.out.kp hk11' (fun ad e => by injection e with e; subst e; exact HL9.out))
               clear hr11 hk11 hk11')
            | (go_at_call 26
               refine (show Calls Try.prog 26 #[.pointer (some ⟨p, 0, none⟩), .slice none 0 0] w11 _ from tCrash _ p d6 none 0 [] w11 (by rw [HP6.out]; simp) (by simp) (.inl rfl) (fun h => absurd rfl h) HI11.out.rol.own).mono ?_
               rintro e w12 ⟨⟨v12, rfl⟩, h12, hk12⟩
               rw [← HD7.out] at h12
               have hk12' := hk12.mono (S' := fun k => _ ∨ k = q2) fun _ _ x => .inl x
               have HI12 := Lib.hid (HI11.out.kp (d' := d7) ⟨h12, HI11.out.rol.box.kp hk12 HI11.out.rol.nq, HI11.out.rol.nq, HI11.out.rol.low, HI11.out.rol.lowq, Nat.le_trans HI11.out.rol.le hk12.size⟩ hk12' HS7.out.1 HSm2.out (by rw [HS7.out.2.2]; have := HSm.out; simp; omega))
               have HM12 := Lib.hid (HM11.out.keep hk12' fun k x _ => HT9.out k x)
               have HBt12 := Lib.hid (HBt11.out.kp hk12' (fun ad e => by injection e with e; subst e; exact HL9.out))
               clear h12 hk12 hk12')
            | (refine wpList_load_row rfl _ _ rfl g rfl 65 _ (0, 0) _ HI12.out.box Try.underlying65 rfl (area_info _ _) ?_)
            | (go_at_call 40
               refine (show Calls Try.prog 40 #[.pointer (some ⟨p, 0, none⟩), .agg (arV P.length (290 : Nat))] w12 _ from scan_st _ p d7 P R es2 (r.length - 1) P.length 290 w12 HS7.out.1 rfl HSm2.out (by decide) HI12.out.rol.own).mono ?_
               rintro e w13 ⟨hb13, vs13, A13, c13, rfl, h13⟩
               have HI13 := Lib.hid (HI12.out.below hb13)
               have HE13 := Lib.hid h13.read.toA
               have HM13 := Lib.hid (HM12.out.below hb13)
               have HMa := Lib.hid (HM13.out.below ((Below.refl _ _).alloc (Nat.le_refl _) (.cells #[] 51)))
               have HBt13 := Lib.hid (HBt12.out.below hb13)
               clear hb13 h13)
            | (at_builtin
               refine wpList_append_at rfl (.tmp 147) (.tmp 148) _ _ rfl 51 i1 _ 1 24 Try.underlying66 hi1 hy0 hy1 hy2 rfl (some ⟨w13.heap.size, 0, none⟩) 0 0 [] rfl (World.ownsRow_lit w13 #[] 0 (Nat.zero_le _) (by unfold maxLen; omega) rfl) _ es'.length _ rfl HMa.out.src (by have := HE20.out; unfold maxLen; omega) (by have := HE20.out; omega) ?_
               intro A14 c14 w14 ho14 hg14 hat14
               rw [Nat.zero_add] at ho14 ⊢
               have HO14 := Lib.hid (show w14.ownsRow 0 51 1 (.slice A14 es'.length c14) es'.length vs7 from ho14)
               have HB14 := Lib.hid (show Below w13.heap.size w13 w14 from ((Below.refl _ w13).alloc (Nat.le_refl _) _).grown hg14 (by simp) (fun k e => by injection e with e; simp at e; omega))
               have HA14 := Lib.hid (show ∀ k, ob A14 = some k → w13.heap.size ≤ k from fun k e => by
                 rcases hat14 with y | y
                 · rw [y] at e; injection e with e; simp at e; omega
                 · rw [y] at e; injection e with e; simp at e; omega)
               clear ho14 hg14 hat14)
            | (at_builtin
               refine wpList_append_at rfl (.tmp 149) (.tmp 151) _ _ rfl 51 i1 _ 1 24 Try.underlying66 hi1 hy0 hy1 hy2 rfl A14 es'.length c14 vs7 rfl (own_below HO14.out ((Below.refl _ _).alloc (Nat.le_refl _) _)) _ 1 _ rfl (src_one Try.underlying66 _ _ rfl) (by have := HE20.out; unfold maxLen; omega) (by have := HE20.out; omega) ?_
               intro A15 c15 w15 ho15 hg15 hat15
               have hb15 : Below w13.heap.size w13 w15 := HB14.out.trans (((Below.refl w13.heap.size w14).alloc HB14.out.size _).grown hg15 (by have := HB14.out.size; simp; omega) (fun k e => HA14.out k e))
               have HI15 := Lib.hid (HI13.out.below hb15)
               have HE15 := Lib.hid (show EntsA w15 A15 es2 by rw [HE2.out]; exact ents_snoc (HM13.out.below hb15) ho15 ⟨_, _, rfl, HBt13.out.below hb15, by decide, fun h => by cases h⟩)
               have HE15' := Lib.hid (HE13.out.below hb15)
               clear ho15 hg15 hat15 hb15)
            | (go_at_call 44
               refine (show Calls Try.prog 44 #[.slice A13 es2.length c13, .slice A15 (es'.length + 1) c15] w15 _ by rw [← HE2l.out]; exact same19_any A13 A15 c13 c15 es2 es2 w15 HE15'.out HE15.out HE42.out HE42.out).mono ?_
               rintro e w16 ⟨rfl, hb16⟩
               rw [decide_eq_true (rfl : es2 = es2)]
               have HI16 := Lib.hid (HI15.out.below hb16)
               clear hb16))
            go_ret
            exact ⟨rfl, HI16.out.bel⟩

end Go.Proofs.Ytlaecnggbcagcaa
