/- Law of layer 19: entries that were appended stand as the document says, and are found, as far as there was room. -/
import Derived.Test.YtlaecnggbcagcaaRl16
namespace Go.Proofs.Ytlaecnggbcagcaa
open Go.RowKit MM
set_option linter.unusedVariables false
set_option linter.unusedSimpArgs false

theorem sec_get_read {d : Dk} {P R gs : List (List UInt8)} {b : List UInt8} {k j : Nat} {s : List UInt8} (h : RSt d P R (gs ++ [b]) k) (hj : (secsL b)[j]? = some s) : d.readS ((P.length + (flE gs).length + j : Nat) : Int) = s := by
  have hjl : j < (secsL b).length := (List.getElem?_eq_some_iff.1 hj).1
  have hl := h.len
  rw [flE_snoc, List.length_append] at hl
  have he : d.err ((P.length + (flE gs).length + j : Nat) : Int) = 0 := by
    unfold Dk.err
    rw [if_neg (by rw [h.up]; decide), if_neg (by omega)]
  unfold Dk.readS
  rw [if_pos he, Int.toNat_natCast, List.getD_eq_getElem?_getD, h.now, flE_snoc, List.append_assoc, List.getElem?_append_right (by omega), List.getElem?_append_right (by omega), show P.length + (flE gs).length + j - P.length - (flE gs).length = j by omega, List.getElem?_append_left hjl, hj]
  rfl

set_option maxHeartbeats 4000000 in
set_option maxRecDepth 100000 in
theorem rollKeeps_any (n : Int) (A : Option Addr) (c : Nat) (es : List (List UInt8)) (w : World) (hn : (Lit.int .i64 n).wf = true) (hb : EntsA w A es) (hbc : es.length ≤ c) (hl : es.length ≤ 9223372036854775807) (hx : ∀ x ∈ es, x.length ≤ 9223372036854775807) :
    Calls Try.prog 12 #[.int .i64 n, .slice A es.length c] w fun e w' => e = .returned (.bool true) ∧ Below w.heap.size w w' := by
  have HE := Lib.hid hb
  have hn' : -9223372036854775808 ≤ n ∧ n ≤ 9223372036854775807 := by simpa [Lit.wf, IntKind.min, IntKind.max, IntKind.signed, IntKind.bits] using hn
  have HSp := Lib.hid (speaks19_any w)
  have HBg := Lib.hid (fun (w9 : World) (hb9 : Below w.heap.size w w9) => big19_any A c es w9 (hb.below hb9) hl hx)
  have HNo := Lib.hid (@bigE_no es)
  obtain ⟨t, ht⟩ : ∃ t, t = bigE es := ⟨_, rfl⟩
  rw [← ht] at HBg HNo
  clear hb hbc hl hx hn ht
  by_cases hout : t = true ∨ n < 1 ∨ 200 < n
  · by_cases h1 : t = true
    · subst h1
      go_enter Try.func12, Try.ntmps12
      go_wp2_with (first
        | (go_at_call 39; refine HSp.out.mono ?_; rintro e w0 ⟨rfl, hb0⟩; have HB0 := Lib.hid hb0; clear hb0)
        | (go_at_call 46; refine (HBg.out _ HB0.out).mono ?_; rintro e wq ⟨rfl, hq⟩; rw [hq]; clear hq wq))
      go_ret
      exact ⟨rfl, HB0.out⟩
    · obtain rfl : t = false := by cases t; rfl; exact absurd rfl h1
      by_cases h2 : n < 1
      · go_enter Try.func12, Try.ntmps12
        go_wp2_with (first
          | (go_at_call 39; refine HSp.out.mono ?_; rintro e w0 ⟨rfl, hb0⟩; have HB0 := Lib.hid hb0; clear hb0)
          | (go_at_call 46; refine (HBg.out _ HB0.out).mono ?_; rintro e wq ⟨rfl, hq⟩; rw [hq]; clear hq wq))
        go_ret
        exact ⟨rfl, HB0.out⟩
      · have h3 : 200 < n := by rcases hout with x | x | x; exact absurd x h1; omega; exact x
        go_enter Try.func12, Try.ntmps12
        go_wp2_with (first
          | (go_at_call 39; refine HSp.out.mono ?_; rintro e w0 ⟨rfl, hb0⟩; have HB0 := Lib.hid hb0; clear hb0)
          | (go_at_call 46; refine (HBg.out _ HB0.out).mono ?_; rintro e wq ⟨rfl, hq⟩; rw [hq]; clear hq wq))
        go_ret
        exact ⟨rfl, HB0.out⟩
  obtain rfl : t = false := by cases t; rfl; exact absurd (.inl rfl) hout
  obtain ⟨N, rfl⟩ : ∃ N : Nat, n = (N : Int) := ⟨n.toNat, by omega⟩
  have hN1 : ¬ (N : Int) < 1 := by omega
  have hN2 : ¬ (200 : Int) < (N : Int) := by omega
  have HNN := Lib.hid (show 0 < N ∧ N ≤ 200 by omega)
  have HNO := Lib.hid (HNo.out rfl)
  clear hout hn'
  go_enter Try.func12, Try.ntmps12
  go_wp2_with (first
    | (go_at_call 39; refine HSp.out.mono ?_; rintro e w0 ⟨rfl, hb0⟩; have HB0 := Lib.hid hb0; clear hb0)
    | (go_at_call 46; refine (HBg.out _ HB0.out).mono ?_; rintro e wq ⟨rfl, hq⟩; rw [hq]; clear hq wq))
  refine (tNew N w0 (by have := HNN.out; omega) (by have := HNN.out; omega)).mono ?_
  rintro e w1 ⟨p, rfl, h1, hb1⟩
  have HN := Lib.hid (RSt.new (f := 0) (k := N) (r := 0) (N := N) (by omega) (by have := HNN.out; omega))
  obtain ⟨d1, hd1⟩ : ∃ d1, d1 = Dk.new N := ⟨_, rfl⟩
  have HP0 := Lib.hid (show d1.pend.length = 0 by rw [hd1]; rfl)
  rw [← hd1] at h1 HN
  have hb1' := (Below.refl w1.heap.size w1).alloc (Nat.le_refl _) (.cells (arV 0 N) 65)
  have H1 := Lib.hid (h1.now hb1')
  have HB1 := Lib.hid (HB0.out.trans ((hb1.trans (hb1'.mono hb1.size)).mono HB0.out.size))
  have HL1 := Lib.hid (Nat.le_trans HB0.out.size hb1.size)
  have HL0 := Lib.hid HB0.out.size
  have HR1 := Lib.hid (heap_alloc_new w1 (.cells (arV 0 N) 65))
  have HS1 := Lib.hid (show (w1.alloc (.cells (arV 0 N) 65)).heap.size = w1.heap.size + 1 by simp)
  clear h1 hb1 hd1 hb1'
  go_upto_region 7 with (first
    | (refine wpList_alloc_row rfl _ rfl (.agg (arV 0 0)) (arV 0 0) (by kernel_rfl) rfl ?_)
    | (refine wpList_store_row rfl _ _ _ rfl _ (arV 0 N) rfl rfl 65 (arV 0 0) (heap_alloc_new _ _) (area_info 0 N) rfl (by kernel_rfl) ?_
       rw [World.setRow_alloc_new]))
  generalize World.alloc w1 _ = w2 at *
  obtain ⟨T1, hT1⟩ : ∃ T1 : Nat → Prop, T1 = fun k => w0.heap.size ≤ k ∧ (k < w1.heap.size ∨ w2.heap.size ≤ k) := ⟨_, rfl⟩
  rw [← hT1] at H1
  have HT1 := Lib.hid (show (∀ k, T1 k → w.heap.size ≤ k) ∧ ¬ T1 w1.heap.size by
    rw [hT1]
    refine ⟨fun k x => Nat.le_trans HL0.out x.1, fun x => ?_⟩
    have := HS1.out
    rcases x.2 with y | y <;> omega)
  have HAr := Lib.hid (show w.heap.size ≤ w1.heap.size ∧ w1.heap.size < w2.heap.size from ⟨HL1.out, by have := HS1.out; omega⟩)
  generalize w1.heap.size = g at *
  clear hT1 HL0 HL1 HS1 HB0
  go_wp2_with (first
    | (refine wpList_load_row rfl _ _ rfl g rfl 65 _ (0, 0) _ HR1.out Try.underlying65 rfl (area_info 0 N) ?_)
    | (go_at_call 41
       refine (show Calls Try.prog 41 #[.pointer (some ⟨p, 0, none⟩), .agg (arV 0 N)] w2 _ from rol_open w.heap.size T1 p d1 _ _ [] N 0 N w2 HN.out.1 rfl (by simp [flE]) HNN.out.1 (by have := HP0.out; omega) HT1.out.1 HB1.out.size H1.out).mono ?_
       rintro e w3 ⟨hk3, q, A3, c3, vs3, U3, rfl, hr3, -, hq3, hu3⟩
       obtain ⟨T2, hT2⟩ : ∃ T2 : Nat → Prop, T2 = fun k => T1 k ∧ ¬ U3 k := ⟨_, rfl⟩
       rw [← hT2] at hr3
       have HI0 := Lib.hid (show RkI w w3 [] [] [] [] N N p q g T2 d1 none 0 from ⟨by simpa [flE] using hr3, HN.out.1, by simp [flE], by have := HP0.out; omega, by have := HNN.out; omega, by simp, (hk3.block _ (lt_of_heap HR1.out) HT1.out.2).trans HR1.out,
         ⟨by rw [hT2]; exact fun x => HT1.out.2 x.1, fun x => by have := (hu3 q hq3).1; have := HAr.out.2; omega⟩, ⟨[], ⟨rfl, .inl ⟨rfl, rfl⟩⟩, fun j v x hx => (by cases hx)⟩, fun kk e => (by cases e),
         HB1.out.trans (hk3.below HB1.out.size (fun k hk x => absurd (HT1.out.1 k x) (by omega)))⟩)
       clear hr3 hk3 hu3 hq3 hT2))
  clear HN HP0 HB1 HR1 HT1 HAr H1
  go_loopw [11, 12, 59] (fun tw tl ti wr => ∃ (i k : Nat) (fs : List (List UInt8)) (W : Option Addr) (cw : Nat) (T : Nat → Prop) (d : Dk), tw = .slice W fs.length cw ∧ tl = .int .i64 k ∧ ti = .int .i64 i ∧ i ≤ es.length ∧ fs.length ≤ i ∧ RkI w wr [] [] fs fs N k p q g T d W cw) (fun _ _ t _ => es.length - (intOf t).toNat)
  case atStart => exact ⟨0, N, [], none, 0, _, _, rfl, rfl, rfl, Nat.zero_le _, Nat.le_refl _, HI0.out⟩
  case round =>
    obtain ⟨i, k, fs, W, cw, T, d, rfl, rfl, rfl, hi, hfi, hI⟩ := hrel
    clear HI0
    have HI := Lib.hid hI
    have HFI := Lib.hid hfi
    clear hI hfi
    have hkN : (k : Int) ≤ (N : Int) := by have := HI.out.sum; omega
    have he20 : (es.length : Int) ≤ 20 := by have := HNO.out.1; omega
    by_cases hlt : i < es.length
    · have hlt' : (i : Int) < (es.length : Int) := by omega
      have hx0 : es[i]? = some es[i] := List.getElem?_eq_getElem hlt
      obtain ⟨x, hxx⟩ : ∃ x, x = es[i] := ⟨_, rfl⟩
      rw [← hxx] at hx0
      have HXl := Lib.hid (HNO.out.2 x (List.mem_of_getElem? hx0))
      obtain ⟨gx, ox, a, cx, rfl, hgx, hcl, hbx, hxc, hxn⟩ := HE.out.at_ hx0
      have HX := Lib.hid (show EntA w (.slice a x.length cx) x from ⟨a, cx, rfl, hbx, hxc, hxn⟩)
      have hcl : wr.cell? ⟨gx, ox + i, none⟩ = some (.slice a x.length cx) := (HI.out.bel.cell (p := ⟨gx, ox + i, none⟩) hgx).trans hcl
      have hBx := hbx.below HI.out.bel
      have hxl : (x.length : Int) ≤ 5000 := by have := HXl.out; omega
      clear hxx hx0 hgx hbx
      obtain ⟨m, hm⟩ : ∃ m, m = needN x.length := ⟨_, rfl⟩
      have HM := Lib.hid hm
      have HM1 := Lib.hid (show 0 < m ∧ m ≤ 84 by rw [hm]; have := HXl.out; exact ⟨needN_pos _, by unfold needN; omega⟩)
      have hm84 : (m : Int) ≤ 84 := by have := HM1.out; omega
      have HNd := Lib.hid (fun w9 => show Calls Try.prog 47 #[.int .i64 (x.length : Int)] w9 fun e w' => e = .returned (.int .i64 (m : Nat)) ∧ w' = w9 by rw [hm]; exact rneed_any x.length (by have := HXl.out; omega) w9)
      have HNd2 := Lib.hid (fun w9 => show Calls Try.prog 50 #[.int .i64 (x.length : Int)] w9 fun e w' => e = .returned (.int .i64 (m : Nat)) ∧ w' = w9 by rw [hm]; exact need_any x.length (by have := HXl.out; omega) w9)
      by_cases hlong : 3840 < x.length
      · have hlong' : (3840 : Int) < (x.length : Int) := by omega
        have HAp := Lib.hid (HI.out.app_long a cx x hBx hxc hxn (by have := HXl.out; omega) hlong)
        clear hBx hxc hxn hm
        go_wp2_with (first
          | (go_at_call 47; refine (HNd.out _).mono ?_; rintro e wq ⟨rfl, hq⟩; rw [hq]; clear hq wq)
          | (go_at_call 48; refine HAp.out.mono ?_; rintro e w5 ⟨rfl, h5⟩; have HI5 := Lib.hid h5; clear h5)
          | (go_at_call 45; refine HI5.out.left.mono ?_; rintro e w6 ⟨rfl, h6, -⟩; have HI6 := Lib.hid h6; clear h6))
        go_roundw
        case rel => exact ⟨i + 1, k, fs, W, cw, T, d, rfl, rfl, by go_num, by omega, by have := HFI.out; omega, HI6.out⟩
        case measure => simp [intOf]; omega
      · have hlong' : ¬ (3840 : Int) < (x.length : Int) := by omega
        by_cases hfull : k < m
        · have hfull' : (k : Int) < (m : Int) := by omega
          have HAp := Lib.hid (HI.out.app_full a cx x hBx hxc hxn (by have := HXl.out; omega) (by omega) (by rw [← hm]; exact hfull))
          clear hBx hxc hxn hm
          go_wp2_with (first
            | (go_at_call 47; refine (HNd.out _).mono ?_; rintro e wq ⟨rfl, hq⟩; rw [hq]; clear hq wq)
            | (go_at_call 48; refine HAp.out.mono ?_; rintro e w5 ⟨rfl, h5⟩; have HI5 := Lib.hid h5; clear h5)
            | (go_at_call 45; refine HI5.out.left.mono ?_; rintro e w6 ⟨rfl, h6, -⟩; have HI6 := Lib.hid h6; clear h6))
          go_roundw
          case rel => exact ⟨i + 1, k, fs, W, cw, T, d, rfl, rfl, by go_num, by omega, by have := HFI.out; omega, HI6.out⟩
          case measure => simp [intOf]; omega
        · have hfull' : ¬ (k : Int) < (m : Int) := by omega
          obtain ⟨d', ⟨hst, -⟩, hAp⟩ := HI.out.app_ok a cx x hBx hxc hxn (by have := HXl.out; omega) (by omega) (by rw [← hm]; omega)
          rw [← hm] at hst hAp
          have HAp := Lib.hid hAp
          have HRd := Lib.hid (fun (j : Nat) (s : List UInt8) (hj : (secsL x)[j]? = some s) => show d'.readS ((N : Int) - (k : Int) + (j : Int)) = s by
            have h := sec_get_read hst hj
            rwa [show (((([] : List (List UInt8)).length + (flE fs).length + j : Nat)) : Int) = (N : Int) - (k : Int) + (j : Int) by have := HI.out.sum; simp; omega] at h)
          have HSL := Lib.hid (show (secsL x).length = m by rw [secsL_len, hm])
          have HSl := Lib.hid (secsL_secs x)
          have HSc := Lib.hid (fun (w9 : World) (h9 : Below w.heap.size w w9) => show Calls Try.prog 49 #[.slice a x.length cx] w9 fun e w' => Below w9.heap.size w9 w' ∧ ∃ O co, e = .returned (.slice O m co) ∧ SlsO w' w9.heap.size O co (secsL x) from
            (rsecs_any a cx x w9 ((show Bts w a x from by obtain ⟨a', c', e, h, _⟩ := HX.out; injection e with e1 e2 e3; subst e1; exact h).below h9) (by omega)).mono fun e w' hh => by
              obtain ⟨h1, O, co, h2, h3⟩ := hh
              exact ⟨h1, O, co, by rw [h2, secsL_len, hm], h3⟩)
          obtain ⟨L, hL⟩ : ∃ L, L = secsL x := ⟨_, rfl⟩
          rw [← hL] at HRd HSL HSl HSc
          obtain ⟨i1, hi1, hy0, hy1, hy2⟩ := info_parts bt_info3
          clear hBx hxc hxn hm hst hAp hL
          go_wp2_with (first
            | (go_at_call 47; refine (HNd.out _).mono ?_; rintro e wq ⟨rfl, hq⟩; rw [hq]; clear hq wq)
            | (go_at_call 48; refine HAp.out.mono ?_; rintro e w5 ⟨rfl, h5⟩; have HI5 := Lib.hid h5; clear h5)
            | (go_at_call 49
               refine (HSc.out _ HI5.out.bel).mono ?_
               rintro e w6 ⟨hb6, O, co, rfl, ho6⟩
               obtain ⟨gO, cO, hO⟩ := own_at1 ho6.1 (by rw [HSL.out]; exact HM1.out.1)
               injection hO with e1 e2 e3
               subst e1 e3
               have HI6 := Lib.hid (HI5.out.below hb6)
               have HO6 := Lib.hid ho6
               clear hb6 ho6 e2))
          clear HI HAp HSc HI5
          go_loopw [72] (fun tj wq => ∃ j : Nat, tj = .int .i64 j ∧ j ≤ m ∧ Below w6.heap.size w6 wq) (fun t _ => m - (intOf t).toNat)
          case atStart => exact ⟨0, rfl, Nat.zero_le _, Below.refl _ _⟩
          case round =>
            obtain ⟨j, rfl, hj, hbj⟩ := hrel
            have HBj := Lib.hid hbj
            clear hbj
            by_cases hjlt : j < m
            · have hjlt' : (j : Int) < (m : Int) := by omega
              have hs0 : L[j]? = some (L[j]'(by rw [HSL.out]; exact hjlt)) := List.getElem?_eq_getElem _
              obtain ⟨s, hs⟩ : ∃ s, s = L[j]'(by rw [HSL.out]; exact hjlt) := ⟨_, rfl⟩
              rw [← hs] at hs0
              have HRg := Lib.hid (own_range (i := j) (r := bc s) (own_below HO6.out.1 HBj.out) (secR_ok HSl.out) (by simp [secR]) (by rw [secR, List.getElem?_map, hs0]; rfl))
              have HSs := Lib.hid (HSl.out s (List.mem_of_getElem? hs0))
              have HRj := Lib.hid (HRd.out j s hs0)
              have HI7 := Lib.hid (HI6.out.below HBj.out)
              have heq : ∀ w, (binOp .neq 40 (secv s) (secv s)).run Try.prog w = .ok (.bool false) w := fun w => by rw [sec_ne s s HSs.out HSs.out w]; simp
              clear hs hs0
              go_wp2_with (first
                | (refine wpList_load_mid rfl _ _ rfl gO (j * 64) rfl (bc s) _ HRg.out Try.underlying40 rfl (sec_info2 s HSs.out) ?_)
                | (refine wpList_alloc_row rfl _ rfl (secv zs) (bc zs).toArray sec_zero rfl ?_)
                | (refine wpList_store_row rfl _ _ _ rfl _ (bc s).toArray rfl rfl 40 (bc zs).toArray (heap_alloc_new _ _) (sec_info' s HSs.out) (by rw [bc_size, bc_size, HSs.out]; rfl) (bc_all s) ?_
                   rw [World.setRow_alloc_new])
                | (go_at_call 25
                   refine (tRead T p d' _ _ (HI7.out.rol.own.alloc (.cells (bc s).toArray 40))).mono ?_
                   rintro e w7 ⟨rfl, hb7⟩
                   rw [HRj.out]
                   have HX7 := Lib.hid ((hb7.block _ (by simp)).trans (heap_alloc_new wr (.cells (bc s).toArray 40)))
                   have HB7 := Lib.hid (HBj.out.trans (((Below.refl wr.heap.size wr).alloc (Nat.le_refl _) (.cells (bc s).toArray 40)).trans (hb7.mono (by simp)) |>.mono HBj.out.size))
                   clear hb7)
                | (refine wpList_load_row rfl _ _ rfl w7.heap.size rfl 40 _ (0, 0) _ (heap_alloc_new _ _) Try.underlying40 rfl (sec_info' _ HSs.out) ?_)
                | (refine wpList_load_row rfl _ _ rfl wr.heap.size rfl 40 _ (0, 0) _ ((((Below.refl _ w7).alloc (Nat.le_refl _) _).block _ (lt_of_heap HX7.out)).trans HX7.out) Try.underlying40 rfl (sec_info' _ HSs.out) ?_))
              go_roundw
              case rel => exact ⟨j + 1, by go_num, by omega, HB7.out.alloc (by have := HB7.out.size; omega) _⟩
              case measure => simp [intOf]; omega
            · obtain rfl : j = m := by omega
              have HI7 := Lib.hid (HI6.out.below HBj.out)
              obtain ⟨vs, hvo, hvv⟩ := HI7.out.want
              have HVo := Lib.hid hvo
              have HVv := Lib.hid hvv
              have HVl := Lib.hid (show vs.length = fs.length by have := hvo.1; omega)
              have HKm := Lib.hid (show ((k - j : Nat) : Int) = (k : Int) - (j : Int) by omega)
              clear hvo hvv HRd HO6 HI6
              go_wp2_with (first
                | (go_at_call 50; refine (HNd2.out _).mono ?_; rintro e wq ⟨rfl, hq⟩; rw [hq]; clear hq wq)
                | (at_builtin
                   refine wpList_append_at rfl (.tmp 100) (.tmp 102) _ _ rfl 51 i1 _ 1 24 Try.underlying66 hi1 hy0 hy1 hy2 rfl W fs.length cw vs rfl (own_below HVo.out ((Below.refl _ _).alloc (Nat.le_refl _) _)) _ 1 _ rfl (src_one Try.underlying66 _ _ rfl) (by have := HFI.out; unfold maxLen; omega) (by have := HFI.out; omega) ?_
                   intro W2 c2 w8 ho8 hg8 hat8
                   have HI8 := Lib.hid (HI7.out.push _ HVv.out HVl.out ho8 hg8 hat8 HX.out)
                   clear ho8 hg8 hat8)
                | (go_at_call 45; refine HI8.out.left.mono ?_; rintro e w9 ⟨rfl, h9, -⟩; rw [HKm.out]; have HI9 := Lib.hid h9; clear h9))
              go_roundw
              case rel => exact ⟨i + 1, k - j, fs ++ [x], W2, c2, _, d', by rw [List.length_append]; rfl, by rw [HKm.out], by go_num, by omega, by have := HFI.out; rw [List.length_append]; simp; omega, HI9.out⟩
              case measure => simp [intOf]; omega
    · obtain rfl : i = es.length := by omega
      obtain ⟨d2, hsy, hst2, hfr⟩ := HI.out.st.sync
      have HSy := Lib.hid hsy
      have HS2 := Lib.hid hst2
      have HFr := Lib.hid hfr
      obtain ⟨d3, hd3⟩ : ∃ d3, d3 = d2.crash [] := ⟨_, rfl⟩
      have HD3 := Lib.hid hd3
      have HS3 := Lib.hid (show RSt d3 [] [] fs k ∧ Frm d3 by rw [hd3]; exact hst2.crash hfr [])
      have HF4 := Lib.hid (show fs.length ≤ 100000 by have := HFI.out; have := HNO.out.1; omega)
      clear hsy hst2 hfr hd3
      go_wp2_with (first
        | (go_at_call 51
           refine (rol_sync wr (by have := HI.out.few; have := HI.out.lim; omega) HI.out.rol).mono ?_
           rintro e w5 ⟨rfl, h5, hk5⟩
           rw [HSy.out] at h5 ⊢
           have HI5 := Lib.hid (HI.out.kp h5 (hk5.mono fun _ _ x => .inl x) HS2.out HI.out.sum (by rw [HFr.out.2]; have := HI.out.sum; simp; omega))
           clear h5 hk5)
        | (go_at_call 26
           refine (show Calls Try.prog 26 #[.pointer (some ⟨p, 0, none⟩), .slice none 0 0] w5 _ from tCrash T p d2 none 0 [] w5 (by rw [HFr.out.2]; simp) (by simp) (.inl rfl) (fun h => absurd rfl h) HI5.out.rol.own).mono ?_
           rintro e w6 ⟨⟨v6, rfl⟩, h6, hk6⟩
           rw [← HD3.out] at h6
           have HI6 := Lib.hid (HI5.out.kp (d' := d3) ⟨h6, HI5.out.rol.box.kp hk6 HI5.out.rol.nq, HI5.out.rol.nq, HI5.out.rol.low, HI5.out.rol.lowq, Nat.le_trans HI5.out.rol.le hk6.size⟩ (hk6.mono fun _ _ x => .inl x) HS3.out.1 HI.out.sum (by rw [HS3.out.2.2]; have := HI.out.sum; simp; omega))
           clear h6 hk6)
        | (refine wpList_load_row rfl _ _ rfl g rfl 65 _ (0, 0) _ HI6.out.box Try.underlying65 rfl (area_info _ _) ?_)
        | (go_at_call 40
           refine (show Calls Try.prog 40 #[.pointer (some ⟨p, 0, none⟩), .agg (arV 0 N)] w6 _ from scan_st T p d3 [] [] fs k 0 N w6 HS3.out.1 rfl HI.out.sum HNN.out.1 HI6.out.rol.own).mono ?_
           rintro e w7 ⟨hb7, vs7, A7, c7, rfl, h7⟩
           rw [show (((flE fs).length : Nat) : Int) = (N : Int) - (k : Int) by have := HI.out.sum; omega]
           have HI7 := Lib.hid (HI6.out.below hb7)
           have HE7 := Lib.hid h7.read.toA
           clear hb7 h7)
        | (go_at_call 44
           refine (same19_any A7 W c7 cw fs fs w7 HE7.out (HI7.out.want.ents HI7.out.bel) HF4.out HF4.out).mono ?_
           rintro e w8 ⟨rfl, hb8⟩
           rw [decide_eq_true (rfl : fs = fs)]
           have HI8 := Lib.hid (HI7.out.below hb8)
           clear hb8))
      go_ret
      exact ⟨rfl, HI8.out.bel⟩

end Go.Proofs.Ytlaecnggbcagcaa
