/- The walk of WholeShares. -/
import Derived.Test.YtbkcmnmbcldjoaaGreatDoorSh3P7c
import Derived.Test.YtbkcmnmbcldjoaaGreatDoorSh5P7c
import Derived.Test.YtbkcmnmbcldjoaaGreatDoorShXP7c
import Derived.Test.YtbkcmnmbcldjoaaGreatDoorShYP7c
import Derived.Test.YtbkcmnmbcldjoaaGreatDoorShZP7c
import Derived.Test.YtbkcmnmbcldjoaaGreatDoorChkLP7c
import Derived.BigQuiet
import Derived.Deep.QuietTactic
namespace Go.Proofs.YtbkcmnmbcldjoaaGreatDoor
open Go.RowKit MM
set_option linter.unusedVariables false
set_option linter.unusedSimpArgs false
set_option maxHeartbeats 16000000 in
set_option maxRecDepth 100000 in
theorem wholeSharesL_any (r : RC.Rc) (A : Option Addr) (c : Nat) (k : Int) (L : Option Addr) (cl : Nat) (l : List Dl) (w : World) (hI : RecIn w r A c) (hk : RC.I64 k) (hl : DeedsIn w L l) (hR : RowsAt w) :
    Calls Tryz.prog 9 #[recV r A c, .int .i64 k, .slice L l.length cl] w fun e w' => e = .returned (.bool true) ∧ Below w.heap.size w w' := by
  obtain ⟨i0, hi0, hz0, hz1, hz2⟩ := info_parts rec_infoV
  have HR := Lib.hid hR
  have HI := Lib.hid hI
  have HL := Lib.hid hl
  have hlen := hl.len
  unfold maxLen at hlen
  clear hR hI hl hk
  go_enter Tryz.func9, Tryz.ntmps9
  go_upto_region 1 with fail
  generalize hw1 : World.alloc w _ = w1
  have B1 := Lib.hid (show Below w.heap.size w w1 by rw [← hw1]; exact below1 w _)
  have E1 := Lib.hid (show w1.heap[w.heap.size]? = some (.cells (recC r.kind r.num r.low r.high r.real r.cap r.text (.slice A r.list.length c)) 25 (0, 0)) by rw [← hw1]; exact heap_alloc_new w _)
  clear hw1
  go_wp2_with fail
  refine (show Calls Tryz.prog 14 #[.int .i64 4, .int .i64 11] w1 (fun e w' => e = .returned (.bool true) ∧ Below w1.heap.size w1 w') from by
    have h := ssplits_any 4 11 w1 (HR.out.below B1.out)
    rw [show SH.splits 4 11 = true by decide +kernel] at h
    exact h).mono ?_
  rintro e w2 ⟨rfl, hb⟩
  have B2 := Lib.hid (B1.out.trans (hb.mono B1.out.size))
  have E1 := Lib.hid ((hb.block _ (lt_of_heap E1.out)).trans E1.out)
  clear hb B1
  have HBg := Lib.hid (fun u (h : Below w.heap.size w u) => show Calls Tryz.prog 33 #[recV r A c] u (GPost (RC.big r) u) from big3_any r A c u (HI.out.its.below h) HI.out.len)
  go_wp2_with (first
    | (refine wpList_load_row rfl _ _ rfl w.heap.size rfl 25 _ (0, 0) _ E1.out Tryz.underlying25 rfl rec_inf7 ?_))
  refine (snewL_any r A c k w2 HI.out.ok (HI.out.its.below B2.out) HI.out.len).mono ?_
  rintro e w3 (⟨h0, rfl, hb⟩ | ⟨h0, g, B, cb, gl, cs, rfl, he, hb⟩)
  · have B3 := Lib.hid (B2.out.trans (hb.mono B2.out.size))
    have E1 := Lib.hid ((hb.block _ (lt_of_heap E1.out)).trans E1.out)
    have hce : ((SH.newE r k : Int) != 0) = true := by simp; omega
    clear hb B2 h0
    generalize SH.newE r k = ce at *
    go_wp2_with (first
      | (refine wpList_load_row rfl _ _ rfl w.heap.size rfl 25 _ (0, 0) _ E1.out Tryz.underlying25 rfl rec_inf7 ?_))
    refine (HBg.out _ B3.out).mono ?_
    rintro e w4 ⟨rfl, hb⟩
    have B4 := Lib.hid (B3.out.trans (hb.mono B3.out.size))
    clear hb B3
    cases RC.big r
    case true =>
      go_wp2_with fail
      go_ret
      exact ⟨rfl, B4.out⟩
    by_cases h60 : (60 : Int) < (l.length : Int)
    · go_wp2_with fail
      go_ret
      exact ⟨rfl, B4.out⟩
    go_wp2_with fail
    go_ret
    exact ⟨rfl, B4.out⟩
  obtain ⟨⟨n, rfl, hn1, hn8⟩, hchk⟩ := new_ok h0
  have B3 := Lib.hid (B2.out.trans (hb.mono B2.out.size))
  have E1 := Lib.hid ((hb.block _ (lt_of_heap E1.out)).trans E1.out)
  have HE := Lib.hid he
  have HZ := Lib.hid (show w.heap.size < w2.heap.size from by have := B2.out.size; have h9 := E1.out; exact Nat.lt_of_lt_of_le (lt_of_heap (w := w2) (by assumption)) (Nat.le_refl _))
  have HCk := Lib.hid hchk
  clear hb B2 h0 he hchk
  go_wp2_with (first
    | (refine wpList_load_row rfl _ _ rfl w.heap.size rfl 25 _ (0, 0) _ E1.out Tryz.underlying25 rfl rec_inf7 ?_))
  refine (HBg.out _ B3.out).mono ?_
  rintro e w4 ⟨rfl, hb⟩
  have B4 := Lib.hid (B3.out.trans (hb.mono B3.out.size))
  have E1 := Lib.hid ((hb.block _ (lt_of_heap E1.out)).trans E1.out)
  have HE := Lib.hid (HE.out.keep hb)
  clear hb B3 HBg
  cases RC.big r
  case true =>
    go_wp2_with fail
    go_ret
    exact ⟨rfl, B4.out⟩
  by_cases h60 : (60 : Int) < (l.length : Int)
  · go_wp2_with fail
    go_ret
    exact ⟨rfl, B4.out⟩
  have p0 := cell_of_row w4 _ 0 _ _ (0, 0) E1.out
  by_cases hk4 : r.kind = 4
  case neg =>
    have b4 : (r.kind != 4) = true := bne_iff_ne.2 hk4
    go_wp2_with fail
    go_ret
    exact ⟨rfl, B4.out⟩
  replace p0 : w4.cell? ⟨w.heap.size, 0, none⟩ = some (.int .i64 4) := by rw [← hk4]; exact p0
  have HPb := Lib.hid (purse_bd HCk.out hk4)
  have HSl := Lib.hid (slice_purse HCk.out hk4)
  have HAl := Lib.hid (all_purse hk4)
  have HK4 := Lib.hid hk4
  have HE : Hid (EscAt w2.heap.size w4 g 4 [] (SH.rooms (SH.all r) n) B cb gl cs) := Lib.hid (by have h := HE.out; rw [hk4, show SH.names r = [] by unfold SH.names; rw [if_neg (by omega)]] at h; exact h)
  have HZ := Lib.hid (show w.heap.size < gl ∧ w.heap.size < w4.heap.size ∧ gl < w4.heap.size ∧ g < w4.heap.size ∧ g ≠ gl from ⟨by have := HZ.out; have := HE.out.new.2.1; omega, lt_of_heap E1.out, lt_of_heap HE.out.row, lt_of_heap HE.out.box, HE.out.ne.1⟩)
  have HBx0 := Lib.hid (show w4.heap[g]? = some (.cells #[.int .i64 4, .slice B 0 cb, .slice (some ⟨gl, 0, none⟩) n n] 107 (0, 0)) from by have h := HE.out.box; rw [rooms_len] at h; exact h)
  have HRo0 := Lib.hid HE.out.row
  have HRm0 := Lib.hid HE.out.rms
  clear hk4 HE
  have hmk : ∀ W : World, (Instr.makeSlice 33 (.int .i64 (n : Int)) (.int .i64 (n : Int))).run Tryz.prog W = .ok (.slice (some ⟨W.heap.size, 0, none⟩) n n) (W.alloc (.cells (madeCells zcells (n * 8)) 25)) := fun W => by
    have h := run_makeSlice (P := Tryz.prog) W 33 25 i0 _ Tryz.underlying33 hi0 hz0 .i64 .i64 (n : Int) (n : Int) (by omega) (Int.le_refl _) (by rw [hz1]; omega) (by rw [hz2]; omega) (by omega)
    rw [hz1] at h
    exact h
  clear hi0 hz0 hz1 hz2
  go_upto_region 7 with fail
  generalize hw6 : World.alloc w4 _ = w6
  have hb : Below w4.heap.size w4 w6 := by rw [← hw6]; exact below1 w4 _
  have HPs0 := Lib.hid (show PsAt w6 w4.heap.size (List.replicate n ⟨RC.zero, none, 0⟩) by rw [← hw6]; exact PsAt.made w4 n)
  have B6 := Lib.hid (B4.out.trans (hb.mono B4.out.size))
  have E1 := Lib.hid ((hb.block _ (lt_of_heap E1.out)).trans E1.out)
  have HBx0 := Lib.hid ((hb.block _ (lt_of_heap HBx0.out)).trans HBx0.out)
  have HRo0 := Lib.hid ((hb.block _ (lt_of_heap HRo0.out)).trans HRo0.out)
  generalize hgp : w4.heap.size = gp at *
  clear hb hw6 hgp hmk B4 p0
  go_wp2_with fail
  go_loopw [57] (fun t57 wr => ∃ (i : Nat) (xs : List Rl), t57 = .int .i64 i ∧ i ≤ n ∧ xs.length = n ∧ (∀ j : Nat, j < i → xs[j]? = some (⟨sumR 0, none, 0⟩ : Rl)) ∧ PsAt wr gp xs ∧ Kp (fun j => j = gp) w6 wr) (fun t57 _ => n - (intOf t57).toNat)
  case atStart => exact ⟨0, _, rfl, Nat.zero_le _, by simp, fun j hj => by omega, HPs0.out, Kp.refl _ _⟩
  case round =>
    obtain ⟨i, xs, rfl, hi, hxl, hxs, hps, hkp⟩ := hrel
    have HXl := Lib.hid hxl
    have HXs := Lib.hid hxs
    have HPs := Lib.hid hps
    have HKp := Lib.hid hkp
    have BW := Lib.hid (B6.out.trans (hkp.below B6.out.size (fun i hi x => by have := HZ.out; omega)))
    have E1 := Lib.hid ((hkp.block _ (lt_of_heap E1.out) (by have := HZ.out; omega)).trans E1.out)
    clear hxl hxs hps hkp
    by_cases hlt : i < n
    · have hi1 : (i : Int) < (n : Int) := by omega
      go_wp2_with (first
        | (refine wpList_load_row rfl _ _ rfl w.heap.size rfl 25 _ (0, 0) _ E1.out Tryz.underlying25 rfl rec_inf7 ?_))
      refine (show Calls Tryz.prog 12 #[recV r A c] wr (fun e w' => e = .returned (.tuple #[.agg (recC 2 0 0 0 0 0 ⟨#[]⟩ (.slice none 0 0)), .bool true]) ∧ Below wr.heap.size wr w') from by
        have h := sslice_any r A c wr HI.out.ok (HI.out.its.below BW.out) (by have := (RC.chk_may HI.out.ok HCk.out).len; unfold Lim; omega)
        rw [HSl.out] at h
        exact h).mono ?_
      rintro e w7 ⟨rfl, hb⟩
      have HPs := Lib.hid (HPs.out.keep (Kp.of_below hb (fun _ => False)) (fun x => x))
      have HKp := Lib.hid (HKp.out.trans (Kp.of_below hb (fun j => j = gp)) (fun _ _ x => x))
      have HT := Lib.hid (HPs.out.there (k := i) (by rw [HXl.out]; exact hlt))
      have HST := Lib.hid (show PsAt (w7.setCells gp (i * 8) (recC 2 0 0 0 0 0 ⟨#[]⟩ (.slice none 0 0)).toList) gp (xs.set i ⟨sumR 0, none, 0⟩) from HPs.out.store (k := i) (by rw [HXl.out]; exact hlt) ⟨sumR 0, none, 0⟩)
      have HKT := Lib.hid (show Kp (fun j => j = gp) w6 (w7.setCells gp (i * 8) (recC 2 0 0 0 0 0 ⟨#[]⟩ (.slice none 0 0)).toList) from setCells_kp gp (S := fun j => j = gp) rfl _ _ _ HKp.out)
      clear hb BW E1
      go_upto_region 11 with (first
        | (refine wpList_store_mid rfl 25 _ _ rfl gp (i * 8) (recC 2 0 0 0 0 0 ⟨#[]⟩ (.slice none 0 0)) rfl rfl HT.out rec_inf7 (by kernel_rfl) ?_))
      generalize w7.setCells gp (i * 8) (recC 2 0 0 0 0 0 ⟨#[]⟩ (.slice none 0 0)).toList = wd at *
      go_wp2_with fail
      go_roundw
      case rel => exact ⟨i + 1, xs.set i ⟨sumR 0, none, 0⟩, by go_num, by omega, by rw [List.length_set]; exact HXl.out, fun j hj => by
        by_cases hji : j = i
        · subst hji; exact List.getElem?_set_self (by rw [HXl.out]; exact hlt)
        · rw [List.getElem?_set_ne (by omega)]; exact HXs.out j (by omega), HST.out, HKT.out⟩
      case measure => simp [intOf]; omega
    · have hi' : i = n := by omega
      have hi1 : ¬ (i : Int) < (n : Int) := by omega
      subst hi'
      have HX0 := Lib.hid (show ∀ (j : Nat) (p : Int), (List.replicate i (0 : Int))[j]? = some p → ∃ (B : Option Addr) (d : Nat), xs[j]? = some (⟨sumR p, B, d⟩ : Rl) from fun j p hp => by
        obtain ⟨h1, h2⟩ := List.getElem?_eq_some_iff.1 hp
        rw [List.getElem_replicate] at h2
        rw [List.length_replicate] at h1
        subst h2
        exact ⟨none, 0, HXs.out j h1⟩)
      have HBx1 := Lib.hid ((HKp.out.block _ (lt_of_heap HBx0.out) (by have := HZ.out; omega)).trans HBx0.out)
      have HRo1 := Lib.hid ((HKp.out.block _ (lt_of_heap HRo0.out) (by have := HZ.out; omega)).trans HRo0.out)
      have HZr := Lib.hid (show gp < wr.heap.size from by obtain ⟨⟨cs, h1, _⟩, _⟩ := HPs.out; exact lt_of_heap h1)
      generalize wr = w8 at *
      have p1 := cell_of_row w8 _ 1 _ _ (0, 0) E1.out
      clear hlt hi HXs B6 HKp HPs0 HBx0 HRo0
      go_wp2_with fail
      go_loopw [11, 12, 13, 73] (fun t11 t12 t13 t73 ws => ∃ (m : Nat) (xs : List Rl) (ps : List Int) (rs : List Rm) (cs : Array Value) (num : Int) (inn out : Nat), t73 = .int .i64 m ∧ m ≤ l.length ∧ t11 = .int .i64 num ∧ t12 = .int .u64 (inn : Nat) ∧ t13 = .int .u64 (out : Nat) ∧ ShI r i ps rs num inn out ∧ xs.length = i ∧ (∀ (j : Nat) (p : Int), ps[j]? = some p → ∃ (B : Option Addr) (d : Nat), xs[j]? = some (⟨sumR p, B, d⟩ : Rl)) ∧ PsAt ws gp xs ∧ ws.heap[gl]? = some (.cells cs 104 (0, 0)) ∧ RmsAt cs rs ∧ Kp (fun j => j = gp ∨ j = gl) w8 ws) (fun _ _ _ t73 _ => l.length - (intOf t73).toNat)
      case atStart => exact ⟨0, xs, List.replicate i 0, SH.rooms (SH.all r) i, cs, r.num, 0, 0, rfl, Nat.zero_le _, rfl, rfl, rfl, ShI.start HI.out.ok hn1, HXl.out, HX0.out, HPs.out, HRo1.out, HRm0.out, Kp.refl _ _⟩
      case round =>
        obtain ⟨m, xs, ps, rs, cs, num, inn, out, rfl, hm, rfl, rfl, rfl, hsi, hxl, hxs, hps, hrow, hrms, hkp⟩ := hrel
        generalize wr = ws at *
        have HSi := Lib.hid hsi
        have HXl := Lib.hid hxl
        have HXs := Lib.hid hxs
        have HPs := Lib.hid hps
        have HRo := Lib.hid hrow
        have HRm := Lib.hid hrms
        have HKp := Lib.hid hkp
        have BV := Lib.hid (BW.out.trans (hkp.below BW.out.size (fun i hi x => by have := HZ.out; omega)))
        have HZs := Lib.hid (show gp < ws.heap.size ∧ gl < ws.heap.size ∧ w8.heap.size ≤ ws.heap.size from ⟨by have := hkp.size; have := HZr.out; omega, lt_of_heap hrow, hkp.size⟩)
        clear hsi hxl hxs hps hrow hrms hkp p1
        by_cases hlt : m < l.length
        · have hm1 : (m : Int) < (l.length : Int) := by omega
          have hin := (HL.out.all _ (List.getElem_mem hlt)).1
          obtain ⟨b1, o1, hLe, hr1⟩ := deeds_range HL.out hlt
          subst hLe
          obtain ⟨dd, hd⟩ : ∃ d, d = l[m] := ⟨_, rfl⟩
          rw [← hd] at hin hr1
          clear hd
          obtain ⟨dk, a, La, ca⟩ := dd
          have HIn := Lib.hid hin
          have HR1 := Lib.hid (range_keep9 BV.out hr1)
          have HG4 := Lib.hid (fun u (b : Below w.heap.size w u) => show Calls Tryz.prog 34 #[actV a La ca] u (GPost (AC.big a) u) from big4_any a La ca u (HIn.out.make.its.below b) HIn.out.make.len)
          clear hin hr1
          go_upto_region 16 with (first
            | (refine wpList_load_mid rfl _ _ rfl b1 (o1 + m * 15) rfl (ddC ⟨dk, ⟨a, La, ca⟩⟩).toList _ HR1.out Tryz.underlying39 rfl deed_inf ?_)
            | (refine wpList_store_row rfl _ _ _ rfl _ (ddC ⟨dk, ⟨a, La, ca⟩⟩) rfl rfl 39 _ (heap_alloc_new _ _) deed_inf rfl (by kernel_rfl) ?_))
          rw [World.setRow_alloc_new]
          generalize hwb : World.alloc ws _ = wb
          have hbb : Below ws.heap.size ws wb := by rw [← hwb]; exact below1 ws _
          have R6 := Lib.hid (show wb.heap[ws.heap.size]? = some (.cells (ddC ⟨dk, ⟨a, La, ca⟩⟩) 39 (0, 0)) by rw [← hwb]; exact heap_alloc_new ws _)
          have HPs := Lib.hid (HPs.out.keep (Kp.of_below hbb (fun _ => False)) (fun x => x))
          have HRo := Lib.hid ((hbb.block _ (lt_of_heap HRo.out)).trans HRo.out)
          have HKp := Lib.hid (HKp.out.trans (Kp.of_below hbb (fun j => j = gp ∨ j = gl)) (fun _ _ x => x))
          have BB := Lib.hid (BV.out.trans (hbb.mono BV.out.size))
          have HZb := Lib.hid (show gp < ws.heap.size ∧ gl < ws.heap.size ∧ w8.heap.size ≤ ws.heap.size ∧ ws.heap.size < wb.heap.size from ⟨HZs.out.1, HZs.out.2.1, HZs.out.2.2, lt_of_heap R6.out⟩)
          generalize hg6 : ws.heap.size = g6 at *
          clear hwb hbb HR1 hg6 BV HZs
          have HRa := Lib.hid (show wb.rangeAt g6 1 (actC a La ca).toList from fun j v hv => by
            rw [cell_of_row wb _ _ _ _ (0, 0) R6.out, ddC_at]
            rw [Array.getElem?_toList] at hv
            exact hv)
          go_wp2_with (first
            | (refine wpList_load_mid rfl _ _ rfl g6 1 rfl (actC a La ca).toList _ HRa.out Tryz.underlying37 rfl act_inf9 ?_))
          refine (HG4.out _ BB.out).mono ?_
          have HBn := Lib.hid (show AC.big a = false → Lim a.make.list.length ∧ Lim a.key.size ∧ Lim a.s.size from fun h => by
            obtain ⟨h1, h2, h3⟩ := AC.big_not h
            have h4 := (big_not h3).1
            exact ⟨by unfold Lim; omega, by unfold Lim; omega, by unfold Lim; omega⟩)
          generalize AC.big a = ba at *
          rintro e wc ⟨rfl, hb⟩
          have R6 := Lib.hid ((hb.block _ (lt_of_heap R6.out)).trans R6.out)
          have HPs := Lib.hid (HPs.out.keep (Kp.of_below hb (fun _ => False)) (fun x => x))
          have HRo := Lib.hid ((hb.block _ (lt_of_heap HRo.out)).trans HRo.out)
          have HKp := Lib.hid (HKp.out.trans (Kp.of_below hb (fun j => j = gp ∨ j = gl)) (fun _ _ x => x))
          have BC := Lib.hid (BB.out.trans (hb.mono BB.out.size))
          have HZc := Lib.hid (show wb.heap.size ≤ wc.heap.size from hb.size)
          clear hb BB HG4 HRa
          cases ba
          case true =>
            go_wp2_with fail
            go_roundw
            case rel => exact ⟨m + 1, xs, ps, rs, cs, num, inn, out, by go_num, by omega, rfl, rfl, rfl, HSi.out, HXl.out, HXs.out, HPs.out, HRo.out, HRm.out, HKp.out⟩
            case measure => simp [intOf]; omega
          have HLa := Lib.hid (HBn.out rfl)
          have d0 := cell_of_row wc _ 0 _ _ (0, 0) R6.out
          have e1 := cell_of_row wc _ 1 _ _ (0, 0) R6.out
          have e2 := cell_of_row wc _ 2 _ _ (0, 0) R6.out
          have e3 := cell_of_row wc _ 3 _ _ (0, 0) R6.out
          have e4 := cell_of_row wc _ 4 _ _ (0, 0) R6.out
          have e5 := cell_of_row wc _ 5 _ _ (0, 0) R6.out
          have e6 := cell_of_row wc _ 6 _ _ (0, 0) R6.out
          have e7 := cell_of_row wc _ 7 _ _ (0, 0) R6.out
          have e8 := cell_of_row wc _ 8 _ _ (0, 0) R6.out
          have e9 := cell_of_row wc _ 9 _ _ (0, 0) R6.out
          have e10 := cell_of_row wc _ 10 _ _ (0, 0) R6.out
          have e11 := cell_of_row wc _ 11 _ _ (0, 0) R6.out
          have e12 := cell_of_row wc _ 12 _ _ (0, 0) R6.out
          have e13 := cell_of_row wc _ 13 _ _ (0, 0) R6.out
          have e14 := cell_of_row wc _ 14 _ _ (0, 0) R6.out
          have HBx := Lib.hid (show wc.heap[g]? = some (.cells #[.int .i64 4, .slice B 0 cb, .slice (some ⟨gl, 0, none⟩) i i] 107 (0, 0)) from (HKp.out.block _ (lt_of_heap HBx1.out) (by have := HZ.out; omega)).trans HBx1.out)
          have HDr := Lib.hid (show Calls Tryz.prog 25 #[.pointer (some ⟨g, 0, none⟩), .int .i64 dk, .slice (some ⟨wc.heap.size, 0, none⟩) 1 1] (wc.alloc (.cells (actC a La ca) 37)) (DrPost 4 [] rs dk [a] gl (wc.alloc (.cells (actC a La ca) 37))) from by
            have hbx : Below wc.heap.size wc (wc.alloc (.cells (actC a La ca) 37)) := below1 wc _
            exact sdraw_any g gl 4 [] B cb rs cs dk [⟨a, La, ca⟩] (some ⟨wc.heap.size, 0, none⟩) 1 _ (by have h := (hbx.block _ (lt_of_heap HBx.out)).trans HBx.out; rw [HSi.out.lr]; exact h) ((hbx.block _ (lt_of_heap HRo.out)).trans HRo.out) HRm.out (fun x hx => by have h1 := up_mem hx; have h2 := HSi.out.up; have h3 := HSi.out.dn; have h4 := SH.all_lt HI.out.ok HCk.out; omega) (.inl rfl) (by simp) (acts_one 37 (HIn.out.keep BC.out)) (by simp) (fun x hx => by rcases List.mem_cons.1 hx with rfl | hx; exact HLa.out; cases hx) (HR.out.below (BC.out.trans (hbx.mono BC.out.size))) HZ.out.2.2.2.2)
          go_wp2_with fail
          refine HDr.out.mono ?_
          rintro e w9 ⟨rfl, ⟨cs9, hrow9, hrms9⟩, hk9⟩
          have hk9' : Kp (fun j => j = gl) wc w9 := (Kp.of_below (below1 wc _) (fun j => j = gl)).trans hk9 (fun _ _ x => x)
          have R6 := Lib.hid ((hk9'.block _ (lt_of_heap R6.out) (by have := HZb.out; omega)).trans R6.out)
          have HPs := Lib.hid (HPs.out.keep hk9' (by have := HZ.out; omega))
          have HRo := Lib.hid hrow9
          have HKp := Lib.hid (HKp.out.trans (hk9'.mono (S' := fun j => j = gp ∨ j = gl) (fun _ _ x => .inr x)) (fun _ _ x => x))
          have BD := Lib.hid (BC.out.trans (hk9'.below BC.out.size (fun i hi x => by have := HZ.out; omega)))
          have HZd := Lib.hid (show wc.heap.size ≤ w9.heap.size from hk9'.size)
          have HRm9 := Lib.hid hrms9
          clear hrow9 hrms9 hk9 hk9' BC HDr HBx d0 e1 e2 e3 e4 e5 e6 e7 e8 e9 e10 e11 e12 e13 e14
          rcases Nat.eq_zero_or_pos (SH.drawE 4 [] rs dk [a]) with hE0 | hE0
          rotate_left
          · have hne : ((SH.drawE 4 [] rs dk [a] : Int) != 0) = true := by simp; omega
            have HRm := Lib.hid (show RmsAt cs9 rs by have h := HRm9.out; rw [drawR_no (by omega)] at h; exact h)
            clear HRm9 hE0
            generalize SH.drawE 4 [] rs dk [a] = de at *
            go_wp2_with fail
            go_roundw
            case rel => exact ⟨m + 1, xs, ps, rs, cs9, num, inn, out, by go_num, by omega, rfl, rfl, rfl, HSi.out, HXl.out, HXs.out, HPs.out, HRo.out, HRm.out, HKp.out⟩
            case measure => simp [intOf]; omega
          obtain ⟨q, x, rfl, hq, hx, hT, hRr⟩ := draw_one 4 [] rs dk a hE0
          rw [hE0]
          rw [hRr] at HRm9
          have hqn : q < i := by rw [HSi.out.lr] at hq; exact hq
          obtain ⟨p, hp⟩ : ∃ p, ps[q]? = some p := ⟨_, List.getElem?_eq_getElem (by rw [HSi.out.lp]; exact hqn)⟩
          obtain ⟨Bq, dq, hxq⟩ := HXs.out q p hp
          obtain ⟨hca, hn0, hnM, hdo, hst⟩ := HSi.out.step HIn.out.ok hx hp hT
          have HQ := Lib.hid hqn
          have HDo := Lib.hid (fun u (h : Below w.heap.size w u) => show Calls Tryz.prog 18 #[.agg (recC 2 p 0 0 0 0 ⟨#[]⟩ (.slice Bq 0 dq)), .agg (actC a La ca)] u (DoS (sumR (RU.w64 (p + if a.kind = 10 then a.n else RU.w64 (-a.n)))) u) from by
            have hpi := HSi.out.pi p (List.mem_of_getElem? hp)
            have h := sdo_any (sumR p) a Bq La dq ca u (sumR_ok hpi) HIn.out.ok (HR.out.below h) (.inl rfl) (HIn.out.make.its.below h) (by show Lim 0; unfold Lim; decide) HLa.out.1 HLa.out.2.1 HLa.out.2.2
            rw [hdo] at h
            exact h)
          have HRq := Lib.hid (show w9.rangeAt gp (q * 8) (recC 2 p 0 0 0 0 ⟨#[]⟩ (.slice Bq 0 dq)).toList from HPs.out.range hxq)
          have HRa := Lib.hid (show w9.rangeAt g6 1 (actC a La ca).toList from fun j v hv => by
            rw [cell_of_row w9 _ _ _ _ (0, 0) R6.out, ddC_at]
            rw [Array.getElem?_toList] at hv
            exact hv)
          have HSt := Lib.hid hst
          have HNm := Lib.hid (And.intro hn0 hnM)
          have HPq := Lib.hid (And.intro hp hxq)
          generalize (RU.w64 (p + if a.kind = 10 then a.n else RU.w64 (-a.n))) = p2 at *
          have hq1 : (q : Int) < (i : Int) := by omega
          have d0 : w9.cell? ⟨g6, 0, none⟩ = some (.int .i64 (q : Int)) := cell_of_row w9 _ 0 _ _ (0, 0) R6.out
          clear hE0 hq hx hT hRr hp hxq hca hn0 hnM hdo hst HLa hqn
          have f1 := cell_of_row w9 _ 1 _ _ (0, 0) R6.out
          have f2 := cell_of_row w9 _ 2 _ _ (0, 0) R6.out
          have f3 := cell_of_row w9 _ 3 _ _ (0, 0) R6.out
          have f4 := cell_of_row w9 _ 4 _ _ (0, 0) R6.out
          have f5 := cell_of_row w9 _ 5 _ _ (0, 0) R6.out
          have f6 := cell_of_row w9 _ 6 _ _ (0, 0) R6.out
          have f7 := cell_of_row w9 _ 7 _ _ (0, 0) R6.out
          have f8 := cell_of_row w9 _ 8 _ _ (0, 0) R6.out
          have f9 := cell_of_row w9 _ 9 _ _ (0, 0) R6.out
          have f10 := cell_of_row w9 _ 10 _ _ (0, 0) R6.out
          have f11 := cell_of_row w9 _ 11 _ _ (0, 0) R6.out
          have f12 := cell_of_row w9 _ 12 _ _ (0, 0) R6.out
          have f13 := cell_of_row w9 _ 13 _ _ (0, 0) R6.out
          have f14 := cell_of_row w9 _ 14 _ _ (0, 0) R6.out
          go_upto_region 19 with fail
          refine wp_region_held_drew (S := fun W => Kp (fun j => j = gp) w9 W) (by kernel_rfl) (Kp.drew (Kp.refl _ _)) (fun hHeld => ?_)
          have HPs := Lib.hid (show PsAt (World.drew w9) gp xs from HPs.out.keep (Kp.drew (Kp.refl (fun _ => False) w9)) (fun x => x))
          have HRq := Lib.hid (show (World.drew w9).rangeAt gp (q * 8) (recC 2 p 0 0 0 0 ⟨#[]⟩ (.slice Bq 0 dq)).toList from (World.rangeAt_drew _ _ _ _).2 HRq.out)
          have HRaK := Lib.hid (fun W (hW : Kp (fun j => j = gp) w9 W) => range_kp HRa.out hW (by show ¬ g6 = gp; have := HZb.out; omega))
          generalize World.drew w9 = v0 at *
          refine wpAnyH_take (i := 0) (oi := ⟨_, _, _, _, _, _⟩) (v := ?_) rfl (by kernel_rfl) (by kernel_rfl) (by kernel_rfl) (fun _ _ _ h => h) (Or.inl ⟨by kernel_rfl, ?_⟩) hHeld ?_
          rotate_left 1
          · intro W hW; first | (go_simp; done) | (go_simp; with_reducible rfl)
          try simp only [Act.put, List.setIfInBounds_toArray, List.set_cons_zero, List.set_cons_succ]
          refine wpAnyH_take (i := 1) (oi := ⟨_, _, _, _, _, _⟩) (v := ?_) rfl (by kernel_rfl) (by kernel_rfl) (by kernel_rfl) (fun _ _ _ h => h) (Or.inl ⟨by kernel_rfl, ?_⟩) hHeld ?_
          rotate_left 1
          · intro W hW; first | (go_simp; done) | (go_simp; with_reducible rfl)
          try simp only [Act.put, List.setIfInBounds_toArray, List.set_cons_zero, List.set_cons_succ]
          refine wpAnyH_take (i := 2) (oi := ⟨_, _, _, _, _, _⟩) (v := ?_) rfl (by kernel_rfl) (by kernel_rfl) (by kernel_rfl) (fun _ _ _ h => h) (Or.inl ⟨by kernel_rfl, ?_⟩) hHeld ?_
          rotate_left 1
          · intro W hW; have k0 := kp_cellg (by have := HZb.out; omega) hW d0; first | (go_simp; done) | (go_simp; with_reducible rfl)
          try simp only [Act.put, List.setIfInBounds_toArray, List.set_cons_zero, List.set_cons_succ]
          refine wpAnyH_take (i := 3) (oi := ⟨_, _, _, _, _, _⟩) (v := ?_) rfl (by kernel_rfl) (by kernel_rfl) (by kernel_rfl) (fun _ _ _ h => h) (Or.inl ⟨by kernel_rfl, ?_⟩) hHeld ?_
          rotate_left 1
          · intro W hW; first | (go_simp; done) | (go_simp; with_reducible rfl)
          try simp only [Act.put, List.setIfInBounds_toArray, List.set_cons_zero, List.set_cons_succ]
          refine wpAnyH_take (i := 4) (oi := ⟨_, _, _, _, _, _⟩) (v := ?_) rfl (by kernel_rfl) (by kernel_rfl) (by kernel_rfl) (fun _ _ _ h => h) (Or.inl ⟨by kernel_rfl, ?_⟩) hHeld ?_
          rotate_left 1
          · intro W hW; first | (go_simp; done) | (go_simp; with_reducible rfl)
          try simp only [Act.put, List.setIfInBounds_toArray, List.set_cons_zero, List.set_cons_succ]
          refine wpAnyH_take (i := 5) (oi := ⟨_, _, _, _, _, _⟩) (v := ?_) rfl (by kernel_rfl) (by kernel_rfl) (by kernel_rfl) (fun _ _ _ h => h) (Or.inl ⟨by kernel_rfl, ?_⟩) hHeld ?_
          rotate_left 1
          · intro W hW; have k0 := kp_cellg (by have := HZb.out; omega) hW d0; first | (go_simp; done) | (go_simp; with_reducible rfl)
          try simp only [Act.put, List.setIfInBounds_toArray, List.set_cons_zero, List.set_cons_succ]
          refine wpAnyH_take (i := 6) (oi := ⟨_, _, _, _, _, _⟩) (v := ?_) rfl (by kernel_rfl) (by kernel_rfl) (by kernel_rfl) (fun _ _ _ h => h) (Or.inl ⟨by kernel_rfl, ?_⟩) hHeld ?_
          rotate_left 1
          · intro W hW; first | (go_simp; done) | (go_simp; with_reducible rfl)
          try simp only [Act.put, List.setIfInBounds_toArray, List.set_cons_zero, List.set_cons_succ]
          refine wpAnyH_take (i := 8) (oi := ⟨_, _, _, _, _, _⟩) (v := ?_) rfl (by kernel_rfl) (by kernel_rfl) (by kernel_rfl) (fun _ _ _ h => h) (Or.inl ⟨by kernel_rfl, ?_⟩) hHeld ?_
          rotate_left 1
          · intro W hW; first | (go_simp; done) | (go_simp; with_reducible rfl)
          try simp only [Act.put, List.setIfInBounds_toArray, List.set_cons_zero, List.set_cons_succ]
          refine wpAnyH_take (i := 9) (oi := ⟨_, _, _, _, _, _⟩) (v := ?_) rfl (by kernel_rfl) (by kernel_rfl) (by kernel_rfl) (fun _ _ _ h => h) (Or.inl ⟨by kernel_rfl, ?_⟩) hHeld ?_
          rotate_left 1
          · intro W hW; have k0 := kp_cellg (by have := HZb.out; omega) hW f1; have k1 := kp_cellg (by have := HZb.out; omega) hW f2; have k2 := kp_cellg (by have := HZb.out; omega) hW f3; have k3 := kp_cellg (by have := HZb.out; omega) hW f4; have k4 := kp_cellg (by have := HZb.out; omega) hW f5; have k5 := kp_cellg (by have := HZb.out; omega) hW f6; have k6 := kp_cellg (by have := HZb.out; omega) hW f7; have k7 := kp_cellg (by have := HZb.out; omega) hW f8; have k8 := kp_cellg (by have := HZb.out; omega) hW f9; have k9 := kp_cellg (by have := HZb.out; omega) hW f10; have k10 := kp_cellg (by have := HZb.out; omega) hW f11; have k11 := kp_cellg (by have := HZb.out; omega) hW f12; have k12 := kp_cellg (by have := HZb.out; omega) hW f13; have k13 := kp_cellg (by have := HZb.out; omega) hW f14; first | (go_simp; done) | (go_simp; with_reducible rfl)
          try simp only [Act.put, List.setIfInBounds_toArray, List.set_cons_zero, List.set_cons_succ]
          refine wpAnyH_ready (rs := [7]) (by kernel_rfl) (by simp) ?_
          refine AllReadyH.cons rfl (fun K hK => ?_) AllReadyH.nil
          rw [if_pos (by kernel_rfl)]
          refine wp_load_mid 25 _ rfl gp (q * 8) rfl (recC 2 p 0 0 0 0 ⟨#[]⟩ (.slice Bq 0 dq)).toList _ HRq.out Tryz.underlying25 rfl rec_inf7 ?_
          refine hK.out _ _ ?_ (fun hHelda => ?_)
          · exact hHeld
          clear hK K
          try simp only [Act.put, List.setIfInBounds_toArray, List.set_cons_zero, List.set_cons_succ]
          refine wpAnyH_ready (rs := [10]) (by kernel_rfl) (by simp) ?_
          refine AllReadyH.cons rfl (fun K hK => ?_) AllReadyH.nil
          go_simp
          refine (HDo.out _ (BD.out.trans (hHelda.below BD.out.size (fun i hi x => by have := HZ.out; omega)))).mono ?_
          rintro e v1 ⟨B2, d2, rfl, _, hbx⟩
          have HPv := Lib.hid (HPs.out.keep (Kp.of_below hbx (fun _ => False)) (fun x => x))
          have hkx := Kp.of_below hbx (fun j => j = gp)
          clear hbx
          go_wp2_with fail
          refine hK.out _ _ ?_ (fun hHeldaa => ?_)
          · exact hHelda.trans hkx (fun _ _ x => x)
          clear hK K
          try simp only [Act.put, List.setIfInBounds_toArray, List.set_cons_zero, List.set_cons_succ]
          clear hkx
          refine wpAnyH_take (i := 11) (oi := ⟨_, _, _, _, _, _⟩) (v := ?_) rfl (by kernel_rfl) (by kernel_rfl) (by kernel_rfl) (fun _ _ _ h => h) (Or.inl ⟨by kernel_rfl, ?_⟩) hHeldaa ?_
          rotate_left 1
          · intro W hW; first | (go_simp; done) | (go_simp; with_reducible rfl)
          try simp only [Act.put, List.setIfInBounds_toArray, List.set_cons_zero, List.set_cons_succ]
          refine wpAnyH_ready (rs := [12]) (by kernel_rfl) (by simp) ?_
          refine AllReadyH.cons rfl (fun K hK => ?_) AllReadyH.nil
          have HT := Lib.hid (HPv.out.there (k := q) (by rw [HXl.out]; exact HQ.out))
          rw [if_pos (by kernel_rfl)]
          refine wp_store_mid 25 _ _ rfl gp (q * 8) (recC 2 p2 0 0 0 0 ⟨#[]⟩ (.slice B2 0 d2)) rfl rfl HT.out rec_inf7 (by kernel_rfl) ?_
          have HPn := Lib.hid (show PsAt (v1.setCells gp (q * 8) (recC 2 p2 0 0 0 0 ⟨#[]⟩ (.slice B2 0 d2)).toList) gp (xs.set q ⟨sumR p2, B2, d2⟩) from HPv.out.store (k := q) (by rw [HXl.out]; exact HQ.out) ⟨sumR p2, B2, d2⟩)
          have hkx : Kp (fun j => j = gp) v1 (v1.setCells gp (q * 8) (recC 2 p2 0 0 0 0 ⟨#[]⟩ (.slice B2 0 d2)).toList) := setCells_kp gp (S := fun j => j = gp) rfl _ _ _ (Kp.refl _ _)
          generalize v1.setCells gp (q * 8) (recC 2 p2 0 0 0 0 ⟨#[]⟩ (.slice B2 0 d2)).toList = wf at *
          refine hK.out _ _ ?_ (fun hHeldaaa => ?_)
          · exact hHeldaa.trans hkx (fun _ _ x => x)
          clear hK K
          try simp only [Act.put, List.setIfInBounds_toArray, List.set_cons_zero, List.set_cons_succ]
          clear hkx
          refine wpAnyH_done (by kernel_rfl) ?_ _
          have HKn := Lib.hid (HKp.out.trans (hHeldaaa.mono (S' := fun j => j = gp ∨ j = gl) (fun _ _ x => .inl x)) (fun _ _ x => x))
          have R6 := Lib.hid ((hHeldaaa.block _ (lt_of_heap R6.out) (by have := HZb.out; omega)).trans R6.out)
          have HRo := Lib.hid ((hHeldaaa.block _ (lt_of_heap HRo.out) (by have := HZ.out; omega)).trans HRo.out)
          clear HPv HT HRq HRa d0 f1 f2 f3 f4 f5 f6 f7 f8 f9 f10 f11 f12 f13 f14
          have HXn := Lib.hid (show ∀ (j : Nat) (p : Int), (ps.set q p2)[j]? = some p → ∃ (B : Option Addr) (d : Nat), (xs.set q ⟨sumR p2, B2, d2⟩)[j]? = some (⟨sumR p, B, d⟩ : Rl) from fun j p hp => by
            by_cases hjq : j = q
            · subst hjq
              rw [List.getElem?_set_self (by rw [HSi.out.lp]; exact HQ.out)] at hp
              injection hp with hp
              subst hp
              exact ⟨B2, d2, List.getElem?_set_self (by rw [HXl.out]; exact HQ.out)⟩
            · rw [List.getElem?_set_ne (by omega)] at hp ⊢
              exact HXs.out j p hp)
          rcases HSt.out with ⟨hk10, hS⟩ | ⟨hk11, hS⟩
          · have HSn := Lib.hid hS
            have k1 : wf.cell? ⟨g6, 1, none⟩ = some (.int .i64 10) := (cell_of_row wf _ 1 _ _ (0, 0) R6.out).trans (by rw [← hk10]; rfl)
            have k3 : wf.cell? ⟨g6, 3, none⟩ = some (.int .i64 a.n) := cell_of_row wf _ 3 _ _ (0, 0) R6.out
            clear hk10 hS
            go_upto_region 21 with fail
            go_quiet (fail)
            go_wp2_with fail
            go_roundw
            case rel => exact ⟨m + 1, xs.set q ⟨sumR p2, B2, d2⟩, ps.set q p2, rs.set q (SH.takeR 4 [] x a), cs9, RU.w64 (num + a.n), inn + a.n.toNat, out, by go_num, by omega, rfl, congrArg (Value.int .u64) (by have h1 := HNm.out; have h2 := HSn.out.up; have h3 := SH.all_lt HI.out.ok HCk.out; simp only [u64_wrap]; omega), rfl, HSn.out, by rw [List.length_set]; exact HXl.out, HXn.out, HPn.out.keep ((Kp.refl (fun _ => False) wf).drewN _) (fun x => x), HRo.out, HRm9.out, HKn.out.drewN _⟩
            case measure => simp [intOf]; omega
          · have HSn := Lib.hid hS
            have k1 : wf.cell? ⟨g6, 1, none⟩ = some (.int .i64 11) := (cell_of_row wf _ 1 _ _ (0, 0) R6.out).trans (by rw [← hk11]; rfl)
            have k3 : wf.cell? ⟨g6, 3, none⟩ = some (.int .i64 a.n) := cell_of_row wf _ 3 _ _ (0, 0) R6.out
            clear hk11 hS
            go_upto_region 22 with fail
            go_quiet (fail)
            go_wp2_with fail
            go_roundw
            case rel => exact ⟨m + 1, xs.set q ⟨sumR p2, B2, d2⟩, ps.set q p2, rs.set q (SH.takeR 4 [] x a), cs9, RU.w64 (num - a.n), inn, out + a.n.toNat, by go_num, by omega, rfl, rfl, congrArg (Value.int .u64) (by have h1 := HNm.out; have h2 := HSn.out.dn; have h3 := SH.all_lt HI.out.ok HCk.out; simp only [u64_wrap]; omega), HSn.out, by rw [List.length_set]; exact HXl.out, HXn.out, HPn.out.keep ((Kp.refl (fun _ => False) wf).drewN _) (fun x => x), HRo.out, HRm9.out, HKn.out.drewN _⟩
            case measure => simp [intOf]; omega
        · have hm' : m = l.length := by omega
          have hm1 : ¬ (m : Int) < (l.length : Int) := by omega
          have HBx := Lib.hid (show ws.heap[g]? = some (.cells #[.int .i64 4, .slice B 0 cb, .slice (some ⟨gl, 0, none⟩) i i] 107 (0, 0)) from (HKp.out.block _ (lt_of_heap HBx1.out) (by have := HZ.out; omega)).trans HBx1.out)
          have E1 := Lib.hid ((HKp.out.block _ (lt_of_heap E1.out) (by have := HZ.out; omega)).trans E1.out)
          clear hlt hm hm' HKp HZs
          go_wp2_with fail
          go_loopw [16, 17, 140] (fun t16 t17 t140 wu => ∃ j : Nat, t140 = .int .i64 j ∧ j ≤ i ∧ t16 = .int .u64 (upS (rs.take j) : Nat) ∧ t17 = .int .u64 (dnS (rs.take j) : Nat) ∧ Below ws.heap.size ws wu) (fun _ _ t140 _ => i - (intOf t140).toNat)
          case atStart => exact ⟨0, rfl, Nat.zero_le _, rfl, rfl, Below.refl _ _⟩
          case round =>
            obtain ⟨j, rfl, hj, rfl, rfl, hb⟩ := hrel
            generalize wr = wu at *
            have BU := Lib.hid hb
            clear hb
            by_cases hlj : j < i
            · have hj1 : (j : Int) < (i : Int) := by omega
              obtain ⟨x, hx⟩ : ∃ x, rs[j]? = some x := ⟨_, List.getElem?_eq_getElem (by rw [HSi.out.lr]; exact hlj)⟩
              have HTk := Lib.hid (up_take rs j x hx)
              have HFr := Lib.hid (up_front rs (j + 1))
              have hlf : SH.left rs (j : Int) = x := by
                unfold SH.left
                rw [if_pos (by rw [HSi.out.lr]; omega), Int.toNat_natCast, hx]
                rfl
              have HLf := Lib.hid (show Calls Tryz.prog 24 #[.pointer (some ⟨g, 0, none⟩), .int .i64 (j : Int)] wu (fun e w' => e = .returned (.tuple #[.int .u64 x.up, .int .u64 x.down]) ∧ Below wu.heap.size wu w') from by
                have h := sleft_any g gl (j : Int) 4 (.slice B 0 cb) rs cs wu (by have h := (BU.out.block _ (lt_of_heap HBx.out)).trans HBx.out; rw [HSi.out.lr]; exact h) ((BU.out.block _ (lt_of_heap HRo.out)).trans HRo.out) HRm.out
                rw [hlf] at h
                exact h)
              clear hlf hx
              go_wp2_with fail
              refine HLf.out.mono ?_
              rintro e wv ⟨rfl, hb⟩
              have BVv := Lib.hid (BU.out.trans (hb.mono BU.out.size))
              clear hb HLf BU
              go_wp2_with fail
              go_roundw
              case rel => exact ⟨j + 1, by go_num, by omega, congrArg (Value.int .u64) (by have h1 := HTk.out; have h2 := HFr.out; have h3 := HSi.out.up; have h4 := SH.all_lt HI.out.ok HCk.out; simp only [u64_wrap]; omega), congrArg (Value.int .u64) (by have h1 := HTk.out; have h2 := HFr.out; have h3 := HSi.out.dn; have h4 := SH.all_lt HI.out.ok HCk.out; simp only [u64_wrap]; omega), BVv.out⟩
              case measure => simp [intOf]; omega
            · have hj' : j = i := by omega
              have hj1 : ¬ (j : Int) < (i : Int) := by omega
              have htk : rs.take j = rs := by rw [hj', ← HSi.out.lr, List.take_length]
              rw [htk]
              have HXm := Lib.hid (show xs.map (·.r) = ps.map sumR from List.ext_getElem? fun k => by
                rw [List.getElem?_map, List.getElem?_map]
                by_cases hk : k < i
                · obtain ⟨p, hp⟩ : ∃ p, ps[k]? = some p := ⟨_, List.getElem?_eq_getElem (by rw [HSi.out.lp]; exact hk)⟩
                  obtain ⟨B, d, hx⟩ := HXs.out k p hp
                  rw [hp, hx]
                  rfl
                · rw [List.getElem?_eq_none (by rw [HXl.out]; omega), List.getElem?_eq_none (by rw [HSi.out.lp]; omega)]
                  rfl)
              have HRin := Lib.hid (show ∀ y ∈ xs, y.r.list = [] ∧ RecIn wu y.r y.A y.c from fun y hy => by
                obtain ⟨k, hk, rfl⟩ := List.mem_iff_getElem.1 hy
                obtain ⟨p, hp⟩ : ∃ p, ps[k]? = some p := ⟨_, List.getElem?_eq_getElem (by rw [HSi.out.lp, ← HXl.out]; exact hk)⟩
                obtain ⟨B, d, hx⟩ := HXs.out k p hp
                rw [List.getElem?_eq_getElem hk] at hx
                injection hx with hx
                rw [hx]
                exact ⟨rfl, sumR_ok (HSi.out.pi p (List.mem_of_getElem? hp)), .inl rfl, Nat.zero_le _, Nat.zero_le _, fun z hz => by cases hz⟩)
              have HPu := Lib.hid (HPs.out.keep (Kp.of_below BU.out (fun _ => False)) (fun x => x))
              have HRg := Lib.hid (show SH.regains r.kind (xs.map (·.r)) = [] from by unfold SH.regains; rw [if_neg (by have := HK4.out; omega)])
              have BX := Lib.hid (BV.out.trans (BU.out.mono BV.out.size))
              have E1 := Lib.hid ((BU.out.block _ (lt_of_heap E1.out)).trans E1.out)
              have HMe := Lib.hid (show Calls Tryz.prog 17 #[recV r A c, .slice (some ⟨gp, 0, none⟩) i i] wu (DoS { r with num := num } wu) from by
                have h := smerge_any r xs A (some ⟨gp, 0, none⟩) c i wu HI.out.ok (HI.out.its.below BX.out) (by have := (RC.chk_may HI.out.ok HCk.out).len; unfold Lim; omega) (HPu.out.recs (fun y hy => (HRin.out y hy).2) (by rw [HXl.out]; unfold maxLen; omega)) (by rw [HRg.out]; simp) (by rw [HXl.out]; omega) (fun y hy => by rw [(HRin.out y hy).1]; simp) (fun a ha => by rw [HRg.out] at ha; cases ha) (HR.out.below BX.out)
                rw [HXm.out, merge_num HK4.out, HSi.out.num_eq HI.out.ok, HXl.out] at h
                exact h)
              clear hj' hlj htk hj
              go_wp2_with (first
                | (refine wpList_load_row rfl _ _ rfl w.heap.size rfl 25 _ (0, 0) _ E1.out Tryz.underlying25 rfl rec_inf7 ?_))
              refine HMe.out.mono ?_
              rintro e wx ⟨Bm, dm, rfl, _, hb⟩
              have BY := Lib.hid (BX.out.trans (hb.mono BX.out.size))
              have E1 := Lib.hid ((hb.block _ (lt_of_heap E1.out)).trans E1.out)
              clear hb HMe BX
              go_upto_region 32 with (first
                | (refine wpList_store_row rfl _ _ _ rfl _ (recC r.kind num r.low r.high r.real r.cap r.text (.slice Bm r.list.length dm)) rfl rfl 25 _ (heap_alloc_new _ _) rec_inf7 rfl (by kernel_rfl) ?_))
              rw [World.setRow_alloc_new]
              generalize hwy : World.alloc wx _ = wy
              have hb : Below wx.heap.size wx wy := by rw [← hwy]; exact below1 wx _
              have E2 := Lib.hid (show wy.heap[wx.heap.size]? = some (.cells (recC r.kind num r.low r.high r.real r.cap r.text (.slice Bm r.list.length dm)) 25 (0, 0)) by rw [← hwy]; exact heap_alloc_new wx _)
              have BZ := Lib.hid (BY.out.trans (hb.mono BY.out.size))
              have E1 := Lib.hid ((hb.block _ (lt_of_heap E1.out)).trans E1.out)
              generalize hgy : wx.heap.size = gy at *
              clear hwy hb hgy BY
              have y1 := cell_of_row wy _ 1 _ _ (0, 0) E2.out
              have y2 := cell_of_row wy _ 2 _ _ (0, 0) E2.out
              have y3 := cell_of_row wy _ 3 _ _ (0, 0) E2.out
              have z1 := cell_of_row wy _ 1 _ _ (0, 0) E1.out
              have z2 := cell_of_row wy _ 2 _ _ (0, 0) E1.out
              have z3 := cell_of_row wy _ 3 _ _ (0, 0) E1.out
              have hup : ((upS rs : Nat) : Int) = IntKind.u64.wrap (IntKind.u64.wrap (wrap64 (r.high - r.num)) - (inn : Nat)) := by
                have h1 := HSi.out.up
                have h2 := HPb.out
                rw [HAl.out] at h1
                simp only [u64_wrap] at h1 ⊢
                unfold wrap64
                omega
              have hdn : ((dnS rs : Nat) : Int) = IntKind.u64.wrap (IntKind.u64.wrap (wrap64 (r.num - r.low)) - (out : Nat)) := by
                have h1 := HSi.out.dn
                have h2 := HPb.out
                rw [HAl.out] at h1
                simp only [u64_wrap] at h1 ⊢
                unfold wrap64
                omega
              have HUD := Lib.hid (And.intro hup hdn)
              clear hup hdn
              go_wp2_with fail
              · go_ret
                exact ⟨congrArg (fun b => Ending.returned (Value.bool b)) (beq_iff_eq.2 HUD.out.2), BZ.out⟩
              · exact absurd HUD.out.1 (by assumption)
end Go.Proofs.YtbkcmnmbcldjoaaGreatDoor
