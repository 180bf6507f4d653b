/- Contracts of the document's own answers for layer 3: Check. -/
import Derived.Test.YtaaeefndhmfceaaDoorRef3e
import Derived.Test.YtaaeefndhmfceaaDoorRec4
namespace RC
theorem purse_yes {r : Rc} (h1 : -2305843009213693952 ≤ r.low) (h2 : r.low ≤ r.num) (h3 : r.num ≤ r.high) (h4 : r.high ≤ 2305843009213693952) : purseOk r = true := by
  unfold purseOk; exact decide_eq_true ⟨h1, h2, h3, h4⟩
theorem clean_proper {r : Rc} (hr : r.ok) (hc : clean r = true) (hk : ¬ (5 ≤ r.kind ∧ r.kind ≤ 7)) : MF.proper r.real = true := by
  have h := ((clean_iff r).1 hc).real hk
  rw [zero_of_same hr.real h]; exact proper_zero
end RC
namespace Go.Proofs.YtaaeefndhmfceaaDoor
open Go.RowKit MM

theorem ritem_any (k : Int) (A : Option Addr) (c : Nat) (l : List RC.It) (i : Nat) (w : World) (hI : Its w A l) (hl : WS64 l) (hi : i < l.length) (hn : Lim l.length) (hk : k = 8 ∨ k = 9) :
    Calls Tryd.prog 36 #[.int .i64 k, .slice A l.length c, .int .i64 i] w (EPost (RC.itemE k (RC.prev l i) l[i]) w) := by
  rcases hk with rfl | rfl
  · exact ritem_8 A c l i w hI hl hi hn
  · exact ritem_9 A c l i w hI hl hi hn

theorem lim_max {n : Nat} (h : Lim n) : n ≤ maxLen := by unfold Lim at h; unfold maxLen; omega

set_option maxHeartbeats 4000000 in
set_option maxRecDepth 100000 in
theorem rcheck_any (r : RC.Rc) (A : Option Addr) (c : Nat) (w : World) (hr : r.ok) (hA : Its w A r.list) (hn : Lim r.list.length) :
    Calls Tryd.prog 11 #[recV r A c] w (EPost (RC.chk r) w) := by
  cases hk : RC.known r.kind
  · have He := Lib.hid (RC.chk_kind hk)
    obtain ⟨k, n, l, h, x, cap, t, s⟩ := r
    have hk' : k < 1 ∨ 9 < k := by
      have h2 : RC.known k = false := hk
      unfold RC.known at h2; simp at h2; omega
    clear hk hA
    by_cases h1 : k < 1
    · clear hk'
      go_enter Tryd.func11, Tryd.ntmps11
      go_wp2_with fail
      go_ret
      exact EPost.mk He.out rfl (below1 w _)
    · have h2 : 9 < k := by omega
      clear hk'
      go_enter Tryd.func11, Tryd.ntmps11
      go_wp2_with fail
      go_ret
      exact EPost.mk He.out rfl (below1 w _)
  · have HF := Lib.hid (fun w => rfields_any r.kind w hk)
    have HO := Lib.hid (fun w => ronly_any r A c w hr.real (lim_max hn) hk)
    have HI := Lib.hid (fun k w (hA : Its w A r.list) i hi hk => ritem_any k A c r.list i w hA hr.list hi hn hk)
    have HP := Lib.hid (fun w => rproper_any r.real w)
    have HA := Lib.hid hA
    have hn' : (r.list.length : Int) ≤ 4294967296 := by unfold Lim at hn; omega
    have h9 : 1 ≤ r.kind ∧ r.kind ≤ 9 := by have := RC.kind9 hk; omega
    have HE := Lib.hid (show RC.chk r = if RC.clean r then RC.fieldE r else 4 by unfold RC.chk; rw [if_pos hk])
    have Hpr := Lib.hid (fun hc h => RC.clean_proper hr hc h)
    have Hk := Lib.hid hk
    clear hk hA
    generalize RC.clean r = cl at *
    obtain ⟨k, n, l, h, x, cap, t, s⟩ := r
    have h1 : 1 ≤ k := h9.1
    have h2 : k ≤ 9 := h9.2
    replace hn' : (s.length : Int) ≤ 4294967296 := hn'
    clear h9
    go_enter Tryd.func11, Tryd.ntmps11
    go_wp2_with fail
    generalize hw1 : w.alloc _ = w1
    have e0 : w1.heap[w.heap.size]? = some (.cells (recC k n l h x cap t (.slice A s.length c)) 25 (0, 0)) := by rw [← hw1]; exact heap_alloc_new _ _
    have HB1 := Lib.hid (show Below w.heap.size w w1 by rw [← hw1]; exact below1 w _)
    have f0 : w1.cell? ⟨w.heap.size, 0, none⟩ = some (.int .i64 k) := (cell_of_row w1 _ 0 _ _ (0, 0) e0).trans rfl
    have f1 : w1.cell? ⟨w.heap.size, 1, none⟩ = some (.int .i64 n) := (cell_of_row w1 _ 1 _ _ (0, 0) e0).trans rfl
    have f2 : w1.cell? ⟨w.heap.size, 2, none⟩ = some (.int .i64 l) := (cell_of_row w1 _ 2 _ _ (0, 0) e0).trans rfl
    have f3 : w1.cell? ⟨w.heap.size, 3, none⟩ = some (.int .i64 h) := (cell_of_row w1 _ 3 _ _ (0, 0) e0).trans rfl
    have f4 : w1.cell? ⟨w.heap.size, 4, none⟩ = some (.float .f64 x) := (cell_of_row w1 _ 4 _ _ (0, 0) e0).trans rfl
    have f5 : w1.cell? ⟨w.heap.size, 5, none⟩ = some (.int .i64 cap) := (cell_of_row w1 _ 5 _ _ (0, 0) e0).trans rfl
    have f6 : w1.cell? ⟨w.heap.size, 6, none⟩ = some (.string t) := (cell_of_row w1 _ 6 _ _ (0, 0) e0).trans rfl
    have f7 : w1.cell? ⟨w.heap.size, 7, none⟩ = some (.slice A s.length c) := (cell_of_row w1 _ 7 _ _ (0, 0) e0).trans rfl
    clear hw1 e0
    go_region_held3 (fun w' => w'.cell? ⟨w.heap.size, 0, none⟩ = some (.int .i64 k) ∧ w'.cell? ⟨w.heap.size, 1, none⟩ = some (.int .i64 n) ∧ w'.cell? ⟨w.heap.size, 2, none⟩ = some (.int .i64 l) ∧ w'.cell? ⟨w.heap.size, 3, none⟩ = some (.int .i64 h) ∧ w'.cell? ⟨w.heap.size, 4, none⟩ = some (.float .f64 x) ∧ w'.cell? ⟨w.heap.size, 5, none⟩ = some (.int .i64 cap) ∧ w'.cell? ⟨w.heap.size, 6, none⟩ = some (.string t) ∧ w'.cell? ⟨w.heap.size, 7, none⟩ = some (.slice A s.length c))
      (first
        | go_keep
        | (go_split_ands; exact ⟨below_keep hb3 (by assumption), below_keep hb3 (by assumption), below_keep hb3 (by assumption), below_keep hb3 (by assumption), below_keep hb3 (by assumption), below_keep hb3 (by assumption), below_keep hb3 (by assumption), below_keep hb3 (by assumption)⟩)
        | (go_split_ands; exact ⟨below_keep hb2 (by assumption), below_keep hb2 (by assumption), below_keep hb2 (by assumption), below_keep hb2 (by assumption), below_keep hb2 (by assumption), below_keep hb2 (by assumption), below_keep hb2 (by assumption), below_keep hb2 (by assumption)⟩))
      (first
        | (go_at_call 34; refine (HF.out _).mono ?_; rintro e w2 ⟨rfl, hb2⟩)
        | (go_at_call 33; refine (HO.out _).mono ?_; rintro e w3 ⟨rfl, hb3⟩))
    rename_i hH
    obtain ⟨f0, f1, f2, f3, f4, f5, f6, f7⟩ := hH
    have HB2 := Lib.hid (show Below w.heap.size w w3 from HB1.out.trans (((below_a w1).mono HB1.out.size).trans ((hb2.mono HB1.out.size).trans (hb3.mono (Nat.le_trans HB1.out.size hb2.size)))))
    clear hb2 hb3 HB1
    cases cl
    · go_wp2_with fail
      go_ret
      exact EPost.mk (m := 4) (by rw [HE.out]; rfl) rfl HB2.out
    · have He := Lib.hid (show RC.chk ⟨k, n, l, h, x, cap, t, s⟩ = RC.fieldE ⟨k, n, l, h, x, cap, t, s⟩ by rw [HE.out]; rfl)
      have hk : k = 1 ∨ k = 2 ∨ k = 3 ∨ k = 4 ∨ k = 5 ∨ k = 6 ∨ k = 7 ∨ k = 8 ∨ k = 9 := by omega
      replace Hpr := Lib.hid (fun h => Hpr.out (by trivial) h)
      clear HE h1 h2
      rcases hk with rfl | rfl | rfl | rfl | rfl | rfl | rfl | rfl | rfl
      · have hp : MF.proper x = true := Hpr.out (by simp)
        have HP1 := Lib.hid (fun w => (hp ▸ HP.out w : Calls Tryd.prog 35 #[.float .f64 x] w fun e w' => e = .returned (.bool true) ∧ w = w'))
        clear hp HP Hpr
        by_cases h64 : 64 < t.size
        · go_wp2_with fail
          go_ret
          exact EPost.mk (He.out.trans (show (if 64 < t.size then 3 else 0) = 3 from if_pos h64)) rfl HB2.out
        · go_wp2_with (first | (go_at_call 35; refine (HP1.out _).mono ?_; rintro e w' ⟨rfl, rfl⟩))
          go_ret
          exact EPost.mk (He.out.trans (show (if 64 < t.size then 3 else 0) = 0 from if_neg h64)) rfl HB2.out
      iterate 2
        · have hp : MF.proper x = true := Hpr.out (by simp)
          have HP1 := Lib.hid (fun w => (hp ▸ HP.out w : Calls Tryd.prog 35 #[.float .f64 x] w fun e w' => e = .returned (.bool true) ∧ w = w'))
          clear hp HP Hpr
          go_wp2_with (first | (go_at_call 35; refine (HP1.out _).mono ?_; rintro e w' ⟨rfl, rfl⟩))
          go_ret
          exact EPost.mk He.out rfl HB2.out
      · have hp : MF.proper x = true := Hpr.out (by simp)
        have HP1 := Lib.hid (fun w => (hp ▸ HP.out w : Calls Tryd.prog 35 #[.float .f64 x] w fun e w' => e = .returned (.bool true) ∧ w = w'))
        clear hp HP Hpr
        have He4 := Lib.hid (He.out.trans (show RC.fieldE ⟨4, n, l, h, x, cap, t, s⟩ = if decide (-2305843009213693952 ≤ l ∧ l ≤ n ∧ n ≤ h ∧ h ≤ 2305843009213693952) then 0 else 1 from rfl))
        clear He
        go_wp2_with (first | (go_at_call 35; refine (HP1.out _).mono ?_; rintro e w' ⟨rfl, rfl⟩))
        all_goals
          go_ret
          first
            | exact EPost.mk (m := 0) (by rw [He4.out, if_pos (decide_eq_true (by omega))]) rfl HB2.out
            | exact EPost.mk (m := 1) (by rw [He4.out, if_neg (by rw [decide_eq_true_eq]; omega)]) rfl HB2.out
      iterate 3
        · have He5 := Lib.hid (show RC.chk _ = (if MF.proper x then 0 else 4) from He.out)
          clear He Hpr
          generalize hpx : MF.proper x = px at *
          have HP1 := Lib.hid (fun w => (hpx ▸ HP.out w : Calls Tryd.prog 35 #[.float .f64 x] w fun e w' => e = .returned (.bool px) ∧ w = w'))
          clear hpx HP
          cases px
          all_goals
            go_wp2_with (first | (go_at_call 35; refine (HP1.out _).mono ?_; rintro e w' ⟨rfl, rfl⟩))
            go_ret
            exact EPost.mk He5.out rfl HB2.out
      · have hp : MF.proper x = true := Hpr.out (by simp)
        have HP1 := Lib.hid (fun w => (hp ▸ HP.out w : Calls Tryd.prog 35 #[.float .f64 x] w fun e w' => e = .returned (.bool true) ∧ w = w'))
        have He8 := Lib.hid (He.out.trans (show RC.fieldE ⟨8, n, l, h, x, cap, t, s⟩ = if cap < 1 ∨ 32 < cap then 1 else if cap < s.length then 8 else RC.itemsE 8 none s from rfl))
        clear hp HP Hpr He
        by_cases h1 : cap < 1
        · go_wp2_with (first | (go_at_call 35; refine (HP1.out _).mono ?_; rintro e w' ⟨rfl, rfl⟩))
          go_ret
          exact EPost.mk (m := 1) (by rw [He8.out, if_pos (.inl h1)]) rfl HB2.out
        by_cases h2 : 32 < cap
        · go_wp2_with (first | (go_at_call 35; refine (HP1.out _).mono ?_; rintro e w' ⟨rfl, rfl⟩))
          go_ret
          exact EPost.mk (m := 1) (by rw [He8.out, if_pos (.inr h2)]) rfl HB2.out
        have He9 := Lib.hid (He8.out.trans (if_neg (show ¬ (cap < 1 ∨ 32 < cap) by omega)))
        clear He8
        by_cases h3 : cap < s.length
        · go_wp2_with (first | (go_at_call 35; refine (HP1.out _).mono ?_; rintro e w' ⟨rfl, rfl⟩))
          go_ret
          exact EPost.mk (m := 8) (by rw [He9.out, if_pos h3]) rfl HB2.out
        have He10 := Lib.hid (He9.out.trans (if_neg h3))
        clear He9
        go_wp2_with (first | (go_at_call 35; refine (HP1.out _).mono ?_; rintro e w' ⟨rfl, rfl⟩))
        have HB3 := Lib.hid HB2.out
        clear HB2 HF HO HP1
        go_loopw [4] (fun t4 wr => ∃ i : Nat, t4 = .int .i64 i ∧ i ≤ s.length ∧ RC.itemsE 8 none s = RC.itemsE 8 (RC.prev s i) (s.drop i) ∧ Below w3.heap.size w3 wr) (fun t4 _ => s.length - (intOf t4).toNat)
        case atStart => exact ⟨0, rfl, Nat.zero_le _, rfl, Below.refl _ _⟩
        case round =>
          obtain ⟨i, rfl, hi, hs, hbr⟩ := hrel
          have g0 := below_keep hbr f0
          have g7 := below_keep hbr f7
          have HBr := Lib.hid (HB3.out.trans (hbr.mono HB3.out.size))
          by_cases hlt : i < s.length
          · have hst := RC.itemsE_step 8 s i hlt
            have hsp := RC.itemsE_stop 8 s i hlt
            have HX := Lib.hid (fun w hA => HI.out 8 w hA i hlt (by omega))
            have hi1 : (i : Int) < (s.length : Int) := by omega
            have Hs := Lib.hid hs
            have Hst := Lib.hid hst
            have Hsp := Lib.hid hsp
            have Hbr := Lib.hid hbr
            clear hs hst hsp hbr
            go_wp2_with fail
            refine (HX.out _ (HA.out.below HBr.out)).mono ?_
            rintro e w4 ⟨rfl, hb4⟩
            rcases Nat.eq_zero_or_pos (RC.itemE 8 (RC.prev s i) s[i]) with he | he
            · rw [he]
              have Hn := Lib.hid (Hs.out.trans (Hst.out he))
              have HB4 := Lib.hid (Hbr.out.trans (hb4.mono Hbr.out.size))
              clear he hb4
              go_wp2_with fail
              go_roundw
              case rel => exact ⟨i + 1, by go_num, by omega, Hn.out, HB4.out⟩
              case measure => simp [intOf]; omega
            · have Hn := Lib.hid (Hs.out.trans (Hsp.out (Nat.ne_of_gt he)))
              generalize RC.itemE 8 (RC.prev s i) s[i] = E at *
              have hE : ((E : Int) != 0) = true := by simp; omega
              go_wp2_with fail
              go_ret
              exact EPost.mk (m := E) (by rw [He10.out, Hn.out]) rfl (HBr.out.trans (hb4.mono HBr.out.size))
          · go_wp2_with fail
            go_ret
            exact EPost.mk (m := 0) (by rw [He10.out, hs, List.drop_eq_nil_of_le (by omega)]; rfl) rfl HBr.out
      · have hp : MF.proper x = true := Hpr.out (by simp)
        have HP1 := Lib.hid (fun w => (hp ▸ HP.out w : Calls Tryd.prog 35 #[.float .f64 x] w fun e w' => e = .returned (.bool true) ∧ w = w'))
        have He8 := Lib.hid (He.out.trans (show RC.fieldE ⟨9, n, l, h, x, cap, t, s⟩ = if cap < 1 ∨ 32 < cap then 1 else if cap < s.length then 8 else RC.itemsE 9 none s from rfl))
        clear hp HP Hpr He
        by_cases h1 : cap < 1
        · go_wp2_with (first | (go_at_call 35; refine (HP1.out _).mono ?_; rintro e w' ⟨rfl, rfl⟩))
          go_ret
          exact EPost.mk (m := 1) (by rw [He8.out, if_pos (.inl h1)]) rfl HB2.out
        by_cases h2 : 32 < cap
        · go_wp2_with (first | (go_at_call 35; refine (HP1.out _).mono ?_; rintro e w' ⟨rfl, rfl⟩))
          go_ret
          exact EPost.mk (m := 1) (by rw [He8.out, if_pos (.inr h2)]) rfl HB2.out
        have He9 := Lib.hid (He8.out.trans (if_neg (show ¬ (cap < 1 ∨ 32 < cap) by omega)))
        clear He8
        by_cases h3 : cap < s.length
        · go_wp2_with (first | (go_at_call 35; refine (HP1.out _).mono ?_; rintro e w' ⟨rfl, rfl⟩))
          go_ret
          exact EPost.mk (m := 8) (by rw [He9.out, if_pos h3]) rfl HB2.out
        have He10 := Lib.hid (He9.out.trans (if_neg h3))
        clear He9
        go_wp2_with (first | (go_at_call 35; refine (HP1.out _).mono ?_; rintro e w' ⟨rfl, rfl⟩))
        have HB3 := Lib.hid HB2.out
        clear HB2 HF HO HP1
        go_loopw [4] (fun t4 wr => ∃ i : Nat, t4 = .int .i64 i ∧ i ≤ s.length ∧ RC.itemsE 9 none s = RC.itemsE 9 (RC.prev s i) (s.drop i) ∧ Below w3.heap.size w3 wr) (fun t4 _ => s.length - (intOf t4).toNat)
        case atStart => exact ⟨0, rfl, Nat.zero_le _, rfl, Below.refl _ _⟩
        case round =>
          obtain ⟨i, rfl, hi, hs, hbr⟩ := hrel
          have g0 := below_keep hbr f0
          have g7 := below_keep hbr f7
          have HBr := Lib.hid (HB3.out.trans (hbr.mono HB3.out.size))
          by_cases hlt : i < s.length
          · have hst := RC.itemsE_step 9 s i hlt
            have hsp := RC.itemsE_stop 9 s i hlt
            have HX := Lib.hid (fun w hA => HI.out 9 w hA i hlt (by omega))
            have hi1 : (i : Int) < (s.length : Int) := by omega
            have Hs := Lib.hid hs
            have Hst := Lib.hid hst
            have Hsp := Lib.hid hsp
            have Hbr := Lib.hid hbr
            clear hs hst hsp hbr
            go_wp2_with fail
            refine (HX.out _ (HA.out.below HBr.out)).mono ?_
            rintro e w4 ⟨rfl, hb4⟩
            rcases Nat.eq_zero_or_pos (RC.itemE 9 (RC.prev s i) s[i]) with he | he
            · rw [he]
              have Hn := Lib.hid (Hs.out.trans (Hst.out he))
              have HB4 := Lib.hid (Hbr.out.trans (hb4.mono Hbr.out.size))
              clear he hb4
              go_wp2_with fail
              go_roundw
              case rel => exact ⟨i + 1, by go_num, by omega, Hn.out, HB4.out⟩
              case measure => simp [intOf]; omega
            · have Hn := Lib.hid (Hs.out.trans (Hsp.out (Nat.ne_of_gt he)))
              generalize RC.itemE 9 (RC.prev s i) s[i] = E at *
              have hE : ((E : Int) != 0) = true := by simp; omega
              go_wp2_with fail
              go_ret
              exact EPost.mk (m := E) (by rw [He10.out, Hn.out]) rfl (HBr.out.trans (hb4.mono HBr.out.size))
          · go_wp2_with fail
            go_ret
            exact EPost.mk (m := 0) (by rw [He10.out, hs, List.drop_eq_nil_of_le (by omega)]; rfl) rfl HBr.out

end Go.Proofs.YtaaeefndhmfceaaDoor
