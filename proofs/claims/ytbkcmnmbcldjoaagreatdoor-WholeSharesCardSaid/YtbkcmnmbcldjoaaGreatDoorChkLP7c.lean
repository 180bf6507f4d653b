/- Contracts of package rec, at lists of whatever length; share.New at such. -/
import Derived.Test.YtbkcmnmbcldjoaaGreatDoorShXP7c
namespace Go.Proofs.YtbkcmnmbcldjoaaGreatDoor
open Go.RowKit MM
set_option linter.unusedVariables false
set_option linter.unusedSimpArgs false
set_option maxHeartbeats 1000000 in
set_option maxRecDepth 100000 in
theorem equalFuncL_any (A B : Option Addr) (c d : Nat) (l m : List RC.It) (w : World) (hA : Its w A l) (hB : Its w B m) (wl : WS64 l) (wm : WS64 m) (hn : l.length ≤ maxLen) :
    Calls Tryz.prog 99 #[.slice A l.length c, .slice B m.length d, .func (.func 100) #[] #[]] w (SLPost l m w) := by
  have hn' : (l.length : Int) ≤ 9223372036854775807 := by unfold maxLen at hn; omega
  by_cases hlen : l.length = m.length
  · have h0 : ((l.length : Int) != (m.length : Int)) = false := by simp; omega
    have Hlen := Lib.hid hlen
    have HA := Lib.hid hA
    have HB := Lib.hid hB
    clear hlen hA hB
    go_enter Tryz.func99, Tryz.ntmps99
    go_wp2_with fail
    go_loopw [17] (fun t wr => ∃ i : Nat, t = .int .i64 i ∧ i ≤ l.length ∧ RC.sameL l m = RC.sameL (l.drop i) (m.drop i) ∧ Below w.heap.size w wr) (fun t _ => l.length - (intOf t).toNat)
    case atStart => exact ⟨0, rfl, Nat.zero_le _, rfl, Below.refl _ _⟩
    case round =>
      obtain ⟨i, rfl, hi, hs, hb⟩ := hrel
      by_cases hlt : i < l.length
      · have hltm : i < m.length := by have := Hlen.out; omega
        have hA := HA.out.below hb
        have hB := HB.out.below hb
        rcases hA with rfl | ⟨ba, oa, rfl, hba, hca⟩
        · simp at hlt
        rcases hB with rfl | ⟨bb, ob', rfl, hbb, hcb⟩
        · simp at hltm
        obtain ⟨a0, a1⟩ := hca i l[i] (List.getElem?_eq_getElem hlt)
        obtain ⟨b0, b1⟩ := hcb i m[i] (List.getElem?_eq_getElem hltm)
        have hst := RC.sameL_step hlt hltm
        have wa := wl.at hlt
        have wb := wm.at hltm
        generalize l[i] = x at *
        generalize m[i] = y at *
        obtain ⟨xs, xn⟩ := x
        obtain ⟨ys, yn⟩ := y
        have a0 : wr.cell? ⟨ba, oa + i * 2, none⟩ = some (.float .f64 xs) := a0
        have a1 : wr.cell? ⟨ba, oa + i * 2 + 1, none⟩ = some (.string xn) := a1
        have b0 : wr.cell? ⟨bb, ob' + i * 2, none⟩ = some (.float .f64 ys) := b0
        have b1 : wr.cell? ⟨bb, ob' + i * 2 + 1, none⟩ = some (.string yn) := b1
        rw [hst] at hs
        have Hs := Lib.hid hs
        have Hb := Lib.hid hb
        clear hs hst hca hcb hb
        have hi1 : (i : Int) < (l.length : Int) := by omega
        have hm1 : (i : Int) < (m.length : Int) := by omega
        cases hq : RC.sameIt ⟨xs, xn⟩ ⟨ys, yn⟩
        all_goals
          have Hq := Lib.hid hq
          clear hq
          go_wp2_with fail
          refine (sameItem_any ⟨xs, xn⟩ ⟨ys, yn⟩ _ wa wb).mono ?_
          rw [Hq.out]
          rintro e w1 ⟨rfl, hb1⟩
          go_wp2_with fail
        · go_ret
          exact SLPost.mk (by rw [Hs.out, Hq.out]; rfl) ((Hb.out.trans ((below2 wr _ _).mono Hb.out.size)).trans (hb1.mono (Nat.le_trans Hb.out.size (by simp; omega))))
        · go_roundw
          case rel => exact ⟨i + 1, by go_num, by omega, by rw [Hs.out, Hq.out]; rfl, (Hb.out.trans ((below2 wr _ _).mono Hb.out.size)).trans (hb1.mono (Nat.le_trans Hb.out.size (by simp; omega)))⟩
          case measure => simp [intOf]; omega
      · have hi' : i = l.length := by omega
        have Hr := Lib.hid (show RC.sameL l m = true by rw [hs, List.drop_eq_nil_of_le (by omega), List.drop_eq_nil_of_le (by have := Hlen.out; omega)]; rfl)
        clear hs
        subst hi'
        go_wp2
        go_ret
        exact SLPost.mk Hr.out hb
  · have h0 : ((l.length : Int) != (m.length : Int)) = true := by simp; omega
    have Hr := Lib.hid (RC.sameL_len l m hlen)
    clear hlen hA hB
    go_enter Tryz.func99, Tryz.ntmps99
    go_wp2_with fail
    go_ret
    exact SLPost.mk Hr.out (Below.refl _ _)
set_option maxHeartbeats 2000000 in
set_option maxRecDepth 100000 in
theorem recSameL_any (a b : RC.Rc) (A B : Option Addr) (c d : Nat) (w : World) (ha : a.ok) (hb : b.ok) (hA : Its w A a.list) (hB : Its w B b.list) (hn : a.list.length ≤ maxLen) :
    Calls Tryz.prog 69 #[recV a A c, recV b B d] w (SRPost a b w) := by
  obtain ⟨k1, n1, l1, h1, r1, c1, t1, s1⟩ := a
  obtain ⟨k2, n2, l2, h2, r2, c2, t2, s2⟩ := b
  have wr1 : MF.W64 r1 := ha.real
  have wr2 : MF.W64 r2 := hb.real
  have ws1 : WS64 s1 := ha.list
  have ws2 : WS64 s2 := hb.list
  have hn : s1.length ≤ maxLen := hn
  have Hr := Lib.hid (show RC.same ⟨k1, n1, l1, h1, r1, c1, t1, s1⟩ ⟨k2, n2, l2, h2, r2, c2, t2, s2⟩ = (k1 == k2 && n1 == n2 && l1 == l2 && h1 == h2 && MF.same r1 r2 && c1 == c2 && (t1.toList == t2.toList) && RC.sameL s1 s2) from rfl)
  have HA := Lib.hid hA
  have HB := Lib.hid hB
  clear hA hB ha hb
  by_cases e1 : k1 = k2
  case neg =>
    have e1' : (k1 == k2) = false := by simpa using e1
    clear e1
    go_enter Tryz.func69, Tryz.ntmps69
    go_wp2_with fail
    go_ret
    exact SRPost.mk (by rw [Hr.out, e1']; rfl) (below2 w _ _)
  subst e1
  by_cases e2 : n1 = n2
  case neg =>
    have e2' : (n1 == n2) = false := by simpa using e2
    clear e2
    go_enter Tryz.func69, Tryz.ntmps69
    go_wp2_with fail
    go_ret
    exact SRPost.mk (by rw [Hr.out, e2']; simp) (below2 w _ _)
  subst e2
  by_cases e3 : l1 = l2
  case neg =>
    have e3' : (l1 == l2) = false := by simpa using e3
    clear e3
    go_enter Tryz.func69, Tryz.ntmps69
    go_wp2_with fail
    go_ret
    exact SRPost.mk (by rw [Hr.out, e3']; simp) (below2 w _ _)
  subst e3
  by_cases e4 : h1 = h2
  case neg =>
    have e4' : (h1 == h2) = false := by simpa using e4
    clear e4
    go_enter Tryz.func69, Tryz.ntmps69
    go_wp2_with fail
    go_ret
    exact SRPost.mk (by rw [Hr.out, e4']; simp) (below2 w _ _)
  subst e4
  cases e5 : MF.same r1 r2
  case false =>
    have H5 := Lib.hid e5
    clear e5
    go_enter Tryz.func69, Tryz.ntmps69
    go_wp2_with fail
    refine (same_any r1 r2 _ wr1 wr2).mono ?_
    rw [H5.out]
    rintro e w' ⟨rfl, rfl⟩
    go_wp2_with fail
    go_ret
    exact SRPost.mk (by rw [Hr.out, H5.out]; simp) (below2 w _ _)
  have H5 := Lib.hid e5
  clear e5
  by_cases e6 : c1 = c2
  case neg =>
    have e6' : (c1 == c2) = false := by simpa using e6
    clear e6
    go_enter Tryz.func69, Tryz.ntmps69
    go_wp2_with fail
    refine (same_any r1 r2 _ wr1 wr2).mono ?_
    rw [H5.out]
    rintro e w' ⟨rfl, rfl⟩
    go_wp2_with fail
    go_ret
    exact SRPost.mk (by rw [Hr.out, e6']; simp) (below2 w _ _)
  subst e6
  cases e7 : (t1.toList == t2.toList)
  case false =>
    have H7 := Lib.hid e7
    go_enter Tryz.func69, Tryz.ntmps69
    go_wp2_with fail
    refine (same_any r1 r2 _ wr1 wr2).mono ?_
    rw [H5.out]
    rintro e w' ⟨rfl, rfl⟩
    go_wp2_with fail
    go_ret
    exact SRPost.mk (by rw [Hr.out, H7.out]; simp) (below2 w _ _)
  have H7 := Lib.hid e7
  go_enter Tryz.func69, Tryz.ntmps69
  go_wp2_with fail
  refine (same_any r1 r2 _ wr1 wr2).mono ?_
  rw [H5.out]
  rintro e w' ⟨rfl, rfl⟩
  go_wp2_with fail
  refine (equalFuncL_any A B c d s1 s2 _ (HA.out.below (below2 w _ _)) (HB.out.below (below2 w _ _)) ws1 ws2 hn).mono ?_
  rintro e w1 ⟨rfl, hb1⟩
  go_wp2_with fail
  go_ret
  exact SRPost.mk (by rw [Hr.out, H5.out, H7.out]; simp) ((below2 w _ _).trans (hb1.mono (by simp; omega)))
set_option maxHeartbeats 1000000 in
set_option maxRecDepth 100000 in
theorem checkListL_any (r : RC.Rc) (A : Option Addr) (c : Nat) (w : World) (hA : Its w A r.list) (hr : WS64 r.list) (hn : r.list.length ≤ maxLen) :
    Calls Tryz.prog 74 #[recV r A c] w (EPost (RC.listE r) w) := by
  obtain ⟨k, n, l, h, x, cap, t, s⟩ := r
  replace hr : WS64 s := hr
  have hn' : (s.length : Int) ≤ 9223372036854775807 := by have hn : s.length ≤ maxLen := hn; unfold maxLen at hn; omega
  by_cases h1 : cap < 1 ∨ 32 < cap
  · have Hr := Lib.hid (RC.listE_range (r := ⟨k, n, l, h, x, cap, t, s⟩) h1)
    by_cases h2 : cap < 1
    · clear h1 hA
      go_enter Tryz.func74, Tryz.ntmps74
      go_wp2_with fail
      go_ret
      exact EPost.mk Hr.out rfl (below1 w _)
    · have h3 : 32 < cap := by omega
      clear h1 hA
      go_enter Tryz.func74, Tryz.ntmps74
      go_wp2_with fail
      go_ret
      exact EPost.mk Hr.out rfl (below1 w _)
  · have h2 : ¬ cap < 1 := by omega
    have h3 : ¬ 32 < cap := by omega
    by_cases h4 : cap < s.length
    · have Hr := Lib.hid (RC.listE_full (r := ⟨k, n, l, h, x, cap, t, s⟩) h1 h4)
      clear h1 hA
      go_enter Tryz.func74, Tryz.ntmps74
      go_wp2_with fail
      go_ret
      exact EPost.mk Hr.out rfl (below1 w _)
    · have Hr := Lib.hid (RC.listE_items (r := ⟨k, n, l, h, x, cap, t, s⟩) h1 h4)
      have HA := Lib.hid hA
      clear h1 hA
      go_enter Tryz.func74, Tryz.ntmps74
      go_wp2_with fail
      go_loopw [22] (fun ti wr => ∃ i : Nat, ti = .int .i64 i ∧ i ≤ s.length ∧ RC.itemsE k none s = RC.itemsE k (RC.prev s i) (s.drop i) ∧ Below (w.heap.size + 1) (w.alloc (.cells #[.int .i64 k, .int .i64 n, .int .i64 l, .int .i64 h, .float .f64 x, .int .i64 cap, .string t, .slice A s.length c] 25)) wr) (fun ti _ => s.length - (intOf ti).toNat)
      case atStart => exact ⟨0, rfl, Nat.zero_le _, rfl, Below.refl _ _⟩
      case round =>
        obtain ⟨i, rfl, hi, hs, hb⟩ := hrel
        have e0 := (hb.block w.heap.size (by omega)).trans (heap_alloc_new w _)
        have c0 : wr.cell? ⟨w.heap.size, 0, none⟩ = some (.int .i64 k) := (cell_of_row wr _ 0 _ _ (0, 0) e0).trans rfl
        have c7 : wr.cell? ⟨w.heap.size, 7, none⟩ = some (.slice A s.length c) := (cell_of_row wr _ 7 _ _ (0, 0) e0).trans rfl
        have hB : Below w.heap.size w wr := (below1 w _).trans (hb.mono (by omega))
        have hsz := hb.size
        rw [World.size_alloc] at hsz
        by_cases hlt : i < s.length
        · have hA := HA.out.below hB
          rcases hA with hA | ⟨ba, oa, rfl, hba, hca⟩
          · have hA : s = [] := hA
            subst hA; simp at hlt
          replace hca : ∀ (i : Nat) (x : RC.It), s[i]? = some x → wr.cell? ⟨ba, oa + i * 2, none⟩ = some (.float .f64 x.score) ∧ wr.cell? ⟨ba, oa + i * 2 + 1, none⟩ = some (.string x.name) := hca
          obtain ⟨a0, a1⟩ := hca i s[i] (List.getElem?_eq_getElem hlt)
          have wa := hr.at hlt
          have hst := RC.itemsE_step k s i hlt
          have hsp := RC.itemsE_stop k s i hlt
          have hi1 : (i : Int) < (s.length : Int) := by omega
          have hpr : i = 0 ∧ RC.prev s i = none ∨ ∃ p, 0 < i ∧ RC.prev s i = some p ∧ MF.W64 p.score ∧ wr.cell? ⟨ba, oa + (i - 1) * 2, none⟩ = some (.float .f64 p.score) ∧ wr.cell? ⟨ba, oa + (i - 1) * 2 + 1, none⟩ = some (.string p.name) := by
            by_cases h0 : i = 0
            · subst h0; exact .inl ⟨rfl, rfl⟩
            · have hj : i - 1 < s.length := by omega
              obtain ⟨q0, q1⟩ := hca (i - 1) s[i - 1] (List.getElem?_eq_getElem hj)
              refine .inr ⟨s[i - 1], by omega, ?_, hr.at hj, q0, q1⟩
              unfold RC.prev
              rw [if_neg h0, List.getElem?_eq_getElem hj]
          generalize s[i] = y at *
          generalize RC.prev s i = pv at *
          obtain ⟨ys, yn⟩ := y
          replace a0 : wr.cell? ⟨ba, oa + i * 2, none⟩ = some (.float .f64 ys) := a0
          replace a1 : wr.cell? ⟨ba, oa + i * 2 + 1, none⟩ = some (.string yn) := a1
          replace wa : MF.W64 ys := wa
          have Hs := Lib.hid hs
          have Hst := Lib.hid hst
          have Hsp := Lib.hid hsp
          have Hb := Lib.hid hb
          have HB := Lib.hid hB
          clear hs hst hsp hb hB hca e0
          have hne : ¬ w.heap.size = wr.heap.size := by omega
          by_cases h16 : 16 < yn.size
          · have Hi := Lib.hid (RC.itemE_long (k := k) (p := pv) (x := ⟨ys, yn⟩) h16)
            clear hpr
            go_wp2_with fail
            go_ret
            exact EPost.mk (m := 3) (by rw [Hr.out]; show RC.itemsE k none s = 3; rw [Hs.out, Hsp.out (by rw [Hi.out]; omega), Hi.out]) rfl (HB.out.trans ((below1 wr _).mono HB.out.size))
          · cases hf : RC.fits k ys
            · have Hi := Lib.hid (RC.itemE_form (k := k) (p := pv) (x := ⟨ys, yn⟩) h16 (by show (RC.fits k ys && _) = false; rw [hf]; rfl))
              have Hf := Lib.hid hf
              clear hpr hf
              go_wp2_with fail
              generalize hw2 : wr.alloc _ = w2
              have hB2 : Below wr.heap.size wr w2 := by rw [← hw2]; exact below1 wr _
              have k0 : w2.cell? ⟨w.heap.size, 0, none⟩ = some (.int .i64 k) := (hB2.cell (p := ⟨w.heap.size, 0, none⟩) (by show w.heap.size < _; omega)).trans c0
              have k7 : w2.cell? ⟨w.heap.size, 7, none⟩ = some (.slice (some ⟨ba, oa, none⟩) s.length c) := (hB2.cell (p := ⟨w.heap.size, 7, none⟩) (by show w.heap.size < _; omega)).trans c7
              have y0 : w2.cell? ⟨wr.heap.size, 0, none⟩ = some (.float .f64 ys) := by rw [← hw2]; simp [go_sem]
              have y1 : w2.cell? ⟨wr.heap.size, 1, none⟩ = some (.string yn) := by rw [← hw2]; simp [go_sem]
              have HB2 := Lib.hid hB2
              clear hw2 hB2
              go_quiet (first | (go_at_call 103; refine Calls.quiet_of_same (fits_q k ys false _ wa Hf.out)))
              go_wp2
              go_ret
              exact EPost.mk (m := 4) (by rw [Hr.out]; show RC.itemsE k none s = 4; rw [Hs.out, Hsp.out (by rw [Hi.out]; omega), Hi.out]) rfl (below_drewN (HB.out.trans (HB2.out.mono HB.out.size)) _)
            · have Hf := Lib.hid hf
              clear hf
              rcases hpr with ⟨rfl, rfl⟩ | ⟨p, h0, rfl, wp, p0, p1⟩
              · have Hi := Lib.hid (RC.itemE_ok (k := k) (p := none) (x := ⟨ys, yn⟩) h16 (by show (RC.fits k ys && true) = true; rw [Hf.out]; rfl))
                rw [Nat.zero_mul, Nat.add_zero] at a0 a1
                go_wp2_with fail
                generalize hw2 : wr.alloc _ = w2
                have hB2 : Below wr.heap.size wr w2 := by rw [← hw2]; exact below1 wr _
                have k0 : w2.cell? ⟨w.heap.size, 0, none⟩ = some (.int .i64 k) := (hB2.cell (p := ⟨w.heap.size, 0, none⟩) (by show w.heap.size < _; omega)).trans c0
                have k7 : w2.cell? ⟨w.heap.size, 7, none⟩ = some (.slice (some ⟨ba, oa, none⟩) s.length c) := (hB2.cell (p := ⟨w.heap.size, 7, none⟩) (by show w.heap.size < _; omega)).trans c7
                have y0 : w2.cell? ⟨wr.heap.size, 0, none⟩ = some (.float .f64 ys) := by rw [← hw2]; simp [go_sem]
                have y1 : w2.cell? ⟨wr.heap.size, 1, none⟩ = some (.string yn) := by rw [← hw2]; simp [go_sem]
                have HB2 := Lib.hid hB2
                clear hw2 hB2
                go_quiet (first | (go_at_call 103; refine Calls.quiet_of_same (fits_q k ys true _ wa Hf.out)))
                go_wp2
                go_roundw
                case rel => exact ⟨1, by go_num, by omega, by rw [Hs.out, Hst.out Hi.out], below_drewN (Hb.out.trans (HB2.out.mono (by omega))) _⟩
                case measure => simp [intOf]; omega
              · obtain ⟨ps, pn⟩ := p
                replace p0 : wr.cell? ⟨ba, oa + (i - 1) * 2, none⟩ = some (.float .f64 ps) := p0
                replace p1 : wr.cell? ⟨ba, oa + (i - 1) * 2 + 1, none⟩ = some (.string pn) := p1
                replace wp : MF.W64 ps := wp
                have W1 : IntKind.i64.wrap ((i : Int) - 1) = ((i - 1 : Nat) : Int) := (IntWalk.i64_in _ (by omega)).trans (by omega)
                have hj0 : (0 : Int) ≤ ((i - 1 : Nat) : Int) := Int.natCast_nonneg _
                have hj1 : ((i - 1 : Nat) : Int) < (s.length : Int) := by omega
                have h0' : decide ((0 : Int) < (i : Int)) = true := by simp; omega
                cases hq : RC.ahead k ⟨ps, pn⟩ ⟨ys, yn⟩
                · have Hi := Lib.hid (RC.itemE_form (k := k) (p := some ⟨ps, pn⟩) (x := ⟨ys, yn⟩) h16 (by show (RC.fits k ys && RC.ahead k ⟨ps, pn⟩ ⟨ys, yn⟩) = false; rw [hq, Bool.and_false]))
                  have Hq := Lib.hid hq
                  clear hq
                  go_wp2_with fail
                  generalize hw2 : wr.alloc _ = w2
                  have hB2 : Below wr.heap.size wr w2 := by rw [← hw2]; exact below1 wr _
                  have k0 : w2.cell? ⟨w.heap.size, 0, none⟩ = some (.int .i64 k) := (hB2.cell (p := ⟨w.heap.size, 0, none⟩) (by show w.heap.size < _; omega)).trans c0
                  have k7 : w2.cell? ⟨w.heap.size, 7, none⟩ = some (.slice (some ⟨ba, oa, none⟩) s.length c) := (hB2.cell (p := ⟨w.heap.size, 7, none⟩) (by show w.heap.size < _; omega)).trans c7
                  have y0 : w2.cell? ⟨wr.heap.size, 0, none⟩ = some (.float .f64 ys) := by rw [← hw2]; simp [go_sem]
                  have y1 : w2.cell? ⟨wr.heap.size, 1, none⟩ = some (.string yn) := by rw [← hw2]; simp [go_sem]
                  replace p0 := (hB2.cell (p := ⟨ba, oa + (i - 1) * 2, none⟩) hba).trans p0
                  replace p1 := (hB2.cell (p := ⟨ba, oa + (i - 1) * 2 + 1, none⟩) hba).trans p1
                  have HB2 := Lib.hid hB2
                  clear hw2 hB2 c0 c7 a0 a1
                  go_region_held3 (fun w' => w'.cell? ⟨w.heap.size, 0, none⟩ = some (.int .i64 k) ∧ w'.cell? ⟨w.heap.size, 7, none⟩ = some (.slice (some ⟨ba, oa, none⟩) s.length c) ∧ w'.cell? ⟨wr.heap.size, 0, none⟩ = some (.float .f64 ys) ∧ w'.cell? ⟨wr.heap.size, 1, none⟩ = some (.string yn) ∧ w'.cell? ⟨ba, oa + (i - 1) * 2, none⟩ = some (.float .f64 ps) ∧ w'.cell? ⟨ba, oa + (i - 1) * 2 + 1, none⟩ = some (.string pn))
                    (first
                      | go_keep
                      | (go_split_ands; exact ⟨below_keep hb1 (by assumption), below_keep hb1 (by assumption), below_keep hb1 (by assumption), below_keep hb1 (by assumption), below_keep hb1 (by assumption), below_keep hb1 (by assumption)⟩))
                    (first
                      | (go_at_call 103; refine (fits_any k ys _ wa).mono ?_; rw [Hf.out]; rintro e w1 ⟨rfl, rfl⟩)
                      | (go_at_call 104; refine (ahead_any k ⟨ps, pn⟩ ⟨ys, yn⟩ _ wp wa).mono ?_; rw [Hq.out]; rintro e w1 ⟨rfl, hb1⟩))
                  go_wp2
                  go_ret
                  exact EPost.mk (m := 4) (by rw [Hr.out]; show RC.itemsE k none s = 4; rw [Hs.out, Hsp.out (by rw [Hi.out]; omega), Hi.out]) rfl ((HB.out.trans ((below_drew HB2.out).mono HB.out.size)).trans (hb1.mono (Nat.le_trans HB.out.size HB2.out.size)))
                · have Hi := Lib.hid (RC.itemE_ok (k := k) (p := some ⟨ps, pn⟩) (x := ⟨ys, yn⟩) h16 (by show (RC.fits k ys && RC.ahead k ⟨ps, pn⟩ ⟨ys, yn⟩) = true; rw [hq, Hf.out]; rfl))
                  have Hq := Lib.hid hq
                  clear hq
                  go_wp2_with fail
                  generalize hw2 : wr.alloc _ = w2
                  have hB2 : Below wr.heap.size wr w2 := by rw [← hw2]; exact below1 wr _
                  have k0 : w2.cell? ⟨w.heap.size, 0, none⟩ = some (.int .i64 k) := (hB2.cell (p := ⟨w.heap.size, 0, none⟩) (by show w.heap.size < _; omega)).trans c0
                  have k7 : w2.cell? ⟨w.heap.size, 7, none⟩ = some (.slice (some ⟨ba, oa, none⟩) s.length c) := (hB2.cell (p := ⟨w.heap.size, 7, none⟩) (by show w.heap.size < _; omega)).trans c7
                  have y0 : w2.cell? ⟨wr.heap.size, 0, none⟩ = some (.float .f64 ys) := by rw [← hw2]; simp [go_sem]
                  have y1 : w2.cell? ⟨wr.heap.size, 1, none⟩ = some (.string yn) := by rw [← hw2]; simp [go_sem]
                  replace p0 := (hB2.cell (p := ⟨ba, oa + (i - 1) * 2, none⟩) hba).trans p0
                  replace p1 := (hB2.cell (p := ⟨ba, oa + (i - 1) * 2 + 1, none⟩) hba).trans p1
                  have HB2 := Lib.hid hB2
                  clear hw2 hB2 c0 c7 a0 a1
                  go_region_held3 (fun w' => w'.cell? ⟨w.heap.size, 0, none⟩ = some (.int .i64 k) ∧ w'.cell? ⟨w.heap.size, 7, none⟩ = some (.slice (some ⟨ba, oa, none⟩) s.length c) ∧ w'.cell? ⟨wr.heap.size, 0, none⟩ = some (.float .f64 ys) ∧ w'.cell? ⟨wr.heap.size, 1, none⟩ = some (.string yn) ∧ w'.cell? ⟨ba, oa + (i - 1) * 2, none⟩ = some (.float .f64 ps) ∧ w'.cell? ⟨ba, oa + (i - 1) * 2 + 1, none⟩ = some (.string pn))
                    (first
                      | go_keep
                      | (go_split_ands; exact ⟨below_keep hb1 (by assumption), below_keep hb1 (by assumption), below_keep hb1 (by assumption), below_keep hb1 (by assumption), below_keep hb1 (by assumption), below_keep hb1 (by assumption)⟩))
                    (first
                      | (go_at_call 103; refine (fits_any k ys _ wa).mono ?_; rw [Hf.out]; rintro e w1 ⟨rfl, rfl⟩)
                      | (go_at_call 104; refine (ahead_any k ⟨ps, pn⟩ ⟨ys, yn⟩ _ wp wa).mono ?_; rw [Hq.out]; rintro e w1 ⟨rfl, hb1⟩))
                  go_wp2
                  go_roundw
                  case rel => exact ⟨i + 1, by go_num, by omega, by rw [Hs.out, Hst.out Hi.out], Hb.out.trans (((below_drew HB2.out).mono (by omega)).trans (hb1.mono (Nat.le_trans hsz HB2.out.size)))⟩
                  case measure => simp [intOf]; omega
        · have hi' : i = s.length := by omega
          rw [List.drop_eq_nil_of_le (by omega)] at hs
          have Hs := Lib.hid hs
          have HB := Lib.hid hB
          clear hs e0 hB
          subst hi'
          go_wp2
          go_ret
          exact EPost.mk (m := 0) (by rw [Hr.out]; show RC.itemsE k none s = 0; rw [Hs.out]; rfl) rfl HB.out
set_option maxHeartbeats 2000000 in
set_option maxRecDepth 100000 in
theorem recCheckL_any (r : RC.Rc) (A : Option Addr) (c : Nat) (w : World) (hr : r.ok) (hA : Its w A r.list) (hn : r.list.length ≤ maxLen) :
    Calls Tryz.prog 31 #[recV r A c] w (EPost (RC.chk r) w) := by
  cases hk : RC.known r.kind
  · have He := Lib.hid (RC.chk_kind hk)
    obtain ⟨k, n, l, h, x, cap, t, s⟩ := r
    have Hk := Lib.hid hk
    clear hk hA
    go_enter Tryz.func31, Tryz.ntmps31
    go_wp2_with fail
    refine (recKnown_any k _).mono ?_
    rw [show RC.known k = false from Hk.out]
    rintro e w' ⟨rfl, rfl⟩
    go_wp2_with fail
    go_ret
    exact EPost.mk He.out rfl (below1 w _)
  · have hro := RC.rest_ok hr
    have hrl := RC.rest_len r
    have hB := fun o => beyond_any r A c (w.alloc o) (hA.alloc o) hk
    have HS := Lib.hid (fun (A' : Option Addr) (c' : Nat) (w' : World) (hI : Its w' A' (RC.rest r).list) => recSameL_any (RC.rest r) RC.zero A' none c' 0 w' hro RC.zero_ok hI (Its.nil _ _) (Nat.le_trans hrl hn))
    have HT := Lib.hid (fun w' (hI : Its w' A r.list) => checkListL_any r A c w' hI hr.list hn)
    have HP := Lib.hid (fun w' => checkPurse_any r A c w')
    cases hc : RC.clean r
    · have He := Lib.hid (RC.chk_form hk hc)
      have Hc := Lib.hid (show RC.same (RC.rest r) RC.zero = false from hc)
      have Hk := Lib.hid hk
      have HB := Lib.hid hB
      clear hk hc hA hB HT HP hro hrl
      obtain ⟨k, n, l, h, x, cap, t, s⟩ := r
      go_enter Tryz.func31, Tryz.ntmps31
      go_wp2_with fail
      refine (recKnown_any k _).mono ?_
      rw [show RC.known k = true from Hk.out]
      rintro e w' ⟨rfl, rfl⟩
      go_wp2_with fail
      refine (HB.out _).mono ?_
      rintro e w1 ⟨A', c', rfl, hI1, hb1⟩
      go_wp2_with fail
      refine (HS.out A' c' _ hI1).mono ?_
      rintro e w2 ⟨rfl, hb2⟩
      rw [Hc.out]
      have hB2 : Below w.heap.size w w2 := (below1 w _).trans ((hb1.mono (by simp)).trans (hb2.mono (Nat.le_trans (by simp) hb1.size)))
      have HB2 := Lib.hid hB2
      clear hb1 hb2 hI1 hB2
      go_wp2_with fail
      go_ret
      exact EPost.mk He.out rfl HB2.out
    · have He := Lib.hid (RC.chk_field hk hc)
      have Hc := Lib.hid (show RC.same (RC.rest r) RC.zero = true from hc)
      have Hk := Lib.hid hk
      have HB := Lib.hid hB
      have HA := Lib.hid hA
      clear hc hA hB hro hrl
      obtain ⟨k, n, l, h, x, cap, t, s⟩ := r
      rcases RC.kind9 hk with rfl | rfl | rfl | rfl | rfl | rfl | rfl | rfl | rfl
      all_goals
        clear hk
        go_enter Tryz.func31, Tryz.ntmps31
        go_wp2_with fail
        refine (recKnown_any _ _).mono ?_
        rw [show RC.known _ = true from Hk.out]
        rintro e w' ⟨rfl, rfl⟩
        go_wp2_with fail
        refine (HB.out _).mono ?_
        rintro e w1 ⟨A', c', rfl, hI1, hb1⟩
        go_wp2_with fail
        refine (HS.out A' c' _ hI1).mono ?_
        rintro e w2 ⟨rfl, hb2⟩
        rw [Hc.out]
        have hB2 : Below (w.heap.size + 1) (w.alloc _) w2 := (hb1.mono (by simp)).trans (hb2.mono (Nat.le_trans (by simp) hb1.size))
        have e0 := (hB2.block w.heap.size (by omega)).trans (heap_alloc_new w _)
        have c0 := (cell_of_row w2 _ 0 _ _ (0, 0) e0)
        have c1 := (cell_of_row w2 _ 1 _ _ (0, 0) e0)
        have c2 := (cell_of_row w2 _ 2 _ _ (0, 0) e0)
        have c3 := (cell_of_row w2 _ 3 _ _ (0, 0) e0)
        have c4 := (cell_of_row w2 _ 4 _ _ (0, 0) e0)
        have c5 := (cell_of_row w2 _ 5 _ _ (0, 0) e0)
        have c6 := (cell_of_row w2 _ 6 _ _ (0, 0) e0)
        have c7 := (cell_of_row w2 _ 7 _ _ (0, 0) e0)
        have hB3 : Below w.heap.size w w2 := (below1 w _).trans (hB2.mono (by omega))
        have HB3 := Lib.hid hB3
        clear hb1 hb2 hI1 hB2 e0 hB3
        simp at c0 c1 c2 c3 c4 c5 c6 c7
        go_wp2_with fail
      · refine (checkText_any t _).mono ?_
        rintro e w3 ⟨rfl, rfl⟩
        go_wp2_with fail
        go_ret
        exact EPost.mk He.out rfl HB3.out
      · go_ret
        exact EPost.mk He.out rfl HB3.out
      · go_ret
        exact EPost.mk He.out rfl HB3.out
      · refine (HP.out _).mono ?_
        rintro e w3 ⟨rfl, hb3⟩
        go_wp2_with fail
        go_ret
        exact EPost.mk He.out rfl (HB3.out.trans (hb3.mono HB3.out.size))
      · refine (checkReal_any x _).mono ?_
        rintro e w3 ⟨rfl, rfl⟩
        go_wp2_with fail
        go_ret
        exact EPost.mk He.out rfl HB3.out
      · refine (checkReal_any x _).mono ?_
        rintro e w3 ⟨rfl, rfl⟩
        go_wp2_with fail
        go_ret
        exact EPost.mk He.out rfl HB3.out
      · refine (checkReal_any x _).mono ?_
        rintro e w3 ⟨rfl, rfl⟩
        go_wp2_with fail
        go_ret
        exact EPost.mk He.out rfl HB3.out
      · refine (HT.out _ (HA.out.below HB3.out)).mono ?_
        rintro e w3 ⟨rfl, hb3⟩
        go_wp2_with fail
        go_ret
        exact EPost.mk He.out rfl (HB3.out.trans (hb3.mono HB3.out.size))
      · refine (HT.out _ (HA.out.below HB3.out)).mono ?_
        rintro e w3 ⟨rfl, hb3⟩
        go_wp2_with fail
        go_ret
        exact EPost.mk He.out rfl (HB3.out.trans (hb3.mono HB3.out.size))
set_option maxHeartbeats 8000000 in
set_option maxRecDepth 100000 in
theorem snewL_any (r : RC.Rc) (A : Option Addr) (c : Nat) (n : Int) (w : World) (hr : r.ok) (hA : Its w A r.list) (hn : r.list.length ≤ maxLen) :
    Calls Tryz.prog 21 #[recV r A c, .int .i64 n] w (NwPost r n w) := by
  rcases Nat.eq_zero_or_pos (RC.chk r) with h0 | h0
  · exact snew_any r A c n w hr hA (by have := (RC.chk_may hr h0).len; omega)
  have HC := Lib.hid (fun u (h : Below w.heap.size w u) => recCheckL_any r A c u hr (hA.below h) hn)
  have HP1 := Lib.hid (fun (h : n < 1 ∨ 8 < n) u (hb : Below w.heap.size w u) => show NwPost r n w (.returned (.tuple #[.pointer none, .int .i64 1])) u from .inl (by unfold SH.newE; rw [if_pos h]; exact ⟨by omega, rfl, hb⟩))
  have HP2 := Lib.hid (fun (h : ¬ (n < 1 ∨ 8 < n)) (h2 : RC.chk r ≠ 0) u (hb : Below w.heap.size w u) => show NwPost r n w (.returned (.tuple #[.pointer none, .int .i64 (RC.chk r : Nat)])) u from .inl (by unfold SH.newE; rw [if_neg h, if_pos h2]; exact ⟨h2, rfl, hb⟩))
  have H0 := Lib.hid h0
  generalize hPP : NwPost r n w = PP at *
  clear hPP hr hA hn h0
  go_enter Tryz.func21, Tryz.ntmps21
  go_upto_region 1 with fail
  generalize hw1 : World.alloc w _ = w1
  have HB := Lib.hid (show Below w.heap.size w w1 by rw [← hw1]; exact below1 w _)
  have E1 := Lib.hid (show w1.heap[w.heap.size]? = some (.cells (recC r.kind r.num r.low r.high r.real r.cap r.text (.slice A r.list.length c)) 25 (0, 0)) by rw [← hw1]; exact heap_alloc_new w _)
  clear hw1
  by_cases h1 : n < 1
  · have HQ := Lib.hid (HP1.out (.inl h1) w1 HB.out)
    go_wp2_with fail
    exact HQ.out
  by_cases h8 : 8 < n
  · have HQ := Lib.hid (HP1.out (.inr h8) w1 HB.out)
    go_wp2_with fail
    exact HQ.out
  have hnn : ¬ (n < 1 ∨ 8 < n) := by omega
  have HNN := Lib.hid hnn
  clear hnn
  go_wp2_with (first
    | (refine wpList_load_row rfl _ _ rfl w.heap.size rfl 25 _ (0, 0) _ E1.out Tryz.underlying25 rfl rec_inf7 ?_))
  refine (HC.out _ HB.out).mono ?_
  rintro e w2 ⟨rfl, hb⟩
  have HB2 := Lib.hid (HB.out.trans (hb.mono HB.out.size))
  have h0 := H0.out
  have hne : ((RC.chk r : Int) != 0) = true := by simp; omega
  have HQ := Lib.hid (HP2.out HNN.out (by omega) w2 HB2.out)
  generalize RC.chk r = ck at *
  go_wp2_with fail
  exact HQ.out
end Go.Proofs.YtbkcmnmbcldjoaaGreatDoor
