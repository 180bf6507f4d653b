/- Contracts of the document's own answers for layer 3: Same. -/
import Derived.Test.YtbkcmnmbcldjoaaGreatDoorRefMP7d
namespace Go.Proofs.YtbkcmnmbcldjoaaGreatDoor
open Go.RowKit MM
set_option maxHeartbeats 4000000 in
set_option maxRecDepth 100000 in
theorem rsame3_any (a b : RC.Rc) (A B : Option Addr) (c d : Nat) (w : World) (ha : a.ok) (hb : b.ok) (hA : Its w A a.list) (hB : Its w B b.list) (hna : Lim a.list.length) (hnb : Lim b.list.length) :
    Calls Tryz.prog 16 #[recV a A c, recV b B d] w (SRPost a b w) := by
  obtain ⟨k1, n1, l1, h1, r1, c1, t1, s1⟩ := a
  obtain ⟨k2, n2, l2, h2, r2, c2, t2, s2⟩ := b
  have wr1 : MF.W64 r1 := ha.real
  have wr2 : MF.W64 r2 := hb.real
  have ws1 : WS64 s1 := ha.list
  have ws2 : WS64 s2 := hb.list
  have hn1 : (s1.length : Int) ≤ 4294967296 := by have h : Lim s1.length := hna; unfold Lim at h; omega
  have hn2 : (s2.length : Int) ≤ 4294967296 := by have h : Lim s2.length := hnb; unfold Lim at h; omega
  have Hr := Lib.hid (show RC.same ⟨k1, n1, l1, h1, r1, c1, t1, s1⟩ ⟨k2, n2, l2, h2, r2, c2, t2, s2⟩ = (k1 == k2 && n1 == n2 && l1 == l2 && h1 == h2 && MF.same r1 r2 && c1 == c2 && (t1.toList == t2.toList) && RC.sameL s1 s2) from rfl)
  have HA := Lib.hid hA
  have HB := Lib.hid hB
  have HZ := Lib.hid (fun w => rsame_any r1 r2 w wr1 wr2)
  clear hA hB ha hb hna hnb
  by_cases e1 : k1 = k2
  case neg =>
    have e1' : (k1 != k2) = true := by simpa using e1
    have Hq := Lib.hid (show (k1 == k2) = false by simpa using e1)
    clear e1
    go_enter Tryz.func16, Tryz.ntmps16
    go_wp2_with fail
    go_ret
    exact SRPost.mk (by rw [Hr.out, Hq.out]; simp) (below2 w _ _)
  subst e1
  by_cases e2 : n1 = n2
  case neg =>
    have e2' : (n1 != n2) = true := by simpa using e2
    have Hq := Lib.hid (show (n1 == n2) = false by simpa using e2)
    clear e2
    go_enter Tryz.func16, Tryz.ntmps16
    go_wp2_with fail
    go_ret
    exact SRPost.mk (by rw [Hr.out, Hq.out]; simp) (below2 w _ _)
  subst e2
  by_cases e3 : l1 = l2
  case neg =>
    have e3' : (l1 != l2) = true := by simpa using e3
    have Hq := Lib.hid (show (l1 == l2) = false by simpa using e3)
    clear e3
    go_enter Tryz.func16, Tryz.ntmps16
    go_wp2_with fail
    go_ret
    exact SRPost.mk (by rw [Hr.out, Hq.out]; simp) (below2 w _ _)
  subst e3
  by_cases e4 : h1 = h2
  case neg =>
    have e4' : (h1 != h2) = true := by simpa using e4
    have Hq := Lib.hid (show (h1 == h2) = false by simpa using e4)
    clear e4
    go_enter Tryz.func16, Tryz.ntmps16
    go_wp2_with fail
    go_ret
    exact SRPost.mk (by rw [Hr.out, Hq.out]; simp) (below2 w _ _)
  subst e4
  by_cases e5 : c1 = c2
  case neg =>
    have e5' : (c1 != c2) = true := by simpa using e5
    have Hq := Lib.hid (show (c1 == c2) = false by simpa using e5)
    clear e5
    go_enter Tryz.func16, Tryz.ntmps16
    go_wp2_with fail
    go_ret
    exact SRPost.mk (by rw [Hr.out, Hq.out]; simp) (below2 w _ _)
  subst e5
  by_cases e7 : t1 = t2
  case neg =>
    have hq : (t1.toList == t2.toList) = false := by
      rw [Bool.eq_false_iff]; intro h
      exact e7 ((RC.strEq_iff t1 t2).1 h)
    have Hq := Lib.hid hq
    clear e7
    go_enter Tryz.func16, Tryz.ntmps16
    go_wp2_with fail
    go_ret
    exact SRPost.mk (by rw [Hr.out, Hq.out]; simp) (below2 w _ _)
  subst e7
  have Hq := Lib.hid (show RC.same ⟨k1, n1, l1, h1, r1, c1, t1, s1⟩ ⟨k1, n1, l1, h1, r2, c1, t1, s2⟩ = (MF.same r1 r2 && RC.sameL s1 s2) by rw [Hr.out]; simp)
  clear Hr
  generalize MF.same r1 r2 = z at *
  by_cases hlen : s1.length = s2.length
  · have h0 : ((s1.length : Int) != (s2.length : Int)) = false := by simp; omega
    have Hlen := Lib.hid hlen
    clear hlen
    cases z
    · go_enter Tryz.func16, Tryz.ntmps16
      go_wp2_with (first | (go_at_call 43; refine (HZ.out _).mono ?_; rintro e w' ⟨rfl, rfl⟩))
      go_ret
      exact SRPost.mk (by rw [Hq.out]; rfl) (below2 w _ _)
    · go_enter Tryz.func16, Tryz.ntmps16
      go_wp2_with (first | (go_at_call 43; refine (HZ.out _).mono ?_; rintro e w' ⟨rfl, rfl⟩))
      have hE : w.heap.size + 1 < ((w.alloc (.cells (recC k1 n1 l1 h1 r1 c1 t1 (.slice A s1.length c)) 25)).alloc (.cells (recC k1 n1 l1 h1 r2 c1 t1 (.slice B s2.length d)) 25)).heap.size := by simp only [World.size_alloc]; omega
      generalize hw0 : World.alloc _ _ = wz at *
      have z0 : wz.cell? ⟨w.heap.size, 7, none⟩ = some (.slice A s1.length c) := by rw [← hw0]; exact (cell_of_row _ _ 7 _ _ (0, 0) (heap_alloc2_old w _ _)).trans rfl
      have z1 : wz.cell? ⟨w.heap.size + 1, 7, none⟩ = some (.slice B s2.length d) := by rw [← hw0]; exact (cell_of_row _ _ 7 _ _ (0, 0) (heap_alloc2_new w _ _)).trans rfl
      have HBz := Lib.hid (show Below w.heap.size w wz by rw [← hw0]; exact below2 w _ _)
      clear hw0
      go_loopw [5] (fun t5 wr => ∃ i : Nat, t5 = .int .i64 i ∧ i ≤ s1.length ∧ RC.sameL s1 s2 = RC.sameL (s1.drop i) (s2.drop i) ∧ Below wz.heap.size wz wr) (fun t5 _ => s1.length - (intOf t5).toNat)
      case atStart => exact ⟨0, rfl, Nat.zero_le _, rfl, Below.refl _ _⟩
      case round =>
        obtain ⟨i, rfl, hi, hs, hbr⟩ := hrel
        replace z0 := below_keep hbr z0
        replace z1 := below_keep hbr z1
        by_cases hlt : i < s1.length
        · have hltm : i < s2.length := by have := Hlen.out; omega
          have hA := (HA.out.below HBz.out).below hbr
          have hB := (HB.out.below HBz.out).below hbr
          rcases hA with hA | ⟨ba, oa, rfl, hba, hca⟩
          · have hA : s1 = [] := hA
            subst hA; simp at hlt
          rcases hB with hB | ⟨bb, ob', rfl, hbb, hcb⟩
          · have hB : s2 = [] := hB
            subst hB; simp at hltm
          replace hca : ∀ (i : Nat) (x : RC.It), s1[i]? = some x → wr.cell? ⟨ba, oa + i * 2, none⟩ = some (.float .f64 x.score) ∧ wr.cell? ⟨ba, oa + i * 2 + 1, none⟩ = some (.string x.name) := hca
          replace hcb : ∀ (i : Nat) (x : RC.It), s2[i]? = some x → wr.cell? ⟨bb, ob' + i * 2, none⟩ = some (.float .f64 x.score) ∧ wr.cell? ⟨bb, ob' + i * 2 + 1, none⟩ = some (.string x.name) := hcb
          obtain ⟨a0, a1⟩ := hca i s1[i] (List.getElem?_eq_getElem hlt)
          obtain ⟨b0, b1⟩ := hcb i s2[i] (List.getElem?_eq_getElem hltm)
          have hst := RC.sameL_step hlt hltm
          have wa := ws1.at hlt
          have wb := ws2.at hltm
          generalize s1[i] = x at *
          generalize s2[i] = y at *
          obtain ⟨xs, xn⟩ := x
          obtain ⟨ys, yn⟩ := y
          replace a0 : wr.cell? ⟨ba, oa + i * 2, none⟩ = some (.float .f64 xs) := a0
          replace a1 : wr.cell? ⟨ba, oa + i * 2 + 1, none⟩ = some (.string xn) := a1
          replace b0 : wr.cell? ⟨bb, ob' + i * 2, none⟩ = some (.float .f64 ys) := b0
          replace b1 : wr.cell? ⟨bb, ob' + i * 2 + 1, none⟩ = some (.string yn) := b1
          rw [hst] at hs
          have Hs := Lib.hid (show RC.sameL s1 s2 = (MF.same xs ys && (xn.toList == yn.toList) && RC.sameL (s1.drop (i + 1)) (s2.drop (i + 1))) from hs)
          have HY := Lib.hid (fun w => show Calls Tryz.prog 43 #[.float .f64 xs, .float .f64 ys] w (fun e w' => e = .returned (.bool (MF.same xs ys)) ∧ w' = w) from (rsame_any xs ys w wa wb).mono fun _ _ h => ⟨h.1, h.2.symm⟩)
          have Hb := Lib.hid hbr
          clear hs hst hca hcb hbr
          have hi1 : (i : Int) < (s1.length : Int) := by omega
          have hm1 : (i : Int) < (s2.length : Int) := by omega
          generalize MF.same xs ys = q at *
          cases hnm : (xn.toList == yn.toList)
          · have Hn := Lib.hid hnm
            go_wp2_with fail
            go_quiet (first | (go_at_call 43; exact Calls.quiet_of_same (HY.out _)))
            go_wp2
            go_ret
            exact SRPost.mk (by rw [Hq.out, Hs.out, Hn.out]; simp) (below_drewN (HBz.out.trans (Hb.out.mono HBz.out.size)) _)
          · have Hn := Lib.hid hnm
            cases q
            · go_wp2_with fail
              go_quiet (first | (go_at_call 43; exact Calls.quiet_of_same (HY.out _)))
              go_wp2
              go_ret
              exact SRPost.mk (by rw [Hq.out, Hs.out]; simp) (below_drewN (HBz.out.trans (Hb.out.mono HBz.out.size)) _)
            · go_wp2_with fail
              go_quiet (first | (go_at_call 43; exact Calls.quiet_of_same (HY.out _)))
              go_wp2
              go_roundw
              case rel => exact ⟨i + 1, by go_num, by omega, by rw [Hs.out, Hn.out]; rfl, below_drewN Hb.out _⟩
              case measure => simp [intOf]; omega
        · have hi' : i = s1.length := by omega
          have Hl := Lib.hid (show RC.sameL s1 s2 = true by rw [hs, List.drop_eq_nil_of_le (by omega), List.drop_eq_nil_of_le (by have := Hlen.out; omega)]; rfl)
          have Hb := Lib.hid hbr
          clear hs hbr
          subst hi'
          go_wp2_with fail
          go_ret
          exact SRPost.mk (by rw [Hq.out, Hl.out]; rfl) (HBz.out.trans (Hb.out.mono HBz.out.size))
  · have h0 : ((s1.length : Int) != (s2.length : Int)) = true := by simp; omega
    have Hl := Lib.hid (RC.sameL_len s1 s2 hlen)
    clear hlen
    cases z
    all_goals
      go_enter Tryz.func16, Tryz.ntmps16
      go_wp2_with (first | (go_at_call 43; refine (HZ.out _).mono ?_; rintro e w' ⟨rfl, rfl⟩))
      go_ret
      exact SRPost.mk (by rw [Hq.out, Hl.out, Bool.and_false]) (below2 w _ _)
end Go.Proofs.YtbkcmnmbcldjoaaGreatDoor
