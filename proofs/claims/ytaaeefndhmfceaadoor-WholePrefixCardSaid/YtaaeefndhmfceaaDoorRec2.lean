/- Contracts of package rec: whether two records are the same. -/
import Derived.Test.YtaaeefndhmfceaaDoorRec1
namespace RC
theorem sameL_nilnil : sameL [] [] = true := rfl
theorem sameL_step {l m : List It} {i : Nat} (hl : i < l.length) (hm : i < m.length) : sameL (l.drop i) (m.drop i) = (sameIt l[i] m[i] && sameL (l.drop (i + 1)) (m.drop (i + 1))) := by
  rw [List.drop_eq_getElem_cons hl, List.drop_eq_getElem_cons hm]; rfl
end RC
namespace Go.Proofs.YtaaeefndhmfceaaDoor
open Go.RowKit MM

def WS64 (l : List RC.It) : Prop := ∀ x ∈ l, MF.W64 x.score
theorem WS64.at {l : List RC.It} (h : WS64 l) {i : Nat} (hi : i < l.length) : MF.W64 l[i].score := h _ (List.getElem_mem hi)

/-- What EqualFunc answers. -/
def SLPost (l m : List RC.It) (w : World) (e : Ending) (w' : World) : Prop := e = .returned (.bool (RC.sameL l m)) ∧ Below w.heap.size w w'
theorem SLPost.mk {l m : List RC.It} {w w' : World} {b : Bool} (h : RC.sameL l m = b) (hb : Below w.heap.size w w') : SLPost l m w (.returned (.bool b)) w' := by subst h; exact ⟨rfl, hb⟩

set_option maxHeartbeats 1000000 in
set_option maxRecDepth 100000 in
theorem equalFunc_any (A B : Option Addr) (c d : Nat) (l m : List RC.It) (w : World) (hA : Its w A l) (hB : Its w B m) (wl : WS64 l) (wm : WS64 m) (hn : Lim l.length) :
    Calls Tryd.prog 47 #[.slice A l.length c, .slice B m.length d, .func (.func 48) #[] #[]] w (SLPost l m w) := by
  have hn' : (l.length : Int) ≤ 4294967296 := by unfold Lim at hn; omega
  by_cases hlen : l.length = m.length
  · have h0 : ((l.length : Int) != (m.length : Int)) = false := by simp; omega
    have Hlen := Lib.hid hlen
    have HA := Lib.hid hA
    have HB := Lib.hid hB
    clear hlen hA hB
    go_enter Tryd.func47, Tryd.ntmps47
    go_wp2_with fail
    go_loopw [17] (fun t wr => ∃ i : Nat, t = .int .i64 i ∧ i ≤ l.length ∧ RC.sameL l m = RC.sameL (l.drop i) (m.drop i) ∧ Below w.heap.size w wr) (fun t _ => l.length - (intOf t).toNat)
    case atStart => exact ⟨0, rfl, Nat.zero_le _, rfl, Below.refl _ _⟩
    case round =>
      obtain ⟨i, rfl, hi, hs, hb⟩ := hrel
      by_cases hlt : i < l.length
      · have hltm : i < m.length := by have := Hlen.out; omega
        have hA := HA.out.below hb
        have hB := HB.out.below hb
        rcases hA with rfl | ⟨ba, oa, rfl, hba, hca⟩
        · simp at hlt
        rcases hB with rfl | ⟨bb, ob', rfl, hbb, hcb⟩
        · simp at hltm
        obtain ⟨a0, a1⟩ := hca i l[i] (List.getElem?_eq_getElem hlt)
        obtain ⟨b0, b1⟩ := hcb i m[i] (List.getElem?_eq_getElem hltm)
        have hst := RC.sameL_step hlt hltm
        have wa := wl.at hlt
        have wb := wm.at hltm
        generalize l[i] = x at *
        generalize m[i] = y at *
        obtain ⟨xs, xn⟩ := x
        obtain ⟨ys, yn⟩ := y
        have a0 : wr.cell? ⟨ba, oa + i * 2, none⟩ = some (.float .f64 xs) := a0
        have a1 : wr.cell? ⟨ba, oa + i * 2 + 1, none⟩ = some (.string xn) := a1
        have b0 : wr.cell? ⟨bb, ob' + i * 2, none⟩ = some (.float .f64 ys) := b0
        have b1 : wr.cell? ⟨bb, ob' + i * 2 + 1, none⟩ = some (.string yn) := b1
        rw [hst] at hs
        have Hs := Lib.hid hs
        have Hb := Lib.hid hb
        clear hs hst hca hcb hb
        have hi1 : (i : Int) < (l.length : Int) := by omega
        have hm1 : (i : Int) < (m.length : Int) := by omega
        cases hq : RC.sameIt ⟨xs, xn⟩ ⟨ys, yn⟩
        all_goals
          have Hq := Lib.hid hq
          clear hq
          go_wp2_with fail
          refine (sameItem_any ⟨xs, xn⟩ ⟨ys, yn⟩ _ wa wb).mono ?_
          rw [Hq.out]
          rintro e w1 ⟨rfl, hb1⟩
          go_wp2_with fail
        · go_ret
          exact SLPost.mk (by rw [Hs.out, Hq.out]; rfl) ((Hb.out.trans ((below2 wr _ _).mono Hb.out.size)).trans (hb1.mono (Nat.le_trans Hb.out.size (by simp; omega))))
        · go_roundw
          case rel => exact ⟨i + 1, by go_num, by omega, by rw [Hs.out, Hq.out]; rfl, (Hb.out.trans ((below2 wr _ _).mono Hb.out.size)).trans (hb1.mono (Nat.le_trans Hb.out.size (by simp; omega)))⟩
          case measure => simp [intOf]; omega
      · have hi' : i = l.length := by omega
        have Hr := Lib.hid (show RC.sameL l m = true by rw [hs, List.drop_eq_nil_of_le (by omega), List.drop_eq_nil_of_le (by have := Hlen.out; omega)]; rfl)
        clear hs
        subst hi'
        go_wp2
        go_ret
        exact SLPost.mk Hr.out hb
  · have h0 : ((l.length : Int) != (m.length : Int)) = true := by simp; omega
    have Hr := Lib.hid (RC.sameL_len l m hlen)
    clear hlen hA hB
    go_enter Tryd.func47, Tryd.ntmps47
    go_wp2_with fail
    go_ret
    exact SLPost.mk Hr.out (Below.refl _ _)


/-- What Same answers. -/
def SRPost (a b : RC.Rc) (w : World) (e : Ending) (w' : World) : Prop := e = .returned (.bool (RC.same a b)) ∧ Below w.heap.size w w'
theorem SRPost.mk {a b : RC.Rc} {w w' : World} {t : Bool} (h : RC.same a b = t) (hb : Below w.heap.size w w') : SRPost a b w (.returned (.bool t)) w' := by subst h; exact ⟨rfl, hb⟩

set_option maxHeartbeats 2000000 in
set_option maxRecDepth 100000 in
theorem recSame_any (a b : RC.Rc) (A B : Option Addr) (c d : Nat) (w : World) (ha : a.ok) (hb : b.ok) (hA : Its w A a.list) (hB : Its w B b.list) (hn : Lim a.list.length) :
    Calls Tryd.prog 14 #[recV a A c, recV b B d] w (SRPost a b w) := by
  obtain ⟨k1, n1, l1, h1, r1, c1, t1, s1⟩ := a
  obtain ⟨k2, n2, l2, h2, r2, c2, t2, s2⟩ := b
  have wr1 : MF.W64 r1 := ha.real
  have wr2 : MF.W64 r2 := hb.real
  have ws1 : WS64 s1 := ha.list
  have ws2 : WS64 s2 := hb.list
  have hn : Lim s1.length := hn
  have Hr := Lib.hid (show RC.same ⟨k1, n1, l1, h1, r1, c1, t1, s1⟩ ⟨k2, n2, l2, h2, r2, c2, t2, s2⟩ = (k1 == k2 && n1 == n2 && l1 == l2 && h1 == h2 && MF.same r1 r2 && c1 == c2 && (t1.toList == t2.toList) && RC.sameL s1 s2) from rfl)
  have HA := Lib.hid hA
  have HB := Lib.hid hB
  clear hA hB ha hb
  by_cases e1 : k1 = k2
  case neg =>
    have e1' : (k1 == k2) = false := by simpa using e1
    clear e1
    go_enter Tryd.func14, Tryd.ntmps14
    go_wp2_with fail
    go_ret
    exact SRPost.mk (by rw [Hr.out, e1']; rfl) (below2 w _ _)
  subst e1
  by_cases e2 : n1 = n2
  case neg =>
    have e2' : (n1 == n2) = false := by simpa using e2
    clear e2
    go_enter Tryd.func14, Tryd.ntmps14
    go_wp2_with fail
    go_ret
    exact SRPost.mk (by rw [Hr.out, e2']; simp) (below2 w _ _)
  subst e2
  by_cases e3 : l1 = l2
  case neg =>
    have e3' : (l1 == l2) = false := by simpa using e3
    clear e3
    go_enter Tryd.func14, Tryd.ntmps14
    go_wp2_with fail
    go_ret
    exact SRPost.mk (by rw [Hr.out, e3']; simp) (below2 w _ _)
  subst e3
  by_cases e4 : h1 = h2
  case neg =>
    have e4' : (h1 == h2) = false := by simpa using e4
    clear e4
    go_enter Tryd.func14, Tryd.ntmps14
    go_wp2_with fail
    go_ret
    exact SRPost.mk (by rw [Hr.out, e4']; simp) (below2 w _ _)
  subst e4
  cases e5 : MF.same r1 r2
  case false =>
    have H5 := Lib.hid e5
    clear e5
    go_enter Tryd.func14, Tryd.ntmps14
    go_wp2_with fail
    refine (same_any r1 r2 _ wr1 wr2).mono ?_
    rw [H5.out]
    rintro e w' ⟨rfl, rfl⟩
    go_wp2_with fail
    go_ret
    exact SRPost.mk (by rw [Hr.out, H5.out]; simp) (below2 w _ _)
  have H5 := Lib.hid e5
  clear e5
  by_cases e6 : c1 = c2
  case neg =>
    have e6' : (c1 == c2) = false := by simpa using e6
    clear e6
    go_enter Tryd.func14, Tryd.ntmps14
    go_wp2_with fail
    refine (same_any r1 r2 _ wr1 wr2).mono ?_
    rw [H5.out]
    rintro e w' ⟨rfl, rfl⟩
    go_wp2_with fail
    go_ret
    exact SRPost.mk (by rw [Hr.out, e6']; simp) (below2 w _ _)
  subst e6
  cases e7 : (t1.toList == t2.toList)
  case false =>
    have H7 := Lib.hid e7
    go_enter Tryd.func14, Tryd.ntmps14
    go_wp2_with fail
    refine (same_any r1 r2 _ wr1 wr2).mono ?_
    rw [H5.out]
    rintro e w' ⟨rfl, rfl⟩
    go_wp2_with fail
    go_ret
    exact SRPost.mk (by rw [Hr.out, H7.out]; simp) (below2 w _ _)
  have H7 := Lib.hid e7
  go_enter Tryd.func14, Tryd.ntmps14
  go_wp2_with fail
  refine (same_any r1 r2 _ wr1 wr2).mono ?_
  rw [H5.out]
  rintro e w' ⟨rfl, rfl⟩
  go_wp2_with fail
  refine (equalFunc_any A B c d s1 s2 _ (HA.out.below (below2 w _ _)) (HB.out.below (below2 w _ _)) ws1 ws2 hn).mono ?_
  rintro e w1 ⟨rfl, hb1⟩
  go_wp2_with fail
  go_ret
  exact SRPost.mk (by rw [Hr.out, H5.out, H7.out]; simp) ((below2 w _ _).trans (hb1.mono (by simp; omega)))

end Go.Proofs.YtaaeefndhmfceaaDoor
