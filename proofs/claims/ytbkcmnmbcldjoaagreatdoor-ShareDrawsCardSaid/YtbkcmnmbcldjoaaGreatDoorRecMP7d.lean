/- Contracts of package rec: what records may be. -/
import Derived.Test.YtbkcmnmbcldjoaaGreatDoorPkVP7d
import Derived.Test.YtbkcmnmbcldjoaaGreatDoorRcMP7d
import Derived.Deep.RegionWith
import Derived.Deep.RegionHeld3
namespace RC
def inB (l n h : Int) : Bool := decide (l ≤ n ∧ n ≤ h)
def textE (s : ByteArray) : Nat := if 64 < s.size then 3 else 0
def realE (x : Nat) : Nat := if MF.proper x then 0 else 4
def purseE (r : Rc) : Nat := if purseOk r then 0 else 1
end RC
namespace Go.Proofs.YtbkcmnmbcldjoaaGreatDoor
open Go.RowKit MM
theorem ret_nat {k : IntKind} {a : Int} {n m : Nat} (h : a = (m : Int)) (hm : n = m) : Ending.returned (.int k a) = .returned (.int k (n : Int)) := by subst h hm; rfl
/-- A slice that reads as items. -/
def Its (w : World) (A : Option Addr) (xs : List RC.It) : Prop :=
  xs = [] ∨ ∃ b off, A = some ⟨b, off, none⟩ ∧ b < w.heap.size ∧ ∀ i x, xs[i]? = some x → w.cell? ⟨b, off + i * 2, none⟩ = some (.float .f64 x.score) ∧ w.cell? ⟨b, off + i * 2 + 1, none⟩ = some (.string x.name)
theorem Its.keep {w w' : World} {A : Option Addr} {xs : List RC.It} (h : Its w A xs) (hs : w.heap.size ≤ w'.heap.size) (hk : ∀ ad, A = some ad → ad.block < w.heap.size → w'.heap[ad.block]? = w.heap[ad.block]?) : Its w' A xs := by
  rcases h with rfl | ⟨b, off, rfl, hb, hc⟩
  · exact .inl rfl
  · refine .inr ⟨b, off, rfl, Nat.lt_of_lt_of_le hb hs, fun i x hx => ?_⟩
    obtain ⟨h1, h2⟩ := hc i x hx
    have e := hk _ rfl hb
    exact ⟨(World.cell?_of_block (a := ⟨b, off + i * 2, none⟩) e).trans h1, (World.cell?_of_block (a := ⟨b, off + i * 2 + 1, none⟩) e).trans h2⟩
theorem Its.below {w w' : World} {A : Option Addr} {xs : List RC.It} (h : Its w A xs) (hb : Below w.heap.size w w') : Its w' A xs := h.keep hb.size fun _ _ hl => hb.block _ hl
theorem Its.alloc {w : World} {A : Option Addr} {xs : List RC.It} (h : Its w A xs) (o : Obj) : Its (w.alloc o) A xs := h.below ((Below.refl _ w).alloc (Nat.le_refl _) _)
theorem Its.kp {S : Nat → Prop} {w w' : World} {A : Option Addr} {xs : List RC.It} (h : Its w A xs) (hk : Kp S w w') (hl : ∀ ad, A = some ad → ¬ S ad.block) : Its w' A xs := h.keep hk.size fun ad e hb => hk.block _ hb (hl ad e)
theorem Its.nil (w : World) (A : Option Addr) : Its w A [] := .inl rfl
/-- A record, and an item, as values. -/
abbrev itV (x : RC.It) : Value := .agg #[.float .f64 x.score, .string x.name]
abbrev recV (r : RC.Rc) (A : Option Addr) (c : Nat) : Value := .agg #[.int .i64 r.kind, .int .i64 r.num, .int .i64 r.low, .int .i64 r.high, .float .f64 r.real, .int .i64 r.cap, .string r.text, .slice A r.list.length c]
theorem below1 (w : World) (o : Obj) : Below w.heap.size w (w.alloc o) := (Below.refl _ w).alloc (Nat.le_refl _) _
set_option maxHeartbeats 400000 in
theorem recKnown_any (k : Int) (w : World) :
    Calls Tryz.prog 68 #[.int .i64 k] w fun e w' => e = .returned (.bool (RC.known k)) ∧ w = w' := by
  go_enter Tryz.func68, Tryz.ntmps68
  go_wp2
  all_goals
    go_ret
    refine ⟨ret_bool ?_, rfl⟩
    unfold RC.known
    rw [Bool.eq_iff_iff]; simp; try omega
set_option maxHeartbeats 400000 in
theorem within_any (n l h : Int) (w : World) :
    Calls Tryz.prog 101 #[.int .i64 n, .int .i64 l, .int .i64 h] w fun e w' => e = .returned (.bool (RC.inB l n h)) ∧ w = w' := by
  go_enter Tryz.func101, Tryz.ntmps101
  go_wp2
  all_goals
    go_ret
    refine ⟨ret_bool ?_, rfl⟩
    unfold RC.inB
    rw [Bool.eq_iff_iff]; simp; try omega
set_option maxHeartbeats 400000 in
set_option maxRecDepth 100000 in
theorem better_any (a b : RC.It) (w : World) (ha : MF.W64 a.score) (hb : MF.W64 b.score) :
    Calls Tryz.prog 146 #[itV a, itV b] w fun e w' => e = .returned (.bool (RC.better a b)) ∧ Below w.heap.size w w' := by
  obtain ⟨sa, na⟩ := a
  obtain ⟨sb, nb⟩ := b
  have Hr := Lib.hid (show RC.better ⟨sa, na⟩ ⟨sb, nb⟩ = if MF.same sa sb then RC.strLt na nb else MF.less sb sa from rfl)
  cases hs : MF.same sa sb
  all_goals
    have Hs := Lib.hid hs
    clear hs
    go_enter Tryz.func146, Tryz.ntmps146
    go_wp2_with (first
      | (go_at_call 98; refine (same_any sa sb _ ha hb).mono ?_; rw [Hs.out]; rintro e w' ⟨rfl, rfl⟩)
      | (go_at_call 83; refine (less_any sb sa _ hb ha).mono ?_; rintro e w' ⟨rfl, rfl⟩))
    go_ret
    exact ⟨ret_bool (by rw [Hr.out, Hs.out]; rfl), below2 w _ _⟩
set_option maxHeartbeats 400000 in
set_option maxRecDepth 100000 in
theorem sameItem_any (a b : RC.It) (w : World) (ha : MF.W64 a.score) (hb : MF.W64 b.score) :
    Calls Tryz.prog 100 #[itV a, itV b] w fun e w' => e = .returned (.bool (RC.sameIt a b)) ∧ Below w.heap.size w w' := by
  obtain ⟨sa, na⟩ := a
  obtain ⟨sb, nb⟩ := b
  have Hr := Lib.hid (show RC.sameIt ⟨sa, na⟩ ⟨sb, nb⟩ = (MF.same sa sb && RC.strEq na nb) from rfl)
  cases hs : MF.same sa sb
  all_goals
    have Hs := Lib.hid hs
    clear hs
    go_enter Tryz.func100, Tryz.ntmps100
    go_wp2_with (first
      | (go_at_call 98; refine (same_any sa sb _ ha hb).mono ?_; rw [Hs.out]; rintro e w' ⟨rfl, rfl⟩))
    go_ret
    exact ⟨ret_bool (by rw [Hr.out, Hs.out]; rfl), below2 w _ _⟩
set_option maxHeartbeats 400000 in
theorem fits_any (k : Int) (s : Nat) (w : World) (hs : MF.W64 s) :
    Calls Tryz.prog 103 #[.int .i64 k, .float .f64 s] w fun e w' => e = .returned (.bool (RC.fits k s)) ∧ w = w' := by
  have h0 : MF.W64 0 := by unfold MF.W64; decide
  by_cases hk : k = 8
  · subst hk
    go_enter Tryz.func103, Tryz.ntmps103
    go_wp2_with (first | (go_at_call 98; refine (same_any s 0 _ hs h0).mono ?_; rintro e w' ⟨rfl, rfl⟩))
    go_ret
    exact ⟨rfl, rfl⟩
  · have Hr := Lib.hid (show RC.fits k s = MF.proper s by unfold RC.fits; rw [if_neg hk])
    have hk' : (k == 8) = false := by simpa using hk
    clear hk
    go_enter Tryz.func103, Tryz.ntmps103
    go_wp2_with (first | (go_at_call 102; refine (proper_any s _).mono ?_; rintro e w' ⟨rfl, rfl⟩))
    go_ret
    exact ⟨ret_bool Hr.out.symm, rfl⟩
set_option maxHeartbeats 400000 in
set_option maxRecDepth 100000 in
theorem ahead_any (k : Int) (a b : RC.It) (w : World) (ha : MF.W64 a.score) (hb : MF.W64 b.score) :
    Calls Tryz.prog 104 #[.int .i64 k, itV a, itV b] w fun e w' => e = .returned (.bool (RC.ahead k a b)) ∧ Below w.heap.size w w' := by
  obtain ⟨sa, na⟩ := a
  obtain ⟨sb, nb⟩ := b
  by_cases hk : k = 8
  · subst hk
    go_enter Tryz.func104, Tryz.ntmps104
    go_wp2_with fail
    go_ret
    exact ⟨rfl, below2 w _ _⟩
  · have Hr := Lib.hid (show RC.ahead k ⟨sa, na⟩ ⟨sb, nb⟩ = RC.better ⟨sa, na⟩ ⟨sb, nb⟩ by unfold RC.ahead; rw [if_neg hk])
    have hk' : (k == 8) = false := by simpa using hk
    clear hk
    go_enter Tryz.func104, Tryz.ntmps104
    go_wp2_with fail
    refine (better_any ⟨sa, na⟩ ⟨sb, nb⟩ _ ha hb).mono ?_
    rintro e w1 ⟨rfl, hb1⟩
    go_wp2
    go_ret
    exact ⟨ret_bool Hr.out.symm, (below2 w _ _).trans (hb1.mono (by simp; omega))⟩
set_option maxHeartbeats 400000 in
theorem checkText_any (s : ByteArray) (w : World) :
    Calls Tryz.prog 71 #[.string s] w fun e w' => e = .returned (.int .i64 (RC.textE s : Nat)) ∧ w = w' := by
  by_cases h : 64 < s.size
  · have H := Lib.hid (show RC.textE s = 3 by unfold RC.textE; rw [if_pos h])
    go_enter Tryz.func71, Tryz.ntmps71
    go_wp2
    go_ret
    exact ⟨ret_nat rfl H.out, rfl⟩
  · have H := Lib.hid (show RC.textE s = 0 by unfold RC.textE; rw [if_neg h])
    go_enter Tryz.func71, Tryz.ntmps71
    go_wp2
    go_ret
    exact ⟨ret_nat rfl H.out, rfl⟩
set_option maxHeartbeats 400000 in
theorem checkReal_any (x : Nat) (w : World) :
    Calls Tryz.prog 73 #[.float .f64 x] w fun e w' => e = .returned (.int .i64 (RC.realE x : Nat)) ∧ w = w' := by
  cases h : MF.proper x
  all_goals
    have Hp := Lib.hid h
    clear h
    go_enter Tryz.func73, Tryz.ntmps73
    go_wp2_with (first | (go_at_call 102; refine (proper_any x _).mono ?_; rw [Hp.out]; rintro e w' ⟨rfl, rfl⟩))
    go_ret
    exact ⟨by first | exact ret_nat (m := 0) rfl (by unfold RC.realE; rw [Hp.out]; rfl) | exact ret_nat (m := 4) rfl (by unfold RC.realE; rw [Hp.out]; rfl), rfl⟩
set_option maxHeartbeats 1000000 in
set_option maxRecDepth 100000 in
theorem checkPurse_any (r : RC.Rc) (A : Option Addr) (c : Nat) (w : World) :
    Calls Tryz.prog 72 #[recV r A c] w fun e w' => e = .returned (.int .i64 (RC.purseE r : Nat)) ∧ Below w.heap.size w w' := by
  obtain ⟨kind, num, low, high, real, cap, text, list⟩ := r
  have Hp := Lib.hid (show RC.purseOk ⟨kind, num, low, high, real, cap, text, list⟩ = (RC.inB (-2305843009213693952) low 2305843009213693952 && RC.inB (-2305843009213693952) high 2305843009213693952 && RC.inB low num high) by
    unfold RC.purseOk RC.inB; rw [Bool.eq_iff_iff]; simp; omega)
  cases h1 : RC.inB (-2305843009213693952) low 2305843009213693952
  all_goals cases h2 : RC.inB (-2305843009213693952) high 2305843009213693952
  all_goals cases h3 : RC.inB low num high
  all_goals
    go_enter Tryz.func72, Tryz.ntmps72
    go_wp2_with (first
      | (go_at_call 101; refine (within_any _ _ _ _).mono ?_; rintro e w' ⟨rfl, rfl⟩))
    go_ret
    exact ⟨by first | exact ret_nat (m := 0) rfl (by unfold RC.purseE; rw [Hp.out, h1, h2, h3]; rfl) | exact ret_nat (m := 1) rfl (by unfold RC.purseE; rw [Hp.out, h1, h2, h3]; rfl), below1 w _⟩
end Go.Proofs.YtbkcmnmbcldjoaaGreatDoor
namespace RC
theorem sameL_step {l m : List It} {i : Nat} (hl : i < l.length) (hm : i < m.length) : sameL (l.drop i) (m.drop i) = (sameIt l[i] m[i] && sameL (l.drop (i + 1)) (m.drop (i + 1))) := by
  rw [List.drop_eq_getElem_cons hl, List.drop_eq_getElem_cons hm]; rfl
end RC
namespace Go.Proofs.YtbkcmnmbcldjoaaGreatDoor
open Go.RowKit MM
def WS64 (l : List RC.It) : Prop := ∀ x ∈ l, MF.W64 x.score
theorem WS64.at {l : List RC.It} (h : WS64 l) {i : Nat} (hi : i < l.length) : MF.W64 l[i].score := h _ (List.getElem_mem hi)
/-- What EqualFunc answers. -/
def SLPost (l m : List RC.It) (w : World) (e : Ending) (w' : World) : Prop := e = .returned (.bool (RC.sameL l m)) ∧ Below w.heap.size w w'
theorem SLPost.mk {l m : List RC.It} {w w' : World} {b : Bool} (h : RC.sameL l m = b) (hb : Below w.heap.size w w') : SLPost l m w (.returned (.bool b)) w' := by subst h; exact ⟨rfl, hb⟩
set_option maxHeartbeats 1000000 in
set_option maxRecDepth 100000 in
theorem equalFunc_any (A B : Option Addr) (c d : Nat) (l m : List RC.It) (w : World) (hA : Its w A l) (hB : Its w B m) (wl : WS64 l) (wm : WS64 m) (hn : Lim l.length) :
    Calls Tryz.prog 99 #[.slice A l.length c, .slice B m.length d, .func (.func 100) #[] #[]] w (SLPost l m w) := by
  have hn' : (l.length : Int) ≤ 4294967296 := by unfold Lim at hn; omega
  by_cases hlen : l.length = m.length
  · have h0 : ((l.length : Int) != (m.length : Int)) = false := by simp; omega
    have Hlen := Lib.hid hlen
    have HA := Lib.hid hA
    have HB := Lib.hid hB
    clear hlen hA hB
    go_enter Tryz.func99, Tryz.ntmps99
    go_wp2_with fail
    go_loopw [17] (fun t wr => ∃ i : Nat, t = .int .i64 i ∧ i ≤ l.length ∧ RC.sameL l m = RC.sameL (l.drop i) (m.drop i) ∧ Below w.heap.size w wr) (fun t _ => l.length - (intOf t).toNat)
    case atStart => exact ⟨0, rfl, Nat.zero_le _, rfl, Below.refl _ _⟩
    case round =>
      obtain ⟨i, rfl, hi, hs, hb⟩ := hrel
      by_cases hlt : i < l.length
      · have hltm : i < m.length := by have := Hlen.out; omega
        have hA := HA.out.below hb
        have hB := HB.out.below hb
        rcases hA with rfl | ⟨ba, oa, rfl, hba, hca⟩
        · simp at hlt
        rcases hB with rfl | ⟨bb, ob', rfl, hbb, hcb⟩
        · simp at hltm
        obtain ⟨a0, a1⟩ := hca i l[i] (List.getElem?_eq_getElem hlt)
        obtain ⟨b0, b1⟩ := hcb i m[i] (List.getElem?_eq_getElem hltm)
        have hst := RC.sameL_step hlt hltm
        have wa := wl.at hlt
        have wb := wm.at hltm
        generalize l[i] = x at *
        generalize m[i] = y at *
        obtain ⟨xs, xn⟩ := x
        obtain ⟨ys, yn⟩ := y
        have a0 : wr.cell? ⟨ba, oa + i * 2, none⟩ = some (.float .f64 xs) := a0
        have a1 : wr.cell? ⟨ba, oa + i * 2 + 1, none⟩ = some (.string xn) := a1
        have b0 : wr.cell? ⟨bb, ob' + i * 2, none⟩ = some (.float .f64 ys) := b0
        have b1 : wr.cell? ⟨bb, ob' + i * 2 + 1, none⟩ = some (.string yn) := b1
        rw [hst] at hs
        have Hs := Lib.hid hs
        have Hb := Lib.hid hb
        clear hs hst hca hcb hb
        have hi1 : (i : Int) < (l.length : Int) := by omega
        have hm1 : (i : Int) < (m.length : Int) := by omega
        cases hq : RC.sameIt ⟨xs, xn⟩ ⟨ys, yn⟩
        all_goals
          have Hq := Lib.hid hq
          clear hq
          go_wp2_with fail
          refine (sameItem_any ⟨xs, xn⟩ ⟨ys, yn⟩ _ wa wb).mono ?_
          rw [Hq.out]
          rintro e w1 ⟨rfl, hb1⟩
          go_wp2_with fail
        · go_ret
          exact SLPost.mk (by rw [Hs.out, Hq.out]; rfl) ((Hb.out.trans ((below2 wr _ _).mono Hb.out.size)).trans (hb1.mono (Nat.le_trans Hb.out.size (by simp; omega))))
        · go_roundw
          case rel => exact ⟨i + 1, by go_num, by omega, by rw [Hs.out, Hq.out]; rfl, (Hb.out.trans ((below2 wr _ _).mono Hb.out.size)).trans (hb1.mono (Nat.le_trans Hb.out.size (by simp; omega)))⟩
          case measure => simp [intOf]; omega
      · have hi' : i = l.length := by omega
        have Hr := Lib.hid (show RC.sameL l m = true by rw [hs, List.drop_eq_nil_of_le (by omega), List.drop_eq_nil_of_le (by have := Hlen.out; omega)]; rfl)
        clear hs
        subst hi'
        go_wp2
        go_ret
        exact SLPost.mk Hr.out hb
  · have h0 : ((l.length : Int) != (m.length : Int)) = true := by simp; omega
    have Hr := Lib.hid (RC.sameL_len l m hlen)
    clear hlen hA hB
    go_enter Tryz.func99, Tryz.ntmps99
    go_wp2_with fail
    go_ret
    exact SLPost.mk Hr.out (Below.refl _ _)
/-- What Same answers. -/
def SRPost (a b : RC.Rc) (w : World) (e : Ending) (w' : World) : Prop := e = .returned (.bool (RC.same a b)) ∧ Below w.heap.size w w'
theorem SRPost.mk {a b : RC.Rc} {w w' : World} {t : Bool} (h : RC.same a b = t) (hb : Below w.heap.size w w') : SRPost a b w (.returned (.bool t)) w' := by subst h; exact ⟨rfl, hb⟩
set_option maxHeartbeats 2000000 in
set_option maxRecDepth 100000 in
theorem recSame_any (a b : RC.Rc) (A B : Option Addr) (c d : Nat) (w : World) (ha : a.ok) (hb : b.ok) (hA : Its w A a.list) (hB : Its w B b.list) (hn : Lim a.list.length) :
    Calls Tryz.prog 69 #[recV a A c, recV b B d] w (SRPost a b w) := by
  obtain ⟨k1, n1, l1, h1, r1, c1, t1, s1⟩ := a
  obtain ⟨k2, n2, l2, h2, r2, c2, t2, s2⟩ := b
  have wr1 : MF.W64 r1 := ha.real
  have wr2 : MF.W64 r2 := hb.real
  have ws1 : WS64 s1 := ha.list
  have ws2 : WS64 s2 := hb.list
  have hn : Lim s1.length := hn
  have Hr := Lib.hid (show RC.same ⟨k1, n1, l1, h1, r1, c1, t1, s1⟩ ⟨k2, n2, l2, h2, r2, c2, t2, s2⟩ = (k1 == k2 && n1 == n2 && l1 == l2 && h1 == h2 && MF.same r1 r2 && c1 == c2 && (t1.toList == t2.toList) && RC.sameL s1 s2) from rfl)
  have HA := Lib.hid hA
  have HB := Lib.hid hB
  clear hA hB ha hb
  by_cases e1 : k1 = k2
  case neg =>
    have e1' : (k1 == k2) = false := by simpa using e1
    clear e1
    go_enter Tryz.func69, Tryz.ntmps69
    go_wp2_with fail
    go_ret
    exact SRPost.mk (by rw [Hr.out, e1']; rfl) (below2 w _ _)
  subst e1
  by_cases e2 : n1 = n2
  case neg =>
    have e2' : (n1 == n2) = false := by simpa using e2
    clear e2
    go_enter Tryz.func69, Tryz.ntmps69
    go_wp2_with fail
    go_ret
    exact SRPost.mk (by rw [Hr.out, e2']; simp) (below2 w _ _)
  subst e2
  by_cases e3 : l1 = l2
  case neg =>
    have e3' : (l1 == l2) = false := by simpa using e3
    clear e3
    go_enter Tryz.func69, Tryz.ntmps69
    go_wp2_with fail
    go_ret
    exact SRPost.mk (by rw [Hr.out, e3']; simp) (below2 w _ _)
  subst e3
  by_cases e4 : h1 = h2
  case neg =>
    have e4' : (h1 == h2) = false := by simpa using e4
    clear e4
    go_enter Tryz.func69, Tryz.ntmps69
    go_wp2_with fail
    go_ret
    exact SRPost.mk (by rw [Hr.out, e4']; simp) (below2 w _ _)
  subst e4
  cases e5 : MF.same r1 r2
  case false =>
    have H5 := Lib.hid e5
    clear e5
    go_enter Tryz.func69, Tryz.ntmps69
    go_wp2_with fail
    refine (same_any r1 r2 _ wr1 wr2).mono ?_
    rw [H5.out]
    rintro e w' ⟨rfl, rfl⟩
    go_wp2_with fail
    go_ret
    exact SRPost.mk (by rw [Hr.out, H5.out]; simp) (below2 w _ _)
  have H5 := Lib.hid e5
  clear e5
  by_cases e6 : c1 = c2
  case neg =>
    have e6' : (c1 == c2) = false := by simpa using e6
    clear e6
    go_enter Tryz.func69, Tryz.ntmps69
    go_wp2_with fail
    refine (same_any r1 r2 _ wr1 wr2).mono ?_
    rw [H5.out]
    rintro e w' ⟨rfl, rfl⟩
    go_wp2_with fail
    go_ret
    exact SRPost.mk (by rw [Hr.out, e6']; simp) (below2 w _ _)
  subst e6
  cases e7 : (t1.toList == t2.toList)
  case false =>
    have H7 := Lib.hid e7
    go_enter Tryz.func69, Tryz.ntmps69
    go_wp2_with fail
    refine (same_any r1 r2 _ wr1 wr2).mono ?_
    rw [H5.out]
    rintro e w' ⟨rfl, rfl⟩
    go_wp2_with fail
    go_ret
    exact SRPost.mk (by rw [Hr.out, H7.out]; simp) (below2 w _ _)
  have H7 := Lib.hid e7
  go_enter Tryz.func69, Tryz.ntmps69
  go_wp2_with fail
  refine (same_any r1 r2 _ wr1 wr2).mono ?_
  rw [H5.out]
  rintro e w' ⟨rfl, rfl⟩
  go_wp2_with fail
  refine (equalFunc_any A B c d s1 s2 _ (HA.out.below (below2 w _ _)) (HB.out.below (below2 w _ _)) ws1 ws2 hn).mono ?_
  rintro e w1 ⟨rfl, hb1⟩
  go_wp2_with fail
  go_ret
  exact SRPost.mk (by rw [Hr.out, H5.out, H7.out]; simp) ((below2 w _ _).trans (hb1.mono (by simp; omega)))
end Go.Proofs.YtbkcmnmbcldjoaaGreatDoor
namespace RC
theorem listE_range {r : Rc} (h : r.cap < 1 ∨ 32 < r.cap) : listE r = 1 := by unfold listE; rw [if_pos h]
theorem listE_full {r : Rc} (h : ¬ (r.cap < 1 ∨ 32 < r.cap)) (h2 : r.cap < r.list.length) : listE r = 8 := by unfold listE; rw [if_neg h, if_pos h2]
theorem listE_items {r : Rc} (h : ¬ (r.cap < 1 ∨ 32 < r.cap)) (h2 : ¬ r.cap < r.list.length) : listE r = itemsE r.kind none r.list := by unfold listE; rw [if_neg h, if_neg h2]
theorem itemE_long {k : Int} {p : Option It} {x : It} (h : 16 < x.name.size) : itemE k p x = 3 := by unfold itemE; rw [if_pos h]
theorem itemE_form {k : Int} {p : Option It} {x : It} (h : ¬ 16 < x.name.size) (h2 : (fits k x.score && follows k p x) = false) : itemE k p x = 4 := by unfold itemE; rw [if_neg h, if_neg (by rw [h2]; simp)]
theorem itemE_ok {k : Int} {p : Option It} {x : It} (h : ¬ 16 < x.name.size) (h2 : (fits k x.score && follows k p x) = true) : itemE k p x = 0 := by unfold itemE; rw [if_neg h, if_pos h2]
end RC
namespace Go.Proofs.YtbkcmnmbcldjoaaGreatDoor
open Go.RowKit MM
/-- What beyond answers. -/
def BPost (r : RC.Rc) (w : World) (e : Ending) (w' : World) : Prop := ∃ A' c', e = .returned (recV (RC.rest r) A' c') ∧ Its w' A' (RC.rest r).list ∧ Below w.heap.size w w'
theorem BPost.mk {r : RC.Rc} {w w' : World} {A' : Option Addr} {c' : Nat} {v : Value} (h : v = recV (RC.rest r) A' c') (hi : Its w' A' (RC.rest r).list) (hb : Below w.heap.size w w') : BPost r w (.returned v) w' := by subst h; exact ⟨A', c', rfl, hi, hb⟩
set_option maxHeartbeats 1000000 in
set_option maxRecDepth 100000 in
theorem beyond_any (r : RC.Rc) (A : Option Addr) (c : Nat) (w : World) (hA : Its w A r.list) (hk : RC.known r.kind = true) :
    Calls Tryz.prog 70 #[recV r A c] w (BPost r w) := by
  obtain ⟨k, n, l, h, x, cap, t, s⟩ := r
  have HA := Lib.hid hA
  clear hA
  rcases RC.kind9 hk with rfl | rfl | rfl | rfl | rfl | rfl | rfl | rfl | rfl
  all_goals
    clear hk
    go_enter Tryz.func70, Tryz.ntmps70
    go_wp2_with fail
  · refine bodyPost_ret (v := .agg #[.int .i64 0, .int .i64 n, .int .i64 l, .int .i64 h, .float .f64 x, .int .i64 cap, .string ⟨#[]⟩, .slice A s.length c]) (by simp [results, Tryz.results70, go_sem]) rfl ?_
    refine (fun hb => BPost.mk (A' := A) (c' := c) rfl (HA.out.below hb) hb) ?_
    repeat (first | (with_reducible exact Below.refl _ _) | (refine Below.setCell ?_ (by simp) _) | (refine Below.alloc ?_ (by simp) _))
  · refine bodyPost_ret (v := .agg #[.int .i64 0, .int .i64 0, .int .i64 l, .int .i64 h, .float .f64 x, .int .i64 cap, .string t, .slice A s.length c]) (by simp [results, Tryz.results70, go_sem]) rfl ?_
    refine (fun hb => BPost.mk (A' := A) (c' := c) rfl (HA.out.below hb) hb) ?_
    repeat (first | (with_reducible exact Below.refl _ _) | (refine Below.setCell ?_ (by simp) _) | (refine Below.alloc ?_ (by simp) _))
  · refine bodyPost_ret (v := .agg #[.int .i64 0, .int .i64 0, .int .i64 l, .int .i64 h, .float .f64 x, .int .i64 cap, .string t, .slice A s.length c]) (by simp [results, Tryz.results70, go_sem]) rfl ?_
    refine (fun hb => BPost.mk (A' := A) (c' := c) rfl (HA.out.below hb) hb) ?_
    repeat (first | (with_reducible exact Below.refl _ _) | (refine Below.setCell ?_ (by simp) _) | (refine Below.alloc ?_ (by simp) _))
  · refine bodyPost_ret (v := .agg #[.int .i64 0, .int .i64 0, .int .i64 0, .int .i64 0, .float .f64 x, .int .i64 cap, .string t, .slice A s.length c]) (by simp [results, Tryz.results70, go_sem]) rfl ?_
    refine (fun hb => BPost.mk (A' := A) (c' := c) rfl (HA.out.below hb) hb) ?_
    repeat (first | (with_reducible exact Below.refl _ _) | (refine Below.setCell ?_ (by simp) _) | (refine Below.alloc ?_ (by simp) _))
  · refine bodyPost_ret (v := .agg #[.int .i64 0, .int .i64 n, .int .i64 l, .int .i64 h, .float .f64 0, .int .i64 cap, .string t, .slice A s.length c]) (by simp [results, Tryz.results70, go_sem]) rfl ?_
    refine (fun hb => BPost.mk (A' := A) (c' := c) rfl (HA.out.below hb) hb) ?_
    repeat (first | (with_reducible exact Below.refl _ _) | (refine Below.setCell ?_ (by simp) _) | (refine Below.alloc ?_ (by simp) _))
  · refine bodyPost_ret (v := .agg #[.int .i64 0, .int .i64 n, .int .i64 l, .int .i64 h, .float .f64 0, .int .i64 cap, .string t, .slice A s.length c]) (by simp [results, Tryz.results70, go_sem]) rfl ?_
    refine (fun hb => BPost.mk (A' := A) (c' := c) rfl (HA.out.below hb) hb) ?_
    repeat (first | (with_reducible exact Below.refl _ _) | (refine Below.setCell ?_ (by simp) _) | (refine Below.alloc ?_ (by simp) _))
  · refine bodyPost_ret (v := .agg #[.int .i64 0, .int .i64 n, .int .i64 l, .int .i64 h, .float .f64 0, .int .i64 cap, .string t, .slice A s.length c]) (by simp [results, Tryz.results70, go_sem]) rfl ?_
    refine (fun hb => BPost.mk (A' := A) (c' := c) rfl (HA.out.below hb) hb) ?_
    repeat (first | (with_reducible exact Below.refl _ _) | (refine Below.setCell ?_ (by simp) _) | (refine Below.alloc ?_ (by simp) _))
  · refine bodyPost_ret (v := .agg #[.int .i64 0, .int .i64 n, .int .i64 l, .int .i64 h, .float .f64 x, .int .i64 0, .string t, .slice none 0 0]) (by simp [results, Tryz.results70, go_sem]) rfl ?_
    refine (fun hb => BPost.mk (A' := none) (c' := 0) rfl (Its.nil _ _) hb) ?_
    repeat (first | (with_reducible exact Below.refl _ _) | (refine Below.setCell ?_ (by simp) _) | (refine Below.alloc ?_ (by simp) _))
  · refine bodyPost_ret (v := .agg #[.int .i64 0, .int .i64 n, .int .i64 l, .int .i64 h, .float .f64 x, .int .i64 0, .string t, .slice none 0 0]) (by simp [results, Tryz.results70, go_sem]) rfl ?_
    refine (fun hb => BPost.mk (A' := none) (c' := 0) rfl (Its.nil _ _) hb) ?_
    repeat (first | (with_reducible exact Below.refl _ _) | (refine Below.setCell ?_ (by simp) _) | (refine Below.alloc ?_ (by simp) _))
theorem fits_q (k : Int) (s : Nat) (b : Bool) (w : World) (hs : MF.W64 s) (h : RC.fits k s = b) :
    Calls Tryz.prog 103 #[.int .i64 k, .float .f64 s] w fun e w' => e = .returned (.bool b) ∧ w' = w :=
  (fits_any k s w hs).mono fun _ _ ⟨h1, h2⟩ => ⟨by rw [h1, h], h2.symm⟩
/-- What checkList, and Check, answer. -/
def EPost (n : Nat) (w : World) (e : Ending) (w' : World) : Prop := e = .returned (.int .i64 (n : Int)) ∧ Below w.heap.size w w'
theorem EPost.mk {n m : Nat} {z : Int} {w w' : World} (h : n = m) (hz : z = (m : Int)) (hb : Below w.heap.size w w') : EPost n w (.returned (.int .i64 z)) w' := by subst h hz; exact ⟨rfl, hb⟩
set_option maxHeartbeats 1000000 in
set_option maxRecDepth 100000 in
theorem checkList_any (r : RC.Rc) (A : Option Addr) (c : Nat) (w : World) (hA : Its w A r.list) (hr : WS64 r.list) (hn : Lim r.list.length) :
    Calls Tryz.prog 74 #[recV r A c] w (EPost (RC.listE r) w) := by
  obtain ⟨k, n, l, h, x, cap, t, s⟩ := r
  replace hr : WS64 s := hr
  have hn' : (s.length : Int) ≤ 4294967296 := by have hn : Lim s.length := hn; unfold Lim at hn; omega
  by_cases h1 : cap < 1 ∨ 32 < cap
  · have Hr := Lib.hid (RC.listE_range (r := ⟨k, n, l, h, x, cap, t, s⟩) h1)
    by_cases h2 : cap < 1
    · clear h1 hA
      go_enter Tryz.func74, Tryz.ntmps74
      go_wp2_with fail
      go_ret
      exact EPost.mk Hr.out rfl (below1 w _)
    · have h3 : 32 < cap := by omega
      clear h1 hA
      go_enter Tryz.func74, Tryz.ntmps74
      go_wp2_with fail
      go_ret
      exact EPost.mk Hr.out rfl (below1 w _)
  · have h2 : ¬ cap < 1 := by omega
    have h3 : ¬ 32 < cap := by omega
    by_cases h4 : cap < s.length
    · have Hr := Lib.hid (RC.listE_full (r := ⟨k, n, l, h, x, cap, t, s⟩) h1 h4)
      clear h1 hA
      go_enter Tryz.func74, Tryz.ntmps74
      go_wp2_with fail
      go_ret
      exact EPost.mk Hr.out rfl (below1 w _)
    · have Hr := Lib.hid (RC.listE_items (r := ⟨k, n, l, h, x, cap, t, s⟩) h1 h4)
      have HA := Lib.hid hA
      clear h1 hA
      go_enter Tryz.func74, Tryz.ntmps74
      go_wp2_with fail
      go_loopw [22] (fun ti wr => ∃ i : Nat, ti = .int .i64 i ∧ i ≤ s.length ∧ RC.itemsE k none s = RC.itemsE k (RC.prev s i) (s.drop i) ∧ Below (w.heap.size + 1) (w.alloc (.cells #[.int .i64 k, .int .i64 n, .int .i64 l, .int .i64 h, .float .f64 x, .int .i64 cap, .string t, .slice A s.length c] 25)) wr) (fun ti _ => s.length - (intOf ti).toNat)
      case atStart => exact ⟨0, rfl, Nat.zero_le _, rfl, Below.refl _ _⟩
      case round =>
        obtain ⟨i, rfl, hi, hs, hb⟩ := hrel
        have e0 := (hb.block w.heap.size (by omega)).trans (heap_alloc_new w _)
        have c0 : wr.cell? ⟨w.heap.size, 0, none⟩ = some (.int .i64 k) := (cell_of_row wr _ 0 _ _ (0, 0) e0).trans rfl
        have c7 : wr.cell? ⟨w.heap.size, 7, none⟩ = some (.slice A s.length c) := (cell_of_row wr _ 7 _ _ (0, 0) e0).trans rfl
        have hB : Below w.heap.size w wr := (below1 w _).trans (hb.mono (by omega))
        have hsz := hb.size
        rw [World.size_alloc] at hsz
        by_cases hlt : i < s.length
        · have hA := HA.out.below hB
          rcases hA with hA | ⟨ba, oa, rfl, hba, hca⟩
          · have hA : s = [] := hA
            subst hA; simp at hlt
          replace hca : ∀ (i : Nat) (x : RC.It), s[i]? = some x → wr.cell? ⟨ba, oa + i * 2, none⟩ = some (.float .f64 x.score) ∧ wr.cell? ⟨ba, oa + i * 2 + 1, none⟩ = some (.string x.name) := hca
          obtain ⟨a0, a1⟩ := hca i s[i] (List.getElem?_eq_getElem hlt)
          have wa := hr.at hlt
          have hst := RC.itemsE_step k s i hlt
          have hsp := RC.itemsE_stop k s i hlt
          have hi1 : (i : Int) < (s.length : Int) := by omega
          have hpr : i = 0 ∧ RC.prev s i = none ∨ ∃ p, 0 < i ∧ RC.prev s i = some p ∧ MF.W64 p.score ∧ wr.cell? ⟨ba, oa + (i - 1) * 2, none⟩ = some (.float .f64 p.score) ∧ wr.cell? ⟨ba, oa + (i - 1) * 2 + 1, none⟩ = some (.string p.name) := by
            by_cases h0 : i = 0
            · subst h0; exact .inl ⟨rfl, rfl⟩
            · have hj : i - 1 < s.length := by omega
              obtain ⟨q0, q1⟩ := hca (i - 1) s[i - 1] (List.getElem?_eq_getElem hj)
              refine .inr ⟨s[i - 1], by omega, ?_, hr.at hj, q0, q1⟩
              unfold RC.prev
              rw [if_neg h0, List.getElem?_eq_getElem hj]
          generalize s[i] = y at *
          generalize RC.prev s i = pv at *
          obtain ⟨ys, yn⟩ := y
          replace a0 : wr.cell? ⟨ba, oa + i * 2, none⟩ = some (.float .f64 ys) := a0
          replace a1 : wr.cell? ⟨ba, oa + i * 2 + 1, none⟩ = some (.string yn) := a1
          replace wa : MF.W64 ys := wa
          have Hs := Lib.hid hs
          have Hst := Lib.hid hst
          have Hsp := Lib.hid hsp
          have Hb := Lib.hid hb
          have HB := Lib.hid hB
          clear hs hst hsp hb hB hca e0
          have hne : ¬ w.heap.size = wr.heap.size := by omega
          by_cases h16 : 16 < yn.size
          · have Hi := Lib.hid (RC.itemE_long (k := k) (p := pv) (x := ⟨ys, yn⟩) h16)
            clear hpr
            go_wp2_with fail
            go_ret
            exact EPost.mk (m := 3) (by rw [Hr.out]; show RC.itemsE k none s = 3; rw [Hs.out, Hsp.out (by rw [Hi.out]; omega), Hi.out]) rfl (HB.out.trans ((below1 wr _).mono HB.out.size))
          · cases hf : RC.fits k ys
            · have Hi := Lib.hid (RC.itemE_form (k := k) (p := pv) (x := ⟨ys, yn⟩) h16 (by show (RC.fits k ys && _) = false; rw [hf]; rfl))
              have Hf := Lib.hid hf
              clear hpr hf
              go_wp2_with fail
              generalize hw2 : wr.alloc _ = w2
              have hB2 : Below wr.heap.size wr w2 := by rw [← hw2]; exact below1 wr _
              have k0 : w2.cell? ⟨w.heap.size, 0, none⟩ = some (.int .i64 k) := (hB2.cell (p := ⟨w.heap.size, 0, none⟩) (by show w.heap.size < _; omega)).trans c0
              have k7 : w2.cell? ⟨w.heap.size, 7, none⟩ = some (.slice (some ⟨ba, oa, none⟩) s.length c) := (hB2.cell (p := ⟨w.heap.size, 7, none⟩) (by show w.heap.size < _; omega)).trans c7
              have y0 : w2.cell? ⟨wr.heap.size, 0, none⟩ = some (.float .f64 ys) := by rw [← hw2]; simp [go_sem]
              have y1 : w2.cell? ⟨wr.heap.size, 1, none⟩ = some (.string yn) := by rw [← hw2]; simp [go_sem]
              have HB2 := Lib.hid hB2
              clear hw2 hB2
              go_quiet (first | (go_at_call 103; refine Calls.quiet_of_same (fits_q k ys false _ wa Hf.out)))
              go_wp2
              go_ret
              exact EPost.mk (m := 4) (by rw [Hr.out]; show RC.itemsE k none s = 4; rw [Hs.out, Hsp.out (by rw [Hi.out]; omega), Hi.out]) rfl (below_drewN (HB.out.trans (HB2.out.mono HB.out.size)) _)
            · have Hf := Lib.hid hf
              clear hf
              rcases hpr with ⟨rfl, rfl⟩ | ⟨p, h0, rfl, wp, p0, p1⟩
              · have Hi := Lib.hid (RC.itemE_ok (k := k) (p := none) (x := ⟨ys, yn⟩) h16 (by show (RC.fits k ys && true) = true; rw [Hf.out]; rfl))
                rw [Nat.zero_mul, Nat.add_zero] at a0 a1
                go_wp2_with fail
                generalize hw2 : wr.alloc _ = w2
                have hB2 : Below wr.heap.size wr w2 := by rw [← hw2]; exact below1 wr _
                have k0 : w2.cell? ⟨w.heap.size, 0, none⟩ = some (.int .i64 k) := (hB2.cell (p := ⟨w.heap.size, 0, none⟩) (by show w.heap.size < _; omega)).trans c0
                have k7 : w2.cell? ⟨w.heap.size, 7, none⟩ = some (.slice (some ⟨ba, oa, none⟩) s.length c) := (hB2.cell (p := ⟨w.heap.size, 7, none⟩) (by show w.heap.size < _; omega)).trans c7
                have y0 : w2.cell? ⟨wr.heap.size, 0, none⟩ = some (.float .f64 ys) := by rw [← hw2]; simp [go_sem]
                have y1 : w2.cell? ⟨wr.heap.size, 1, none⟩ = some (.string yn) := by rw [← hw2]; simp [go_sem]
                have HB2 := Lib.hid hB2
                clear hw2 hB2
                go_quiet (first | (go_at_call 103; refine Calls.quiet_of_same (fits_q k ys true _ wa Hf.out)))
                go_wp2
                go_roundw
                case rel => exact ⟨1, by go_num, by omega, by rw [Hs.out, Hst.out Hi.out], below_drewN (Hb.out.trans (HB2.out.mono (by omega))) _⟩
                case measure => simp [intOf]; omega
              · obtain ⟨ps, pn⟩ := p
                replace p0 : wr.cell? ⟨ba, oa + (i - 1) * 2, none⟩ = some (.float .f64 ps) := p0
                replace p1 : wr.cell? ⟨ba, oa + (i - 1) * 2 + 1, none⟩ = some (.string pn) := p1
                replace wp : MF.W64 ps := wp
                have W1 : IntKind.i64.wrap ((i : Int) - 1) = ((i - 1 : Nat) : Int) := (IntWalk.i64_in _ (by omega)).trans (by omega)
                have hj0 : (0 : Int) ≤ ((i - 1 : Nat) : Int) := Int.natCast_nonneg _
                have hj1 : ((i - 1 : Nat) : Int) < (s.length : Int) := by omega
                have h0' : decide ((0 : Int) < (i : Int)) = true := by simp; omega
                cases hq : RC.ahead k ⟨ps, pn⟩ ⟨ys, yn⟩
                · have Hi := Lib.hid (RC.itemE_form (k := k) (p := some ⟨ps, pn⟩) (x := ⟨ys, yn⟩) h16 (by show (RC.fits k ys && RC.ahead k ⟨ps, pn⟩ ⟨ys, yn⟩) = false; rw [hq, Bool.and_false]))
                  have Hq := Lib.hid hq
                  clear hq
                  go_wp2_with fail
                  generalize hw2 : wr.alloc _ = w2
                  have hB2 : Below wr.heap.size wr w2 := by rw [← hw2]; exact below1 wr _
                  have k0 : w2.cell? ⟨w.heap.size, 0, none⟩ = some (.int .i64 k) := (hB2.cell (p := ⟨w.heap.size, 0, none⟩) (by show w.heap.size < _; omega)).trans c0
                  have k7 : w2.cell? ⟨w.heap.size, 7, none⟩ = some (.slice (some ⟨ba, oa, none⟩) s.length c) := (hB2.cell (p := ⟨w.heap.size, 7, none⟩) (by show w.heap.size < _; omega)).trans c7
                  have y0 : w2.cell? ⟨wr.heap.size, 0, none⟩ = some (.float .f64 ys) := by rw [← hw2]; simp [go_sem]
                  have y1 : w2.cell? ⟨wr.heap.size, 1, none⟩ = some (.string yn) := by rw [← hw2]; simp [go_sem]
                  replace p0 := (hB2.cell (p := ⟨ba, oa + (i - 1) * 2, none⟩) hba).trans p0
                  replace p1 := (hB2.cell (p := ⟨ba, oa + (i - 1) * 2 + 1, none⟩) hba).trans p1
                  have HB2 := Lib.hid hB2
                  clear hw2 hB2 c0 c7 a0 a1
                  go_region_held3 (fun w' => w'.cell? ⟨w.heap.size, 0, none⟩ = some (.int .i64 k) ∧ w'.cell? ⟨w.heap.size, 7, none⟩ = some (.slice (some ⟨ba, oa, none⟩) s.length c) ∧ w'.cell? ⟨wr.heap.size, 0, none⟩ = some (.float .f64 ys) ∧ w'.cell? ⟨wr.heap.size, 1, none⟩ = some (.string yn) ∧ w'.cell? ⟨ba, oa + (i - 1) * 2, none⟩ = some (.float .f64 ps) ∧ w'.cell? ⟨ba, oa + (i - 1) * 2 + 1, none⟩ = some (.string pn))
                    (first
                      | go_keep
                      | (go_split_ands; exact ⟨below_keep hb1 (by assumption), below_keep hb1 (by assumption), below_keep hb1 (by assumption), below_keep hb1 (by assumption), below_keep hb1 (by assumption), below_keep hb1 (by assumption)⟩))
                    (first
                      | (go_at_call 103; refine (fits_any k ys _ wa).mono ?_; rw [Hf.out]; rintro e w1 ⟨rfl, rfl⟩)
                      | (go_at_call 104; refine (ahead_any k ⟨ps, pn⟩ ⟨ys, yn⟩ _ wp wa).mono ?_; rw [Hq.out]; rintro e w1 ⟨rfl, hb1⟩))
                  go_wp2
                  go_ret
                  exact EPost.mk (m := 4) (by rw [Hr.out]; show RC.itemsE k none s = 4; rw [Hs.out, Hsp.out (by rw [Hi.out]; omega), Hi.out]) rfl ((HB.out.trans ((below_drew HB2.out).mono HB.out.size)).trans (hb1.mono (Nat.le_trans HB.out.size HB2.out.size)))
                · have Hi := Lib.hid (RC.itemE_ok (k := k) (p := some ⟨ps, pn⟩) (x := ⟨ys, yn⟩) h16 (by show (RC.fits k ys && RC.ahead k ⟨ps, pn⟩ ⟨ys, yn⟩) = true; rw [hq, Hf.out]; rfl))
                  have Hq := Lib.hid hq
                  clear hq
                  go_wp2_with fail
                  generalize hw2 : wr.alloc _ = w2
                  have hB2 : Below wr.heap.size wr w2 := by rw [← hw2]; exact below1 wr _
                  have k0 : w2.cell? ⟨w.heap.size, 0, none⟩ = some (.int .i64 k) := (hB2.cell (p := ⟨w.heap.size, 0, none⟩) (by show w.heap.size < _; omega)).trans c0
                  have k7 : w2.cell? ⟨w.heap.size, 7, none⟩ = some (.slice (some ⟨ba, oa, none⟩) s.length c) := (hB2.cell (p := ⟨w.heap.size, 7, none⟩) (by show w.heap.size < _; omega)).trans c7
                  have y0 : w2.cell? ⟨wr.heap.size, 0, none⟩ = some (.float .f64 ys) := by rw [← hw2]; simp [go_sem]
                  have y1 : w2.cell? ⟨wr.heap.size, 1, none⟩ = some (.string yn) := by rw [← hw2]; simp [go_sem]
                  replace p0 := (hB2.cell (p := ⟨ba, oa + (i - 1) * 2, none⟩) hba).trans p0
                  replace p1 := (hB2.cell (p := ⟨ba, oa + (i - 1) * 2 + 1, none⟩) hba).trans p1
                  have HB2 := Lib.hid hB2
                  clear hw2 hB2 c0 c7 a0 a1
                  go_region_held3 (fun w' => w'.cell? ⟨w.heap.size, 0, none⟩ = some (.int .i64 k) ∧ w'.cell? ⟨w.heap.size, 7, none⟩ = some (.slice (some ⟨ba, oa, none⟩) s.length c) ∧ w'.cell? ⟨wr.heap.size, 0, none⟩ = some (.float .f64 ys) ∧ w'.cell? ⟨wr.heap.size, 1, none⟩ = some (.string yn) ∧ w'.cell? ⟨ba, oa + (i - 1) * 2, none⟩ = some (.float .f64 ps) ∧ w'.cell? ⟨ba, oa + (i - 1) * 2 + 1, none⟩ = some (.string pn))
                    (first
                      | go_keep
                      | (go_split_ands; exact ⟨below_keep hb1 (by assumption), below_keep hb1 (by assumption), below_keep hb1 (by assumption), below_keep hb1 (by assumption), below_keep hb1 (by assumption), below_keep hb1 (by assumption)⟩))
                    (first
                      | (go_at_call 103; refine (fits_any k ys _ wa).mono ?_; rw [Hf.out]; rintro e w1 ⟨rfl, rfl⟩)
                      | (go_at_call 104; refine (ahead_any k ⟨ps, pn⟩ ⟨ys, yn⟩ _ wp wa).mono ?_; rw [Hq.out]; rintro e w1 ⟨rfl, hb1⟩))
                  go_wp2
                  go_roundw
                  case rel => exact ⟨i + 1, by go_num, by omega, by rw [Hs.out, Hst.out Hi.out], Hb.out.trans (((below_drew HB2.out).mono (by omega)).trans (hb1.mono (Nat.le_trans hsz HB2.out.size)))⟩
                  case measure => simp [intOf]; omega
        · have hi' : i = s.length := by omega
          rw [List.drop_eq_nil_of_le (by omega)] at hs
          have Hs := Lib.hid hs
          have HB := Lib.hid hB
          clear hs e0 hB
          subst hi'
          go_wp2
          go_ret
          exact EPost.mk (m := 0) (by rw [Hr.out]; show RC.itemsE k none s = 0; rw [Hs.out]; rfl) rfl HB.out
end Go.Proofs.YtbkcmnmbcldjoaaGreatDoor
namespace RC
theorem rest_ok {r : Rc} (h : r.ok) : (rest r).ok := by
  obtain ⟨h1, h2, h3, h4, h5, h6, h7⟩ := h
  refine ⟨rfl, ?_, ?_, ?_, ?_, ?_, ?_⟩
  · simp only [rest]; split; rfl; exact h2
  · simp only [rest]; split; rfl; exact h3
  · simp only [rest]; split; rfl; exact h4
  · simp only [rest]; split; (unfold MF.W64; decide); exact h5
  · simp only [rest]; split; rfl; exact h6
  · simp only [rest]
    split
    · intro x hx; cases hx
    · exact h7
theorem rest_len (r : Rc) : (rest r).list.length ≤ r.list.length := by
  simp only [rest]
  split
  · exact Nat.zero_le _
  · exact Nat.le_refl _
theorem chk_kind {r : Rc} (h : known r.kind = false) : chk r = 5 := by unfold chk; rw [if_neg (by rw [h]; simp)]
theorem chk_form {r : Rc} (h : known r.kind = true) (h2 : clean r = false) : chk r = 4 := by unfold chk; rw [if_pos h, if_neg (by rw [h2]; simp)]
theorem chk_field {r : Rc} (h : known r.kind = true) (h2 : clean r = true) : chk r = fieldE r := by unfold chk; rw [if_pos h, if_pos h2]
end RC
namespace Go.Proofs.YtbkcmnmbcldjoaaGreatDoor
open Go.RowKit MM
set_option maxHeartbeats 2000000 in
set_option maxRecDepth 100000 in
theorem recCheck_any (r : RC.Rc) (A : Option Addr) (c : Nat) (w : World) (hr : r.ok) (hA : Its w A r.list) (hn : Lim r.list.length) :
    Calls Tryz.prog 31 #[recV r A c] w (EPost (RC.chk r) w) := by
  cases hk : RC.known r.kind
  · have He := Lib.hid (RC.chk_kind hk)
    obtain ⟨k, n, l, h, x, cap, t, s⟩ := r
    have Hk := Lib.hid hk
    clear hk hA
    go_enter Tryz.func31, Tryz.ntmps31
    go_wp2_with fail
    refine (recKnown_any k _).mono ?_
    rw [show RC.known k = false from Hk.out]
    rintro e w' ⟨rfl, rfl⟩
    go_wp2_with fail
    go_ret
    exact EPost.mk He.out rfl (below1 w _)
  · have hro := RC.rest_ok hr
    have hrl := RC.rest_len r
    have hB := fun o => beyond_any r A c (w.alloc o) (hA.alloc o) hk
    have HS := Lib.hid (fun (A' : Option Addr) (c' : Nat) (w' : World) (hI : Its w' A' (RC.rest r).list) => recSame_any (RC.rest r) RC.zero A' none c' 0 w' hro RC.zero_ok hI (Its.nil _ _) (hn.le hrl))
    have HT := Lib.hid (fun w' (hI : Its w' A r.list) => checkList_any r A c w' hI hr.list hn)
    have HP := Lib.hid (fun w' => checkPurse_any r A c w')
    cases hc : RC.clean r
    · have He := Lib.hid (RC.chk_form hk hc)
      have Hc := Lib.hid (show RC.same (RC.rest r) RC.zero = false from hc)
      have Hk := Lib.hid hk
      have HB := Lib.hid hB
      clear hk hc hA hB HT HP hro hrl
      obtain ⟨k, n, l, h, x, cap, t, s⟩ := r
      go_enter Tryz.func31, Tryz.ntmps31
      go_wp2_with fail
      refine (recKnown_any k _).mono ?_
      rw [show RC.known k = true from Hk.out]
      rintro e w' ⟨rfl, rfl⟩
      go_wp2_with fail
      refine (HB.out _).mono ?_
      rintro e w1 ⟨A', c', rfl, hI1, hb1⟩
      go_wp2_with fail
      refine (HS.out A' c' _ hI1).mono ?_
      rintro e w2 ⟨rfl, hb2⟩
      rw [Hc.out]
      have hB2 : Below w.heap.size w w2 := (below1 w _).trans ((hb1.mono (by simp)).trans (hb2.mono (Nat.le_trans (by simp) hb1.size)))
      have HB2 := Lib.hid hB2
      clear hb1 hb2 hI1 hB2
      go_wp2_with fail
      go_ret
      exact EPost.mk He.out rfl HB2.out
    · have He := Lib.hid (RC.chk_field hk hc)
      have Hc := Lib.hid (show RC.same (RC.rest r) RC.zero = true from hc)
      have Hk := Lib.hid hk
      have HB := Lib.hid hB
      have HA := Lib.hid hA
      clear hc hA hB hro hrl
      obtain ⟨k, n, l, h, x, cap, t, s⟩ := r
      rcases RC.kind9 hk with rfl | rfl | rfl | rfl | rfl | rfl | rfl | rfl | rfl
      all_goals
        clear hk
        go_enter Tryz.func31, Tryz.ntmps31
        go_wp2_with fail
        refine (recKnown_any _ _).mono ?_
        rw [show RC.known _ = true from Hk.out]
        rintro e w' ⟨rfl, rfl⟩
        go_wp2_with fail
        refine (HB.out _).mono ?_
        rintro e w1 ⟨A', c', rfl, hI1, hb1⟩
        go_wp2_with fail
        refine (HS.out A' c' _ hI1).mono ?_
        rintro e w2 ⟨rfl, hb2⟩
        rw [Hc.out]
        have hB2 : Below (w.heap.size + 1) (w.alloc _) w2 := (hb1.mono (by simp)).trans (hb2.mono (Nat.le_trans (by simp) hb1.size))
        have e0 := (hB2.block w.heap.size (by omega)).trans (heap_alloc_new w _)
        have c0 := (cell_of_row w2 _ 0 _ _ (0, 0) e0)
        have c1 := (cell_of_row w2 _ 1 _ _ (0, 0) e0)
        have c2 := (cell_of_row w2 _ 2 _ _ (0, 0) e0)
        have c3 := (cell_of_row w2 _ 3 _ _ (0, 0) e0)
        have c4 := (cell_of_row w2 _ 4 _ _ (0, 0) e0)
        have c5 := (cell_of_row w2 _ 5 _ _ (0, 0) e0)
        have c6 := (cell_of_row w2 _ 6 _ _ (0, 0) e0)
        have c7 := (cell_of_row w2 _ 7 _ _ (0, 0) e0)
        have hB3 : Below w.heap.size w w2 := (below1 w _).trans (hB2.mono (by omega))
        have HB3 := Lib.hid hB3
        clear hb1 hb2 hI1 hB2 e0 hB3
        simp at c0 c1 c2 c3 c4 c5 c6 c7
        go_wp2_with fail
      · refine (checkText_any t _).mono ?_
        rintro e w3 ⟨rfl, rfl⟩
        go_wp2_with fail
        go_ret
        exact EPost.mk He.out rfl HB3.out
      · go_ret
        exact EPost.mk He.out rfl HB3.out
      · go_ret
        exact EPost.mk He.out rfl HB3.out
      · refine (HP.out _).mono ?_
        rintro e w3 ⟨rfl, hb3⟩
        go_wp2_with fail
        go_ret
        exact EPost.mk He.out rfl (HB3.out.trans (hb3.mono HB3.out.size))
      · refine (checkReal_any x _).mono ?_
        rintro e w3 ⟨rfl, rfl⟩
        go_wp2_with fail
        go_ret
        exact EPost.mk He.out rfl HB3.out
      · refine (checkReal_any x _).mono ?_
        rintro e w3 ⟨rfl, rfl⟩
        go_wp2_with fail
        go_ret
        exact EPost.mk He.out rfl HB3.out
      · refine (checkReal_any x _).mono ?_
        rintro e w3 ⟨rfl, rfl⟩
        go_wp2_with fail
        go_ret
        exact EPost.mk He.out rfl HB3.out
      · refine (HT.out _ (HA.out.below HB3.out)).mono ?_
        rintro e w3 ⟨rfl, hb3⟩
        go_wp2_with fail
        go_ret
        exact EPost.mk He.out rfl (HB3.out.trans (hb3.mono HB3.out.size))
      · refine (HT.out _ (HA.out.below HB3.out)).mono ?_
        rintro e w3 ⟨rfl, hb3⟩
        go_wp2_with fail
        go_ret
        exact EPost.mk He.out rfl (HB3.out.trans (hb3.mono HB3.out.size))
end Go.Proofs.YtbkcmnmbcldjoaaGreatDoor
namespace Go.Proofs.YtbkcmnmbcldjoaaGreatDoor
open Go.RowKit MM
theorem WPost.two {E : TypeId} {p : Nat} {A A1 : Option Addr} {xs : List UInt8} {w w1 : World} {e : Ending} {w' : World} (h : WPost E p A1 xs w1 e w') (hs : WS p A A1 w w1) : WPost E p A xs w e w' := by
  obtain ⟨rfl, A2, c2, h2, h3⟩ := h
  exact ⟨rfl, A2, c2, h2, hs.trans h3⟩
theorem wr_in {E : TypeId} {w : World} {p : Nat} {A : Option Addr} {c : Nat} {xs : List UInt8} (h : Wr E w p A c xs) : ∀ k, ob A = some k → k < w.heap.size := by
  intro k e
  cases A with
  | none => cases e
  | some ad =>
    have := own_inside h.own ad rfl
    injection e with e
    have e' : ad.block = k := e
    omega
/-- The list of a record lies beside what is written. -/
def Beside (s : List RC.It) (L : Option Addr) (p : Nat) (A : Option Addr) : Prop := s = [] ∨ ∀ ad, L = some ad → ad.block ≠ p ∧ ob A ≠ some ad.block
theorem Its.ws {p : Nat} {A A1 L : Option Addr} {w w1 : World} {s : List RC.It} (h : Its w L s) (hs : WS p A A1 w w1) (hb : Beside s L p A) : Its w1 L s := by
  rcases hb with rfl | hb
  · exact Its.nil _ _
  · refine h.kp hs.kp fun ad e x => ?_
    have := hb ad e
    rcases x with x | x
    · exact this.1 x
    · exact this.2 x
theorem Beside.ws {p : Nat} {A A1 L : Option Addr} {w w1 : World} {s : List RC.It} (hb : Beside s L p A) (h : Its w L s) (hs : WS p A A1 w w1) : Beside s L p A1 := by
  rcases hb with rfl | hb
  · exact .inl rfl
  · rcases h with rfl | ⟨b, off, rfl, hl, _⟩
    · exact .inl rfl
    · refine .inr fun ad e => ?_
      have h1 := hb ad e
      refine ⟨h1.1, fun x => ?_⟩
      rcases hs.at_ with y | ⟨k, y, hk⟩
      · exact h1.2 (y ▸ x)
      · rw [y] at x
        injection x with x
        injection e with e
        subst e
        have x' : k = b := x
        omega
end Go.Proofs.YtbkcmnmbcldjoaaGreatDoor
namespace Go.Proofs.YtbkcmnmbcldjoaaGreatDoor
open Go.RowKit MM
/-- Blocks that were laid just ahead of a call that reads are there behind it. -/
theorem lt_of_heap {w : World} {k : Nat} {o : Obj} (h : w.heap[k]? = some o) : k < w.heap.size := (Array.getElem?_eq_some_iff.1 h).1
end Go.Proofs.YtbkcmnmbcldjoaaGreatDoor
