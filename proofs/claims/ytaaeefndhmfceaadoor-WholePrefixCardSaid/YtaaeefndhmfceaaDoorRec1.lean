/- Contracts of package rec: what records may be. -/
import Derived.Test.YtaaeefndhmfceaaDoorPkE
import Derived.Test.YtaaeefndhmfceaaDoorRc
namespace RC
def inB (l n h : Int) : Bool := decide (l ≤ n ∧ n ≤ h)
def textE (s : ByteArray) : Nat := if 64 < s.size then 3 else 0
def realE (x : Nat) : Nat := if MF.proper x then 0 else 4
def purseE (r : Rc) : Nat := if purseOk r then 0 else 1
end RC
namespace Go.Proofs.YtaaeefndhmfceaaDoor
open Go.RowKit MM
theorem ret_nat {k : IntKind} {a : Int} {n m : Nat} (h : a = (m : Int)) (hm : n = m) : Ending.returned (.int k a) = .returned (.int k (n : Int)) := by subst h hm; rfl

/-- A slice that reads as items. -/
def Its (w : World) (A : Option Addr) (xs : List RC.It) : Prop :=
  xs = [] ∨ ∃ b off, A = some ⟨b, off, none⟩ ∧ b < w.heap.size ∧ ∀ i x, xs[i]? = some x → w.cell? ⟨b, off + i * 2, none⟩ = some (.float .f64 x.score) ∧ w.cell? ⟨b, off + i * 2 + 1, none⟩ = some (.string x.name)
theorem Its.keep {w w' : World} {A : Option Addr} {xs : List RC.It} (h : Its w A xs) (hs : w.heap.size ≤ w'.heap.size) (hk : ∀ ad, A = some ad → ad.block < w.heap.size → w'.heap[ad.block]? = w.heap[ad.block]?) : Its w' A xs := by
  rcases h with rfl | ⟨b, off, rfl, hb, hc⟩
  · exact .inl rfl
  · refine .inr ⟨b, off, rfl, Nat.lt_of_lt_of_le hb hs, fun i x hx => ?_⟩
    obtain ⟨h1, h2⟩ := hc i x hx
    have e := hk _ rfl hb
    exact ⟨(World.cell?_of_block (a := ⟨b, off + i * 2, none⟩) e).trans h1, (World.cell?_of_block (a := ⟨b, off + i * 2 + 1, none⟩) e).trans h2⟩
theorem Its.below {w w' : World} {A : Option Addr} {xs : List RC.It} (h : Its w A xs) (hb : Below w.heap.size w w') : Its w' A xs := h.keep hb.size fun _ _ hl => hb.block _ hl
theorem Its.alloc {w : World} {A : Option Addr} {xs : List RC.It} (h : Its w A xs) (o : Obj) : Its (w.alloc o) A xs := h.below ((Below.refl _ w).alloc (Nat.le_refl _) _)
theorem Its.kp {S : Nat → Prop} {w w' : World} {A : Option Addr} {xs : List RC.It} (h : Its w A xs) (hk : Kp S w w') (hl : ∀ ad, A = some ad → ¬ S ad.block) : Its w' A xs := h.keep hk.size fun ad e hb => hk.block _ hb (hl ad e)
theorem Its.nil (w : World) (A : Option Addr) : Its w A [] := .inl rfl

/-- A record, and an item, as values. -/
abbrev itV (x : RC.It) : Value := .agg #[.float .f64 x.score, .string x.name]
abbrev recV (r : RC.Rc) (A : Option Addr) (c : Nat) : Value := .agg #[.int .i64 r.kind, .int .i64 r.num, .int .i64 r.low, .int .i64 r.high, .float .f64 r.real, .int .i64 r.cap, .string r.text, .slice A r.list.length c]

theorem below1 (w : World) (o : Obj) : Below w.heap.size w (w.alloc o) := (Below.refl _ w).alloc (Nat.le_refl _) _

set_option maxHeartbeats 400000 in
theorem recKnown_any (k : Int) (w : World) :
    Calls Tryd.prog 40 #[.int .i64 k] w fun e w' => e = .returned (.bool (RC.known k)) ∧ w = w' := by
  go_enter Tryd.func40, Tryd.ntmps40
  go_wp2
  all_goals
    go_ret
    refine ⟨ret_bool ?_, rfl⟩
    unfold RC.known
    rw [Bool.eq_iff_iff]; simp; try omega

set_option maxHeartbeats 400000 in
theorem within_any (n l h : Int) (w : World) :
    Calls Tryd.prog 94 #[.int .i64 n, .int .i64 l, .int .i64 h] w fun e w' => e = .returned (.bool (RC.inB l n h)) ∧ w = w' := by
  go_enter Tryd.func94, Tryd.ntmps94
  go_wp2
  all_goals
    go_ret
    refine ⟨ret_bool ?_, rfl⟩
    unfold RC.inB
    rw [Bool.eq_iff_iff]; simp; try omega

set_option maxHeartbeats 400000 in
set_option maxRecDepth 100000 in
theorem better_any (a b : RC.It) (w : World) (ha : MF.W64 a.score) (hb : MF.W64 b.score) :
    Calls Tryd.prog 123 #[itV a, itV b] w fun e w' => e = .returned (.bool (RC.better a b)) ∧ Below w.heap.size w w' := by
  obtain ⟨sa, na⟩ := a
  obtain ⟨sb, nb⟩ := b
  have Hr := Lib.hid (show RC.better ⟨sa, na⟩ ⟨sb, nb⟩ = if MF.same sa sb then RC.strLt na nb else MF.less sb sa from rfl)
  cases hs : MF.same sa sb
  all_goals
    have Hs := Lib.hid hs
    clear hs
    go_enter Tryd.func123, Tryd.ntmps123
    go_wp2_with (first
      | (go_at_call 46; refine (same_any sa sb _ ha hb).mono ?_; rw [Hs.out]; rintro e w' ⟨rfl, rfl⟩)
      | (go_at_call 118; refine (less_any sb sa _ hb ha).mono ?_; rintro e w' ⟨rfl, rfl⟩))
    go_ret
    exact ⟨ret_bool (by rw [Hr.out, Hs.out]; rfl), below2 w _ _⟩

set_option maxHeartbeats 400000 in
set_option maxRecDepth 100000 in
theorem sameItem_any (a b : RC.It) (w : World) (ha : MF.W64 a.score) (hb : MF.W64 b.score) :
    Calls Tryd.prog 48 #[itV a, itV b] w fun e w' => e = .returned (.bool (RC.sameIt a b)) ∧ Below w.heap.size w w' := by
  obtain ⟨sa, na⟩ := a
  obtain ⟨sb, nb⟩ := b
  have Hr := Lib.hid (show RC.sameIt ⟨sa, na⟩ ⟨sb, nb⟩ = (MF.same sa sb && RC.strEq na nb) from rfl)
  cases hs : MF.same sa sb
  all_goals
    have Hs := Lib.hid hs
    clear hs
    go_enter Tryd.func48, Tryd.ntmps48
    go_wp2_with (first
      | (go_at_call 46; refine (same_any sa sb _ ha hb).mono ?_; rw [Hs.out]; rintro e w' ⟨rfl, rfl⟩))
    go_ret
    exact ⟨ret_bool (by rw [Hr.out, Hs.out]; rfl), below2 w _ _⟩

set_option maxHeartbeats 400000 in
theorem fits_any (k : Int) (s : Nat) (w : World) (hs : MF.W64 s) :
    Calls Tryd.prog 96 #[.int .i64 k, .float .f64 s] w fun e w' => e = .returned (.bool (RC.fits k s)) ∧ w = w' := by
  have h0 : MF.W64 0 := by unfold MF.W64; decide
  by_cases hk : k = 8
  · subst hk
    go_enter Tryd.func96, Tryd.ntmps96
    go_wp2_with (first | (go_at_call 46; refine (same_any s 0 _ hs h0).mono ?_; rintro e w' ⟨rfl, rfl⟩))
    go_ret
    exact ⟨rfl, rfl⟩
  · have Hr := Lib.hid (show RC.fits k s = MF.proper s by unfold RC.fits; rw [if_neg hk])
    have hk' : (k == 8) = false := by simpa using hk
    clear hk
    go_enter Tryd.func96, Tryd.ntmps96
    go_wp2_with (first | (go_at_call 95; refine (proper_any s _).mono ?_; rintro e w' ⟨rfl, rfl⟩))
    go_ret
    exact ⟨ret_bool Hr.out.symm, rfl⟩

set_option maxHeartbeats 400000 in
set_option maxRecDepth 100000 in
theorem ahead_any (k : Int) (a b : RC.It) (w : World) (ha : MF.W64 a.score) (hb : MF.W64 b.score) :
    Calls Tryd.prog 97 #[.int .i64 k, itV a, itV b] w fun e w' => e = .returned (.bool (RC.ahead k a b)) ∧ Below w.heap.size w w' := by
  obtain ⟨sa, na⟩ := a
  obtain ⟨sb, nb⟩ := b
  by_cases hk : k = 8
  · subst hk
    go_enter Tryd.func97, Tryd.ntmps97
    go_wp2_with fail
    go_ret
    exact ⟨rfl, below2 w _ _⟩
  · have Hr := Lib.hid (show RC.ahead k ⟨sa, na⟩ ⟨sb, nb⟩ = RC.better ⟨sa, na⟩ ⟨sb, nb⟩ by unfold RC.ahead; rw [if_neg hk])
    have hk' : (k == 8) = false := by simpa using hk
    clear hk
    go_enter Tryd.func97, Tryd.ntmps97
    go_wp2_with fail
    refine (better_any ⟨sa, na⟩ ⟨sb, nb⟩ _ ha hb).mono ?_
    rintro e w1 ⟨rfl, hb1⟩
    go_wp2
    go_ret
    exact ⟨ret_bool Hr.out.symm, (below2 w _ _).trans (hb1.mono (by simp; omega))⟩

set_option maxHeartbeats 400000 in
theorem checkText_any (s : ByteArray) (w : World) :
    Calls Tryd.prog 42 #[.string s] w fun e w' => e = .returned (.int .i64 (RC.textE s : Nat)) ∧ w = w' := by
  by_cases h : 64 < s.size
  · have H := Lib.hid (show RC.textE s = 3 by unfold RC.textE; rw [if_pos h])
    go_enter Tryd.func42, Tryd.ntmps42
    go_wp2
    go_ret
    exact ⟨ret_nat rfl H.out, rfl⟩
  · have H := Lib.hid (show RC.textE s = 0 by unfold RC.textE; rw [if_neg h])
    go_enter Tryd.func42, Tryd.ntmps42
    go_wp2
    go_ret
    exact ⟨ret_nat rfl H.out, rfl⟩

set_option maxHeartbeats 400000 in
theorem checkReal_any (x : Nat) (w : World) :
    Calls Tryd.prog 44 #[.float .f64 x] w fun e w' => e = .returned (.int .i64 (RC.realE x : Nat)) ∧ w = w' := by
  cases h : MF.proper x
  all_goals
    have Hp := Lib.hid h
    clear h
    go_enter Tryd.func44, Tryd.ntmps44
    go_wp2_with (first | (go_at_call 95; refine (proper_any x _).mono ?_; rw [Hp.out]; rintro e w' ⟨rfl, rfl⟩))
    go_ret
    exact ⟨by first | exact ret_nat (m := 0) rfl (by unfold RC.realE; rw [Hp.out]; rfl) | exact ret_nat (m := 4) rfl (by unfold RC.realE; rw [Hp.out]; rfl), rfl⟩

set_option maxHeartbeats 1000000 in
set_option maxRecDepth 100000 in
theorem checkPurse_any (r : RC.Rc) (A : Option Addr) (c : Nat) (w : World) :
    Calls Tryd.prog 43 #[recV r A c] w fun e w' => e = .returned (.int .i64 (RC.purseE r : Nat)) ∧ Below w.heap.size w w' := by
  obtain ⟨kind, num, low, high, real, cap, text, list⟩ := r
  have Hp := Lib.hid (show RC.purseOk ⟨kind, num, low, high, real, cap, text, list⟩ = (RC.inB (-2305843009213693952) low 2305843009213693952 && RC.inB (-2305843009213693952) high 2305843009213693952 && RC.inB low num high) by
    unfold RC.purseOk RC.inB; rw [Bool.eq_iff_iff]; simp; omega)
  cases h1 : RC.inB (-2305843009213693952) low 2305843009213693952
  all_goals cases h2 : RC.inB (-2305843009213693952) high 2305843009213693952
  all_goals cases h3 : RC.inB low num high
  all_goals
    go_enter Tryd.func43, Tryd.ntmps43
    go_wp2_with (first
      | (go_at_call 94; refine (within_any _ _ _ _).mono ?_; rintro e w' ⟨rfl, rfl⟩))
    go_ret
    exact ⟨by first | exact ret_nat (m := 0) rfl (by unfold RC.purseE; rw [Hp.out, h1, h2, h3]; rfl) | exact ret_nat (m := 1) rfl (by unfold RC.purseE; rw [Hp.out, h1, h2, h3]; rfl), below1 w _⟩

end Go.Proofs.YtaaeefndhmfceaaDoor
