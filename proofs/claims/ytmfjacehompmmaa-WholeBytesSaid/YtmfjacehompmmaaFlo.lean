/- Contracts of package flo's functions: each call returns what a plain function of the bits gives. -/
import Derived.Test.YtmfjacehompmmaaChecked
import Derived.Test.YtmfjacehompmmaaBits
import Derived.WalkKit
import Derived.WalkSpells
import Derived.WalkLawsBesides
import Derived.Lib.Hide
import Derived.Deep.RegionWith
namespace Go.Proofs.Ytmfjacehompmmaa
open Go.RowKit

theorem ret_bool {a b : Bool} (h : a = b) : Ending.returned (.bool a) = .returned (.bool b) := by rw [h]
theorem ret_flo {a b : Nat} (h : a = b) : Ending.returned (.float .f64 a) = .returned (.float .f64 b) := by rw [h]
theorem ret_int {k : IntKind} {a b : Int} (h : a = b) : Ending.returned (.int k a) = .returned (.int k b) := by rw [h]

@[go_sem] theorem run_bits (x : Nat) (w : World) : (callFunc 64 #[.float .f64 x]).run Try.prog w = .ok (.value (.int .u64 x)) w := by
  rw [run_callFunc_extern (e := Extern.MathFloatBits.float64bits) Try.func64 (by kernel_rfl) (by kernel_rfl) (by kernel_rfl) (by kernel_rfl)]; rfl
@[go_sem] theorem run_frombits (n : Int) (w : World) : (callFunc 71 #[.int .u64 n]).run Try.prog w = .ok (.value (.float .f64 n.toNat)) w := by
  rw [run_callFunc_extern (e := Extern.MathFloatBits.float64frombits) Try.func71 (by kernel_rfl) (by kernel_rfl) (by kernel_rfl) (by kernel_rfl)]; rfl

set_option maxHeartbeats 400000 in
theorem isNaN_any (x : Nat) (b : Bool) (w : World) (h : MF.nan x = b) :
    Calls Try.prog 70 #[.float .f64 x] w fun e w' => e = .returned (.bool b) ∧ w = w' := by
  go_enter Try.func70, Try.ntmps70
  go_wp2
  go_ret
  exact ⟨ret_bool ((MF.neq_self x).trans h), rfl⟩

set_option maxHeartbeats 400000 in
theorem canon_any (x : Nat) (w : World) :
    Calls Try.prog 51 #[.float .f64 x] w fun e w' => e = .returned (.float .f64 (MF.canon x)) ∧ w = w' := by
  cases hn : MF.nan x
  all_goals
    have hc := MF.canon_eq x _ hn
    have Hc := Lib.hid hc
    have Hn := Lib.hid hn
    clear hc hn
    go_enter Try.func51, Try.ntmps51
    go_wp2_with (go_at_call 70; refine (isNaN_any x _ _ Hn.out).mono ?_; rintro e w' ⟨rfl, rfl⟩)
    go_ret
    exact ⟨ret_flo Hc.out.symm, rfl⟩

set_option maxHeartbeats 400000 in
theorem proper_any (x : Nat) (w : World) :
    Calls Try.prog 90 #[.float .f64 x] w fun e w' => e = .returned (.bool (MF.proper x)) ∧ w = w' := by
  go_enter Try.func90, Try.ntmps90
  go_wp2_with (go_at_call 51; refine (canon_any x _).mono ?_; rintro e w' ⟨rfl, rfl⟩)
  go_ret
  refine ⟨ret_bool ?_, rfl⟩
  unfold MF.proper
  rw [Bool.eq_iff_iff]; simp; omega

set_option maxHeartbeats 400000 in
theorem key_any (x : Nat) (w : World) (hx : MF.W64 x) :
    Calls Try.prog 42 #[.float .f64 x] w fun e w' => e = .returned (.int .u64 (MF.key x)) ∧ w = w' := by
  have hc := MF.w_canon hx
  by_cases h : MF.canon x < 9223372036854775808
  · have t := MF.top_and_no _ h
    have k := Lib.hid ((MF.top_or _ h).trans (congrArg Int.ofNat (MF.key_low h).symm))
    clear h hc
    go_enter Try.func42, Try.ntmps42
    go_wp2_with (go_at_call 51; refine (canon_any x _).mono ?_; rintro e w' ⟨rfl, rfl⟩)
    go_ret
    exact ⟨ret_int k.out, rfl⟩
  · have t := MF.top_and_yes _ (Nat.le_of_not_lt h) hc
    have k := Lib.hid ((MF.all_xor _ hc).trans (congrArg Int.ofNat (MF.key_high h).symm))
    clear h hc
    go_enter Try.func42, Try.ntmps42
    go_wp2_with (go_at_call 51; refine (canon_any x _).mono ?_; rintro e w' ⟨rfl, rfl⟩)
    go_ret
    exact ⟨ret_int k.out, rfl⟩


set_option maxHeartbeats 400000 in
theorem back_any (k : Nat) (w : World) (hk : MF.W64 k) :
    Calls Try.prog 83 #[.int .u64 k] w fun e w' => e = .returned (if MF.proper (MF.bk k) then .tuple #[.float .f64 (MF.bk k), .bool true] else .tuple #[.float .f64 0, .bool false]) ∧ w = w' := by
  cases hp : MF.proper (MF.bk k)
  all_goals
    have Hp := Lib.hid hp
    clear hp
    by_cases h : k < 9223372036854775808
    · have t : (bits .and .u64 (k : Int) 9223372036854775808 != 0) = false := by rw [bne, MF.top_and_no _ h]; rfl
      have x := (MF.all_xor _ hk).trans (congrArg Int.ofNat (show 18446744073709551615 - k = MF.bk k by unfold MF.bk; rw [if_pos h]))
      have x' : bits .xor .u64 IntKind.u64.max (k : Int) = (MF.bk k : Int) := x
      clear h hk x
      go_enter Try.func83, Try.ntmps83
      go_wp2_with (go_at_call 90; refine (proper_any _ _).mono ?_; rw [Hp.out]; rintro e w' ⟨rfl, rfl⟩)
      go_ret2
      exact ⟨rfl, rfl⟩
    · have t : (bits .and .u64 (k : Int) 9223372036854775808 != 0) = true := by rw [bne, MF.top_and_yes _ (Nat.le_of_not_lt h) hk]; rfl
      have x := (MF.top_andNot _ (Nat.le_of_not_lt h) hk).trans (congrArg Int.ofNat (show k - 9223372036854775808 = MF.bk k by unfold MF.bk; rw [if_neg h]))
      have x' : bits .andNot .u64 (k : Int) 9223372036854775808 = (MF.bk k : Int) := x
      clear h hk x
      go_enter Try.func83, Try.ntmps83
      go_wp2_with (go_at_call 90; refine (proper_any _ _).mono ?_; rw [Hp.out]; rintro e w' ⟨rfl, rfl⟩)
      go_ret2
      exact ⟨rfl, rfl⟩

set_option maxHeartbeats 400000 in
theorem less_any (a b : Nat) (w : World) (ha : MF.W64 a) (hb : MF.W64 b) :
    Calls Try.prog 20 #[.float .f64 a, .float .f64 b] w fun e w' => e = .returned (.bool (MF.less a b)) ∧ w = w' := by
  go_enter Try.func20, Try.ntmps20
  go_wp2_with (go_at_call 42; refine (key_any _ _ (by assumption)).mono ?_; rintro e w' ⟨rfl, rfl⟩)
  go_ret
  exact ⟨ret_bool rfl, rfl⟩

set_option maxHeartbeats 400000 in
theorem same_any (a b : Nat) (w : World) (ha : MF.W64 a) (hb : MF.W64 b) :
    Calls Try.prog 21 #[.float .f64 a, .float .f64 b] w fun e w' => e = .returned (.bool (MF.same a b)) ∧ w = w' := by
  go_enter Try.func21, Try.ntmps21
  go_wp2_with (go_at_call 42; refine (key_any _ _ (by assumption)).mono ?_; rintro e w' ⟨rfl, rfl⟩)
  go_ret
  refine ⟨ret_bool ?_, rfl⟩
  unfold MF.same
  rw [Bool.eq_iff_iff]; simp; omega

set_option maxHeartbeats 400000 in
theorem max_any (a b : Nat) (w : World) (ha : MF.W64 a) (hb : MF.W64 b) :
    Calls Try.prog 32 #[.float .f64 a, .float .f64 b] w fun e w' => e = .returned (.float .f64 (MF.mx a b)) ∧ w = w' := by
  cases hl : MF.less a b
  · have Hm := Lib.hid (MF.mx_no a b hl)
    have Hl := Lib.hid hl
    clear hl
    go_enter Try.func32, Try.ntmps32
    go_wp2_with (first | (go_at_call 20; refine (less_any _ _ _ ha hb).mono ?_; rw [Hl.out]; rintro e w' ⟨rfl, rfl⟩) | (go_at_call 51; refine (canon_any _ _).mono ?_; rintro e w' ⟨rfl, rfl⟩))
    go_ret
    exact ⟨ret_flo Hm.out.symm, rfl⟩
  · have Hm := Lib.hid (MF.mx_yes a b hl)
    have Hl := Lib.hid hl
    clear hl
    go_enter Try.func32, Try.ntmps32
    go_wp2_with (first | (go_at_call 20; refine (less_any _ _ _ ha hb).mono ?_; rw [Hl.out]; rintro e w' ⟨rfl, rfl⟩) | (go_at_call 51; refine (canon_any _ _).mono ?_; rintro e w' ⟨rfl, rfl⟩))
    go_ret
    exact ⟨ret_flo Hm.out.symm, rfl⟩

set_option maxHeartbeats 400000 in
theorem min_any (a b : Nat) (w : World) (ha : MF.W64 a) (hb : MF.W64 b) :
    Calls Try.prog 33 #[.float .f64 a, .float .f64 b] w fun e w' => e = .returned (.float .f64 (MF.mn a b)) ∧ w = w' := by
  cases hl : MF.less b a
  · have Hm := Lib.hid (MF.mn_no a b hl)
    have Hl := Lib.hid hl
    clear hl
    go_enter Try.func33, Try.ntmps33
    go_wp2_with (first | (go_at_call 20; refine (less_any _ _ _ hb ha).mono ?_; rw [Hl.out]; rintro e w' ⟨rfl, rfl⟩) | (go_at_call 51; refine (canon_any _ _).mono ?_; rintro e w' ⟨rfl, rfl⟩))
    go_ret
    exact ⟨ret_flo Hm.out.symm, rfl⟩
  · have Hm := Lib.hid (MF.mn_yes a b hl)
    have Hl := Lib.hid hl
    clear hl
    go_enter Try.func33, Try.ntmps33
    go_wp2_with (first | (go_at_call 20; refine (less_any _ _ _ hb ha).mono ?_; rw [Hl.out]; rintro e w' ⟨rfl, rfl⟩) | (go_at_call 51; refine (canon_any _ _).mono ?_; rintro e w' ⟨rfl, rfl⟩))
    go_ret
    exact ⟨ret_flo Hm.out.symm, rfl⟩

/-! ### the document's own -/
set_option maxHeartbeats 400000 in
theorem rnone_any (x : Nat) (b : Bool) (w : World) (h : MF.nan x = b) :
    Calls Try.prog 54 #[.float .f64 x] w fun e w' => e = .returned (.bool b) ∧ w = w' := by
  go_enter Try.func54, Try.ntmps54
  go_wp2
  go_ret
  exact ⟨ret_bool ((MF.neq_self x).trans h), rfl⟩

set_option maxHeartbeats 400000 in
theorem rbelow_any (x : Nat) (w : World) (hn : MF.nan x = false) :
    Calls Try.prog 55 #[.float .f64 x] w fun e w' => e = .returned (.bool (MF.rbelow x)) ∧ w = w' := by
  by_cases h : MF.rung x = 0
  · have t : (FloatKind.f64.format.order x 0 == some .eq) = true := (MF.order_zero_eq x).trans (by simp [h, hn])
    have q := fun w => run_float_arith (P := Try.prog) w .quo 42 .f64 4607182418800017408 x _ (MF.div_zero x h)
    have H := Lib.hid (show MF.rbelow x = MF.neg x by unfold MF.rbelow; rw [if_pos h])
    clear h hn
    go_enter Try.func55, Try.ntmps55
    go_wp2
    go_ret
    exact ⟨ret_bool ((MF.winf_lt _).trans H.out.symm), rfl⟩
  · have t : (FloatKind.f64.format.order x 0 == some .eq) = false := (MF.order_zero_eq x).trans (by simp [h, hn])
    have H := Lib.hid (show (Ieee.double.order x 0 == some .lt) = MF.rbelow x by rw [MF.order_zero_lt]; unfold MF.rbelow; rw [if_neg h, hn]; rfl)
    clear h hn
    go_enter Try.func55, Try.ntmps55
    go_wp2
    go_ret
    exact ⟨ret_bool H.out, rfl⟩


set_option maxHeartbeats 400000 in
theorem rless_any (a b : Nat) (w : World) (ha : MF.W64 a) (hb : MF.W64 b) :
    Calls Try.prog 35 #[.float .f64 a, .float .f64 b] w fun e w' => e = .returned (.bool (MF.less a b)) ∧ w = w' := by
  have Hl := Lib.hid (MF.rless_eq ha hb)
  clear ha hb
  cases na : MF.nan a
  · cases nb : MF.nan b
    · have ea : (FloatKind.f64.format.order a 0 == some .eq) = decide (MF.rung a = 0) := (MF.order_zero_eq a).trans (by rw [na]; rfl)
      have eb : (FloatKind.f64.format.order b 0 == some .eq) = decide (MF.rung b = 0) := (MF.order_zero_eq b).trans (by rw [nb]; rfl)
      by_cases z : MF.rung a = 0 ∧ MF.rung b = 0
      · obtain ⟨za, zb⟩ := z
        rw [decide_eq_true za] at ea
        rw [decide_eq_true zb] at eb
        have H := Lib.hid (show MF.rless a b = (MF.rbelow a && !MF.rbelow b) by unfold MF.rless; simp [na, nb, za, zb, MF.val_zero])
        clear za zb
        cases va : MF.rbelow a
        all_goals
          go_enter Try.func35, Try.ntmps35
          go_wp2_with (first | (go_at_call 54; refine (rnone_any _ _ _ (by assumption)).mono ?_; rintro e w' ⟨rfl, rfl⟩) | (go_at_call 55; refine (rbelow_any _ _ (by assumption)).mono ?_; rintro e w' ⟨rfl, rfl⟩))
          go_ret
          exact ⟨ret_bool (by rw [← Hl.out, H.out, va]; first | rfl | simp), rfl⟩
      · have H := Lib.hid (show (Ieee.double.order a b == some .lt) = MF.rless a b by rw [MF.order_lt]; unfold MF.rless; simp [na, nb, MF.val_zero, z])
        by_cases za : MF.rung a = 0
        · have zb : ¬ MF.rung b = 0 := fun h => z ⟨za, h⟩
          rw [decide_eq_true za] at ea
          rw [decide_eq_false zb] at eb
          clear za zb z
          go_enter Try.func35, Try.ntmps35
          go_wp2_with (first | (go_at_call 54; refine (rnone_any _ _ _ (by assumption)).mono ?_; rintro e w' ⟨rfl, rfl⟩))
          go_ret
          exact ⟨ret_bool (H.out.trans Hl.out), rfl⟩
        · rw [decide_eq_false za] at ea
          clear za z eb
          go_enter Try.func35, Try.ntmps35
          go_wp2_with (first | (go_at_call 54; refine (rnone_any _ _ _ (by assumption)).mono ?_; rintro e w' ⟨rfl, rfl⟩))
          go_ret
          exact ⟨ret_bool (H.out.trans Hl.out), rfl⟩
    · have H := Lib.hid (show MF.rless a b = true by unfold MF.rless; simp [na, nb])
      go_enter Try.func35, Try.ntmps35
      go_wp2_with (first | (go_at_call 54; refine (rnone_any _ _ _ (by assumption)).mono ?_; rintro e w' ⟨rfl, rfl⟩))
      go_ret
      exact ⟨ret_bool (H.out.symm.trans Hl.out), rfl⟩
  · have H := Lib.hid (show MF.rless a b = false by unfold MF.rless; simp [na])
    go_enter Try.func35, Try.ntmps35
    go_wp2_with (first | (go_at_call 54; refine (rnone_any _ _ _ (by assumption)).mono ?_; rintro e w' ⟨rfl, rfl⟩))
    go_ret
    exact ⟨ret_bool (H.out.symm.trans Hl.out), rfl⟩

end Go.Proofs.Ytmfjacehompmmaa
