/- Contracts of package flo's functions: each call returns what a plain function of the bits gives. -/
import Derived.Test.YtaaeefndhmfceaaGreatDoorChecked
import Derived.Test.YtaaeefndhmfceaaGreatDoorNum
import Derived.WalkKit
import Derived.WalkSpells
import Derived.WalkLawsBesides
import Derived.Lib.Hide
import Derived.Deep.RegionWith
namespace Go.Proofs.YtaaeefndhmfceaaGreatDoor
open Go.RowKit

theorem ret_bool {a b : Bool} (h : a = b) : Ending.returned (.bool a) = .returned (.bool b) := by rw [h]
theorem ret_flo {a b : Nat} (h : a = b) : Ending.returned (.float .f64 a) = .returned (.float .f64 b) := by rw [h]
theorem ret_int {k : IntKind} {a b : Int} (h : a = b) : Ending.returned (.int k a) = .returned (.int k b) := by rw [h]

@[go_sem] theorem run_bits (x : Nat) (w : World) : (callFunc 71 #[.float .f64 x]).run Tryz.prog w = .ok (.value (.int .u64 x)) w := by
  rw [run_callFunc_extern (e := Extern.MathFloatBits.float64bits) Tryz.func71 (by kernel_rfl) (by kernel_rfl) (by kernel_rfl) (by kernel_rfl)]; rfl
@[go_sem] theorem run_frombits (n : Int) (w : World) : (callFunc 151 #[.int .u64 n]).run Tryz.prog w = .ok (.value (.float .f64 n.toNat)) w := by
  rw [run_callFunc_extern (e := Extern.MathFloatBits.float64frombits) Tryz.func151 (by kernel_rfl) (by kernel_rfl) (by kernel_rfl) (by kernel_rfl)]; rfl

set_option maxHeartbeats 400000 in
theorem isNaN_any (x : Nat) (b : Bool) (w : World) (h : MF.nan x = b) :
    Calls Tryz.prog 160 #[.float .f64 x] w fun e w' => e = .returned (.bool b) ∧ w = w' := by
  go_enter Tryz.func160, Tryz.ntmps160
  go_wp2
  go_ret
  exact ⟨ret_bool ((MF.neq_self x).trans h), rfl⟩

set_option maxHeartbeats 400000 in
theorem canon_any (x : Nat) (w : World) :
    Calls Tryz.prog 124 #[.float .f64 x] w fun e w' => e = .returned (.float .f64 (MF.canon x)) ∧ w = w' := by
  cases hn : MF.nan x
  all_goals
    have hc := MF.canon_eq x _ hn
    have Hc := Lib.hid hc
    have Hn := Lib.hid hn
    clear hc hn
    go_enter Tryz.func124, Tryz.ntmps124
    go_wp2_with (go_at_call 160; refine (isNaN_any x _ _ Hn.out).mono ?_; rintro e w' ⟨rfl, rfl⟩)
    go_ret
    exact ⟨ret_flo Hc.out.symm, rfl⟩

set_option maxHeartbeats 400000 in
theorem proper_any (x : Nat) (w : World) :
    Calls Tryz.prog 57 #[.float .f64 x] w fun e w' => e = .returned (.bool (MF.proper x)) ∧ w = w' := by
  go_enter Tryz.func57, Tryz.ntmps57
  go_wp2_with (go_at_call 124; refine (canon_any x _).mono ?_; rintro e w' ⟨rfl, rfl⟩)
  go_ret
  refine ⟨ret_bool ?_, rfl⟩
  unfold MF.proper
  rw [Bool.eq_iff_iff]; simp; omega

set_option maxHeartbeats 400000 in
theorem key_any (x : Nat) (w : World) (hx : MF.W64 x) :
    Calls Tryz.prog 123 #[.float .f64 x] w fun e w' => e = .returned (.int .u64 (MF.key x)) ∧ w = w' := by
  have hc := MF.w_canon hx
  by_cases h : MF.canon x < 9223372036854775808
  · have t := MF.top_and_no _ h
    have k := Lib.hid ((MF.top_or _ h).trans (congrArg Int.ofNat (MF.key_low h).symm))
    clear h hc
    go_enter Tryz.func123, Tryz.ntmps123
    go_wp2_with (go_at_call 124; refine (canon_any x _).mono ?_; rintro e w' ⟨rfl, rfl⟩)
    go_ret
    exact ⟨ret_int k.out, rfl⟩
  · have t := MF.top_and_yes _ (Nat.le_of_not_lt h) hc
    have k := Lib.hid ((MF.all_xor _ hc).trans (congrArg Int.ofNat (MF.key_high h).symm))
    clear h hc
    go_enter Tryz.func123, Tryz.ntmps123
    go_wp2_with (go_at_call 124; refine (canon_any x _).mono ?_; rintro e w' ⟨rfl, rfl⟩)
    go_ret
    exact ⟨ret_int k.out, rfl⟩


set_option maxHeartbeats 400000 in
theorem back_any (k : Nat) (w : World) (hk : MF.W64 k) :
    Calls Tryz.prog 165 #[.int .u64 k] w fun e w' => e = .returned (if MF.proper (MF.bk k) then .tuple #[.float .f64 (MF.bk k), .bool true] else .tuple #[.float .f64 0, .bool false]) ∧ w = w' := by
  cases hp : MF.proper (MF.bk k)
  all_goals
    have Hp := Lib.hid hp
    clear hp
    by_cases h : k < 9223372036854775808
    · have t : (bits .and .u64 (k : Int) 9223372036854775808 != 0) = false := by rw [bne, MF.top_and_no _ h]; rfl
      have x := (MF.all_xor _ hk).trans (congrArg Int.ofNat (show 18446744073709551615 - k = MF.bk k by unfold MF.bk; rw [if_pos h]))
      have x' : bits .xor .u64 IntKind.u64.max (k : Int) = (MF.bk k : Int) := x
      clear h hk x
      go_enter Tryz.func165, Tryz.ntmps165
      go_wp2_with (go_at_call 57; refine (proper_any _ _).mono ?_; rw [Hp.out]; rintro e w' ⟨rfl, rfl⟩)
      go_ret2
      exact ⟨rfl, rfl⟩
    · have t : (bits .and .u64 (k : Int) 9223372036854775808 != 0) = true := by rw [bne, MF.top_and_yes _ (Nat.le_of_not_lt h) hk]; rfl
      have x := (MF.top_andNot _ (Nat.le_of_not_lt h) hk).trans (congrArg Int.ofNat (show k - 9223372036854775808 = MF.bk k by unfold MF.bk; rw [if_neg h]))
      have x' : bits .andNot .u64 (k : Int) 9223372036854775808 = (MF.bk k : Int) := x
      clear h hk x
      go_enter Tryz.func165, Tryz.ntmps165
      go_wp2_with (go_at_call 57; refine (proper_any _ _).mono ?_; rw [Hp.out]; rintro e w' ⟨rfl, rfl⟩)
      go_ret2
      exact ⟨rfl, rfl⟩

set_option maxHeartbeats 400000 in
theorem less_any (a b : Nat) (w : World) (ha : MF.W64 a) (hb : MF.W64 b) :
    Calls Tryz.prog 156 #[.float .f64 a, .float .f64 b] w fun e w' => e = .returned (.bool (MF.less a b)) ∧ w = w' := by
  go_enter Tryz.func156, Tryz.ntmps156
  go_wp2_with (go_at_call 123; refine (key_any _ _ (by assumption)).mono ?_; rintro e w' ⟨rfl, rfl⟩)
  go_ret
  exact ⟨ret_bool rfl, rfl⟩

set_option maxHeartbeats 400000 in
theorem same_any (a b : Nat) (w : World) (ha : MF.W64 a) (hb : MF.W64 b) :
    Calls Tryz.prog 52 #[.float .f64 a, .float .f64 b] w fun e w' => e = .returned (.bool (MF.same a b)) ∧ w = w' := by
  go_enter Tryz.func52, Tryz.ntmps52
  go_wp2_with (go_at_call 123; refine (key_any _ _ (by assumption)).mono ?_; rintro e w' ⟨rfl, rfl⟩)
  go_ret
  refine ⟨ret_bool ?_, rfl⟩
  unfold MF.same
  rw [Bool.eq_iff_iff]; simp; omega

set_option maxHeartbeats 400000 in
theorem max_any (a b : Nat) (w : World) (ha : MF.W64 a) (hb : MF.W64 b) :
    Calls Tryz.prog 107 #[.float .f64 a, .float .f64 b] w fun e w' => e = .returned (.float .f64 (MF.mx a b)) ∧ w = w' := by
  cases hl : MF.less a b
  · have Hm := Lib.hid (MF.mx_no a b hl)
    have Hl := Lib.hid hl
    clear hl
    go_enter Tryz.func107, Tryz.ntmps107
    go_wp2_with (first | (go_at_call 156; refine (less_any _ _ _ ha hb).mono ?_; rw [Hl.out]; rintro e w' ⟨rfl, rfl⟩) | (go_at_call 124; refine (canon_any _ _).mono ?_; rintro e w' ⟨rfl, rfl⟩))
    go_ret
    exact ⟨ret_flo Hm.out.symm, rfl⟩
  · have Hm := Lib.hid (MF.mx_yes a b hl)
    have Hl := Lib.hid hl
    clear hl
    go_enter Tryz.func107, Tryz.ntmps107
    go_wp2_with (first | (go_at_call 156; refine (less_any _ _ _ ha hb).mono ?_; rw [Hl.out]; rintro e w' ⟨rfl, rfl⟩) | (go_at_call 124; refine (canon_any _ _).mono ?_; rintro e w' ⟨rfl, rfl⟩))
    go_ret
    exact ⟨ret_flo Hm.out.symm, rfl⟩

set_option maxHeartbeats 400000 in
theorem min_any (a b : Nat) (w : World) (ha : MF.W64 a) (hb : MF.W64 b) :
    Calls Tryz.prog 108 #[.float .f64 a, .float .f64 b] w fun e w' => e = .returned (.float .f64 (MF.mn a b)) ∧ w = w' := by
  cases hl : MF.less b a
  · have Hm := Lib.hid (MF.mn_no a b hl)
    have Hl := Lib.hid hl
    clear hl
    go_enter Tryz.func108, Tryz.ntmps108
    go_wp2_with (first | (go_at_call 156; refine (less_any _ _ _ hb ha).mono ?_; rw [Hl.out]; rintro e w' ⟨rfl, rfl⟩) | (go_at_call 124; refine (canon_any _ _).mono ?_; rintro e w' ⟨rfl, rfl⟩))
    go_ret
    exact ⟨ret_flo Hm.out.symm, rfl⟩
  · have Hm := Lib.hid (MF.mn_yes a b hl)
    have Hl := Lib.hid hl
    clear hl
    go_enter Tryz.func108, Tryz.ntmps108
    go_wp2_with (first | (go_at_call 156; refine (less_any _ _ _ hb ha).mono ?_; rw [Hl.out]; rintro e w' ⟨rfl, rfl⟩) | (go_at_call 124; refine (canon_any _ _).mono ?_; rintro e w' ⟨rfl, rfl⟩))
    go_ret
    exact ⟨ret_flo Hm.out.symm, rfl⟩

set_option maxHeartbeats 400000 in
theorem plus_some (a b r : Nat) (w : World) (hs : Ieee.double.add a b = some r) :
    Calls Tryz.prog 109 #[.float .f64 a, .float .f64 b] w fun e w' => e = .returned (.float .f64 (MF.canon r)) ∧ w = w' := by
  have hr := fun w => run_float_arith (P := Tryz.prog) w .add 22 .f64 a b r hs
  have hv := fun (x : Nat) (w : World) => run_convert_float_float (P := Tryz.prog) w 22 22 .f64 .f64 x x (by rw [Tryz.underlying22]; rfl) Tryz.underlying22 (by unfold floatToFloatBits; rw [if_pos rfl])
  clear hs
  go_enter Tryz.func109, Tryz.ntmps109
  go_wp2_with (go_at_call 124; refine (canon_any _ _).mono ?_; rintro e w' ⟨rfl, rfl⟩)
  go_ret
  exact ⟨rfl, rfl⟩

set_option maxHeartbeats 400000 in
/-- A sum: what the machine reckons, in its one form; if that is no number, its bits were drawn. -/
theorem plus_any (a b : Nat) (w : World) :
    Calls Tryz.prog 109 #[.float .f64 a, .float .f64 b] w fun e w' => e = .returned (.float .f64 (MF.plus a b)) ∧ ∃ k, w' = w.drewN k := by
  cases hs : Ieee.double.add a b with
  | some r =>
    have hr := fun w => run_float_arith (P := Tryz.prog) w .add 22 .f64 a b r hs
    have Hp := Lib.hid (show MF.plus a b = MF.canon r by unfold MF.plus; rw [hs]; rfl)
    have hv := fun (x : Nat) (w : World) => run_convert_float_float (P := Tryz.prog) w 22 22 .f64 .f64 x x (by rw [Tryz.underlying22]; rfl) Tryz.underlying22 (by unfold floatToFloatBits; rw [if_pos rfl])
    clear hs
    go_enter Tryz.func109, Tryz.ntmps109
    go_wp2_with (go_at_call 124; refine (canon_any _ _).mono ?_; rintro e w' ⟨rfl, rfl⟩)
    go_ret
    exact ⟨ret_flo Hp.out.symm, 0, rfl⟩
  | none =>
    have hn := MF.nan_nb w a b
    have hr := MF.run_nb (P := Tryz.prog) .add 22 a b w (.inl rfl) hs
    have Hp := Lib.hid (show MF.plus a b = MF.canon (MF.nb w a b) by unfold MF.plus; rw [hs, MF.canon_eq _ true hn]; rfl)
    have hv := fun (x : Nat) (w : World) => run_convert_float_float (P := Tryz.prog) w 22 22 .f64 .f64 x x (by rw [Tryz.underlying22]; rfl) Tryz.underlying22 (by unfold floatToFloatBits; rw [if_pos rfl])
    clear hs hn
    go_enter Tryz.func109, Tryz.ntmps109
    go_wp2_with (go_at_call 124; refine (canon_any _ _).mono ?_; rintro e w' ⟨rfl, rfl⟩)
    go_ret
    exact ⟨ret_flo Hp.out.symm, 1, rfl⟩

set_option maxHeartbeats 400000 in
theorem times_some (a b r : Nat) (w : World) (hs : Ieee.double.mul a b = some r) :
    Calls Tryz.prog 110 #[.float .f64 a, .float .f64 b] w fun e w' => e = .returned (.float .f64 (MF.canon r)) ∧ w = w' := by
  have hr := fun w => run_float_arith (P := Tryz.prog) w .mul 22 .f64 a b r hs
  have hv := fun (x : Nat) (w : World) => run_convert_float_float (P := Tryz.prog) w 22 22 .f64 .f64 x x (by rw [Tryz.underlying22]; rfl) Tryz.underlying22 (by unfold floatToFloatBits; rw [if_pos rfl])
  clear hs
  go_enter Tryz.func110, Tryz.ntmps110
  go_wp2_with (go_at_call 124; refine (canon_any _ _).mono ?_; rintro e w' ⟨rfl, rfl⟩)
  go_ret
  exact ⟨rfl, rfl⟩

set_option maxHeartbeats 400000 in
theorem times_any (a b : Nat) (w : World) :
    Calls Tryz.prog 110 #[.float .f64 a, .float .f64 b] w fun e w' => e = .returned (.float .f64 (MF.times a b)) ∧ ∃ k, w' = w.drewN k := by
  cases hs : Ieee.double.mul a b with
  | some r =>
    have hr := fun w => run_float_arith (P := Tryz.prog) w .mul 22 .f64 a b r hs
    have Hp := Lib.hid (show MF.times a b = MF.canon r by unfold MF.times; rw [hs]; rfl)
    have hv := fun (x : Nat) (w : World) => run_convert_float_float (P := Tryz.prog) w 22 22 .f64 .f64 x x (by rw [Tryz.underlying22]; rfl) Tryz.underlying22 (by unfold floatToFloatBits; rw [if_pos rfl])
    clear hs
    go_enter Tryz.func110, Tryz.ntmps110
    go_wp2_with (go_at_call 124; refine (canon_any _ _).mono ?_; rintro e w' ⟨rfl, rfl⟩)
    go_ret
    exact ⟨ret_flo Hp.out.symm, 0, rfl⟩
  | none =>
    have hn := MF.nan_nb w a b
    have hr := MF.run_nb (P := Tryz.prog) .mul 22 a b w (.inr rfl) hs
    have Hp := Lib.hid (show MF.times a b = MF.canon (MF.nb w a b) by unfold MF.times; rw [hs, MF.canon_eq _ true hn]; rfl)
    have hv := fun (x : Nat) (w : World) => run_convert_float_float (P := Tryz.prog) w 22 22 .f64 .f64 x x (by rw [Tryz.underlying22]; rfl) Tryz.underlying22 (by unfold floatToFloatBits; rw [if_pos rfl])
    clear hs hn
    go_enter Tryz.func110, Tryz.ntmps110
    go_wp2_with (go_at_call 124; refine (canon_any _ _).mono ?_; rintro e w' ⟨rfl, rfl⟩)
    go_ret
    exact ⟨ret_flo Hp.out.symm, 1, rfl⟩

/-! ### the document's own -/
set_option maxHeartbeats 400000 in
theorem rnone_any (x : Nat) (b : Bool) (w : World) (h : MF.nan x = b) :
    Calls Tryz.prog 70 #[.float .f64 x] w fun e w' => e = .returned (.bool b) ∧ w = w' := by
  go_enter Tryz.func70, Tryz.ntmps70
  go_wp2
  go_ret
  exact ⟨ret_bool ((MF.neq_self x).trans h), rfl⟩

set_option maxHeartbeats 400000 in
theorem rbelow_any (x : Nat) (w : World) (hn : MF.nan x = false) :
    Calls Tryz.prog 133 #[.float .f64 x] w fun e w' => e = .returned (.bool (MF.rbelow x)) ∧ w = w' := by
  by_cases h : MF.rung x = 0
  · have t : (FloatKind.f64.format.order x 0 == some .eq) = true := (MF.order_zero_eq x).trans (by simp [h, hn])
    have q := fun w => run_float_arith (P := Tryz.prog) w .quo 22 .f64 4607182418800017408 x _ (MF.div_zero x h)
    have H := Lib.hid (show MF.rbelow x = MF.neg x by unfold MF.rbelow; rw [if_pos h])
    clear h hn
    go_enter Tryz.func133, Tryz.ntmps133
    go_wp2
    go_ret
    exact ⟨ret_bool ((MF.winf_lt _).trans H.out.symm), rfl⟩
  · have t : (FloatKind.f64.format.order x 0 == some .eq) = false := (MF.order_zero_eq x).trans (by simp [h, hn])
    have H := Lib.hid (show (Ieee.double.order x 0 == some .lt) = MF.rbelow x by rw [MF.order_zero_lt]; unfold MF.rbelow; rw [if_neg h, hn]; rfl)
    clear h hn
    go_enter Tryz.func133, Tryz.ntmps133
    go_wp2
    go_ret
    exact ⟨ret_bool H.out, rfl⟩


set_option maxHeartbeats 400000 in
theorem rless_any (a b : Nat) (w : World) (ha : MF.W64 a) (hb : MF.W64 b) :
    Calls Tryz.prog 69 #[.float .f64 a, .float .f64 b] w fun e w' => e = .returned (.bool (MF.less a b)) ∧ w = w' := by
  have Hl := Lib.hid (MF.rless_eq ha hb)
  clear ha hb
  cases na : MF.nan a
  · cases nb : MF.nan b
    · have ea : (FloatKind.f64.format.order a 0 == some .eq) = decide (MF.rung a = 0) := (MF.order_zero_eq a).trans (by rw [na]; rfl)
      have eb : (FloatKind.f64.format.order b 0 == some .eq) = decide (MF.rung b = 0) := (MF.order_zero_eq b).trans (by rw [nb]; rfl)
      by_cases z : MF.rung a = 0 ∧ MF.rung b = 0
      · obtain ⟨za, zb⟩ := z
        rw [decide_eq_true za] at ea
        rw [decide_eq_true zb] at eb
        have H := Lib.hid (show MF.rless a b = (MF.rbelow a && !MF.rbelow b) by unfold MF.rless; simp [na, nb, za, zb, MF.val_zero])
        clear za zb
        cases va : MF.rbelow a
        all_goals
          go_enter Tryz.func69, Tryz.ntmps69
          go_wp2_with (first | (go_at_call 70; refine (rnone_any _ _ _ (by assumption)).mono ?_; rintro e w' ⟨rfl, rfl⟩) | (go_at_call 133; refine (rbelow_any _ _ (by assumption)).mono ?_; rintro e w' ⟨rfl, rfl⟩))
          go_ret
          exact ⟨ret_bool (by rw [← Hl.out, H.out, va]; first | rfl | simp), rfl⟩
      · have H := Lib.hid (show (Ieee.double.order a b == some .lt) = MF.rless a b by rw [MF.order_lt]; unfold MF.rless; simp [na, nb, MF.val_zero, z])
        by_cases za : MF.rung a = 0
        · have zb : ¬ MF.rung b = 0 := fun h => z ⟨za, h⟩
          rw [decide_eq_true za] at ea
          rw [decide_eq_false zb] at eb
          clear za zb z
          go_enter Tryz.func69, Tryz.ntmps69
          go_wp2_with (first | (go_at_call 70; refine (rnone_any _ _ _ (by assumption)).mono ?_; rintro e w' ⟨rfl, rfl⟩))
          go_ret
          exact ⟨ret_bool (H.out.trans Hl.out), rfl⟩
        · rw [decide_eq_false za] at ea
          clear za z eb
          go_enter Tryz.func69, Tryz.ntmps69
          go_wp2_with (first | (go_at_call 70; refine (rnone_any _ _ _ (by assumption)).mono ?_; rintro e w' ⟨rfl, rfl⟩))
          go_ret
          exact ⟨ret_bool (H.out.trans Hl.out), rfl⟩
    · have H := Lib.hid (show MF.rless a b = true by unfold MF.rless; simp [na, nb])
      go_enter Tryz.func69, Tryz.ntmps69
      go_wp2_with (first | (go_at_call 70; refine (rnone_any _ _ _ (by assumption)).mono ?_; rintro e w' ⟨rfl, rfl⟩))
      go_ret
      exact ⟨ret_bool (H.out.symm.trans Hl.out), rfl⟩
  · have H := Lib.hid (show MF.rless a b = false by unfold MF.rless; simp [na])
    go_enter Tryz.func69, Tryz.ntmps69
    go_wp2_with (first | (go_at_call 70; refine (rnone_any _ _ _ (by assumption)).mono ?_; rintro e w' ⟨rfl, rfl⟩))
    go_ret
    exact ⟨ret_bool (H.out.symm.trans Hl.out), rfl⟩

set_option maxHeartbeats 400000 in
theorem rsame_any (a b : Nat) (w : World) (ha : MF.W64 a) (hb : MF.W64 b) :
    Calls Tryz.prog 33 #[.float .f64 a, .float .f64 b] w fun e w' => e = .returned (.bool (MF.same a b)) ∧ w = w' := by
  have Hl := Lib.hid (show (!MF.less a b && !MF.less b a) = MF.same a b by unfold MF.less MF.same; rw [Bool.eq_iff_iff]; simp; omega)
  cases la : MF.less a b
  all_goals
    go_enter Tryz.func33, Tryz.ntmps33
    go_wp2_with (go_at_call 69; refine (rless_any _ _ _ (by assumption) (by assumption)).mono ?_; rintro e w' ⟨rfl, rfl⟩)
    go_ret
    exact ⟨ret_bool (by rw [← Hl.out, la]; first | rfl | simp), rfl⟩

set_option maxHeartbeats 400000 in
theorem rmax_any (a b : Nat) (w : World) (ha : MF.W64 a) (hb : MF.W64 b) :
    Calls Tryz.prog 117 #[.float .f64 a, .float .f64 b] w fun e w' => e = .returned (.float .f64 (MF.rmx a b)) ∧ w = w' := by
  cases la : MF.less a b
  all_goals
    go_enter Tryz.func117, Tryz.ntmps117
    go_wp2_with (go_at_call 69; refine (rless_any _ _ _ (by assumption) (by assumption)).mono ?_; rintro e w' ⟨rfl, rfl⟩)
    go_ret
    exact ⟨ret_flo (by unfold MF.rmx; rw [la]; rfl), rfl⟩

set_option maxHeartbeats 400000 in
theorem rmin_any (a b : Nat) (w : World) (ha : MF.W64 a) (hb : MF.W64 b) :
    Calls Tryz.prog 118 #[.float .f64 a, .float .f64 b] w fun e w' => e = .returned (.float .f64 (MF.rmn a b)) ∧ w = w' := by
  cases la : MF.less b a
  all_goals
    go_enter Tryz.func118, Tryz.ntmps118
    go_wp2_with (go_at_call 69; refine (rless_any _ _ _ (by assumption) (by assumption)).mono ?_; rintro e w' ⟨rfl, rfl⟩)
    go_ret
    exact ⟨ret_flo (by unfold MF.rmn; rw [la]; rfl), rfl⟩

end Go.Proofs.YtaaeefndhmfceaaGreatDoor
