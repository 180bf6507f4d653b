/- Contracts of package flo's functions: each call returns what a plain function of the bits gives. -/
import Derived.Test.YtaaeefndhmfceaaDoorChecked
import Derived.Test.YtaaeefndhmfceaaDoorNum
import Derived.WalkKit
import Derived.WalkSpells
import Derived.WalkLawsBesides
import Derived.Lib.Hide
import Derived.Deep.RegionWith
namespace Go.Proofs.YtaaeefndhmfceaaDoor
open Go.RowKit

theorem ret_bool {a b : Bool} (h : a = b) : Ending.returned (.bool a) = .returned (.bool b) := by rw [h]
theorem ret_flo {a b : Nat} (h : a = b) : Ending.returned (.float .f64 a) = .returned (.float .f64 b) := by rw [h]
theorem ret_int {k : IntKind} {a b : Int} (h : a = b) : Ending.returned (.int k a) = .returned (.int k b) := by rw [h]

@[go_sem] theorem run_bits (x : Nat) (w : World) : (callFunc 67 #[.float .f64 x]).run Tryd.prog w = .ok (.value (.int .u64 x)) w := by
  rw [run_callFunc_extern (e := Extern.MathFloatBits.float64bits) Tryd.func67 (by kernel_rfl) (by kernel_rfl) (by kernel_rfl) (by kernel_rfl)]; rfl
@[go_sem] theorem run_frombits (n : Int) (w : World) : (callFunc 129 #[.int .u64 n]).run Tryd.prog w = .ok (.value (.float .f64 n.toNat)) w := by
  rw [run_callFunc_extern (e := Extern.MathFloatBits.float64frombits) Tryd.func129 (by kernel_rfl) (by kernel_rfl) (by kernel_rfl) (by kernel_rfl)]; rfl

set_option maxHeartbeats 400000 in
theorem isNaN_any (x : Nat) (b : Bool) (w : World) (h : MF.nan x = b) :
    Calls Tryd.prog 128 #[.float .f64 x] w fun e w' => e = .returned (.bool b) ∧ w = w' := by
  go_enter Tryd.func128, Tryd.ntmps128
  go_wp2
  go_ret
  exact ⟨ret_bool ((MF.neq_self x).trans h), rfl⟩

set_option maxHeartbeats 400000 in
theorem canon_any (x : Nat) (w : World) :
    Calls Tryd.prog 119 #[.float .f64 x] w fun e w' => e = .returned (.float .f64 (MF.canon x)) ∧ w = w' := by
  cases hn : MF.nan x
  all_goals
    have hc := MF.canon_eq x _ hn
    have Hc := Lib.hid hc
    have Hn := Lib.hid hn
    clear hc hn
    go_enter Tryd.func119, Tryd.ntmps119
    go_wp2_with (go_at_call 128; refine (isNaN_any x _ _ Hn.out).mono ?_; rintro e w' ⟨rfl, rfl⟩)
    go_ret
    exact ⟨ret_flo Hc.out.symm, rfl⟩

set_option maxHeartbeats 400000 in
theorem proper_any (x : Nat) (w : World) :
    Calls Tryd.prog 95 #[.float .f64 x] w fun e w' => e = .returned (.bool (MF.proper x)) ∧ w = w' := by
  go_enter Tryd.func95, Tryd.ntmps95
  go_wp2_with (go_at_call 119; refine (canon_any x _).mono ?_; rintro e w' ⟨rfl, rfl⟩)
  go_ret
  refine ⟨ret_bool ?_, rfl⟩
  unfold MF.proper
  rw [Bool.eq_iff_iff]; simp; omega

set_option maxHeartbeats 400000 in
theorem key_any (x : Nat) (w : World) (hx : MF.W64 x) :
    Calls Tryd.prog 98 #[.float .f64 x] w fun e w' => e = .returned (.int .u64 (MF.key x)) ∧ w = w' := by
  have hc := MF.w_canon hx
  by_cases h : MF.canon x < 9223372036854775808
  · have t := MF.top_and_no _ h
    have k := Lib.hid ((MF.top_or _ h).trans (congrArg Int.ofNat (MF.key_low h).symm))
    clear h hc
    go_enter Tryd.func98, Tryd.ntmps98
    go_wp2_with (go_at_call 119; refine (canon_any x _).mono ?_; rintro e w' ⟨rfl, rfl⟩)
    go_ret
    exact ⟨ret_int k.out, rfl⟩
  · have t := MF.top_and_yes _ (Nat.le_of_not_lt h) hc
    have k := Lib.hid ((MF.all_xor _ hc).trans (congrArg Int.ofNat (MF.key_high h).symm))
    clear h hc
    go_enter Tryd.func98, Tryd.ntmps98
    go_wp2_with (go_at_call 119; refine (canon_any x _).mono ?_; rintro e w' ⟨rfl, rfl⟩)
    go_ret
    exact ⟨ret_int k.out, rfl⟩

set_option maxHeartbeats 400000 in
theorem less_any (a b : Nat) (w : World) (ha : MF.W64 a) (hb : MF.W64 b) :
    Calls Tryd.prog 118 #[.float .f64 a, .float .f64 b] w fun e w' => e = .returned (.bool (MF.less a b)) ∧ w = w' := by
  go_enter Tryd.func118, Tryd.ntmps118
  go_wp2_with (go_at_call 98; refine (key_any _ _ (by assumption)).mono ?_; rintro e w' ⟨rfl, rfl⟩)
  go_ret
  exact ⟨ret_bool rfl, rfl⟩

set_option maxHeartbeats 400000 in
theorem same_any (a b : Nat) (w : World) (ha : MF.W64 a) (hb : MF.W64 b) :
    Calls Tryd.prog 46 #[.float .f64 a, .float .f64 b] w fun e w' => e = .returned (.bool (MF.same a b)) ∧ w = w' := by
  go_enter Tryd.func46, Tryd.ntmps46
  go_wp2_with (go_at_call 98; refine (key_any _ _ (by assumption)).mono ?_; rintro e w' ⟨rfl, rfl⟩)
  go_ret
  refine ⟨ret_bool ?_, rfl⟩
  unfold MF.same
  rw [Bool.eq_iff_iff]; simp; omega

set_option maxHeartbeats 400000 in
theorem max_any (a b : Nat) (w : World) (ha : MF.W64 a) (hb : MF.W64 b) :
    Calls Tryd.prog 85 #[.float .f64 a, .float .f64 b] w fun e w' => e = .returned (.float .f64 (MF.mx a b)) ∧ w = w' := by
  cases hl : MF.less a b
  · have Hm := Lib.hid (MF.mx_no a b hl)
    have Hl := Lib.hid hl
    clear hl
    go_enter Tryd.func85, Tryd.ntmps85
    go_wp2_with (first | (go_at_call 118; refine (less_any _ _ _ ha hb).mono ?_; rw [Hl.out]; rintro e w' ⟨rfl, rfl⟩) | (go_at_call 119; refine (canon_any _ _).mono ?_; rintro e w' ⟨rfl, rfl⟩))
    go_ret
    exact ⟨ret_flo Hm.out.symm, rfl⟩
  · have Hm := Lib.hid (MF.mx_yes a b hl)
    have Hl := Lib.hid hl
    clear hl
    go_enter Tryd.func85, Tryd.ntmps85
    go_wp2_with (first | (go_at_call 118; refine (less_any _ _ _ ha hb).mono ?_; rw [Hl.out]; rintro e w' ⟨rfl, rfl⟩) | (go_at_call 119; refine (canon_any _ _).mono ?_; rintro e w' ⟨rfl, rfl⟩))
    go_ret
    exact ⟨ret_flo Hm.out.symm, rfl⟩

set_option maxHeartbeats 400000 in
theorem min_any (a b : Nat) (w : World) (ha : MF.W64 a) (hb : MF.W64 b) :
    Calls Tryd.prog 86 #[.float .f64 a, .float .f64 b] w fun e w' => e = .returned (.float .f64 (MF.mn a b)) ∧ w = w' := by
  cases hl : MF.less b a
  · have Hm := Lib.hid (MF.mn_no a b hl)
    have Hl := Lib.hid hl
    clear hl
    go_enter Tryd.func86, Tryd.ntmps86
    go_wp2_with (first | (go_at_call 118; refine (less_any _ _ _ hb ha).mono ?_; rw [Hl.out]; rintro e w' ⟨rfl, rfl⟩) | (go_at_call 119; refine (canon_any _ _).mono ?_; rintro e w' ⟨rfl, rfl⟩))
    go_ret
    exact ⟨ret_flo Hm.out.symm, rfl⟩
  · have Hm := Lib.hid (MF.mn_yes a b hl)
    have Hl := Lib.hid hl
    clear hl
    go_enter Tryd.func86, Tryd.ntmps86
    go_wp2_with (first | (go_at_call 118; refine (less_any _ _ _ hb ha).mono ?_; rw [Hl.out]; rintro e w' ⟨rfl, rfl⟩) | (go_at_call 119; refine (canon_any _ _).mono ?_; rintro e w' ⟨rfl, rfl⟩))
    go_ret
    exact ⟨ret_flo Hm.out.symm, rfl⟩

set_option maxHeartbeats 400000 in
theorem plus_some (a b r : Nat) (w : World) (hs : Ieee.double.add a b = some r) :
    Calls Tryd.prog 87 #[.float .f64 a, .float .f64 b] w fun e w' => e = .returned (.float .f64 (MF.canon r)) ∧ w = w' := by
  have hr := fun w => run_float_arith (P := Tryd.prog) w .add 22 .f64 a b r hs
  have hv := fun (x : Nat) (w : World) => run_convert_float_float (P := Tryd.prog) w 22 22 .f64 .f64 x x (by rw [Tryd.underlying22]; rfl) Tryd.underlying22 (by unfold floatToFloatBits; rw [if_pos rfl])
  clear hs
  go_enter Tryd.func87, Tryd.ntmps87
  go_wp2_with (go_at_call 119; refine (canon_any _ _).mono ?_; rintro e w' ⟨rfl, rfl⟩)
  go_ret
  exact ⟨rfl, rfl⟩

set_option maxHeartbeats 400000 in
/-- A sum: what the machine reckons, in its one form; if that is no number, its bits were drawn. -/
theorem plus_any (a b : Nat) (w : World) :
    Calls Tryd.prog 87 #[.float .f64 a, .float .f64 b] w fun e w' => e = .returned (.float .f64 (MF.plus a b)) ∧ ∃ k, w' = w.drewN k := by
  cases hs : Ieee.double.add a b with
  | some r =>
    have hr := fun w => run_float_arith (P := Tryd.prog) w .add 22 .f64 a b r hs
    have Hp := Lib.hid (show MF.plus a b = MF.canon r by unfold MF.plus; rw [hs]; rfl)
    have hv := fun (x : Nat) (w : World) => run_convert_float_float (P := Tryd.prog) w 22 22 .f64 .f64 x x (by rw [Tryd.underlying22]; rfl) Tryd.underlying22 (by unfold floatToFloatBits; rw [if_pos rfl])
    clear hs
    go_enter Tryd.func87, Tryd.ntmps87
    go_wp2_with (go_at_call 119; refine (canon_any _ _).mono ?_; rintro e w' ⟨rfl, rfl⟩)
    go_ret
    exact ⟨ret_flo Hp.out.symm, 0, rfl⟩
  | none =>
    have hn := MF.nan_nb w a b
    have hr := MF.run_nb (P := Tryd.prog) .add 22 a b w (.inl rfl) hs
    have Hp := Lib.hid (show MF.plus a b = MF.canon (MF.nb w a b) by unfold MF.plus; rw [hs, MF.canon_eq _ true hn]; rfl)
    have hv := fun (x : Nat) (w : World) => run_convert_float_float (P := Tryd.prog) w 22 22 .f64 .f64 x x (by rw [Tryd.underlying22]; rfl) Tryd.underlying22 (by unfold floatToFloatBits; rw [if_pos rfl])
    clear hs hn
    go_enter Tryd.func87, Tryd.ntmps87
    go_wp2_with (go_at_call 119; refine (canon_any _ _).mono ?_; rintro e w' ⟨rfl, rfl⟩)
    go_ret
    exact ⟨ret_flo Hp.out.symm, 1, rfl⟩

set_option maxHeartbeats 400000 in
theorem times_some (a b r : Nat) (w : World) (hs : Ieee.double.mul a b = some r) :
    Calls Tryd.prog 88 #[.float .f64 a, .float .f64 b] w fun e w' => e = .returned (.float .f64 (MF.canon r)) ∧ w = w' := by
  have hr := fun w => run_float_arith (P := Tryd.prog) w .mul 22 .f64 a b r hs
  have hv := fun (x : Nat) (w : World) => run_convert_float_float (P := Tryd.prog) w 22 22 .f64 .f64 x x (by rw [Tryd.underlying22]; rfl) Tryd.underlying22 (by unfold floatToFloatBits; rw [if_pos rfl])
  clear hs
  go_enter Tryd.func88, Tryd.ntmps88
  go_wp2_with (go_at_call 119; refine (canon_any _ _).mono ?_; rintro e w' ⟨rfl, rfl⟩)
  go_ret
  exact ⟨rfl, rfl⟩

set_option maxHeartbeats 400000 in
theorem times_any (a b : Nat) (w : World) :
    Calls Tryd.prog 88 #[.float .f64 a, .float .f64 b] w fun e w' => e = .returned (.float .f64 (MF.times a b)) ∧ ∃ k, w' = w.drewN k := by
  cases hs : Ieee.double.mul a b with
  | some r =>
    have hr := fun w => run_float_arith (P := Tryd.prog) w .mul 22 .f64 a b r hs
    have Hp := Lib.hid (show MF.times a b = MF.canon r by unfold MF.times; rw [hs]; rfl)
    have hv := fun (x : Nat) (w : World) => run_convert_float_float (P := Tryd.prog) w 22 22 .f64 .f64 x x (by rw [Tryd.underlying22]; rfl) Tryd.underlying22 (by unfold floatToFloatBits; rw [if_pos rfl])
    clear hs
    go_enter Tryd.func88, Tryd.ntmps88
    go_wp2_with (go_at_call 119; refine (canon_any _ _).mono ?_; rintro e w' ⟨rfl, rfl⟩)
    go_ret
    exact ⟨ret_flo Hp.out.symm, 0, rfl⟩
  | none =>
    have hn := MF.nan_nb w a b
    have hr := MF.run_nb (P := Tryd.prog) .mul 22 a b w (.inr rfl) hs
    have Hp := Lib.hid (show MF.times a b = MF.canon (MF.nb w a b) by unfold MF.times; rw [hs, MF.canon_eq _ true hn]; rfl)
    have hv := fun (x : Nat) (w : World) => run_convert_float_float (P := Tryd.prog) w 22 22 .f64 .f64 x x (by rw [Tryd.underlying22]; rfl) Tryd.underlying22 (by unfold floatToFloatBits; rw [if_pos rfl])
    clear hs hn
    go_enter Tryd.func88, Tryd.ntmps88
    go_wp2_with (go_at_call 119; refine (canon_any _ _).mono ?_; rintro e w' ⟨rfl, rfl⟩)
    go_ret
    exact ⟨ret_flo Hp.out.symm, 1, rfl⟩

/-! ### the document's own -/
set_option maxHeartbeats 400000 in
theorem rnone_any (x : Nat) (b : Bool) (w : World) (h : MF.nan x = b) :
    Calls Tryd.prog 66 #[.float .f64 x] w fun e w' => e = .returned (.bool b) ∧ w = w' := by
  go_enter Tryd.func66, Tryd.ntmps66
  go_wp2
  go_ret
  exact ⟨ret_bool ((MF.neq_self x).trans h), rfl⟩

set_option maxHeartbeats 400000 in
theorem rbelow_any (x : Nat) (w : World) (hn : MF.nan x = false) :
    Calls Tryd.prog 124 #[.float .f64 x] w fun e w' => e = .returned (.bool (MF.rbelow x)) ∧ w = w' := by
  by_cases h : MF.rung x = 0
  · have t : (FloatKind.f64.format.order x 0 == some .eq) = true := (MF.order_zero_eq x).trans (by simp [h, hn])
    have q := fun w => run_float_arith (P := Tryd.prog) w .quo 22 .f64 4607182418800017408 x _ (MF.div_zero x h)
    have H := Lib.hid (show MF.rbelow x = MF.neg x by unfold MF.rbelow; rw [if_pos h])
    clear h hn
    go_enter Tryd.func124, Tryd.ntmps124
    go_wp2
    go_ret
    exact ⟨ret_bool ((MF.winf_lt _).trans H.out.symm), rfl⟩
  · have t : (FloatKind.f64.format.order x 0 == some .eq) = false := (MF.order_zero_eq x).trans (by simp [h, hn])
    have H := Lib.hid (show (Ieee.double.order x 0 == some .lt) = MF.rbelow x by rw [MF.order_zero_lt]; unfold MF.rbelow; rw [if_neg h, hn]; rfl)
    clear h hn
    go_enter Tryd.func124, Tryd.ntmps124
    go_wp2
    go_ret
    exact ⟨ret_bool H.out, rfl⟩


set_option maxHeartbeats 400000 in
theorem rless_any (a b : Nat) (w : World) (ha : MF.W64 a) (hb : MF.W64 b) :
    Calls Tryd.prog 101 #[.float .f64 a, .float .f64 b] w fun e w' => e = .returned (.bool (MF.less a b)) ∧ w = w' := by
  have Hl := Lib.hid (MF.rless_eq ha hb)
  clear ha hb
  cases na : MF.nan a
  · cases nb : MF.nan b
    · have ea : (FloatKind.f64.format.order a 0 == some .eq) = decide (MF.rung a = 0) := (MF.order_zero_eq a).trans (by rw [na]; rfl)
      have eb : (FloatKind.f64.format.order b 0 == some .eq) = decide (MF.rung b = 0) := (MF.order_zero_eq b).trans (by rw [nb]; rfl)
      by_cases z : MF.rung a = 0 ∧ MF.rung b = 0
      · obtain ⟨za, zb⟩ := z
        rw [decide_eq_true za] at ea
        rw [decide_eq_true zb] at eb
        have H := Lib.hid (show MF.rless a b = (MF.rbelow a && !MF.rbelow b) by unfold MF.rless; simp [na, nb, za, zb, MF.val_zero])
        clear za zb
        cases va : MF.rbelow a
        all_goals
          go_enter Tryd.func101, Tryd.ntmps101
          go_wp2_with (first | (go_at_call 66; refine (rnone_any _ _ _ (by assumption)).mono ?_; rintro e w' ⟨rfl, rfl⟩) | (go_at_call 124; refine (rbelow_any _ _ (by assumption)).mono ?_; rintro e w' ⟨rfl, rfl⟩))
          go_ret
          exact ⟨ret_bool (by rw [← Hl.out, H.out, va]; first | rfl | simp), rfl⟩
      · have H := Lib.hid (show (Ieee.double.order a b == some .lt) = MF.rless a b by rw [MF.order_lt]; unfold MF.rless; simp [na, nb, MF.val_zero, z])
        by_cases za : MF.rung a = 0
        · have zb : ¬ MF.rung b = 0 := fun h => z ⟨za, h⟩
          rw [decide_eq_true za] at ea
          rw [decide_eq_false zb] at eb
          clear za zb z
          go_enter Tryd.func101, Tryd.ntmps101
          go_wp2_with (first | (go_at_call 66; refine (rnone_any _ _ _ (by assumption)).mono ?_; rintro e w' ⟨rfl, rfl⟩))
          go_ret
          exact ⟨ret_bool (H.out.trans Hl.out), rfl⟩
        · rw [decide_eq_false za] at ea
          clear za z eb
          go_enter Tryd.func101, Tryd.ntmps101
          go_wp2_with (first | (go_at_call 66; refine (rnone_any _ _ _ (by assumption)).mono ?_; rintro e w' ⟨rfl, rfl⟩))
          go_ret
          exact ⟨ret_bool (H.out.trans Hl.out), rfl⟩
    · have H := Lib.hid (show MF.rless a b = true by unfold MF.rless; simp [na, nb])
      go_enter Tryd.func101, Tryd.ntmps101
      go_wp2_with (first | (go_at_call 66; refine (rnone_any _ _ _ (by assumption)).mono ?_; rintro e w' ⟨rfl, rfl⟩))
      go_ret
      exact ⟨ret_bool (H.out.symm.trans Hl.out), rfl⟩
  · have H := Lib.hid (show MF.rless a b = false by unfold MF.rless; simp [na])
    go_enter Tryd.func101, Tryd.ntmps101
    go_wp2_with (first | (go_at_call 66; refine (rnone_any _ _ _ (by assumption)).mono ?_; rintro e w' ⟨rfl, rfl⟩))
    go_ret
    exact ⟨ret_bool (H.out.symm.trans Hl.out), rfl⟩

set_option maxHeartbeats 400000 in
theorem rsame_any (a b : Nat) (w : World) (ha : MF.W64 a) (hb : MF.W64 b) :
    Calls Tryd.prog 51 #[.float .f64 a, .float .f64 b] w fun e w' => e = .returned (.bool (MF.same a b)) ∧ w = w' := by
  have Hl := Lib.hid (show (!MF.less a b && !MF.less b a) = MF.same a b by unfold MF.less MF.same; rw [Bool.eq_iff_iff]; simp; omega)
  cases la : MF.less a b
  all_goals
    go_enter Tryd.func51, Tryd.ntmps51
    go_wp2_with (go_at_call 101; refine (rless_any _ _ _ (by assumption) (by assumption)).mono ?_; rintro e w' ⟨rfl, rfl⟩)
    go_ret
    exact ⟨ret_bool (by rw [← Hl.out, la]; first | rfl | simp), rfl⟩

end Go.Proofs.YtaaeefndhmfceaaDoor
