/- The statements' own head: a few numbers by hand are as the document says. -/
import Derived.Test.YtkomallabgldaaaFlo
namespace Go.Proofs.Ytkomallabgldaaa
open Go.RowKit

set_option maxHeartbeats 400000 in
theorem signbit_any (x : Nat) (w : World) (b : Bool) (h : decide (wrap64 (x : Int) < 0) = b) :
    Calls Try.prog 31 #[.float .f64 x] w fun e w' => e = .returned (.bool b) ∧ w = w' := by
  go_enter Try.func31, Try.ntmps31
  go_wp2
  go_ret
  exact ⟨ret_bool rfl, rfl⟩

set_option maxHeartbeats 400000 in
theorem inf_up (w : World) :
    Calls Try.prog 25 #[.int .i64 1] w fun e w' => e = .returned (.float .f64 9218868437227405312) ∧ w = w' := by
  go_enter Try.func25, Try.ntmps25
  go_wp2
  go_ret
  exact ⟨rfl, rfl⟩
set_option maxHeartbeats 400000 in
theorem inf_down (w : World) :
    Calls Try.prog 25 #[.int .i64 (-1)] w fun e w' => e = .returned (.float .f64 18442240474082181120) ∧ w = w' := by
  go_enter Try.func25, Try.ntmps25
  go_wp2
  go_ret
  exact ⟨rfl, rfl⟩
set_option maxHeartbeats 400000 in
theorem nan_calls (w : World) :
    Calls Try.prog 26 #[] w fun e w' => e = .returned (.float .f64 9221120237041090561) ∧ w = w' := by
  go_enter Try.func26, Try.ntmps26
  go_wp2
  go_ret
  exact ⟨rfl, rfl⟩
set_option maxHeartbeats 400000 in
theorem low_calls (w : World) :
    Calls Try.prog 30 #[.float .f64 0, .float .f64 13830554455654793216] w fun e w' => e = .returned (.float .f64 9223372036854775808) ∧ w = w' := by
  go_enter Try.func30, Try.ntmps30
  go_wp2
  go_ret
  exact ⟨rfl, rfl⟩
theorem sb_low : decide (wrap64 ((9223372036854775808 : Nat) : Int) < 0) = true := by decide +kernel
theorem back_low : (if MF.proper (MF.bk 9223372036854775807) = true then Value.tuple #[.float .f64 (MF.bk 9223372036854775807), .bool true] else .tuple #[.float .f64 0, .bool false]) = .tuple #[.float .f64 9223372036854775808, .bool true] := by
  rw [show MF.proper (MF.bk 9223372036854775807) = true from by decide, if_pos rfl, show MF.bk 9223372036854775807 = 9223372036854775808 from by decide]
theorem back_no : (if MF.proper (MF.bk 18446744073709551615) = true then Value.tuple #[.float .f64 (MF.bk 18446744073709551615), .bool true] else .tuple #[.float .f64 0, .bool false]) = .tuple #[.float .f64 0, .bool false] := by
  rw [show MF.proper (MF.bk 18446744073709551615) = false from by decide, if_neg (by simp)]

set_option maxHeartbeats 1000000 in
theorem floSpeaks_any (w : World) :
    Calls Try.prog 11 #[] w fun e w' => e = .returned (.bool true) ∧ w = w' := by
  have k0 : ((MF.key 0 : Nat) : Int) == 9223372036854775808 := by decide
  have k1 : ((MF.key 4607182418800017408 : Nat) : Int) == 13830554455654793216 := by decide
  have l1 : MF.less 13830554455654793216 0 = true := by decide
  have o1 : (FloatKind.f64.format.order 9223372036854775808 0 == some .eq) = true := by decide
  have o2 : (FloatKind.f64.format.order (MF.mx 4611686018427387904 4613937818241073152) 4613937818241073152 == some .eq) = true := by decide
  have o3 : (FloatKind.f64.format.order (MF.mn 4611686018427387904 4613937818241073152) 4611686018427387904 == some .eq) = true := by decide
  have o4 : (FloatKind.f64.format.order (MF.canon 4617315517961601024) 4617315517961601024 == some .eq) = true := by decide
  have o5 : (FloatKind.f64.format.order (MF.canon 4618441417868443648) 4618441417868443648 == some .eq) = true := by decide
  have p1 : MF.proper 4619567317775286272 = true := by decide
  have s1 : MF.same (MF.above 0) 1 = true := by decide
  go_enter Try.func11, Try.ntmps11
  go_wp2_with fail
  refine (back_any 9223372036854775807 _ (by unfold MF.W64; decide)).mono ?_
  rw [back_low]
  rintro e w' ⟨rfl, rfl⟩
  go_wp2_with fail
  refine (back_any 18446744073709551615 _ (by unfold MF.W64; decide)).mono ?_
  rw [back_no]
  rintro e w' ⟨rfl, rfl⟩
  go_wp2_with (first
    | (go_at_call 15; refine (key_any _ _ (by unfold MF.W64; decide)).mono ?_; rintro e w' ⟨rfl, rfl⟩)
    | (go_at_call 18; refine (less_any _ _ _ (by unfold MF.W64; decide) (by unfold MF.W64; decide)).mono ?_; rintro e w' ⟨rfl, rfl⟩)
    | (go_at_call 21; refine (max_any _ _ _ (by unfold MF.W64; decide) (by unfold MF.W64; decide)).mono ?_; rintro e w' ⟨rfl, rfl⟩)
    | (go_at_call 23; refine (min_any _ _ _ (by unfold MF.W64; decide) (by unfold MF.W64; decide)).mono ?_; rintro e w' ⟨rfl, rfl⟩)
    | (go_at_call 27; refine (plus_some _ _ 4617315517961601024 _ (by decide)).mono ?_; rintro e w' ⟨rfl, rfl⟩)
    | (go_at_call 28; refine (times_some _ _ 4618441417868443648 _ (by decide)).mono ?_; rintro e w' ⟨rfl, rfl⟩)
    | (go_at_call 14; refine (proper_any _ _).mono ?_; rintro e w' ⟨rfl, rfl⟩)
    | (go_at_call 29; refine (above_any _ _ (by unfold MF.W64; decide)).mono ?_; rintro e w' ⟨rfl, rfl⟩)
    | (go_at_call 19; refine (same_any _ _ _ (by unfold MF.W64; decide) (by unfold MF.W64; decide)).mono ?_; rintro e w' ⟨rfl, rfl⟩)
    | (go_at_call 31; refine (signbit_any _ _ true sb_low).mono ?_; rintro e w' ⟨rfl, rfl⟩))
  go_ret
  exact ⟨rfl, rfl⟩

end Go.Proofs.Ytkomallabgldaaa
