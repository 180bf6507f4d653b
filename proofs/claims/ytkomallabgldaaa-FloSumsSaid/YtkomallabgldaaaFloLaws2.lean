/- The walks of layer 1's statements on sums and products. -/
import Derived.Test.YtkomallabgldaaaFloLaws
namespace Go.Proofs.Ytkomallabgldaaa
open Go.RowKit

set_option maxHeartbeats 2000000 in
theorem floSums_any (a b : Nat) (w : World) :
    Calls Try.prog 8 #[.float .f64 a, .float .f64 b] w fun e w' => e = .returned (.bool true) ∧ Grown w w' := by
  have w1 := MF.w_plus a b
  have w2 := MF.w_plus b a
  have w3 := MF.w_times a b
  have w4 := MF.w_times b a
  have p1 : MF.proper (MF.plus a b) = true := MF.proper_canonO _
  have p2 : MF.proper (MF.times a b) = true := MF.proper_canonO _
  have s1 : MF.same (MF.plus a b) (MF.plus b a) = true := by rw [MF.plus_comm b a]; exact MF.same_of rfl
  have s2 : MF.same (MF.times a b) (MF.times b a) = true := by rw [MF.times_comm b a]; exact MF.same_of rfl
  have hv := fun (x : Nat) (w : World) => run_convert_float_float (P := Try.prog) w 22 22 .f64 .f64 x x (by rw [Try.underlying22]; rfl) Try.underlying22 (by unfold floatToFloatBits; rw [if_pos rfl])
  cases hs : Ieee.double.add a b with
  | some r =>
    have hr := fun w => run_float_arith (P := Try.prog) w .add 22 .f64 a b r hs
    have wr := MF.add_w hs
    have s3 : MF.same (MF.plus a b) r = true := MF.same_some _ r hs
    clear hs
    cases hp : Ieee.double.mul a b with
    | some q =>
      have hq := fun w => run_float_arith (P := Try.prog) w .mul 22 .f64 a b q hp
      have wq := MF.mul_w hp
      have s4 : MF.same (MF.times a b) q = true := MF.same_some _ q hp
      clear hp
      go_enter Try.func8, Try.ntmps8
      go_wp2_with (first
        | (go_at_call 11; refine (floSpeaks_any _).mono ?_; rintro e w' ⟨rfl, rfl⟩)
        | (go_at_call 18; refine (less_any _ _ _ (by assumption) (by assumption)).mono ?_; rintro e w' ⟨rfl, rfl⟩)
        | (go_at_call 19; refine (same_any _ _ _ (by first | assumption | exact MF.w_nb _ _ _) (by first | assumption | exact MF.w_nb _ _ _)).mono ?_; rintro e w' ⟨rfl, rfl⟩)
        | (go_at_call 14; refine (proper_any _ _).mono ?_; rintro e w' ⟨rfl, rfl⟩)
        | (go_at_call 27; refine (plus_any _ _ _).mono ?_; rintro e w' ⟨rfl, k, rfl⟩)
        | (go_at_call 28; refine (times_any _ _ _).mono ?_; rintro e w' ⟨rfl, k, rfl⟩))
      go_ret
      exact ⟨rfl, by repeat (first | exact Grown.refl _ | apply Grown.drew | apply grown_drewN)⟩
    | none =>
      have hq := fun w => MF.run_nb (P := Try.prog) .mul 22 a b w (.inr rfl) hp
      have s4 : ∀ w, MF.same (MF.times a b) (MF.nb w a b) = true := fun w => MF.same_nb _ hp w a b
      clear hp
      go_enter Try.func8, Try.ntmps8
      go_wp2_with (first
        | (go_at_call 11; refine (floSpeaks_any _).mono ?_; rintro e w' ⟨rfl, rfl⟩)
        | (go_at_call 18; refine (less_any _ _ _ (by assumption) (by assumption)).mono ?_; rintro e w' ⟨rfl, rfl⟩)
        | (go_at_call 19; refine (same_any _ _ _ (by first | assumption | exact MF.w_nb _ _ _) (by first | assumption | exact MF.w_nb _ _ _)).mono ?_; rintro e w' ⟨rfl, rfl⟩)
        | (go_at_call 14; refine (proper_any _ _).mono ?_; rintro e w' ⟨rfl, rfl⟩)
        | (go_at_call 27; refine (plus_any _ _ _).mono ?_; rintro e w' ⟨rfl, k, rfl⟩)
        | (go_at_call 28; refine (times_any _ _ _).mono ?_; rintro e w' ⟨rfl, k, rfl⟩))
      go_ret
      exact ⟨rfl, by repeat (first | exact Grown.refl _ | apply Grown.drew | apply grown_drewN)⟩
  | none =>
    have hr := fun w => MF.run_nb (P := Try.prog) .add 22 a b w (.inl rfl) hs
    have s3 : ∀ w, MF.same (MF.plus a b) (MF.nb w a b) = true := fun w => MF.same_nb _ hs w a b
    clear hs
    cases hp : Ieee.double.mul a b with
    | some q =>
      have hq := fun w => run_float_arith (P := Try.prog) w .mul 22 .f64 a b q hp
      have wq := MF.mul_w hp
      have s4 : MF.same (MF.times a b) q = true := MF.same_some _ q hp
      clear hp
      go_enter Try.func8, Try.ntmps8
      go_wp2_with (first
        | (go_at_call 11; refine (floSpeaks_any _).mono ?_; rintro e w' ⟨rfl, rfl⟩)
        | (go_at_call 18; refine (less_any _ _ _ (by assumption) (by assumption)).mono ?_; rintro e w' ⟨rfl, rfl⟩)
        | (go_at_call 19; refine (same_any _ _ _ (by first | assumption | exact MF.w_nb _ _ _) (by first | assumption | exact MF.w_nb _ _ _)).mono ?_; rintro e w' ⟨rfl, rfl⟩)
        | (go_at_call 14; refine (proper_any _ _).mono ?_; rintro e w' ⟨rfl, rfl⟩)
        | (go_at_call 27; refine (plus_any _ _ _).mono ?_; rintro e w' ⟨rfl, k, rfl⟩)
        | (go_at_call 28; refine (times_any _ _ _).mono ?_; rintro e w' ⟨rfl, k, rfl⟩))
      go_ret
      exact ⟨rfl, by repeat (first | exact Grown.refl _ | apply Grown.drew | apply grown_drewN)⟩
    | none =>
      have hq := fun w => MF.run_nb (P := Try.prog) .mul 22 a b w (.inr rfl) hp
      have s4 : ∀ w, MF.same (MF.times a b) (MF.nb w a b) = true := fun w => MF.same_nb _ hp w a b
      clear hp
      go_enter Try.func8, Try.ntmps8
      go_wp2_with (first
        | (go_at_call 11; refine (floSpeaks_any _).mono ?_; rintro e w' ⟨rfl, rfl⟩)
        | (go_at_call 18; refine (less_any _ _ _ (by assumption) (by assumption)).mono ?_; rintro e w' ⟨rfl, rfl⟩)
        | (go_at_call 19; refine (same_any _ _ _ (by first | assumption | exact MF.w_nb _ _ _) (by first | assumption | exact MF.w_nb _ _ _)).mono ?_; rintro e w' ⟨rfl, rfl⟩)
        | (go_at_call 14; refine (proper_any _ _).mono ?_; rintro e w' ⟨rfl, rfl⟩)
        | (go_at_call 27; refine (plus_any _ _ _).mono ?_; rintro e w' ⟨rfl, k, rfl⟩)
        | (go_at_call 28; refine (times_any _ _ _).mono ?_; rintro e w' ⟨rfl, k, rfl⟩))
      go_ret
      exact ⟨rfl, by repeat (first | exact Grown.refl _ | apply Grown.drew | apply grown_drewN)⟩

end Go.Proofs.Ytkomallabgldaaa
