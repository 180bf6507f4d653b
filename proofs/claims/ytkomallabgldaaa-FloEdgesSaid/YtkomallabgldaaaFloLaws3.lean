/- The walk of layer 1's statement on edges. -/
import Derived.Test.YtkomallabgldaaaFloLaws2
namespace Go.Proofs.Ytkomallabgldaaa
open Go.RowKit

theorem neg_up (w : World) : (Op.unary .neg (.float .f64 9218868437227405312)).run Try.prog w = .ok (.float .f64 18442240474082181120) w := by kernel_rfl

set_option maxRecDepth 100000 in
set_option maxHeartbeats 4000000 in
theorem floEdges_any (w : World) :
    Calls Try.prog 10 #[] w fun e w' => e = .returned (.bool true) ∧ Grown w w' := by
  have f0 : MF.same (MF.plus 9218868437227405312 18442240474082181120) 9221120237041090561 = true := by decide
  have f1 : MF.same (MF.times 0 9218868437227405312) 9221120237041090561 = true := by decide
  have f2 : MF.same (MF.times 0 13830554455654793216) 9223372036854775808 = true := by decide
  have f3 : MF.same (MF.plus 9223372036854775808 9223372036854775808) 9223372036854775808 = true := by decide
  have f4 : MF.same (MF.plus 9223372036854775808 0) 0 = true := by decide
  have f5 : MF.same (MF.plus 9218868437227405311 9218868437227405311) 9218868437227405312 = true := by decide
  have f6 : MF.same (MF.times 9218868437227405311 13835058055282163712) 18442240474082181120 = true := by decide
  have f7 : MF.same (MF.times 1 4598175219545276416) 0 = true := by decide
  have f8 : MF.less 9223372036854775808 0 = true := by decide
  have f9 : MF.same (MF.above 9223372036854775808) 0 = true := by decide
  have f10 : MF.same (MF.above 9218868437227405312) 9221120237041090561 = true := by decide
  have f11 : MF.same (MF.above 9218868437227405311) 9218868437227405312 = true := by decide
  have f12 : MF.same (MF.above 18442240474082181120) 18442240474082181119 = true := by decide
  have f13 : MF.same (MF.mx 9223372036854775808 0) 0 = true := by decide
  have f14 : MF.same (MF.mn 0 9223372036854775808) 9223372036854775808 = true := by decide
  have hneg := neg_up
  go_enter Try.func10, Try.ntmps10
  go_wp2_with (first
        | (go_at_call 11; refine (floSpeaks_any _).mono ?_; rintro e w' ⟨rfl, rfl⟩)
        | (go_at_call 25; refine (inf_up _).mono ?_; rintro e w' ⟨rfl, rfl⟩)
        | (go_at_call 26; refine (nan_calls _).mono ?_; rintro e w' ⟨rfl, rfl⟩)
        | (go_at_call 30; refine (low_calls _).mono ?_; rintro e w' ⟨rfl, rfl⟩)
        | (go_at_call 18; refine (less_any _ _ _ (by first | with_reducible exact MF.w_plus _ _ | with_reducible exact MF.w_times _ _ | with_reducible exact MF.w_above (by unfold MF.W64; decide) | with_reducible exact MF.w_mx (by unfold MF.W64; decide) (by unfold MF.W64; decide) | with_reducible exact MF.w_mn (by unfold MF.W64; decide) (by unfold MF.W64; decide) | (unfold MF.W64; decide)) (by first | with_reducible exact MF.w_plus _ _ | with_reducible exact MF.w_times _ _ | with_reducible exact MF.w_above (by unfold MF.W64; decide) | with_reducible exact MF.w_mx (by unfold MF.W64; decide) (by unfold MF.W64; decide) | with_reducible exact MF.w_mn (by unfold MF.W64; decide) (by unfold MF.W64; decide) | (unfold MF.W64; decide))).mono ?_; rintro e w' ⟨rfl, rfl⟩)
        | (go_at_call 19; refine (same_any _ _ _ (by first | with_reducible exact MF.w_plus _ _ | with_reducible exact MF.w_times _ _ | with_reducible exact MF.w_above (by unfold MF.W64; decide) | with_reducible exact MF.w_mx (by unfold MF.W64; decide) (by unfold MF.W64; decide) | with_reducible exact MF.w_mn (by unfold MF.W64; decide) (by unfold MF.W64; decide) | (unfold MF.W64; decide)) (by first | with_reducible exact MF.w_plus _ _ | with_reducible exact MF.w_times _ _ | with_reducible exact MF.w_above (by unfold MF.W64; decide) | with_reducible exact MF.w_mx (by unfold MF.W64; decide) (by unfold MF.W64; decide) | with_reducible exact MF.w_mn (by unfold MF.W64; decide) (by unfold MF.W64; decide) | (unfold MF.W64; decide))).mono ?_; rintro e w' ⟨rfl, rfl⟩)
        | (go_at_call 21; refine (max_any _ _ _ (by first | with_reducible exact MF.w_plus _ _ | with_reducible exact MF.w_times _ _ | with_reducible exact MF.w_above (by unfold MF.W64; decide) | with_reducible exact MF.w_mx (by unfold MF.W64; decide) (by unfold MF.W64; decide) | with_reducible exact MF.w_mn (by unfold MF.W64; decide) (by unfold MF.W64; decide) | (unfold MF.W64; decide)) (by first | with_reducible exact MF.w_plus _ _ | with_reducible exact MF.w_times _ _ | with_reducible exact MF.w_above (by unfold MF.W64; decide) | with_reducible exact MF.w_mx (by unfold MF.W64; decide) (by unfold MF.W64; decide) | with_reducible exact MF.w_mn (by unfold MF.W64; decide) (by unfold MF.W64; decide) | (unfold MF.W64; decide))).mono ?_; rintro e w' ⟨rfl, rfl⟩)
        | (go_at_call 23; refine (min_any _ _ _ (by first | with_reducible exact MF.w_plus _ _ | with_reducible exact MF.w_times _ _ | with_reducible exact MF.w_above (by unfold MF.W64; decide) | with_reducible exact MF.w_mx (by unfold MF.W64; decide) (by unfold MF.W64; decide) | with_reducible exact MF.w_mn (by unfold MF.W64; decide) (by unfold MF.W64; decide) | (unfold MF.W64; decide)) (by first | with_reducible exact MF.w_plus _ _ | with_reducible exact MF.w_times _ _ | with_reducible exact MF.w_above (by unfold MF.W64; decide) | with_reducible exact MF.w_mx (by unfold MF.W64; decide) (by unfold MF.W64; decide) | with_reducible exact MF.w_mn (by unfold MF.W64; decide) (by unfold MF.W64; decide) | (unfold MF.W64; decide))).mono ?_; rintro e w' ⟨rfl, rfl⟩)
        | (go_at_call 29; refine (above_any _ _ (by first | with_reducible exact MF.w_plus _ _ | with_reducible exact MF.w_times _ _ | with_reducible exact MF.w_above (by unfold MF.W64; decide) | with_reducible exact MF.w_mx (by unfold MF.W64; decide) (by unfold MF.W64; decide) | with_reducible exact MF.w_mn (by unfold MF.W64; decide) (by unfold MF.W64; decide) | (unfold MF.W64; decide))).mono ?_; rintro e w' ⟨rfl, rfl⟩)
        | (go_at_call 27; refine (plus_any _ _ _).mono ?_; rintro e w' ⟨rfl, k, rfl⟩)
        | (go_at_call 28; refine (times_any _ _ _).mono ?_; rintro e w' ⟨rfl, k, rfl⟩))
  go_ret
  exact ⟨rfl, by repeat (first | exact Grown.refl _ | apply Grown.drew | apply grown_drewN)⟩

end Go.Proofs.Ytkomallabgldaaa
