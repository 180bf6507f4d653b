/- Small facts that every frame wants. -/
import Derived.Test.YtmfjacehompmmaaOpen
namespace MF
open Go
theorem w_of_wf {b : Nat} (h : (Lit.float .f64 b).wf = true) : W64 b := by
  simp only [Lit.wf, decide_eq_true_eq] at h
  exact h
end MF
namespace Go.Proofs.Ytmfjacehompmmaa

theorem own : ownKnob Try.prog.godebug = none := by kernel_rfl
theorem laidOut : laidOutB Try.prog = true := by kernel_rfl

end Go.Proofs.Ytmfjacehompmmaa
