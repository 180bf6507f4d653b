/- Layer 4's statements: acts of more bytes than are looked at. -/
import Derived.Test.YtlpecaldodganaaDoorRefM
import Derived.Test.YtlpecaldodganaaDoorActM
namespace AC
def big (a : Ac) : Bool := decide (200 < a.key.size) || (decide (1000 < a.s.size) || RC.big a.make)
theorem big_not {a : Ac} (h : big a = false) : a.key.size ≤ 200 ∧ a.s.size ≤ 1000 ∧ RC.big a.make = false := by
  unfold big at h
  simp only [Bool.or_eq_false_iff, decide_eq_false_iff_not] at h
  exact ⟨by omega, by omega, h.2.2⟩
end AC
namespace Go.Proofs.YtlpecaldodganaaDoor
open Go.RowKit MM

end Go.Proofs.YtlpecaldodganaaDoor
