/- The walk of RuleTwice. -/
import Derived.Test.YtofaonknfihaiaaDoorRuTwB
namespace Go.Proofs.YtofaonknfihaiaaDoor
open Go.RowKit MM

theorem ruleTwice_any (r : RC.Rc) (A : Option Addr) (c : Nat) (a : AC.Ac) (L : Option Addr) (cl : Nat) (w : World) (hr : RecIn w r A c) (ha : ActIn w a L cl) (hR : RowsAt w) :
    Calls Tryd.prog 4 #[recV r A c, actV a L cl] w fun e w' => e = .returned (.bool true) ∧ Below w.heap.size w w' := by
  obtain ⟨kk, key, n, fx, s, mk, must⟩ := a
  by_cases hk : kk = 5 ∨ kk = 6 ∨ kk = 13 ∨ kk = 14 ∨ kk = 17 ∨ kk = 18 ∨ kk = 19 ∨ kk = 21
  · rcases hk with rfl | rfl | rfl | rfl | rfl | rfl | rfl | rfl
    · exact ruleTwice_5 r A c key n fx s mk must L cl w hr ha hR
    · exact ruleTwice_6 r A c key n fx s mk must L cl w hr ha hR
    · exact ruleTwice_13 r A c key n fx s mk must L cl w hr ha hR
    · exact ruleTwice_14 r A c key n fx s mk must L cl w hr ha hR
    · exact ruleTwice_17 r A c key n fx s mk must L cl w hr ha hR
    · exact ruleTwice_18 r A c key n fx s mk must L cl w hr ha hR
    · exact ruleTwice_19 r A c key n fx s mk must L cl w hr ha hR
    · exact ruleTwice_21 r A c key n fx s mk must L cl w hr ha hR
  · exact ruleTwice_no r A c key n fx s mk must kk hk L cl w hr ha hR

end Go.Proofs.YtofaonknfihaiaaDoor
