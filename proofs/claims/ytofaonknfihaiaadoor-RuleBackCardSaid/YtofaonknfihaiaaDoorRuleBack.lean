/- The walk of RuleBack. -/
import Derived.Test.YtofaonknfihaiaaDoorRuBkB
namespace Go.Proofs.YtofaonknfihaiaaDoor
open Go.RowKit MM

theorem ruleBack_any (r : RC.Rc) (A : Option Addr) (c : Nat) (a : AC.Ac) (L : Option Addr) (cl : Nat) (w : World) (hr : RecIn w r A c) (ha : ActIn w a L cl) (hR : RowsAt w) :
    Calls Tryd.prog 5 #[recV r A c, actV a L cl] w fun e w' => e = .returned (.bool true) ∧ Below w.heap.size w w' := by
  obtain ⟨kk, key, n, fx, s, mk, must⟩ := a
  by_cases h7 : kk = 7
  · subst h7; exact ruleBack_7 r A c key n fx s mk must L cl w hr ha hR
  by_cases h8 : kk = 8
  · subst h8
    by_cases hm : (-9223372036854775808 : Int) < n
    · exact ruleBack_8 r A c key n fx s mk must L cl w hm hr ha hR
    · exact ruleBack_8no r A c key n fx s mk must L cl w hm hr ha hR
  by_cases h10 : kk = 10
  · subst h10; exact ruleBack_10 r A c key n fx s mk must L cl w hr ha hR
  by_cases h11 : kk = 11
  · subst h11; exact ruleBack_11 r A c key n fx s mk must L cl w hr ha hR
  exact ruleBack_no r A c key n fx s mk must L cl w kk ⟨h7, h8, h10, h11⟩ hr ha hR

end Go.Proofs.YtofaonknfihaiaaDoor
