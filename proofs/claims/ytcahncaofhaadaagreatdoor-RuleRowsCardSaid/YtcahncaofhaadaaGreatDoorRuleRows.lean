/- The walk of RuleRows. -/
import Derived.Test.YtcahncaofhaadaaGreatDoorRuleRowsT
import Derived.Test.YtcahncaofhaadaaGreatDoorRuleRowsF
namespace Go.Proofs.YtcahncaofhaadaaGreatDoor
open Go.RowKit MM
set_option linter.unusedVariables false
set_option linter.unusedSimpArgs false

theorem ruleRows_any (r : RC.Rc) (A : Option Addr) (c : Nat) (there : Bool) (L : Option Addr) (cl : Nat) (l : List Al) (w : World) (hr : RecIn w r A c) (hl : ActsIn w L l) (hR : RowsAt w) :
    Calls Tryz.prog 4 #[recV r A c, .bool there, .slice L l.length cl] w fun e w' => e = .returned (.bool true) ∧ Below w.heap.size w w' := by
  cases there
  · exact ruleRows_false r A c L cl l w hr hl hR
  · exact ruleRows_true r A c L cl l w hr hl hR

end Go.Proofs.YtcahncaofhaadaaGreatDoor
