/- The walk of RuleKeeps. -/
import Derived.Test.YtofaonknfihaiaaDoorRuleKeepsF
namespace Go.Proofs.YtofaonknfihaiaaDoor
open Go.RowKit MM

theorem ruleKeeps_any (r : RC.Rc) (A : Option Addr) (c : Nat) (there : Bool) (L : Option Addr) (cl : Nat) (l : List Al) (w : World) (hr : RecIn w r A c) (hl : ActsIn w L l) (hR : RowsAt w) :
    Calls Tryd.prog 3 #[recV r A c, .bool there, .slice L l.length cl] w fun e w' => e = .returned (.bool true) ∧ Below w.heap.size w w' := by
  cases there
  · exact ruleKeeps_f r A c L cl l w hr hl hR
  · exact ruleKeeps_t r A c L cl l w hr hl hR

end Go.Proofs.YtofaonknfihaiaaDoor
