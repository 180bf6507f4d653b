/- Plain mathematics of layer 6: of kinds that don't change places there is a case in which it matters. No program. -/
import Derived.Test.YtlpecaldodganaaDoorPair7
namespace Go.Proofs.YtlpecaldodganaaDoor
open Go.RowKit MM
set_option linter.unusedVariables false

def RU.witness (k l : Int) : Bool := (RU.pgrounds k l).any fun g => (RU.pacts k).any fun a => (RU.pacts l).any fun b => RU.differs g.1 g.2 a b
theorem wit_8 : RU.witness 8 8 = true := by decide +kernel
set_option maxRecDepth 100000 in
theorem wit_all : ((List.range 21).all fun i => (List.range 21).all fun j => RU.kinds6 ((i : Int) + 1) ((j : Int) + 1) || RU.witness ((i : Int) + 1) ((j : Int) + 1)) = true := by decide +kernel

end Go.Proofs.YtlpecaldodganaaDoor
