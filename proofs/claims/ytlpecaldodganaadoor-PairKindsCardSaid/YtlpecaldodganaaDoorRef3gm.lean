/- Contracts of the document's own answers for layer 3: Same. -/
import Derived.Test.YtlpecaldodganaaDoorRefM
namespace Go.Proofs.YtlpecaldodganaaDoor
open Go.RowKit MM

end Go.Proofs.YtlpecaldodganaaDoor
