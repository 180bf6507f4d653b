/- The walk of WholePrefix. -/
import Derived.Test.YtaaeefndhmfceaaDoorWholePfxA
import Derived.Test.YtaaeefndhmfceaaDoorWholePfxB
import Derived.Test.YtaaeefndhmfceaaDoorWholePfxF
namespace Go.Proofs.YtaaeefndhmfceaaDoor
open Go.RowKit MM

theorem wholePrefix_any (a : AC.Ac) (A : Option Addr) (ca : Nat) (b : AC.Ac) (B : Option Addr) (cb : Nat) (w : World) (ha : ActIn w a A ca) (hb : ActIn w b B cb) (hR : RowsAt w) :
    Calls Tryd.prog 8 #[actV a A ca, actV b B cb] w fun e w' => e = .returned (.bool true) ∧ Below w.heap.size w w' := by
  cases h1 : AC.big a with
  | true =>
    cases h2 : AC.big b with
    | true => exact wholePrefix_tt a A ca b B cb w ha hb hR h1 h2
    | false => exact wholePrefix_tf a A ca b B cb w ha hb hR h1 h2
  | false =>
    cases h2 : AC.big b with
    | true => exact wholePrefix_ft a A ca b B cb w ha hb hR h1 h2
    | false =>
      rcases Nat.eq_zero_or_pos (AC.chk a) with h3 | h3
      · rcases Nat.eq_zero_or_pos (AC.chk b) with h4 | h4
        · exact wholePrefix_ff a A ca b B cb w ha hb hR h1 h2 h3 h4
        · exact wholePrefix_eb a A ca b B cb w ha hb hR h1 h2 h3 h4
      · exact wholePrefix_ea a A ca b B cb w ha hb hR h1 h2 h3

end Go.Proofs.YtaaeefndhmfceaaDoor
