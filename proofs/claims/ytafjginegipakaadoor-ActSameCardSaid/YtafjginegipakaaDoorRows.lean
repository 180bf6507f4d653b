/-
  NARROWER THAN 'FOR EVERY INPUT', by the rows' own cells (each row's printed sentence says how): RecReads: laid · ActKinds: laid · ActChecks: laid · ActSame: laid · ActTakes: laid · RuleKeeps: laid · RuleTwice: laid · RuleOwn: laid · PairKinds: laid.
  DERIVED. THE GIVEN ROWS OF THIS SEAT. 9 by the template 'for every input the law returns true; each argument reads behind the call as it read before'; 0 by the template 'total and deterministic' (their statements: YtafjginegipakaaDoorTotals.lean).
  GIVEN WITH THE SEED: the statements are not yours to turn. If you find one false, say at which input.
  Laid BY PROGRAM, IN A SANDBOX (cutbox-rows.mjs): the forced cells as the released guide's own fill.sh prints them over the translation dc01567a69d396d6… (all of the seat's roots in one cut). By AI agents, Wed Nov 11 2026. No macro, syntax, notation, axiom, sorry.
-/
import Derived.Test.YtafjginegipakaaDoorChecked
import GoSem.Claim
import GoSem.ClaimJoined
import GoSem.ClaimMapViews
import Derived.JoinedTies
import Derived.KernelRfl
namespace Go.Proofs.YtafjginegipakaaDoor
/- THE CELL 'sum', in the pinned program and in every row, IS THE sha256 OF THE DUMP (.gsa) THAT YtafjginegipakaaDoorProg.lean LOADS. Nothing in Lean hashes anything: it is a label: what it is worth is what the hold of that sum in a sandbox is worth. -/
noncomputable def Tryd.pinned : Pinned := { name := "ytafjginegipakaadoor", sum := "dc01567a69d396d69a4448601eec1dd52d30be7f02ef5d73570b82b96d083da4", checked := Tryd.checked }
namespace Rows
def none {H : Type} : Left H := { results := [], args := [] }

/- WHAT THE LISTED PACKAGE-LEVEL VARIABLES READ AS WHEN THE CALL BEGINS. Each datum BY PROGRAM (the guide's laid-datum.mjs) off the statement by which the dump's own 'gosem.cut.vars' lays the variable. In a bare row this is a premise. The card (YtafjginegipakaaDoorCards.lean) ties it to the program's text. -/
def laid_moiety_rec_names {H : Type} : DataW H := .agg [.lit (.string []), .lit (.string [116, 101, 120, 116]), .lit (.string [115, 117, 109]), .lit (.string [99, 111, 117, 110, 116]), .lit (.string [112, 117, 114, 115, 101]), .lit (.string [112, 101, 97, 107]), .lit (.string [100, 105, 112]), .lit (.string [108, 101, 118, 101, 108]), .lit (.string [115, 101, 116]), .lit (.string [116, 111, 112])]
def laid_moiety_act_rows {H : Type} : DataW H := .agg [.agg [.lit (.string []), .lit (.int .i64 0), .lit (.string []), .lit (.int .i64 0), .lit (.bool false)], .agg [.lit (.string [110, 101, 119]), .lit (.int .i64 0), .lit (.string [109]), .lit (.int .i64 0), .lit (.bool false)], .agg [.lit (.string [100, 114, 111, 112]), .lit (.int .i64 0), .lit (.string []), .lit (.int .i64 0), .lit (.bool false)], .agg [.lit (.string [105, 115]), .lit (.int .i64 0), .lit (.string []), .lit (.int .i64 0), .lit (.bool true)], .agg [.lit (.string [108, 111, 111, 107]), .lit (.int .i64 0), .lit (.string []), .lit (.int .i64 0), .lit (.bool true)], .agg [.lit (.string [112, 117, 116]), .lit (.int .i64 1), .lit (.string [115]), .lit (.int .i64 64), .lit (.bool false)], .agg [.lit (.string [115, 119, 97, 112]), .lit (.int .i64 1), .lit (.string [115]), .lit (.int .i64 64), .lit (.bool false)], .agg [.lit (.string [97, 100, 100]), .lit (.int .i64 2), .lit (.string [110]), .lit (.int .i64 0), .lit (.bool false)], .agg [.lit (.string [112, 108, 117, 115]), .lit (.int .i64 3), .lit (.string [110]), .lit (.int .i64 0), .lit (.bool false)], .agg [.lit (.string [114, 101, 97, 99, 104]), .lit (.int .i64 3), .lit (.string [110]), .lit (.int .i64 0), .lit (.bool true)], .agg [.lit (.string [105, 110]), .lit (.int .i64 4), .lit (.string [110]), .lit (.int .i64 0), .lit (.bool false)], .agg [.lit (.string [111, 117, 116]), .lit (.int .i64 4), .lit (.string [110]), .lit (.int .i64 0), .lit (.bool false)], .agg [.lit (.string [101, 110, 111, 117, 103, 104]), .lit (.int .i64 4), .lit (.string [110]), .lit (.int .i64 0), .lit (.bool true)], .agg [.lit (.string [114, 97, 105, 115, 101]), .lit (.int .i64 5), .lit (.string [120]), .lit (.int .i64 0), .lit (.bool false)], .agg [.lit (.string [108, 111, 119, 101, 114]), .lit (.int .i64 6), .lit (.string [120]), .lit (.int .i64 0), .lit (.bool false)], .agg [.lit (.string [115, 104, 105, 102, 116]), .lit (.int .i64 7), .lit (.string [120]), .lit (.int .i64 0), .lit (.bool false)], .agg [.lit (.string [115, 99, 97, 108, 101]), .lit (.int .i64 7), .lit (.string [120]), .lit (.int .i64 0), .lit (.bool false)], .agg [.lit (.string [102, 105, 120]), .lit (.int .i64 7), .lit (.string [120]), .lit (.int .i64 0), .lit (.bool false)], .agg [.lit (.string [106, 111, 105, 110]), .lit (.int .i64 8), .lit (.string [115]), .lit (.int .i64 16), .lit (.bool false)], .agg [.lit (.string [108, 101, 97, 118, 101]), .lit (.int .i64 8), .lit (.string [115]), .lit (.int .i64 16), .lit (.bool false)], .agg [.lit (.string [104, 97, 115]), .lit (.int .i64 8), .lit (.string [115]), .lit (.int .i64 16), .lit (.bool true)], .agg [.lit (.string [111, 102, 102, 101, 114]), .lit (.int .i64 9), .lit (.string [120, 115]), .lit (.int .i64 16), .lit (.bool false)]]

/-- 'moietylaw03.RecReads': WHATEVER THE INPUT: true; the input reads as it did. -/
def recReadsSpec : ChangeSpec := { name := "recReads", fn := fun _ => fun
  | [d] => { results := [.lit (.bool true)], args := [d] }
  | _ => none }
def recReadsRow : OpenClaim := { program := "ytafjginegipakaadoor", sum := "dc01567a69d396d69a4448601eec1dd52d30be7f02ef5d73570b82b96d083da4", func := "moiety/moietylaw03.RecReads", spec := "recReads", inPlace := ["math.Float64frombits", "math.Float64bits"], unfollowed := true, recurses := true, named := ["moiety/rec.names"], apart := false, laid := [("moiety/rec.names", laid_moiety_rec_names)] }
def RecReadsSaid : Prop := recReadsRow.holds Tryd.pinned (OpenSpec.ofChange recReadsSpec)

/-- ITS FALSE NEIGHBOUR: 'it returns false'. Refute it at one input. -/
def recReadsWrong : ChangeSpec := { name := "recReads", fn := fun _ => fun
  | [d] => { results := [.lit (.bool false)], args := [d] }
  | _ => none }
def RecReadsWrongFalsely : Prop := recReadsRow.holds Tryd.pinned (OpenSpec.ofChange recReadsWrong)

/-- 'moietylaw04.ActKinds': WHATEVER THE INPUT: true; the input reads as it did. -/
def actKindsSpec : ChangeSpec := { name := "actKinds", fn := fun _ => fun
  | [d1, d2] => { results := [.lit (.bool true)], args := [d1, d2] }
  | _ => none }
def actKindsRow : OpenClaim := { program := "ytafjginegipakaadoor", sum := "dc01567a69d396d69a4448601eec1dd52d30be7f02ef5d73570b82b96d083da4", func := "moiety/moietylaw04.ActKinds", spec := "actKinds", inPlace := ["internal/bytealg.IndexByteString", "math.Float64frombits", "math.Float64bits"], unfollowed := true, recurses := true, named := ["moiety/act.rows"], apart := false, laid := [("moiety/act.rows", laid_moiety_act_rows)] }
def ActKindsSaid : Prop := actKindsRow.holds Tryd.pinned (OpenSpec.ofChange actKindsSpec)

/-- ITS FALSE NEIGHBOUR: 'it returns false'. Refute it at one input. -/
def actKindsWrong : ChangeSpec := { name := "actKinds", fn := fun _ => fun
  | [d1, d2] => { results := [.lit (.bool false)], args := [d1, d2] }
  | _ => none }
def ActKindsWrongFalsely : Prop := actKindsRow.holds Tryd.pinned (OpenSpec.ofChange actKindsWrong)

/-- 'moietylaw04.ActChecks': WHATEVER THE INPUT: true; the input reads as it did. -/
def actChecksSpec : ChangeSpec := { name := "actChecks", fn := fun _ => fun
  | [d] => { results := [.lit (.bool true)], args := [d] }
  | _ => none }
def actChecksRow : OpenClaim := { program := "ytafjginegipakaadoor", sum := "dc01567a69d396d69a4448601eec1dd52d30be7f02ef5d73570b82b96d083da4", func := "moiety/moietylaw04.ActChecks", spec := "actChecks", inPlace := ["internal/bytealg.IndexByteString", "math.Float64frombits", "math.Float64bits"], unfollowed := true, recurses := true, named := ["moiety/act.rows"], apart := false, laid := [("moiety/act.rows", laid_moiety_act_rows)] }
def ActChecksSaid : Prop := actChecksRow.holds Tryd.pinned (OpenSpec.ofChange actChecksSpec)

/-- ITS FALSE NEIGHBOUR: 'it returns false'. Refute it at one input. -/
def actChecksWrong : ChangeSpec := { name := "actChecks", fn := fun _ => fun
  | [d] => { results := [.lit (.bool false)], args := [d] }
  | _ => none }
def ActChecksWrongFalsely : Prop := actChecksRow.holds Tryd.pinned (OpenSpec.ofChange actChecksWrong)

/-- 'moietylaw04.ActSame': WHATEVER THE INPUT: true; the input reads as it did. -/
def actSameSpec : ChangeSpec := { name := "actSame", fn := fun _ => fun
  | [d1, d2] => { results := [.lit (.bool true)], args := [d1, d2] }
  | _ => none }
def actSameRow : OpenClaim := { program := "ytafjginegipakaadoor", sum := "dc01567a69d396d69a4448601eec1dd52d30be7f02ef5d73570b82b96d083da4", func := "moiety/moietylaw04.ActSame", spec := "actSame", inPlace := ["internal/bytealg.IndexByteString", "math.Float64frombits", "math.Float64bits"], unfollowed := true, recurses := true, named := ["moiety/act.rows"], apart := false, laid := [("moiety/act.rows", laid_moiety_act_rows)] }
def ActSameSaid : Prop := actSameRow.holds Tryd.pinned (OpenSpec.ofChange actSameSpec)

/-- ITS FALSE NEIGHBOUR: 'it returns false'. Refute it at one input. -/
def actSameWrong : ChangeSpec := { name := "actSame", fn := fun _ => fun
  | [d1, d2] => { results := [.lit (.bool false)], args := [d1, d2] }
  | _ => none }
def ActSameWrongFalsely : Prop := actSameRow.holds Tryd.pinned (OpenSpec.ofChange actSameWrong)

/-- 'moietylaw04.ActTakes': WHATEVER THE INPUT: true; the input reads as it did. -/
def actTakesSpec : ChangeSpec := { name := "actTakes", fn := fun _ => fun
  | [d] => { results := [.lit (.bool true)], args := [d] }
  | _ => none }
def actTakesRow : OpenClaim := { program := "ytafjginegipakaadoor", sum := "dc01567a69d396d69a4448601eec1dd52d30be7f02ef5d73570b82b96d083da4", func := "moiety/moietylaw04.ActTakes", spec := "actTakes", inPlace := ["internal/bytealg.IndexByteString", "math.Float64frombits", "math.Float64bits"], unfollowed := true, recurses := true, named := ["moiety/act.rows"], apart := false, laid := [("moiety/act.rows", laid_moiety_act_rows)] }
def ActTakesSaid : Prop := actTakesRow.holds Tryd.pinned (OpenSpec.ofChange actTakesSpec)

/-- ITS FALSE NEIGHBOUR: 'it returns false'. Refute it at one input. -/
def actTakesWrong : ChangeSpec := { name := "actTakes", fn := fun _ => fun
  | [d] => { results := [.lit (.bool false)], args := [d] }
  | _ => none }
def ActTakesWrongFalsely : Prop := actTakesRow.holds Tryd.pinned (OpenSpec.ofChange actTakesWrong)

/-- 'moietylaw05.RuleKeeps': WHATEVER THE INPUT: true; the input reads as it did. -/
def ruleKeepsSpec : ChangeSpec := { name := "ruleKeeps", fn := fun _ => fun
  | [d1, d2, d3] => { results := [.lit (.bool true)], args := [d1, d2, d3] }
  | _ => none }
def ruleKeepsRow : OpenClaim := { program := "ytafjginegipakaadoor", sum := "dc01567a69d396d69a4448601eec1dd52d30be7f02ef5d73570b82b96d083da4", func := "moiety/moietylaw05.RuleKeeps", spec := "ruleKeeps", inPlace := ["internal/bytealg.IndexByteString", "math.Float64frombits", "math.Float64bits", "slices.overlaps[moiety/api.Item]"], unfollowed := true, recurses := true, named := ["moiety/act.rows"], apart := false, laid := [("moiety/act.rows", laid_moiety_act_rows)] }
def RuleKeepsSaid : Prop := ruleKeepsRow.holds Tryd.pinned (OpenSpec.ofChange ruleKeepsSpec)

/-- ITS FALSE NEIGHBOUR: 'it returns false'. Refute it at one input. -/
def ruleKeepsWrong : ChangeSpec := { name := "ruleKeeps", fn := fun _ => fun
  | [d1, d2, d3] => { results := [.lit (.bool false)], args := [d1, d2, d3] }
  | _ => none }
def RuleKeepsWrongFalsely : Prop := ruleKeepsRow.holds Tryd.pinned (OpenSpec.ofChange ruleKeepsWrong)

/-- 'moietylaw05.RuleTwice': WHATEVER THE INPUT: true; the input reads as it did. -/
def ruleTwiceSpec : ChangeSpec := { name := "ruleTwice", fn := fun _ => fun
  | [d1, d2] => { results := [.lit (.bool true)], args := [d1, d2] }
  | _ => none }
def ruleTwiceRow : OpenClaim := { program := "ytafjginegipakaadoor", sum := "dc01567a69d396d69a4448601eec1dd52d30be7f02ef5d73570b82b96d083da4", func := "moiety/moietylaw05.RuleTwice", spec := "ruleTwice", inPlace := ["internal/bytealg.IndexByteString", "math.Float64frombits", "math.Float64bits", "slices.overlaps[moiety/api.Item]"], unfollowed := true, recurses := true, named := ["moiety/act.rows"], apart := false, laid := [("moiety/act.rows", laid_moiety_act_rows)] }
def RuleTwiceSaid : Prop := ruleTwiceRow.holds Tryd.pinned (OpenSpec.ofChange ruleTwiceSpec)

/-- ITS FALSE NEIGHBOUR: 'it returns false'. Refute it at one input. -/
def ruleTwiceWrong : ChangeSpec := { name := "ruleTwice", fn := fun _ => fun
  | [d1, d2] => { results := [.lit (.bool false)], args := [d1, d2] }
  | _ => none }
def RuleTwiceWrongFalsely : Prop := ruleTwiceRow.holds Tryd.pinned (OpenSpec.ofChange ruleTwiceWrong)

/-- 'moietylaw05.RuleOwn': WHATEVER THE INPUT: true; the input reads as it did. -/
def ruleOwnSpec : ChangeSpec := { name := "ruleOwn", fn := fun _ => fun
  | [d1, d2] => { results := [.lit (.bool true)], args := [d1, d2] }
  | _ => none }
def ruleOwnRow : OpenClaim := { program := "ytafjginegipakaadoor", sum := "dc01567a69d396d69a4448601eec1dd52d30be7f02ef5d73570b82b96d083da4", func := "moiety/moietylaw05.RuleOwn", spec := "ruleOwn", inPlace := ["internal/bytealg.IndexByteString", "math.Float64frombits", "math.Float64bits", "slices.overlaps[moiety/api.Item]"], unfollowed := true, recurses := true, named := ["moiety/act.rows"], apart := false, laid := [("moiety/act.rows", laid_moiety_act_rows)] }
def RuleOwnSaid : Prop := ruleOwnRow.holds Tryd.pinned (OpenSpec.ofChange ruleOwnSpec)

/-- ITS FALSE NEIGHBOUR: 'it returns false'. Refute it at one input. -/
def ruleOwnWrong : ChangeSpec := { name := "ruleOwn", fn := fun _ => fun
  | [d1, d2] => { results := [.lit (.bool false)], args := [d1, d2] }
  | _ => none }
def RuleOwnWrongFalsely : Prop := ruleOwnRow.holds Tryd.pinned (OpenSpec.ofChange ruleOwnWrong)

/-- 'moietylaw06.PairKinds': WHATEVER THE INPUT: true; the input reads as it did. -/
def pairKindsSpec : ChangeSpec := { name := "pairKinds", fn := fun _ => fun
  | [d1, d2, d3] => { results := [.lit (.bool true)], args := [d1, d2, d3] }
  | _ => none }
def pairKindsRow : OpenClaim := { program := "ytafjginegipakaadoor", sum := "dc01567a69d396d69a4448601eec1dd52d30be7f02ef5d73570b82b96d083da4", func := "moiety/moietylaw06.PairKinds", spec := "pairKinds", inPlace := ["internal/bytealg.IndexByteString", "math.Float64frombits", "math.Float64bits", "slices.overlaps[moiety/api.Item]"], unfollowed := true, recurses := true, named := ["moiety/act.rows"], apart := false, laid := [("moiety/act.rows", laid_moiety_act_rows)] }
def PairKindsSaid : Prop := pairKindsRow.holds Tryd.pinned (OpenSpec.ofChange pairKindsSpec)

/-- ITS FALSE NEIGHBOUR: 'it returns false'. Refute it at one input. -/
def pairKindsWrong : ChangeSpec := { name := "pairKinds", fn := fun _ => fun
  | [d1, d2, d3] => { results := [.lit (.bool false)], args := [d1, d2, d3] }
  | _ => none }
def PairKindsWrongFalsely : Prop := pairKindsRow.holds Tryd.pinned (OpenSpec.ofChange pairKindsWrong)

/- THE SECOND FORM. 'bulk': how many values and letters a reading holds, each counted each time it is reached (what is shared counts as often as it is met; a slice's spare places count too). A statement '..UptoSaid' is the law's where the arguments, and the package variables that the reading takes, are together of bulk at most 1048576: NARROWER than '..Said'. Prove '..Said' where nothing that the law and all that it calls make is longer than what came in: it says more and counts as full. Else prove '..UptoSaid'. A law counts once. -/
mutual
def uptoBulk {H : Type} : DataW H → Nat
  | .lit (.string bytes) => bytes.length + 1
  | .lit _ => 1
  | .nil => 1
  | .ptr d => uptoBulk d + 1
  | .slice elems spare => uptoBulkAll elems + uptoBulkAll spare + 1
  | .agg parts => uptoBulkAll parts + 1
  | .iface _ d => uptoBulk d + 1
  | .map entries => uptoBulkEntries entries + 1
  | .held _ => 1
def uptoBulkAll {H : Type} : List (DataW H) → Nat
  | [] => 0
  | d :: r => uptoBulk d + uptoBulkAll r
def uptoBulkEntries {H : Type} : List (Lit × DataW H) → Nat
  | [] => 0
  | x :: r => uptoBulkEntry x + uptoBulkEntries r
def uptoBulkEntry {H : Type} : Lit × DataW H → Nat
  | (.string bytes, d) => bytes.length + uptoBulk d + 1
  | (_, d) => uptoBulk d + 1
 end
def uptoSmall : (H : Type) → List (DataW H) → Bool := fun _ ds => decide (uptoBulkAll ds ≤ 1048576)
def OpenSpec.upto (s : _root_.Go.ChangeSpec) : _root_.Go.OpenSpec := { _root_.Go.OpenSpec.ofChange s with cond := some uptoSmall }

/-- 'moietylaw03.RecReads', WHERE WHAT IT READS IS OF BULK AT MOST 1048576: true; the input reads as it did. -/
def recReadsUptoRow : OpenClaim := { program := "ytafjginegipakaadoor", sum := "dc01567a69d396d69a4448601eec1dd52d30be7f02ef5d73570b82b96d083da4", func := "moiety/moietylaw03.RecReads", spec := "recReads", inPlace := ["math.Float64frombits", "math.Float64bits"], unfollowed := true, recurses := true, named := ["moiety/rec.names"], apart := false, laid := [("moiety/rec.names", laid_moiety_rec_names)], narrowed := true }
def RecReadsUptoSaid : Prop := recReadsUptoRow.holds Tryd.pinned (OpenSpec.upto recReadsSpec)

/-- 'moietylaw04.ActKinds', WHERE WHAT IT READS IS OF BULK AT MOST 1048576: true; the input reads as it did. -/
def actKindsUptoRow : OpenClaim := { program := "ytafjginegipakaadoor", sum := "dc01567a69d396d69a4448601eec1dd52d30be7f02ef5d73570b82b96d083da4", func := "moiety/moietylaw04.ActKinds", spec := "actKinds", inPlace := ["internal/bytealg.IndexByteString", "math.Float64frombits", "math.Float64bits"], unfollowed := true, recurses := true, named := ["moiety/act.rows"], apart := false, laid := [("moiety/act.rows", laid_moiety_act_rows)], narrowed := true }
def ActKindsUptoSaid : Prop := actKindsUptoRow.holds Tryd.pinned (OpenSpec.upto actKindsSpec)

/-- 'moietylaw04.ActChecks', WHERE WHAT IT READS IS OF BULK AT MOST 1048576: true; the input reads as it did. -/
def actChecksUptoRow : OpenClaim := { program := "ytafjginegipakaadoor", sum := "dc01567a69d396d69a4448601eec1dd52d30be7f02ef5d73570b82b96d083da4", func := "moiety/moietylaw04.ActChecks", spec := "actChecks", inPlace := ["internal/bytealg.IndexByteString", "math.Float64frombits", "math.Float64bits"], unfollowed := true, recurses := true, named := ["moiety/act.rows"], apart := false, laid := [("moiety/act.rows", laid_moiety_act_rows)], narrowed := true }
def ActChecksUptoSaid : Prop := actChecksUptoRow.holds Tryd.pinned (OpenSpec.upto actChecksSpec)

/-- 'moietylaw04.ActSame', WHERE WHAT IT READS IS OF BULK AT MOST 1048576: true; the input reads as it did. -/
def actSameUptoRow : OpenClaim := { program := "ytafjginegipakaadoor", sum := "dc01567a69d396d69a4448601eec1dd52d30be7f02ef5d73570b82b96d083da4", func := "moiety/moietylaw04.ActSame", spec := "actSame", inPlace := ["internal/bytealg.IndexByteString", "math.Float64frombits", "math.Float64bits"], unfollowed := true, recurses := true, named := ["moiety/act.rows"], apart := false, laid := [("moiety/act.rows", laid_moiety_act_rows)], narrowed := true }
def ActSameUptoSaid : Prop := actSameUptoRow.holds Tryd.pinned (OpenSpec.upto actSameSpec)

/-- 'moietylaw04.ActTakes', WHERE WHAT IT READS IS OF BULK AT MOST 1048576: true; the input reads as it did. -/
def actTakesUptoRow : OpenClaim := { program := "ytafjginegipakaadoor", sum := "dc01567a69d396d69a4448601eec1dd52d30be7f02ef5d73570b82b96d083da4", func := "moiety/moietylaw04.ActTakes", spec := "actTakes", inPlace := ["internal/bytealg.IndexByteString", "math.Float64frombits", "math.Float64bits"], unfollowed := true, recurses := true, named := ["moiety/act.rows"], apart := false, laid := [("moiety/act.rows", laid_moiety_act_rows)], narrowed := true }
def ActTakesUptoSaid : Prop := actTakesUptoRow.holds Tryd.pinned (OpenSpec.upto actTakesSpec)

/-- 'moietylaw05.RuleKeeps', WHERE WHAT IT READS IS OF BULK AT MOST 1048576: true; the input reads as it did. -/
def ruleKeepsUptoRow : OpenClaim := { program := "ytafjginegipakaadoor", sum := "dc01567a69d396d69a4448601eec1dd52d30be7f02ef5d73570b82b96d083da4", func := "moiety/moietylaw05.RuleKeeps", spec := "ruleKeeps", inPlace := ["internal/bytealg.IndexByteString", "math.Float64frombits", "math.Float64bits", "slices.overlaps[moiety/api.Item]"], unfollowed := true, recurses := true, named := ["moiety/act.rows"], apart := false, laid := [("moiety/act.rows", laid_moiety_act_rows)], narrowed := true }
def RuleKeepsUptoSaid : Prop := ruleKeepsUptoRow.holds Tryd.pinned (OpenSpec.upto ruleKeepsSpec)

/-- 'moietylaw05.RuleTwice', WHERE WHAT IT READS IS OF BULK AT MOST 1048576: true; the input reads as it did. -/
def ruleTwiceUptoRow : OpenClaim := { program := "ytafjginegipakaadoor", sum := "dc01567a69d396d69a4448601eec1dd52d30be7f02ef5d73570b82b96d083da4", func := "moiety/moietylaw05.RuleTwice", spec := "ruleTwice", inPlace := ["internal/bytealg.IndexByteString", "math.Float64frombits", "math.Float64bits", "slices.overlaps[moiety/api.Item]"], unfollowed := true, recurses := true, named := ["moiety/act.rows"], apart := false, laid := [("moiety/act.rows", laid_moiety_act_rows)], narrowed := true }
def RuleTwiceUptoSaid : Prop := ruleTwiceUptoRow.holds Tryd.pinned (OpenSpec.upto ruleTwiceSpec)

/-- 'moietylaw05.RuleOwn', WHERE WHAT IT READS IS OF BULK AT MOST 1048576: true; the input reads as it did. -/
def ruleOwnUptoRow : OpenClaim := { program := "ytafjginegipakaadoor", sum := "dc01567a69d396d69a4448601eec1dd52d30be7f02ef5d73570b82b96d083da4", func := "moiety/moietylaw05.RuleOwn", spec := "ruleOwn", inPlace := ["internal/bytealg.IndexByteString", "math.Float64frombits", "math.Float64bits", "slices.overlaps[moiety/api.Item]"], unfollowed := true, recurses := true, named := ["moiety/act.rows"], apart := false, laid := [("moiety/act.rows", laid_moiety_act_rows)], narrowed := true }
def RuleOwnUptoSaid : Prop := ruleOwnUptoRow.holds Tryd.pinned (OpenSpec.upto ruleOwnSpec)

/-- 'moietylaw06.PairKinds', WHERE WHAT IT READS IS OF BULK AT MOST 1048576: true; the input reads as it did. -/
def pairKindsUptoRow : OpenClaim := { program := "ytafjginegipakaadoor", sum := "dc01567a69d396d69a4448601eec1dd52d30be7f02ef5d73570b82b96d083da4", func := "moiety/moietylaw06.PairKinds", spec := "pairKinds", inPlace := ["internal/bytealg.IndexByteString", "math.Float64frombits", "math.Float64bits", "slices.overlaps[moiety/api.Item]"], unfollowed := true, recurses := true, named := ["moiety/act.rows"], apart := false, laid := [("moiety/act.rows", laid_moiety_act_rows)], narrowed := true }
def PairKindsUptoSaid : Prop := pairKindsUptoRow.holds Tryd.pinned (OpenSpec.upto pairKindsSpec)

end Rows
end Go.Proofs.YtafjginegipakaaDoor
