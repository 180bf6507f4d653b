/-
  NARROWER THAN 'FOR EVERY INPUT', by the rows' own cells (each row's printed sentence says how): RuleKeeps: laid · RuleTwice: laid · RuleBack: laid · RuleOwn: laid.
  DERIVED. THE GIVEN ROWS OF THIS SEAT. 4 by the template 'for every input the law returns true; each argument reads behind the call as it read before'; 0 by the template 'total and deterministic' (their statements: YtofaonknfihaiaaDoorTotals.lean).
  GIVEN WITH THE SEED: the statements are not yours to turn. If you find one false, say at which input.
  Laid BY PROGRAM, IN A SANDBOX (cutbox-rows.mjs): the forced cells as the released guide's own fill.sh prints them over the translation 38118c9858fa94a5… (all of the seat's roots in one cut). By AI agents, Wed Nov 11 2026. No macro, syntax, notation, axiom, sorry.
-/
import Derived.Test.YtofaonknfihaiaaDoorChecked
import GoSem.Claim
import GoSem.ClaimJoined
import GoSem.ClaimMapViews
import Derived.JoinedTies
import Derived.KernelRfl
namespace Go.Proofs.YtofaonknfihaiaaDoor
/- THE CELL 'sum', in the pinned program and in every row, IS THE sha256 OF THE DUMP (.gsa) THAT YtofaonknfihaiaaDoorProg.lean LOADS. Nothing in Lean hashes anything: it is a label: what it is worth is what the hold of that sum in a sandbox is worth. -/
noncomputable def Tryd.pinned : Pinned := { name := "ytofaonknfihaiaadoor", sum := "38118c9858fa94a5374af10e3770e946b123e97596c2f299155d6ffca0f69216", checked := Tryd.checked }
namespace Rows
def none {H : Type} : Left H := { results := [], args := [] }

/- WHAT THE LISTED PACKAGE-LEVEL VARIABLES READ AS WHEN THE CALL BEGINS. Each datum BY PROGRAM (the guide's laid-datum.mjs) off the statement by which the dump's own 'gosem.cut.vars' lays the variable. In a bare row this is a premise. The card (YtofaonknfihaiaaDoorCards.lean) ties it to the program's text. -/
def laid_moiety_act_rows {H : Type} : DataW H := .agg [.agg [.lit (.string []), .lit (.int .i64 0), .lit (.string []), .lit (.int .i64 0), .lit (.bool false)], .agg [.lit (.string [110, 101, 119]), .lit (.int .i64 0), .lit (.string [109]), .lit (.int .i64 0), .lit (.bool false)], .agg [.lit (.string [100, 114, 111, 112]), .lit (.int .i64 0), .lit (.string []), .lit (.int .i64 0), .lit (.bool false)], .agg [.lit (.string [105, 115]), .lit (.int .i64 0), .lit (.string []), .lit (.int .i64 0), .lit (.bool true)], .agg [.lit (.string [108, 111, 111, 107]), .lit (.int .i64 0), .lit (.string []), .lit (.int .i64 0), .lit (.bool true)], .agg [.lit (.string [112, 117, 116]), .lit (.int .i64 1), .lit (.string [115]), .lit (.int .i64 64), .lit (.bool false)], .agg [.lit (.string [115, 119, 97, 112]), .lit (.int .i64 1), .lit (.string [115]), .lit (.int .i64 64), .lit (.bool false)], .agg [.lit (.string [97, 100, 100]), .lit (.int .i64 2), .lit (.string [110]), .lit (.int .i64 0), .lit (.bool false)], .agg [.lit (.string [112, 108, 117, 115]), .lit (.int .i64 3), .lit (.string [110]), .lit (.int .i64 0), .lit (.bool false)], .agg [.lit (.string [114, 101, 97, 99, 104]), .lit (.int .i64 3), .lit (.string [110]), .lit (.int .i64 0), .lit (.bool true)], .agg [.lit (.string [105, 110]), .lit (.int .i64 4), .lit (.string [110]), .lit (.int .i64 0), .lit (.bool false)], .agg [.lit (.string [111, 117, 116]), .lit (.int .i64 4), .lit (.string [110]), .lit (.int .i64 0), .lit (.bool false)], .agg [.lit (.string [101, 110, 111, 117, 103, 104]), .lit (.int .i64 4), .lit (.string [110]), .lit (.int .i64 0), .lit (.bool true)], .agg [.lit (.string [114, 97, 105, 115, 101]), .lit (.int .i64 5), .lit (.string [120]), .lit (.int .i64 0), .lit (.bool false)], .agg [.lit (.string [108, 111, 119, 101, 114]), .lit (.int .i64 6), .lit (.string [120]), .lit (.int .i64 0), .lit (.bool false)], .agg [.lit (.string [115, 104, 105, 102, 116]), .lit (.int .i64 7), .lit (.string [120]), .lit (.int .i64 0), .lit (.bool false)], .agg [.lit (.string [115, 99, 97, 108, 101]), .lit (.int .i64 7), .lit (.string [120]), .lit (.int .i64 0), .lit (.bool false)], .agg [.lit (.string [102, 105, 120]), .lit (.int .i64 7), .lit (.string [120]), .lit (.int .i64 0), .lit (.bool false)], .agg [.lit (.string [106, 111, 105, 110]), .lit (.int .i64 8), .lit (.string [115]), .lit (.int .i64 16), .lit (.bool false)], .agg [.lit (.string [108, 101, 97, 118, 101]), .lit (.int .i64 8), .lit (.string [115]), .lit (.int .i64 16), .lit (.bool false)], .agg [.lit (.string [104, 97, 115]), .lit (.int .i64 8), .lit (.string [115]), .lit (.int .i64 16), .lit (.bool true)], .agg [.lit (.string [111, 102, 102, 101, 114]), .lit (.int .i64 9), .lit (.string [120, 115]), .lit (.int .i64 16), .lit (.bool false)]]

/-- 'moietylaw05.RuleKeeps': WHATEVER THE INPUT: true; the input reads as it did. -/
def ruleKeepsSpec : ChangeSpec := { name := "ruleKeeps", fn := fun _ => fun
  | [d1, d2, d3] => { results := [.lit (.bool true)], args := [d1, d2, d3] }
  | _ => none }
def ruleKeepsRow : OpenClaim := { program := "ytofaonknfihaiaadoor", sum := "38118c9858fa94a5374af10e3770e946b123e97596c2f299155d6ffca0f69216", func := "moiety/moietylaw05.RuleKeeps", spec := "ruleKeeps", inPlace := ["internal/bytealg.IndexByteString", "math.Float64frombits", "math.Float64bits", "slices.overlaps[moiety/api.Item]"], unfollowed := true, recurses := true, named := ["moiety/act.rows"], apart := false, laid := [("moiety/act.rows", laid_moiety_act_rows)] }
def RuleKeepsSaid : Prop := ruleKeepsRow.holds Tryd.pinned (OpenSpec.ofChange ruleKeepsSpec)

/-- ITS FALSE NEIGHBOUR: 'it returns false'. Refute it at one input. -/
def ruleKeepsWrong : ChangeSpec := { name := "ruleKeeps", fn := fun _ => fun
  | [d1, d2, d3] => { results := [.lit (.bool false)], args := [d1, d2, d3] }
  | _ => none }
def RuleKeepsWrongFalsely : Prop := ruleKeepsRow.holds Tryd.pinned (OpenSpec.ofChange ruleKeepsWrong)

/-- 'moietylaw05.RuleTwice': WHATEVER THE INPUT: true; the input reads as it did. -/
def ruleTwiceSpec : ChangeSpec := { name := "ruleTwice", fn := fun _ => fun
  | [d1, d2] => { results := [.lit (.bool true)], args := [d1, d2] }
  | _ => none }
def ruleTwiceRow : OpenClaim := { program := "ytofaonknfihaiaadoor", sum := "38118c9858fa94a5374af10e3770e946b123e97596c2f299155d6ffca0f69216", func := "moiety/moietylaw05.RuleTwice", spec := "ruleTwice", inPlace := ["internal/bytealg.IndexByteString", "math.Float64frombits", "math.Float64bits", "slices.overlaps[moiety/api.Item]"], unfollowed := true, recurses := true, named := ["moiety/act.rows"], apart := false, laid := [("moiety/act.rows", laid_moiety_act_rows)] }
def RuleTwiceSaid : Prop := ruleTwiceRow.holds Tryd.pinned (OpenSpec.ofChange ruleTwiceSpec)

/-- ITS FALSE NEIGHBOUR: 'it returns false'. Refute it at one input. -/
def ruleTwiceWrong : ChangeSpec := { name := "ruleTwice", fn := fun _ => fun
  | [d1, d2] => { results := [.lit (.bool false)], args := [d1, d2] }
  | _ => none }
def RuleTwiceWrongFalsely : Prop := ruleTwiceRow.holds Tryd.pinned (OpenSpec.ofChange ruleTwiceWrong)

/-- 'moietylaw05.RuleBack': WHATEVER THE INPUT: true; the input reads as it did. -/
def ruleBackSpec : ChangeSpec := { name := "ruleBack", fn := fun _ => fun
  | [d1, d2] => { results := [.lit (.bool true)], args := [d1, d2] }
  | _ => none }
def ruleBackRow : OpenClaim := { program := "ytofaonknfihaiaadoor", sum := "38118c9858fa94a5374af10e3770e946b123e97596c2f299155d6ffca0f69216", func := "moiety/moietylaw05.RuleBack", spec := "ruleBack", inPlace := ["internal/bytealg.IndexByteString", "math.Float64frombits", "math.Float64bits", "slices.overlaps[moiety/api.Item]"], unfollowed := true, recurses := true, named := ["moiety/act.rows"], apart := false, laid := [("moiety/act.rows", laid_moiety_act_rows)] }
def RuleBackSaid : Prop := ruleBackRow.holds Tryd.pinned (OpenSpec.ofChange ruleBackSpec)

/-- ITS FALSE NEIGHBOUR: 'it returns false'. Refute it at one input. -/
def ruleBackWrong : ChangeSpec := { name := "ruleBack", fn := fun _ => fun
  | [d1, d2] => { results := [.lit (.bool false)], args := [d1, d2] }
  | _ => none }
def RuleBackWrongFalsely : Prop := ruleBackRow.holds Tryd.pinned (OpenSpec.ofChange ruleBackWrong)

/-- 'moietylaw05.RuleOwn': WHATEVER THE INPUT: true; the input reads as it did. -/
def ruleOwnSpec : ChangeSpec := { name := "ruleOwn", fn := fun _ => fun
  | [d1, d2] => { results := [.lit (.bool true)], args := [d1, d2] }
  | _ => none }
def ruleOwnRow : OpenClaim := { program := "ytofaonknfihaiaadoor", sum := "38118c9858fa94a5374af10e3770e946b123e97596c2f299155d6ffca0f69216", func := "moiety/moietylaw05.RuleOwn", spec := "ruleOwn", inPlace := ["internal/bytealg.IndexByteString", "math.Float64frombits", "math.Float64bits", "slices.overlaps[moiety/api.Item]"], unfollowed := true, recurses := true, named := ["moiety/act.rows"], apart := false, laid := [("moiety/act.rows", laid_moiety_act_rows)] }
def RuleOwnSaid : Prop := ruleOwnRow.holds Tryd.pinned (OpenSpec.ofChange ruleOwnSpec)

/-- ITS FALSE NEIGHBOUR: 'it returns false'. Refute it at one input. -/
def ruleOwnWrong : ChangeSpec := { name := "ruleOwn", fn := fun _ => fun
  | [d1, d2] => { results := [.lit (.bool false)], args := [d1, d2] }
  | _ => none }
def RuleOwnWrongFalsely : Prop := ruleOwnRow.holds Tryd.pinned (OpenSpec.ofChange ruleOwnWrong)

/- THE SECOND FORM. 'bulk': how many values and letters a reading holds, each counted each time it is reached (what is shared counts as often as it is met; a slice's spare places count too). A statement '..UptoSaid' is the law's where the arguments, and the package variables that the reading takes, are together of bulk at most 1048576: NARROWER than '..Said'. Prove '..Said' where nothing that the law and all that it calls make is longer than what came in: it says more and counts as full. Else prove '..UptoSaid'. A law counts once. -/
mutual
def uptoBulk {H : Type} : DataW H → Nat
  | .lit (.string bytes) => bytes.length + 1
  | .lit _ => 1
  | .nil => 1
  | .ptr d => uptoBulk d + 1
  | .slice elems spare => uptoBulkAll elems + uptoBulkAll spare + 1
  | .agg parts => uptoBulkAll parts + 1
  | .iface _ d => uptoBulk d + 1
  | .map entries => uptoBulkEntries entries + 1
  | .held _ => 1
def uptoBulkAll {H : Type} : List (DataW H) → Nat
  | [] => 0
  | d :: r => uptoBulk d + uptoBulkAll r
def uptoBulkEntries {H : Type} : List (Lit × DataW H) → Nat
  | [] => 0
  | x :: r => uptoBulkEntry x + uptoBulkEntries r
def uptoBulkEntry {H : Type} : Lit × DataW H → Nat
  | (.string bytes, d) => bytes.length + uptoBulk d + 1
  | (_, d) => uptoBulk d + 1
 end
def uptoSmall : (H : Type) → List (DataW H) → Bool := fun _ ds => decide (uptoBulkAll ds ≤ 1048576)
def OpenSpec.upto (s : _root_.Go.ChangeSpec) : _root_.Go.OpenSpec := { _root_.Go.OpenSpec.ofChange s with cond := some uptoSmall }

/-- 'moietylaw05.RuleKeeps', WHERE WHAT IT READS IS OF BULK AT MOST 1048576: true; the input reads as it did. -/
def ruleKeepsUptoRow : OpenClaim := { program := "ytofaonknfihaiaadoor", sum := "38118c9858fa94a5374af10e3770e946b123e97596c2f299155d6ffca0f69216", func := "moiety/moietylaw05.RuleKeeps", spec := "ruleKeeps", inPlace := ["internal/bytealg.IndexByteString", "math.Float64frombits", "math.Float64bits", "slices.overlaps[moiety/api.Item]"], unfollowed := true, recurses := true, named := ["moiety/act.rows"], apart := false, laid := [("moiety/act.rows", laid_moiety_act_rows)], narrowed := true }
def RuleKeepsUptoSaid : Prop := ruleKeepsUptoRow.holds Tryd.pinned (OpenSpec.upto ruleKeepsSpec)

/-- 'moietylaw05.RuleTwice', WHERE WHAT IT READS IS OF BULK AT MOST 1048576: true; the input reads as it did. -/
def ruleTwiceUptoRow : OpenClaim := { program := "ytofaonknfihaiaadoor", sum := "38118c9858fa94a5374af10e3770e946b123e97596c2f299155d6ffca0f69216", func := "moiety/moietylaw05.RuleTwice", spec := "ruleTwice", inPlace := ["internal/bytealg.IndexByteString", "math.Float64frombits", "math.Float64bits", "slices.overlaps[moiety/api.Item]"], unfollowed := true, recurses := true, named := ["moiety/act.rows"], apart := false, laid := [("moiety/act.rows", laid_moiety_act_rows)], narrowed := true }
def RuleTwiceUptoSaid : Prop := ruleTwiceUptoRow.holds Tryd.pinned (OpenSpec.upto ruleTwiceSpec)

/-- 'moietylaw05.RuleBack', WHERE WHAT IT READS IS OF BULK AT MOST 1048576: true; the input reads as it did. -/
def ruleBackUptoRow : OpenClaim := { program := "ytofaonknfihaiaadoor", sum := "38118c9858fa94a5374af10e3770e946b123e97596c2f299155d6ffca0f69216", func := "moiety/moietylaw05.RuleBack", spec := "ruleBack", inPlace := ["internal/bytealg.IndexByteString", "math.Float64frombits", "math.Float64bits", "slices.overlaps[moiety/api.Item]"], unfollowed := true, recurses := true, named := ["moiety/act.rows"], apart := false, laid := [("moiety/act.rows", laid_moiety_act_rows)], narrowed := true }
def RuleBackUptoSaid : Prop := ruleBackUptoRow.holds Tryd.pinned (OpenSpec.upto ruleBackSpec)

/-- 'moietylaw05.RuleOwn', WHERE WHAT IT READS IS OF BULK AT MOST 1048576: true; the input reads as it did. -/
def ruleOwnUptoRow : OpenClaim := { program := "ytofaonknfihaiaadoor", sum := "38118c9858fa94a5374af10e3770e946b123e97596c2f299155d6ffca0f69216", func := "moiety/moietylaw05.RuleOwn", spec := "ruleOwn", inPlace := ["internal/bytealg.IndexByteString", "math.Float64frombits", "math.Float64bits", "slices.overlaps[moiety/api.Item]"], unfollowed := true, recurses := true, named := ["moiety/act.rows"], apart := false, laid := [("moiety/act.rows", laid_moiety_act_rows)], narrowed := true }
def RuleOwnUptoSaid : Prop := ruleOwnUptoRow.holds Tryd.pinned (OpenSpec.upto ruleOwnSpec)

end Rows
end Go.Proofs.YtofaonknfihaiaaDoor
