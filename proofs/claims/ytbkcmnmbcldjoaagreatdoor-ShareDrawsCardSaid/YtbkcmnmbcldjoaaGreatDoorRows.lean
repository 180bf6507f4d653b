/-
  NARROWER THAN 'FOR EVERY INPUT', by the rows' own cells (each row's printed sentence says how): ShareSlices: laid · ShareMerges: laid · ShareDraws: laid · ShareEscrow: laid · ShareSome: laid · WholeTraces: laid · WholeShares: laid.
  DERIVED. THE GIVEN ROWS OF THIS SEAT. 7 by the template 'for every input the law returns true; each argument reads behind the call as it read before'; 0 by the template 'total and deterministic' (their statements: YtbkcmnmbcldjoaaGreatDoorTotals.lean).
  GIVEN WITH THE SEED: the statements are not yours to turn. If you find one false, say at which input.
  Laid BY PROGRAM, IN A SANDBOX (cutbox-rows.mjs): the forced cells as the released guide's own fill.sh prints them over the translation a8df751033d32bd8… (all of the seat's roots in one cut). By AI agents, Wed Nov 11 2026. No macro, syntax, notation, axiom, sorry.
-/
import Derived.Test.YtbkcmnmbcldjoaaGreatDoorChecked
import GoSem.Claim
import GoSem.ClaimJoined
import GoSem.ClaimMapViews
import Derived.JoinedTies
import Derived.KernelRfl
namespace Go.Proofs.YtbkcmnmbcldjoaaGreatDoor
/- THE CELL 'sum', in the pinned program and in every row, IS THE sha256 OF THE DUMP (.gsa) THAT YtbkcmnmbcldjoaaGreatDoorProg.lean LOADS. Nothing in Lean hashes anything: it is a label: what it is worth is what the hold of that sum in a sandbox is worth. -/
noncomputable def Tryz.pinned : Pinned := { name := "ytbkcmnmbcldjoaagreatdoor", sum := "a8df751033d32bd8fac320c5782cd3f838616062539be9e9eab45f39ea06d90a", checked := Tryz.checked }
namespace Rows
def none {H : Type} : Left H := { results := [], args := [] }

/- WHAT THE LISTED PACKAGE-LEVEL VARIABLES READ AS WHEN THE CALL BEGINS. Each datum BY PROGRAM (the guide's laid-datum.mjs) off the statement by which the dump's own 'gosem.cut.vars' lays the variable. In a bare row this is a premise. The card (YtbkcmnmbcldjoaaGreatDoorCards.lean) ties it to the program's text. -/
def laid_moiety_act_rows {H : Type} : DataW H := .agg [.agg [.lit (.string []), .lit (.int .i64 0), .lit (.string []), .lit (.int .i64 0), .lit (.bool false)], .agg [.lit (.string [110, 101, 119]), .lit (.int .i64 0), .lit (.string [109]), .lit (.int .i64 0), .lit (.bool false)], .agg [.lit (.string [100, 114, 111, 112]), .lit (.int .i64 0), .lit (.string []), .lit (.int .i64 0), .lit (.bool false)], .agg [.lit (.string [105, 115]), .lit (.int .i64 0), .lit (.string []), .lit (.int .i64 0), .lit (.bool true)], .agg [.lit (.string [108, 111, 111, 107]), .lit (.int .i64 0), .lit (.string []), .lit (.int .i64 0), .lit (.bool true)], .agg [.lit (.string [112, 117, 116]), .lit (.int .i64 1), .lit (.string [115]), .lit (.int .i64 64), .lit (.bool false)], .agg [.lit (.string [115, 119, 97, 112]), .lit (.int .i64 1), .lit (.string [115]), .lit (.int .i64 64), .lit (.bool false)], .agg [.lit (.string [97, 100, 100]), .lit (.int .i64 2), .lit (.string [110]), .lit (.int .i64 0), .lit (.bool false)], .agg [.lit (.string [112, 108, 117, 115]), .lit (.int .i64 3), .lit (.string [110]), .lit (.int .i64 0), .lit (.bool false)], .agg [.lit (.string [114, 101, 97, 99, 104]), .lit (.int .i64 3), .lit (.string [110]), .lit (.int .i64 0), .lit (.bool true)], .agg [.lit (.string [105, 110]), .lit (.int .i64 4), .lit (.string [110]), .lit (.int .i64 0), .lit (.bool false)], .agg [.lit (.string [111, 117, 116]), .lit (.int .i64 4), .lit (.string [110]), .lit (.int .i64 0), .lit (.bool false)], .agg [.lit (.string [101, 110, 111, 117, 103, 104]), .lit (.int .i64 4), .lit (.string [110]), .lit (.int .i64 0), .lit (.bool true)], .agg [.lit (.string [114, 97, 105, 115, 101]), .lit (.int .i64 5), .lit (.string [120]), .lit (.int .i64 0), .lit (.bool false)], .agg [.lit (.string [108, 111, 119, 101, 114]), .lit (.int .i64 6), .lit (.string [120]), .lit (.int .i64 0), .lit (.bool false)], .agg [.lit (.string [115, 104, 105, 102, 116]), .lit (.int .i64 7), .lit (.string [120]), .lit (.int .i64 0), .lit (.bool false)], .agg [.lit (.string [115, 99, 97, 108, 101]), .lit (.int .i64 7), .lit (.string [120]), .lit (.int .i64 0), .lit (.bool false)], .agg [.lit (.string [102, 105, 120]), .lit (.int .i64 7), .lit (.string [120]), .lit (.int .i64 0), .lit (.bool false)], .agg [.lit (.string [106, 111, 105, 110]), .lit (.int .i64 8), .lit (.string [115]), .lit (.int .i64 16), .lit (.bool false)], .agg [.lit (.string [108, 101, 97, 118, 101]), .lit (.int .i64 8), .lit (.string [115]), .lit (.int .i64 16), .lit (.bool false)], .agg [.lit (.string [104, 97, 115]), .lit (.int .i64 8), .lit (.string [115]), .lit (.int .i64 16), .lit (.bool true)], .agg [.lit (.string [111, 102, 102, 101, 114]), .lit (.int .i64 9), .lit (.string [120, 115]), .lit (.int .i64 16), .lit (.bool false)]]

/-- 'moietylaw07.ShareSlices': WHATEVER THE INPUT: true; the input reads as it did. -/
def shareSlicesSpec : ChangeSpec := { name := "shareSlices", fn := fun _ => fun
  | [d1, d2, d3] => { results := [.lit (.bool true)], args := [d1, d2, d3] }
  | _ => none }
def shareSlicesRow : OpenClaim := { program := "ytbkcmnmbcldjoaagreatdoor", sum := "a8df751033d32bd8fac320c5782cd3f838616062539be9e9eab45f39ea06d90a", func := "moiety/moietylaw07.ShareSlices", spec := "shareSlices", inPlace := ["math.Float64frombits", "math.Float64bits", "internal/bytealg.IndexByteString", "slices.overlaps[moiety/api.Item]"], unfollowed := true, recurses := true, named := ["moiety/act.rows"], apart := false, laid := [("moiety/act.rows", laid_moiety_act_rows)] }
def ShareSlicesSaid : Prop := shareSlicesRow.holds Tryz.pinned (OpenSpec.ofChange shareSlicesSpec)

/-- ITS FALSE NEIGHBOUR: 'it returns false'. Refute it at one input. -/
def shareSlicesWrong : ChangeSpec := { name := "shareSlices", fn := fun _ => fun
  | [d1, d2, d3] => { results := [.lit (.bool false)], args := [d1, d2, d3] }
  | _ => none }
def ShareSlicesWrongFalsely : Prop := shareSlicesRow.holds Tryz.pinned (OpenSpec.ofChange shareSlicesWrong)

/-- 'moietylaw07.ShareMerges': WHATEVER THE INPUT: true; the input reads as it did. -/
def shareMergesSpec : ChangeSpec := { name := "shareMerges", fn := fun _ => fun
  | [d1, d2, d3] => { results := [.lit (.bool true)], args := [d1, d2, d3] }
  | _ => none }
def shareMergesRow : OpenClaim := { program := "ytbkcmnmbcldjoaagreatdoor", sum := "a8df751033d32bd8fac320c5782cd3f838616062539be9e9eab45f39ea06d90a", func := "moiety/moietylaw07.ShareMerges", spec := "shareMerges", inPlace := ["math.Float64frombits", "math.Float64bits", "internal/bytealg.IndexByteString", "slices.overlaps[moiety/api.Item]"], unfollowed := true, recurses := true, named := ["moiety/act.rows"], apart := false, laid := [("moiety/act.rows", laid_moiety_act_rows)] }
def ShareMergesSaid : Prop := shareMergesRow.holds Tryz.pinned (OpenSpec.ofChange shareMergesSpec)

/-- ITS FALSE NEIGHBOUR: 'it returns false'. Refute it at one input. -/
def shareMergesWrong : ChangeSpec := { name := "shareMerges", fn := fun _ => fun
  | [d1, d2, d3] => { results := [.lit (.bool false)], args := [d1, d2, d3] }
  | _ => none }
def ShareMergesWrongFalsely : Prop := shareMergesRow.holds Tryz.pinned (OpenSpec.ofChange shareMergesWrong)

/-- 'moietylaw07.ShareDraws': WHATEVER THE INPUT: true; the input reads as it did. -/
def shareDrawsSpec : ChangeSpec := { name := "shareDraws", fn := fun _ => fun
  | [d1, d2, d3] => { results := [.lit (.bool true)], args := [d1, d2, d3] }
  | _ => none }
def shareDrawsRow : OpenClaim := { program := "ytbkcmnmbcldjoaagreatdoor", sum := "a8df751033d32bd8fac320c5782cd3f838616062539be9e9eab45f39ea06d90a", func := "moiety/moietylaw07.ShareDraws", spec := "shareDraws", inPlace := ["math.Float64frombits", "math.Float64bits", "internal/bytealg.IndexByteString", "slices.overlaps[moiety/api.Item]"], unfollowed := true, recurses := true, named := ["moiety/act.rows"], apart := false, laid := [("moiety/act.rows", laid_moiety_act_rows)] }
def ShareDrawsSaid : Prop := shareDrawsRow.holds Tryz.pinned (OpenSpec.ofChange shareDrawsSpec)

/-- ITS FALSE NEIGHBOUR: 'it returns false'. Refute it at one input. -/
def shareDrawsWrong : ChangeSpec := { name := "shareDraws", fn := fun _ => fun
  | [d1, d2, d3] => { results := [.lit (.bool false)], args := [d1, d2, d3] }
  | _ => none }
def ShareDrawsWrongFalsely : Prop := shareDrawsRow.holds Tryz.pinned (OpenSpec.ofChange shareDrawsWrong)

/-- 'moietylaw07.ShareEscrow': WHATEVER THE INPUT: true; the input reads as it did. -/
def shareEscrowSpec : ChangeSpec := { name := "shareEscrow", fn := fun _ => fun
  | [d1, d2, d3] => { results := [.lit (.bool true)], args := [d1, d2, d3] }
  | _ => none }
def shareEscrowRow : OpenClaim := { program := "ytbkcmnmbcldjoaagreatdoor", sum := "a8df751033d32bd8fac320c5782cd3f838616062539be9e9eab45f39ea06d90a", func := "moiety/moietylaw07.ShareEscrow", spec := "shareEscrow", inPlace := ["math.Float64frombits", "math.Float64bits", "internal/bytealg.IndexByteString", "slices.overlaps[moiety/api.Item]"], unfollowed := true, recurses := true, named := ["moiety/act.rows"], apart := false, laid := [("moiety/act.rows", laid_moiety_act_rows)] }
def ShareEscrowSaid : Prop := shareEscrowRow.holds Tryz.pinned (OpenSpec.ofChange shareEscrowSpec)

/-- ITS FALSE NEIGHBOUR: 'it returns false'. Refute it at one input. -/
def shareEscrowWrong : ChangeSpec := { name := "shareEscrow", fn := fun _ => fun
  | [d1, d2, d3] => { results := [.lit (.bool false)], args := [d1, d2, d3] }
  | _ => none }
def ShareEscrowWrongFalsely : Prop := shareEscrowRow.holds Tryz.pinned (OpenSpec.ofChange shareEscrowWrong)

/-- 'moietylaw07.ShareSome': WHATEVER THE INPUT: true; the input reads as it did. -/
def shareSomeSpec : ChangeSpec := { name := "shareSome", fn := fun _ => fun
  | [d1, d2, d3] => { results := [.lit (.bool true)], args := [d1, d2, d3] }
  | _ => none }
def shareSomeRow : OpenClaim := { program := "ytbkcmnmbcldjoaagreatdoor", sum := "a8df751033d32bd8fac320c5782cd3f838616062539be9e9eab45f39ea06d90a", func := "moiety/moietylaw07.ShareSome", spec := "shareSome", inPlace := ["math.Float64frombits", "math.Float64bits", "internal/bytealg.IndexByteString", "slices.overlaps[moiety/api.Item]"], unfollowed := true, recurses := true, named := ["moiety/act.rows"], apart := false, laid := [("moiety/act.rows", laid_moiety_act_rows)] }
def ShareSomeSaid : Prop := shareSomeRow.holds Tryz.pinned (OpenSpec.ofChange shareSomeSpec)

/-- ITS FALSE NEIGHBOUR: 'it returns false'. Refute it at one input. -/
def shareSomeWrong : ChangeSpec := { name := "shareSome", fn := fun _ => fun
  | [d1, d2, d3] => { results := [.lit (.bool false)], args := [d1, d2, d3] }
  | _ => none }
def ShareSomeWrongFalsely : Prop := shareSomeRow.holds Tryz.pinned (OpenSpec.ofChange shareSomeWrong)

/-- 'moietytop.WholeTraces': WHATEVER THE INPUT: true; the input reads as it did. -/
def wholeTracesSpec : ChangeSpec := { name := "wholeTraces", fn := fun _ => fun
  | [d1, d2, d3] => { results := [.lit (.bool true)], args := [d1, d2, d3] }
  | _ => none }
def wholeTracesRow : OpenClaim := { program := "ytbkcmnmbcldjoaagreatdoor", sum := "a8df751033d32bd8fac320c5782cd3f838616062539be9e9eab45f39ea06d90a", func := "moiety/moietytop.WholeTraces", spec := "wholeTraces", inPlace := ["math.Float64bits", "internal/bytealg.IndexByteString", "math.Float64frombits", "slices.overlaps[moiety/api.Item]"], unfollowed := true, recurses := true, named := ["moiety/act.rows"], apart := false, laid := [("moiety/act.rows", laid_moiety_act_rows)] }
def WholeTracesSaid : Prop := wholeTracesRow.holds Tryz.pinned (OpenSpec.ofChange wholeTracesSpec)

/-- ITS FALSE NEIGHBOUR: 'it returns false'. Refute it at one input. -/
def wholeTracesWrong : ChangeSpec := { name := "wholeTraces", fn := fun _ => fun
  | [d1, d2, d3] => { results := [.lit (.bool false)], args := [d1, d2, d3] }
  | _ => none }
def WholeTracesWrongFalsely : Prop := wholeTracesRow.holds Tryz.pinned (OpenSpec.ofChange wholeTracesWrong)

/-- 'moietytop.WholeShares': WHATEVER THE INPUT: true; the input reads as it did. -/
def wholeSharesSpec : ChangeSpec := { name := "wholeShares", fn := fun _ => fun
  | [d1, d2, d3] => { results := [.lit (.bool true)], args := [d1, d2, d3] }
  | _ => none }
def wholeSharesRow : OpenClaim := { program := "ytbkcmnmbcldjoaagreatdoor", sum := "a8df751033d32bd8fac320c5782cd3f838616062539be9e9eab45f39ea06d90a", func := "moiety/moietytop.WholeShares", spec := "wholeShares", inPlace := ["math.Float64frombits", "math.Float64bits", "internal/bytealg.IndexByteString", "slices.overlaps[moiety/api.Item]"], unfollowed := true, recurses := true, named := ["moiety/act.rows"], apart := false, laid := [("moiety/act.rows", laid_moiety_act_rows)] }
def WholeSharesSaid : Prop := wholeSharesRow.holds Tryz.pinned (OpenSpec.ofChange wholeSharesSpec)

/-- ITS FALSE NEIGHBOUR: 'it returns false'. Refute it at one input. -/
def wholeSharesWrong : ChangeSpec := { name := "wholeShares", fn := fun _ => fun
  | [d1, d2, d3] => { results := [.lit (.bool false)], args := [d1, d2, d3] }
  | _ => none }
def WholeSharesWrongFalsely : Prop := wholeSharesRow.holds Tryz.pinned (OpenSpec.ofChange wholeSharesWrong)

/- THE SECOND FORM. 'bulk': how many values and letters a reading holds, each counted each time it is reached (what is shared counts as often as it is met; a slice's spare places count too). A statement '..UptoSaid' is the law's where the arguments, and the package variables that the reading takes, are together of bulk at most 1048576: NARROWER than '..Said'. Prove '..Said' where nothing that the law and all that it calls make is longer than what came in: it says more and counts as full. Else prove '..UptoSaid'. A law counts once. -/
mutual
def uptoBulk {H : Type} : DataW H → Nat
  | .lit (.string bytes) => bytes.length + 1
  | .lit _ => 1
  | .nil => 1
  | .ptr d => uptoBulk d + 1
  | .slice elems spare => uptoBulkAll elems + uptoBulkAll spare + 1
  | .agg parts => uptoBulkAll parts + 1
  | .iface _ d => uptoBulk d + 1
  | .map entries => uptoBulkEntries entries + 1
  | .held _ => 1
def uptoBulkAll {H : Type} : List (DataW H) → Nat
  | [] => 0
  | d :: r => uptoBulk d + uptoBulkAll r
def uptoBulkEntries {H : Type} : List (Lit × DataW H) → Nat
  | [] => 0
  | x :: r => uptoBulkEntry x + uptoBulkEntries r
def uptoBulkEntry {H : Type} : Lit × DataW H → Nat
  | (.string bytes, d) => bytes.length + uptoBulk d + 1
  | (_, d) => uptoBulk d + 1
 end
def uptoSmall : (H : Type) → List (DataW H) → Bool := fun _ ds => decide (uptoBulkAll ds ≤ 1048576)
def OpenSpec.upto (s : _root_.Go.ChangeSpec) : _root_.Go.OpenSpec := { _root_.Go.OpenSpec.ofChange s with cond := some uptoSmall }

/-- 'moietylaw07.ShareSlices', WHERE WHAT IT READS IS OF BULK AT MOST 1048576: true; the input reads as it did. -/
def shareSlicesUptoRow : OpenClaim := { program := "ytbkcmnmbcldjoaagreatdoor", sum := "a8df751033d32bd8fac320c5782cd3f838616062539be9e9eab45f39ea06d90a", func := "moiety/moietylaw07.ShareSlices", spec := "shareSlices", inPlace := ["math.Float64frombits", "math.Float64bits", "internal/bytealg.IndexByteString", "slices.overlaps[moiety/api.Item]"], unfollowed := true, recurses := true, named := ["moiety/act.rows"], apart := false, laid := [("moiety/act.rows", laid_moiety_act_rows)], narrowed := true }
def ShareSlicesUptoSaid : Prop := shareSlicesUptoRow.holds Tryz.pinned (OpenSpec.upto shareSlicesSpec)

/-- 'moietylaw07.ShareMerges', WHERE WHAT IT READS IS OF BULK AT MOST 1048576: true; the input reads as it did. -/
def shareMergesUptoRow : OpenClaim := { program := "ytbkcmnmbcldjoaagreatdoor", sum := "a8df751033d32bd8fac320c5782cd3f838616062539be9e9eab45f39ea06d90a", func := "moiety/moietylaw07.ShareMerges", spec := "shareMerges", inPlace := ["math.Float64frombits", "math.Float64bits", "internal/bytealg.IndexByteString", "slices.overlaps[moiety/api.Item]"], unfollowed := true, recurses := true, named := ["moiety/act.rows"], apart := false, laid := [("moiety/act.rows", laid_moiety_act_rows)], narrowed := true }
def ShareMergesUptoSaid : Prop := shareMergesUptoRow.holds Tryz.pinned (OpenSpec.upto shareMergesSpec)

/-- 'moietylaw07.ShareDraws', WHERE WHAT IT READS IS OF BULK AT MOST 1048576: true; the input reads as it did. -/
def shareDrawsUptoRow : OpenClaim := { program := "ytbkcmnmbcldjoaagreatdoor", sum := "a8df751033d32bd8fac320c5782cd3f838616062539be9e9eab45f39ea06d90a", func := "moiety/moietylaw07.ShareDraws", spec := "shareDraws", inPlace := ["math.Float64frombits", "math.Float64bits", "internal/bytealg.IndexByteString", "slices.overlaps[moiety/api.Item]"], unfollowed := true, recurses := true, named := ["moiety/act.rows"], apart := false, laid := [("moiety/act.rows", laid_moiety_act_rows)], narrowed := true }
def ShareDrawsUptoSaid : Prop := shareDrawsUptoRow.holds Tryz.pinned (OpenSpec.upto shareDrawsSpec)

/-- 'moietylaw07.ShareEscrow', WHERE WHAT IT READS IS OF BULK AT MOST 1048576: true; the input reads as it did. -/
def shareEscrowUptoRow : OpenClaim := { program := "ytbkcmnmbcldjoaagreatdoor", sum := "a8df751033d32bd8fac320c5782cd3f838616062539be9e9eab45f39ea06d90a", func := "moiety/moietylaw07.ShareEscrow", spec := "shareEscrow", inPlace := ["math.Float64frombits", "math.Float64bits", "internal/bytealg.IndexByteString", "slices.overlaps[moiety/api.Item]"], unfollowed := true, recurses := true, named := ["moiety/act.rows"], apart := false, laid := [("moiety/act.rows", laid_moiety_act_rows)], narrowed := true }
def ShareEscrowUptoSaid : Prop := shareEscrowUptoRow.holds Tryz.pinned (OpenSpec.upto shareEscrowSpec)

/-- 'moietylaw07.ShareSome', WHERE WHAT IT READS IS OF BULK AT MOST 1048576: true; the input reads as it did. -/
def shareSomeUptoRow : OpenClaim := { program := "ytbkcmnmbcldjoaagreatdoor", sum := "a8df751033d32bd8fac320c5782cd3f838616062539be9e9eab45f39ea06d90a", func := "moiety/moietylaw07.ShareSome", spec := "shareSome", inPlace := ["math.Float64frombits", "math.Float64bits", "internal/bytealg.IndexByteString", "slices.overlaps[moiety/api.Item]"], unfollowed := true, recurses := true, named := ["moiety/act.rows"], apart := false, laid := [("moiety/act.rows", laid_moiety_act_rows)], narrowed := true }
def ShareSomeUptoSaid : Prop := shareSomeUptoRow.holds Tryz.pinned (OpenSpec.upto shareSomeSpec)

/-- 'moietytop.WholeTraces', WHERE WHAT IT READS IS OF BULK AT MOST 1048576: true; the input reads as it did. -/
def wholeTracesUptoRow : OpenClaim := { program := "ytbkcmnmbcldjoaagreatdoor", sum := "a8df751033d32bd8fac320c5782cd3f838616062539be9e9eab45f39ea06d90a", func := "moiety/moietytop.WholeTraces", spec := "wholeTraces", inPlace := ["math.Float64bits", "internal/bytealg.IndexByteString", "math.Float64frombits", "slices.overlaps[moiety/api.Item]"], unfollowed := true, recurses := true, named := ["moiety/act.rows"], apart := false, laid := [("moiety/act.rows", laid_moiety_act_rows)], narrowed := true }
def WholeTracesUptoSaid : Prop := wholeTracesUptoRow.holds Tryz.pinned (OpenSpec.upto wholeTracesSpec)

/-- 'moietytop.WholeShares', WHERE WHAT IT READS IS OF BULK AT MOST 1048576: true; the input reads as it did. -/
def wholeSharesUptoRow : OpenClaim := { program := "ytbkcmnmbcldjoaagreatdoor", sum := "a8df751033d32bd8fac320c5782cd3f838616062539be9e9eab45f39ea06d90a", func := "moiety/moietytop.WholeShares", spec := "wholeShares", inPlace := ["math.Float64frombits", "math.Float64bits", "internal/bytealg.IndexByteString", "slices.overlaps[moiety/api.Item]"], unfollowed := true, recurses := true, named := ["moiety/act.rows"], apart := false, laid := [("moiety/act.rows", laid_moiety_act_rows)], narrowed := true }
def WholeSharesUptoSaid : Prop := wholeSharesUptoRow.holds Tryz.pinned (OpenSpec.upto wholeSharesSpec)

end Rows
end Go.Proofs.YtbkcmnmbcldjoaaGreatDoor
