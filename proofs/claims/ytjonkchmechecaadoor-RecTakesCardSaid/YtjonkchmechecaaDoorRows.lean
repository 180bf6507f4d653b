/-
  NARROWER THAN 'FOR EVERY INPUT', by the rows' own cells (each row's printed sentence says how): RecChecks: laid · RecBytes: laid · RecReads: laid · RecSame: laid · RecBetter: laid · RecTakes: laid · ActKinds: laid · ActChecks: laid · ActSame: laid · ActTakes: laid.
  DERIVED. THE GIVEN ROWS OF THIS SEAT. 10 by the template 'for every input the law returns true; each argument reads behind the call as it read before'; 0 by the template 'total and deterministic' (their statements: YtjonkchmechecaaDoorTotals.lean).
  GIVEN WITH THE SEED: the statements are not yours to turn. If you find one false, say at which input.
  Laid BY PROGRAM, IN A SANDBOX (cutbox-rows.mjs): the forced cells as the released guide's own fill.sh prints them over the translation e7e9e892b5422e33… (all of the seat's roots in one cut). By AI agents, Wed Nov 11 2026. No macro, syntax, notation, axiom, sorry.
-/
import Derived.Test.YtjonkchmechecaaDoorChecked
import GoSem.Claim
import GoSem.ClaimJoined
import GoSem.ClaimMapViews
import Derived.JoinedTies
import Derived.KernelRfl
namespace Go.Proofs.YtjonkchmechecaaDoor
/- THE CELL 'sum', in the pinned program and in every row, IS THE sha256 OF THE DUMP (.gsa) THAT YtjonkchmechecaaDoorProg.lean LOADS. Nothing in Lean hashes anything: it is a label: what it is worth is what the hold of that sum in a sandbox is worth. -/
noncomputable def Tryd.pinned : Pinned := { name := "ytjonkchmechecaadoor", sum := "e7e9e892b5422e33c47765710e118f9481f50c4a547b53da14b16aa77410f252", checked := Tryd.checked }
namespace Rows
def none {H : Type} : Left H := { results := [], args := [] }

/- WHAT THE LISTED PACKAGE-LEVEL VARIABLES READ AS WHEN THE CALL BEGINS. Each datum BY PROGRAM (the guide's laid-datum.mjs) off the statement by which the dump's own 'gosem.cut.vars' lays the variable. In a bare row this is a premise. The card (YtjonkchmechecaaDoorCards.lean) ties it to the program's text. -/
def laid_moiety_rec_names {H : Type} : DataW H := .agg [.lit (.string []), .lit (.string [116, 101, 120, 116]), .lit (.string [115, 117, 109]), .lit (.string [99, 111, 117, 110, 116]), .lit (.string [112, 117, 114, 115, 101]), .lit (.string [112, 101, 97, 107]), .lit (.string [100, 105, 112]), .lit (.string [108, 101, 118, 101, 108]), .lit (.string [115, 101, 116]), .lit (.string [116, 111, 112])]
def laid_moiety_act_rows {H : Type} : DataW H := .agg [.agg [.lit (.string []), .lit (.int .i64 0), .lit (.string []), .lit (.int .i64 0), .lit (.bool false)], .agg [.lit (.string [110, 101, 119]), .lit (.int .i64 0), .lit (.string [109]), .lit (.int .i64 0), .lit (.bool false)], .agg [.lit (.string [100, 114, 111, 112]), .lit (.int .i64 0), .lit (.string []), .lit (.int .i64 0), .lit (.bool false)], .agg [.lit (.string [105, 115]), .lit (.int .i64 0), .lit (.string []), .lit (.int .i64 0), .lit (.bool true)], .agg [.lit (.string [108, 111, 111, 107]), .lit (.int .i64 0), .lit (.string []), .lit (.int .i64 0), .lit (.bool true)], .agg [.lit (.string [112, 117, 116]), .lit (.int .i64 1), .lit (.string [115]), .lit (.int .i64 64), .lit (.bool false)], .agg [.lit (.string [115, 119, 97, 112]), .lit (.int .i64 1), .lit (.string [115]), .lit (.int .i64 64), .lit (.bool false)], .agg [.lit (.string [97, 100, 100]), .lit (.int .i64 2), .lit (.string [110]), .lit (.int .i64 0), .lit (.bool false)], .agg [.lit (.string [112, 108, 117, 115]), .lit (.int .i64 3), .lit (.string [110]), .lit (.int .i64 0), .lit (.bool false)], .agg [.lit (.string [114, 101, 97, 99, 104]), .lit (.int .i64 3), .lit (.string [110]), .lit (.int .i64 0), .lit (.bool true)], .agg [.lit (.string [105, 110]), .lit (.int .i64 4), .lit (.string [110]), .lit (.int .i64 0), .lit (.bool false)], .agg [.lit (.string [111, 117, 116]), .lit (.int .i64 4), .lit (.string [110]), .lit (.int .i64 0), .lit (.bool false)], .agg [.lit (.string [101, 110, 111, 117, 103, 104]), .lit (.int .i64 4), .lit (.string [110]), .lit (.int .i64 0), .lit (.bool true)], .agg [.lit (.string [114, 97, 105, 115, 101]), .lit (.int .i64 5), .lit (.string [120]), .lit (.int .i64 0), .lit (.bool false)], .agg [.lit (.string [108, 111, 119, 101, 114]), .lit (.int .i64 6), .lit (.string [120]), .lit (.int .i64 0), .lit (.bool false)], .agg [.lit (.string [115, 104, 105, 102, 116]), .lit (.int .i64 7), .lit (.string [120]), .lit (.int .i64 0), .lit (.bool false)], .agg [.lit (.string [115, 99, 97, 108, 101]), .lit (.int .i64 7), .lit (.string [120]), .lit (.int .i64 0), .lit (.bool false)], .agg [.lit (.string [102, 105, 120]), .lit (.int .i64 7), .lit (.string [120]), .lit (.int .i64 0), .lit (.bool false)], .agg [.lit (.string [106, 111, 105, 110]), .lit (.int .i64 8), .lit (.string [115]), .lit (.int .i64 16), .lit (.bool false)], .agg [.lit (.string [108, 101, 97, 118, 101]), .lit (.int .i64 8), .lit (.string [115]), .lit (.int .i64 16), .lit (.bool false)], .agg [.lit (.string [104, 97, 115]), .lit (.int .i64 8), .lit (.string [115]), .lit (.int .i64 16), .lit (.bool true)], .agg [.lit (.string [111, 102, 102, 101, 114]), .lit (.int .i64 9), .lit (.string [120, 115]), .lit (.int .i64 16), .lit (.bool false)]]

/-- 'moietylaw03.RecChecks': WHATEVER THE INPUT: true; the input reads as it did. -/
def recChecksSpec : ChangeSpec := { name := "recChecks", fn := fun _ => fun
  | [d1, d2] => { results := [.lit (.bool true)], args := [d1, d2] }
  | _ => none }
def recChecksRow : OpenClaim := { program := "ytjonkchmechecaadoor", sum := "e7e9e892b5422e33c47765710e118f9481f50c4a547b53da14b16aa77410f252", func := "moiety/moietylaw03.RecChecks", spec := "recChecks", inPlace := ["math.Float64frombits", "math.Float64bits"], unfollowed := true, recurses := true, named := ["moiety/rec.names"], apart := false, laid := [("moiety/rec.names", laid_moiety_rec_names)] }
def RecChecksSaid : Prop := recChecksRow.holds Tryd.pinned (OpenSpec.ofChange recChecksSpec)

/-- ITS FALSE NEIGHBOUR: 'it returns false'. Refute it at one input. -/
def recChecksWrong : ChangeSpec := { name := "recChecks", fn := fun _ => fun
  | [d1, d2] => { results := [.lit (.bool false)], args := [d1, d2] }
  | _ => none }
def RecChecksWrongFalsely : Prop := recChecksRow.holds Tryd.pinned (OpenSpec.ofChange recChecksWrong)

/-- 'moietylaw03.RecBytes': WHATEVER THE INPUT: true; the input reads as it did. -/
def recBytesSpec : ChangeSpec := { name := "recBytes", fn := fun _ => fun
  | [d] => { results := [.lit (.bool true)], args := [d] }
  | _ => none }
def recBytesRow : OpenClaim := { program := "ytjonkchmechecaadoor", sum := "e7e9e892b5422e33c47765710e118f9481f50c4a547b53da14b16aa77410f252", func := "moiety/moietylaw03.RecBytes", spec := "recBytes", inPlace := ["math.Float64frombits", "math.Float64bits"], unfollowed := true, recurses := true, named := ["moiety/rec.names"], apart := false, laid := [("moiety/rec.names", laid_moiety_rec_names)] }
def RecBytesSaid : Prop := recBytesRow.holds Tryd.pinned (OpenSpec.ofChange recBytesSpec)

/-- ITS FALSE NEIGHBOUR: 'it returns false'. Refute it at one input. -/
def recBytesWrong : ChangeSpec := { name := "recBytes", fn := fun _ => fun
  | [d] => { results := [.lit (.bool false)], args := [d] }
  | _ => none }
def RecBytesWrongFalsely : Prop := recBytesRow.holds Tryd.pinned (OpenSpec.ofChange recBytesWrong)

/-- 'moietylaw03.RecReads': WHATEVER THE INPUT: true; the input reads as it did. -/
def recReadsSpec : ChangeSpec := { name := "recReads", fn := fun _ => fun
  | [d] => { results := [.lit (.bool true)], args := [d] }
  | _ => none }
def recReadsRow : OpenClaim := { program := "ytjonkchmechecaadoor", sum := "e7e9e892b5422e33c47765710e118f9481f50c4a547b53da14b16aa77410f252", func := "moiety/moietylaw03.RecReads", spec := "recReads", inPlace := ["math.Float64frombits", "math.Float64bits"], unfollowed := true, recurses := true, named := ["moiety/rec.names"], apart := false, laid := [("moiety/rec.names", laid_moiety_rec_names)] }
def RecReadsSaid : Prop := recReadsRow.holds Tryd.pinned (OpenSpec.ofChange recReadsSpec)

/-- ITS FALSE NEIGHBOUR: 'it returns false'. Refute it at one input. -/
def recReadsWrong : ChangeSpec := { name := "recReads", fn := fun _ => fun
  | [d] => { results := [.lit (.bool false)], args := [d] }
  | _ => none }
def RecReadsWrongFalsely : Prop := recReadsRow.holds Tryd.pinned (OpenSpec.ofChange recReadsWrong)

/-- 'moietylaw03.RecSame': WHATEVER THE INPUT: true; the input reads as it did. -/
def recSameSpec : ChangeSpec := { name := "recSame", fn := fun _ => fun
  | [d1, d2] => { results := [.lit (.bool true)], args := [d1, d2] }
  | _ => none }
def recSameRow : OpenClaim := { program := "ytjonkchmechecaadoor", sum := "e7e9e892b5422e33c47765710e118f9481f50c4a547b53da14b16aa77410f252", func := "moiety/moietylaw03.RecSame", spec := "recSame", inPlace := ["math.Float64frombits", "math.Float64bits"], unfollowed := true, recurses := true, named := ["moiety/rec.names"], apart := false, laid := [("moiety/rec.names", laid_moiety_rec_names)] }
def RecSameSaid : Prop := recSameRow.holds Tryd.pinned (OpenSpec.ofChange recSameSpec)

/-- ITS FALSE NEIGHBOUR: 'it returns false'. Refute it at one input. -/
def recSameWrong : ChangeSpec := { name := "recSame", fn := fun _ => fun
  | [d1, d2] => { results := [.lit (.bool false)], args := [d1, d2] }
  | _ => none }
def RecSameWrongFalsely : Prop := recSameRow.holds Tryd.pinned (OpenSpec.ofChange recSameWrong)

/-- 'moietylaw03.RecBetter': WHATEVER THE INPUT: true; the input reads as it did. -/
def recBetterSpec : ChangeSpec := { name := "recBetter", fn := fun _ => fun
  | [d1, d2, d3] => { results := [.lit (.bool true)], args := [d1, d2, d3] }
  | _ => none }
def recBetterRow : OpenClaim := { program := "ytjonkchmechecaadoor", sum := "e7e9e892b5422e33c47765710e118f9481f50c4a547b53da14b16aa77410f252", func := "moiety/moietylaw03.RecBetter", spec := "recBetter", inPlace := ["math.Float64frombits", "math.Float64bits"], unfollowed := true, recurses := true, named := ["moiety/rec.names"], apart := false, laid := [("moiety/rec.names", laid_moiety_rec_names)] }
def RecBetterSaid : Prop := recBetterRow.holds Tryd.pinned (OpenSpec.ofChange recBetterSpec)

/-- ITS FALSE NEIGHBOUR: 'it returns false'. Refute it at one input. -/
def recBetterWrong : ChangeSpec := { name := "recBetter", fn := fun _ => fun
  | [d1, d2, d3] => { results := [.lit (.bool false)], args := [d1, d2, d3] }
  | _ => none }
def RecBetterWrongFalsely : Prop := recBetterRow.holds Tryd.pinned (OpenSpec.ofChange recBetterWrong)

/-- 'moietylaw03.RecTakes': WHATEVER THE INPUT: true; the input reads as it did. -/
def recTakesSpec : ChangeSpec := { name := "recTakes", fn := fun _ => fun
  | [d] => { results := [.lit (.bool true)], args := [d] }
  | _ => none }
def recTakesRow : OpenClaim := { program := "ytjonkchmechecaadoor", sum := "e7e9e892b5422e33c47765710e118f9481f50c4a547b53da14b16aa77410f252", func := "moiety/moietylaw03.RecTakes", spec := "recTakes", inPlace := ["math.Float64frombits", "math.Float64bits"], unfollowed := true, recurses := true, named := ["moiety/rec.names"], apart := false, laid := [("moiety/rec.names", laid_moiety_rec_names)] }
def RecTakesSaid : Prop := recTakesRow.holds Tryd.pinned (OpenSpec.ofChange recTakesSpec)

/-- ITS FALSE NEIGHBOUR: 'it returns false'. Refute it at one input. -/
def recTakesWrong : ChangeSpec := { name := "recTakes", fn := fun _ => fun
  | [d] => { results := [.lit (.bool false)], args := [d] }
  | _ => none }
def RecTakesWrongFalsely : Prop := recTakesRow.holds Tryd.pinned (OpenSpec.ofChange recTakesWrong)

/-- 'moietylaw04.ActKinds': WHATEVER THE INPUT: true; the input reads as it did. -/
def actKindsSpec : ChangeSpec := { name := "actKinds", fn := fun _ => fun
  | [d1, d2] => { results := [.lit (.bool true)], args := [d1, d2] }
  | _ => none }
def actKindsRow : OpenClaim := { program := "ytjonkchmechecaadoor", sum := "e7e9e892b5422e33c47765710e118f9481f50c4a547b53da14b16aa77410f252", func := "moiety/moietylaw04.ActKinds", spec := "actKinds", inPlace := ["internal/bytealg.IndexByteString", "math.Float64frombits", "math.Float64bits"], unfollowed := true, recurses := true, named := ["moiety/act.rows"], apart := false, laid := [("moiety/act.rows", laid_moiety_act_rows)] }
def ActKindsSaid : Prop := actKindsRow.holds Tryd.pinned (OpenSpec.ofChange actKindsSpec)

/-- ITS FALSE NEIGHBOUR: 'it returns false'. Refute it at one input. -/
def actKindsWrong : ChangeSpec := { name := "actKinds", fn := fun _ => fun
  | [d1, d2] => { results := [.lit (.bool false)], args := [d1, d2] }
  | _ => none }
def ActKindsWrongFalsely : Prop := actKindsRow.holds Tryd.pinned (OpenSpec.ofChange actKindsWrong)

/-- 'moietylaw04.ActChecks': WHATEVER THE INPUT: true; the input reads as it did. -/
def actChecksSpec : ChangeSpec := { name := "actChecks", fn := fun _ => fun
  | [d] => { results := [.lit (.bool true)], args := [d] }
  | _ => none }
def actChecksRow : OpenClaim := { program := "ytjonkchmechecaadoor", sum := "e7e9e892b5422e33c47765710e118f9481f50c4a547b53da14b16aa77410f252", func := "moiety/moietylaw04.ActChecks", spec := "actChecks", inPlace := ["internal/bytealg.IndexByteString", "math.Float64frombits", "math.Float64bits"], unfollowed := true, recurses := true, named := ["moiety/act.rows"], apart := false, laid := [("moiety/act.rows", laid_moiety_act_rows)] }
def ActChecksSaid : Prop := actChecksRow.holds Tryd.pinned (OpenSpec.ofChange actChecksSpec)

/-- ITS FALSE NEIGHBOUR: 'it returns false'. Refute it at one input. -/
def actChecksWrong : ChangeSpec := { name := "actChecks", fn := fun _ => fun
  | [d] => { results := [.lit (.bool false)], args := [d] }
  | _ => none }
def ActChecksWrongFalsely : Prop := actChecksRow.holds Tryd.pinned (OpenSpec.ofChange actChecksWrong)

/-- 'moietylaw04.ActSame': WHATEVER THE INPUT: true; the input reads as it did. -/
def actSameSpec : ChangeSpec := { name := "actSame", fn := fun _ => fun
  | [d1, d2] => { results := [.lit (.bool true)], args := [d1, d2] }
  | _ => none }
def actSameRow : OpenClaim := { program := "ytjonkchmechecaadoor", sum := "e7e9e892b5422e33c47765710e118f9481f50c4a547b53da14b16aa77410f252", func := "moiety/moietylaw04.ActSame", spec := "actSame", inPlace := ["internal/bytealg.IndexByteString", "math.Float64frombits", "math.Float64bits"], unfollowed := true, recurses := true, named := ["moiety/act.rows"], apart := false, laid := [("moiety/act.rows", laid_moiety_act_rows)] }
def ActSameSaid : Prop := actSameRow.holds Tryd.pinned (OpenSpec.ofChange actSameSpec)

/-- ITS FALSE NEIGHBOUR: 'it returns false'. Refute it at one input. -/
def actSameWrong : ChangeSpec := { name := "actSame", fn := fun _ => fun
  | [d1, d2] => { results := [.lit (.bool false)], args := [d1, d2] }
  | _ => none }
def ActSameWrongFalsely : Prop := actSameRow.holds Tryd.pinned (OpenSpec.ofChange actSameWrong)

/-- 'moietylaw04.ActTakes': WHATEVER THE INPUT: true; the input reads as it did. -/
def actTakesSpec : ChangeSpec := { name := "actTakes", fn := fun _ => fun
  | [d] => { results := [.lit (.bool true)], args := [d] }
  | _ => none }
def actTakesRow : OpenClaim := { program := "ytjonkchmechecaadoor", sum := "e7e9e892b5422e33c47765710e118f9481f50c4a547b53da14b16aa77410f252", func := "moiety/moietylaw04.ActTakes", spec := "actTakes", inPlace := ["internal/bytealg.IndexByteString", "math.Float64frombits", "math.Float64bits"], unfollowed := true, recurses := true, named := ["moiety/act.rows"], apart := false, laid := [("moiety/act.rows", laid_moiety_act_rows)] }
def ActTakesSaid : Prop := actTakesRow.holds Tryd.pinned (OpenSpec.ofChange actTakesSpec)

/-- ITS FALSE NEIGHBOUR: 'it returns false'. Refute it at one input. -/
def actTakesWrong : ChangeSpec := { name := "actTakes", fn := fun _ => fun
  | [d] => { results := [.lit (.bool false)], args := [d] }
  | _ => none }
def ActTakesWrongFalsely : Prop := actTakesRow.holds Tryd.pinned (OpenSpec.ofChange actTakesWrong)

/- THE SECOND FORM. 'bulk': how many values and letters a reading holds, each counted each time it is reached (what is shared counts as often as it is met; a slice's spare places count too). A statement '..UptoSaid' is the law's where the arguments, and the package variables that the reading takes, are together of bulk at most 1048576: NARROWER than '..Said'. Prove '..Said' where nothing that the law and all that it calls make is longer than what came in: it says more and counts as full. Else prove '..UptoSaid'. A law counts once. -/
mutual
def uptoBulk {H : Type} : DataW H → Nat
  | .lit (.string bytes) => bytes.length + 1
  | .lit _ => 1
  | .nil => 1
  | .ptr d => uptoBulk d + 1
  | .slice elems spare => uptoBulkAll elems + uptoBulkAll spare + 1
  | .agg parts => uptoBulkAll parts + 1
  | .iface _ d => uptoBulk d + 1
  | .map entries => uptoBulkEntries entries + 1
  | .held _ => 1
def uptoBulkAll {H : Type} : List (DataW H) → Nat
  | [] => 0
  | d :: r => uptoBulk d + uptoBulkAll r
def uptoBulkEntries {H : Type} : List (Lit × DataW H) → Nat
  | [] => 0
  | x :: r => uptoBulkEntry x + uptoBulkEntries r
def uptoBulkEntry {H : Type} : Lit × DataW H → Nat
  | (.string bytes, d) => bytes.length + uptoBulk d + 1
  | (_, d) => uptoBulk d + 1
 end
def uptoSmall : (H : Type) → List (DataW H) → Bool := fun _ ds => decide (uptoBulkAll ds ≤ 1048576)
def OpenSpec.upto (s : _root_.Go.ChangeSpec) : _root_.Go.OpenSpec := { _root_.Go.OpenSpec.ofChange s with cond := some uptoSmall }

/-- 'moietylaw03.RecChecks', WHERE WHAT IT READS IS OF BULK AT MOST 1048576: true; the input reads as it did. -/
def recChecksUptoRow : OpenClaim := { program := "ytjonkchmechecaadoor", sum := "e7e9e892b5422e33c47765710e118f9481f50c4a547b53da14b16aa77410f252", func := "moiety/moietylaw03.RecChecks", spec := "recChecks", inPlace := ["math.Float64frombits", "math.Float64bits"], unfollowed := true, recurses := true, named := ["moiety/rec.names"], apart := false, laid := [("moiety/rec.names", laid_moiety_rec_names)], narrowed := true }
def RecChecksUptoSaid : Prop := recChecksUptoRow.holds Tryd.pinned (OpenSpec.upto recChecksSpec)

/-- 'moietylaw03.RecBytes', WHERE WHAT IT READS IS OF BULK AT MOST 1048576: true; the input reads as it did. -/
def recBytesUptoRow : OpenClaim := { program := "ytjonkchmechecaadoor", sum := "e7e9e892b5422e33c47765710e118f9481f50c4a547b53da14b16aa77410f252", func := "moiety/moietylaw03.RecBytes", spec := "recBytes", inPlace := ["math.Float64frombits", "math.Float64bits"], unfollowed := true, recurses := true, named := ["moiety/rec.names"], apart := false, laid := [("moiety/rec.names", laid_moiety_rec_names)], narrowed := true }
def RecBytesUptoSaid : Prop := recBytesUptoRow.holds Tryd.pinned (OpenSpec.upto recBytesSpec)

/-- 'moietylaw03.RecReads', WHERE WHAT IT READS IS OF BULK AT MOST 1048576: true; the input reads as it did. -/
def recReadsUptoRow : OpenClaim := { program := "ytjonkchmechecaadoor", sum := "e7e9e892b5422e33c47765710e118f9481f50c4a547b53da14b16aa77410f252", func := "moiety/moietylaw03.RecReads", spec := "recReads", inPlace := ["math.Float64frombits", "math.Float64bits"], unfollowed := true, recurses := true, named := ["moiety/rec.names"], apart := false, laid := [("moiety/rec.names", laid_moiety_rec_names)], narrowed := true }
def RecReadsUptoSaid : Prop := recReadsUptoRow.holds Tryd.pinned (OpenSpec.upto recReadsSpec)

/-- 'moietylaw03.RecSame', WHERE WHAT IT READS IS OF BULK AT MOST 1048576: true; the input reads as it did. -/
def recSameUptoRow : OpenClaim := { program := "ytjonkchmechecaadoor", sum := "e7e9e892b5422e33c47765710e118f9481f50c4a547b53da14b16aa77410f252", func := "moiety/moietylaw03.RecSame", spec := "recSame", inPlace := ["math.Float64frombits", "math.Float64bits"], unfollowed := true, recurses := true, named := ["moiety/rec.names"], apart := false, laid := [("moiety/rec.names", laid_moiety_rec_names)], narrowed := true }
def RecSameUptoSaid : Prop := recSameUptoRow.holds Tryd.pinned (OpenSpec.upto recSameSpec)

/-- 'moietylaw03.RecBetter', WHERE WHAT IT READS IS OF BULK AT MOST 1048576: true; the input reads as it did. -/
def recBetterUptoRow : OpenClaim := { program := "ytjonkchmechecaadoor", sum := "e7e9e892b5422e33c47765710e118f9481f50c4a547b53da14b16aa77410f252", func := "moiety/moietylaw03.RecBetter", spec := "recBetter", inPlace := ["math.Float64frombits", "math.Float64bits"], unfollowed := true, recurses := true, named := ["moiety/rec.names"], apart := false, laid := [("moiety/rec.names", laid_moiety_rec_names)], narrowed := true }
def RecBetterUptoSaid : Prop := recBetterUptoRow.holds Tryd.pinned (OpenSpec.upto recBetterSpec)

/-- 'moietylaw03.RecTakes', WHERE WHAT IT READS IS OF BULK AT MOST 1048576: true; the input reads as it did. -/
def recTakesUptoRow : OpenClaim := { program := "ytjonkchmechecaadoor", sum := "e7e9e892b5422e33c47765710e118f9481f50c4a547b53da14b16aa77410f252", func := "moiety/moietylaw03.RecTakes", spec := "recTakes", inPlace := ["math.Float64frombits", "math.Float64bits"], unfollowed := true, recurses := true, named := ["moiety/rec.names"], apart := false, laid := [("moiety/rec.names", laid_moiety_rec_names)], narrowed := true }
def RecTakesUptoSaid : Prop := recTakesUptoRow.holds Tryd.pinned (OpenSpec.upto recTakesSpec)

/-- 'moietylaw04.ActKinds', WHERE WHAT IT READS IS OF BULK AT MOST 1048576: true; the input reads as it did. -/
def actKindsUptoRow : OpenClaim := { program := "ytjonkchmechecaadoor", sum := "e7e9e892b5422e33c47765710e118f9481f50c4a547b53da14b16aa77410f252", func := "moiety/moietylaw04.ActKinds", spec := "actKinds", inPlace := ["internal/bytealg.IndexByteString", "math.Float64frombits", "math.Float64bits"], unfollowed := true, recurses := true, named := ["moiety/act.rows"], apart := false, laid := [("moiety/act.rows", laid_moiety_act_rows)], narrowed := true }
def ActKindsUptoSaid : Prop := actKindsUptoRow.holds Tryd.pinned (OpenSpec.upto actKindsSpec)

/-- 'moietylaw04.ActChecks', WHERE WHAT IT READS IS OF BULK AT MOST 1048576: true; the input reads as it did. -/
def actChecksUptoRow : OpenClaim := { program := "ytjonkchmechecaadoor", sum := "e7e9e892b5422e33c47765710e118f9481f50c4a547b53da14b16aa77410f252", func := "moiety/moietylaw04.ActChecks", spec := "actChecks", inPlace := ["internal/bytealg.IndexByteString", "math.Float64frombits", "math.Float64bits"], unfollowed := true, recurses := true, named := ["moiety/act.rows"], apart := false, laid := [("moiety/act.rows", laid_moiety_act_rows)], narrowed := true }
def ActChecksUptoSaid : Prop := actChecksUptoRow.holds Tryd.pinned (OpenSpec.upto actChecksSpec)

/-- 'moietylaw04.ActSame', WHERE WHAT IT READS IS OF BULK AT MOST 1048576: true; the input reads as it did. -/
def actSameUptoRow : OpenClaim := { program := "ytjonkchmechecaadoor", sum := "e7e9e892b5422e33c47765710e118f9481f50c4a547b53da14b16aa77410f252", func := "moiety/moietylaw04.ActSame", spec := "actSame", inPlace := ["internal/bytealg.IndexByteString", "math.Float64frombits", "math.Float64bits"], unfollowed := true, recurses := true, named := ["moiety/act.rows"], apart := false, laid := [("moiety/act.rows", laid_moiety_act_rows)], narrowed := true }
def ActSameUptoSaid : Prop := actSameUptoRow.holds Tryd.pinned (OpenSpec.upto actSameSpec)

/-- 'moietylaw04.ActTakes', WHERE WHAT IT READS IS OF BULK AT MOST 1048576: true; the input reads as it did. -/
def actTakesUptoRow : OpenClaim := { program := "ytjonkchmechecaadoor", sum := "e7e9e892b5422e33c47765710e118f9481f50c4a547b53da14b16aa77410f252", func := "moiety/moietylaw04.ActTakes", spec := "actTakes", inPlace := ["internal/bytealg.IndexByteString", "math.Float64frombits", "math.Float64bits"], unfollowed := true, recurses := true, named := ["moiety/act.rows"], apart := false, laid := [("moiety/act.rows", laid_moiety_act_rows)], narrowed := true }
def ActTakesUptoSaid : Prop := actTakesUptoRow.holds Tryd.pinned (OpenSpec.upto actTakesSpec)

end Rows
end Go.Proofs.YtjonkchmechecaaDoor
