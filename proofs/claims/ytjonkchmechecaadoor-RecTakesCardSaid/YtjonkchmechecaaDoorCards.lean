/-
  DERIVED. GIVEN WITH THE SEED: THE CARDS: each row of YtjonkchmechecaaDoorRows.lean that lists a variable, with what it lists TIED to the program's text (the seventh form; the later family's looks); each row that meets fmt, with fmt's text TOLD by the authors' own Lean function (tested against real Go, not proved from fmt's source: count such statements apart). THE CARD IS WHAT COUNTS. Prove the row's statement (the work); the ties are given (YtjonkchmechecaaDoorTie.lean); close each card by the builder's one call (the guide's Derived/Test/ToyasCard.lean, 'card_holds'). Laid BY PROGRAM, IN A SANDBOX (cutbox-door.mjs). By AI agents, Wed Nov 11 2026. No macro, syntax, notation, axiom, sorry.
-/
import Derived.Test.YtjonkchmechecaaDoorRows
import GoSem.ClaimSeven
namespace Go.Proofs.YtjonkchmechecaaDoor
namespace Rows

/-- THE TIED CARD OF 'moietylaw03.RecChecks'. -/
def recChecksCard : Claim7 := { stood := { row := recChecksRow, standIns := [], harness := (true, "9127c5069510a7a2fbe43082a5d19ce7a4e7990e17737d015a6626263d8efe82"), looks := true }, kinds := [], alts := [], laidByText := true, laidKinds := [.data], laidTests := true, laidLooks := .later }
def RecChecksCardSaid : Prop := Claim7.holds Tryd.pinned (.plain (OpenSpec.ofChange recChecksSpec)) recChecksCard

/-- THE TIED CARD OF 'moietylaw03.RecBytes'. -/
def recBytesCard : Claim7 := { stood := { row := recBytesRow, standIns := [], harness := (true, "9127c5069510a7a2fbe43082a5d19ce7a4e7990e17737d015a6626263d8efe82"), looks := true }, kinds := [], alts := [], laidByText := true, laidKinds := [.data], laidTests := true, laidLooks := .later }
def RecBytesCardSaid : Prop := Claim7.holds Tryd.pinned (.plain (OpenSpec.ofChange recBytesSpec)) recBytesCard

/-- THE TIED CARD OF 'moietylaw03.RecReads'. -/
def recReadsCard : Claim7 := { stood := { row := recReadsRow, standIns := [], harness := (true, "9127c5069510a7a2fbe43082a5d19ce7a4e7990e17737d015a6626263d8efe82"), looks := true }, kinds := [], alts := [], laidByText := true, laidKinds := [.data], laidTests := true, laidLooks := .later }
def RecReadsCardSaid : Prop := Claim7.holds Tryd.pinned (.plain (OpenSpec.ofChange recReadsSpec)) recReadsCard

/-- THE TIED CARD OF 'moietylaw03.RecSame'. -/
def recSameCard : Claim7 := { stood := { row := recSameRow, standIns := [], harness := (true, "9127c5069510a7a2fbe43082a5d19ce7a4e7990e17737d015a6626263d8efe82"), looks := true }, kinds := [], alts := [], laidByText := true, laidKinds := [.data], laidTests := true, laidLooks := .later }
def RecSameCardSaid : Prop := Claim7.holds Tryd.pinned (.plain (OpenSpec.ofChange recSameSpec)) recSameCard

/-- THE TIED CARD OF 'moietylaw03.RecBetter'. -/
def recBetterCard : Claim7 := { stood := { row := recBetterRow, standIns := [], harness := (true, "9127c5069510a7a2fbe43082a5d19ce7a4e7990e17737d015a6626263d8efe82"), looks := true }, kinds := [], alts := [], laidByText := true, laidKinds := [.data], laidTests := true, laidLooks := .later }
def RecBetterCardSaid : Prop := Claim7.holds Tryd.pinned (.plain (OpenSpec.ofChange recBetterSpec)) recBetterCard

/-- THE TIED CARD OF 'moietylaw03.RecTakes'. -/
def recTakesCard : Claim7 := { stood := { row := recTakesRow, standIns := [], harness := (true, "9127c5069510a7a2fbe43082a5d19ce7a4e7990e17737d015a6626263d8efe82"), looks := true }, kinds := [], alts := [], laidByText := true, laidKinds := [.data], laidTests := true, laidLooks := .later }
def RecTakesCardSaid : Prop := Claim7.holds Tryd.pinned (.plain (OpenSpec.ofChange recTakesSpec)) recTakesCard

/-- THE TIED CARD OF 'moietylaw04.ActKinds'. -/
def actKindsCard : Claim7 := { stood := { row := actKindsRow, standIns := [], harness := (true, "9127c5069510a7a2fbe43082a5d19ce7a4e7990e17737d015a6626263d8efe82"), looks := true }, kinds := [], alts := [], laidByText := true, laidKinds := [.data], laidTests := true, laidLooks := .later }
def ActKindsCardSaid : Prop := Claim7.holds Tryd.pinned (.plain (OpenSpec.ofChange actKindsSpec)) actKindsCard

/-- THE TIED CARD OF 'moietylaw04.ActChecks'. -/
def actChecksCard : Claim7 := { stood := { row := actChecksRow, standIns := [], harness := (true, "9127c5069510a7a2fbe43082a5d19ce7a4e7990e17737d015a6626263d8efe82"), looks := true }, kinds := [], alts := [], laidByText := true, laidKinds := [.data], laidTests := true, laidLooks := .later }
def ActChecksCardSaid : Prop := Claim7.holds Tryd.pinned (.plain (OpenSpec.ofChange actChecksSpec)) actChecksCard

/-- THE TIED CARD OF 'moietylaw04.ActSame'. -/
def actSameCard : Claim7 := { stood := { row := actSameRow, standIns := [], harness := (true, "9127c5069510a7a2fbe43082a5d19ce7a4e7990e17737d015a6626263d8efe82"), looks := true }, kinds := [], alts := [], laidByText := true, laidKinds := [.data], laidTests := true, laidLooks := .later }
def ActSameCardSaid : Prop := Claim7.holds Tryd.pinned (.plain (OpenSpec.ofChange actSameSpec)) actSameCard

/-- THE TIED CARD OF 'moietylaw04.ActTakes'. -/
def actTakesCard : Claim7 := { stood := { row := actTakesRow, standIns := [], harness := (true, "9127c5069510a7a2fbe43082a5d19ce7a4e7990e17737d015a6626263d8efe82"), looks := true }, kinds := [], alts := [], laidByText := true, laidKinds := [.data], laidTests := true, laidLooks := .later }
def ActTakesCardSaid : Prop := Claim7.holds Tryd.pinned (.plain (OpenSpec.ofChange actTakesSpec)) actTakesCard

/-- THE SECOND FORM's CARD OF 'moietylaw03.RecChecks'. -/
def recChecksUptoCard : Claim7 := { stood := { row := recChecksUptoRow, standIns := [], harness := (true, "9127c5069510a7a2fbe43082a5d19ce7a4e7990e17737d015a6626263d8efe82"), looks := true }, kinds := [], alts := [], laidByText := true, laidKinds := [.data], laidTests := true, laidLooks := .later }
def RecChecksUptoCardSaid : Prop := Claim7.holds Tryd.pinned (.plain (OpenSpec.upto recChecksSpec)) recChecksUptoCard

/-- THE SECOND FORM's CARD OF 'moietylaw03.RecBytes'. -/
def recBytesUptoCard : Claim7 := { stood := { row := recBytesUptoRow, standIns := [], harness := (true, "9127c5069510a7a2fbe43082a5d19ce7a4e7990e17737d015a6626263d8efe82"), looks := true }, kinds := [], alts := [], laidByText := true, laidKinds := [.data], laidTests := true, laidLooks := .later }
def RecBytesUptoCardSaid : Prop := Claim7.holds Tryd.pinned (.plain (OpenSpec.upto recBytesSpec)) recBytesUptoCard

/-- THE SECOND FORM's CARD OF 'moietylaw03.RecReads'. -/
def recReadsUptoCard : Claim7 := { stood := { row := recReadsUptoRow, standIns := [], harness := (true, "9127c5069510a7a2fbe43082a5d19ce7a4e7990e17737d015a6626263d8efe82"), looks := true }, kinds := [], alts := [], laidByText := true, laidKinds := [.data], laidTests := true, laidLooks := .later }
def RecReadsUptoCardSaid : Prop := Claim7.holds Tryd.pinned (.plain (OpenSpec.upto recReadsSpec)) recReadsUptoCard

/-- THE SECOND FORM's CARD OF 'moietylaw03.RecSame'. -/
def recSameUptoCard : Claim7 := { stood := { row := recSameUptoRow, standIns := [], harness := (true, "9127c5069510a7a2fbe43082a5d19ce7a4e7990e17737d015a6626263d8efe82"), looks := true }, kinds := [], alts := [], laidByText := true, laidKinds := [.data], laidTests := true, laidLooks := .later }
def RecSameUptoCardSaid : Prop := Claim7.holds Tryd.pinned (.plain (OpenSpec.upto recSameSpec)) recSameUptoCard

/-- THE SECOND FORM's CARD OF 'moietylaw03.RecBetter'. -/
def recBetterUptoCard : Claim7 := { stood := { row := recBetterUptoRow, standIns := [], harness := (true, "9127c5069510a7a2fbe43082a5d19ce7a4e7990e17737d015a6626263d8efe82"), looks := true }, kinds := [], alts := [], laidByText := true, laidKinds := [.data], laidTests := true, laidLooks := .later }
def RecBetterUptoCardSaid : Prop := Claim7.holds Tryd.pinned (.plain (OpenSpec.upto recBetterSpec)) recBetterUptoCard

/-- THE SECOND FORM's CARD OF 'moietylaw03.RecTakes'. -/
def recTakesUptoCard : Claim7 := { stood := { row := recTakesUptoRow, standIns := [], harness := (true, "9127c5069510a7a2fbe43082a5d19ce7a4e7990e17737d015a6626263d8efe82"), looks := true }, kinds := [], alts := [], laidByText := true, laidKinds := [.data], laidTests := true, laidLooks := .later }
def RecTakesUptoCardSaid : Prop := Claim7.holds Tryd.pinned (.plain (OpenSpec.upto recTakesSpec)) recTakesUptoCard

/-- THE SECOND FORM's CARD OF 'moietylaw04.ActKinds'. -/
def actKindsUptoCard : Claim7 := { stood := { row := actKindsUptoRow, standIns := [], harness := (true, "9127c5069510a7a2fbe43082a5d19ce7a4e7990e17737d015a6626263d8efe82"), looks := true }, kinds := [], alts := [], laidByText := true, laidKinds := [.data], laidTests := true, laidLooks := .later }
def ActKindsUptoCardSaid : Prop := Claim7.holds Tryd.pinned (.plain (OpenSpec.upto actKindsSpec)) actKindsUptoCard

/-- THE SECOND FORM's CARD OF 'moietylaw04.ActChecks'. -/
def actChecksUptoCard : Claim7 := { stood := { row := actChecksUptoRow, standIns := [], harness := (true, "9127c5069510a7a2fbe43082a5d19ce7a4e7990e17737d015a6626263d8efe82"), looks := true }, kinds := [], alts := [], laidByText := true, laidKinds := [.data], laidTests := true, laidLooks := .later }
def ActChecksUptoCardSaid : Prop := Claim7.holds Tryd.pinned (.plain (OpenSpec.upto actChecksSpec)) actChecksUptoCard

/-- THE SECOND FORM's CARD OF 'moietylaw04.ActSame'. -/
def actSameUptoCard : Claim7 := { stood := { row := actSameUptoRow, standIns := [], harness := (true, "9127c5069510a7a2fbe43082a5d19ce7a4e7990e17737d015a6626263d8efe82"), looks := true }, kinds := [], alts := [], laidByText := true, laidKinds := [.data], laidTests := true, laidLooks := .later }
def ActSameUptoCardSaid : Prop := Claim7.holds Tryd.pinned (.plain (OpenSpec.upto actSameSpec)) actSameUptoCard

/-- THE SECOND FORM's CARD OF 'moietylaw04.ActTakes'. -/
def actTakesUptoCard : Claim7 := { stood := { row := actTakesUptoRow, standIns := [], harness := (true, "9127c5069510a7a2fbe43082a5d19ce7a4e7990e17737d015a6626263d8efe82"), looks := true }, kinds := [], alts := [], laidByText := true, laidKinds := [.data], laidTests := true, laidLooks := .later }
def ActTakesUptoCardSaid : Prop := Claim7.holds Tryd.pinned (.plain (OpenSpec.upto actTakesSpec)) actTakesUptoCard
end Rows
end Go.Proofs.YtjonkchmechecaaDoor
