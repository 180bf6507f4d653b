/-
  DERIVED. GIVEN WITH THE SEED: THE CARDS: each row of YtcahncaofhaadaaGreatDoorRows.lean that lists a variable, with what it lists TIED to the program's text (the seventh form; the later family's looks); each row that meets fmt, with fmt's text TOLD by the authors' own Lean function (tested against real Go, not proved from fmt's source: count such statements apart). THE CARD IS WHAT COUNTS. Prove the row's statement (the work); the ties are given (YtcahncaofhaadaaGreatDoorTie.lean); close each card by the builder's one call (the guide's Derived/Test/ToyasCard.lean, 'card_holds'). Laid BY PROGRAM, IN A SANDBOX (cutbox-door.mjs). By AI agents, Wed Nov 11 2026. No macro, syntax, notation, axiom, sorry.
-/
import Derived.Test.YtcahncaofhaadaaGreatDoorRows
import GoSem.ClaimSeven
namespace Go.Proofs.YtcahncaofhaadaaGreatDoor
namespace Rows

/-- THE TIED CARD OF 'moietylaw05.RuleApplies'. -/
def ruleAppliesCard : Claim7 := { stood := { row := ruleAppliesRow, standIns := [], harness := (true, "f4dc001a8cb5d8852a04b0fbfd0692b8fee865e7759f23d6311413d5eae31d52"), looks := false }, kinds := [], alts := [], laidByText := true, laidKinds := [.data], laidTests := true, laidLooks := .later }
def RuleAppliesCardSaid : Prop := Claim7.holds Tryz.pinned (.plain (OpenSpec.ofChange ruleAppliesSpec)) ruleAppliesCard

/-- THE TIED CARD OF 'moietylaw05.RuleRows'. -/
def ruleRowsCard : Claim7 := { stood := { row := ruleRowsRow, standIns := [], harness := (true, "f4dc001a8cb5d8852a04b0fbfd0692b8fee865e7759f23d6311413d5eae31d52"), looks := false }, kinds := [], alts := [], laidByText := true, laidKinds := [.data], laidTests := true, laidLooks := .later }
def RuleRowsCardSaid : Prop := Claim7.holds Tryz.pinned (.plain (OpenSpec.ofChange ruleRowsSpec)) ruleRowsCard

/-- THE TIED CARD OF 'moietylaw06.PairDiffers'. -/
def pairDiffersCard : Claim7 := { stood := { row := pairDiffersRow, standIns := [], harness := (true, "f4dc001a8cb5d8852a04b0fbfd0692b8fee865e7759f23d6311413d5eae31d52"), looks := false }, kinds := [], alts := [], laidByText := true, laidKinds := [.data], laidTests := true, laidLooks := .later }
def PairDiffersCardSaid : Prop := Claim7.holds Tryz.pinned (.plain (OpenSpec.ofChange pairDiffersSpec)) pairDiffersCard

/-- THE TIED CARD OF 'moietylaw06.PairSound'. -/
def pairSoundCard : Claim7 := { stood := { row := pairSoundRow, standIns := [], harness := (true, "f4dc001a8cb5d8852a04b0fbfd0692b8fee865e7759f23d6311413d5eae31d52"), looks := false }, kinds := [], alts := [], laidByText := true, laidKinds := [.data], laidTests := true, laidLooks := .later }
def PairSoundCardSaid : Prop := Claim7.holds Tryz.pinned (.plain (OpenSpec.ofChange pairSoundSpec)) pairSoundCard

/-- THE TIED CARD OF 'moietylaw06.PairSharp'. -/
def pairSharpCard : Claim7 := { stood := { row := pairSharpRow, standIns := [], harness := (true, "f4dc001a8cb5d8852a04b0fbfd0692b8fee865e7759f23d6311413d5eae31d52"), looks := false }, kinds := [], alts := [], laidByText := true, laidKinds := [.data], laidTests := true, laidLooks := .later }
def PairSharpCardSaid : Prop := Claim7.holds Tryz.pinned (.plain (OpenSpec.ofChange pairSharpSpec)) pairSharpCard

/-- THE TIED CARD OF 'moietylaw06.PairRows'. -/
def pairRowsCard : Claim7 := { stood := { row := pairRowsRow, standIns := [], harness := (true, "f4dc001a8cb5d8852a04b0fbfd0692b8fee865e7759f23d6311413d5eae31d52"), looks := false }, kinds := [], alts := [], laidByText := true, laidKinds := [.data], laidTests := true, laidLooks := .later }
def PairRowsCardSaid : Prop := Claim7.holds Tryz.pinned (.plain (OpenSpec.ofChange pairRowsSpec)) pairRowsCard

/-- THE TIED CARD OF 'moietytop.WholeTraces'. -/
def wholeTracesCard : Claim7 := { stood := { row := wholeTracesRow, standIns := [], harness := (true, "f4dc001a8cb5d8852a04b0fbfd0692b8fee865e7759f23d6311413d5eae31d52"), looks := false }, kinds := [], alts := [], laidByText := true, laidKinds := [.data], laidTests := true, laidLooks := .later }
def WholeTracesCardSaid : Prop := Claim7.holds Tryz.pinned (.plain (OpenSpec.ofChange wholeTracesSpec)) wholeTracesCard

/-- THE SECOND FORM's CARD OF 'moietylaw05.RuleApplies'. -/
def ruleAppliesUptoCard : Claim7 := { stood := { row := ruleAppliesUptoRow, standIns := [], harness := (true, "f4dc001a8cb5d8852a04b0fbfd0692b8fee865e7759f23d6311413d5eae31d52"), looks := false }, kinds := [], alts := [], laidByText := true, laidKinds := [.data], laidTests := true, laidLooks := .later }
def RuleAppliesUptoCardSaid : Prop := Claim7.holds Tryz.pinned (.plain (OpenSpec.upto ruleAppliesSpec)) ruleAppliesUptoCard

/-- THE SECOND FORM's CARD OF 'moietylaw05.RuleRows'. -/
def ruleRowsUptoCard : Claim7 := { stood := { row := ruleRowsUptoRow, standIns := [], harness := (true, "f4dc001a8cb5d8852a04b0fbfd0692b8fee865e7759f23d6311413d5eae31d52"), looks := false }, kinds := [], alts := [], laidByText := true, laidKinds := [.data], laidTests := true, laidLooks := .later }
def RuleRowsUptoCardSaid : Prop := Claim7.holds Tryz.pinned (.plain (OpenSpec.upto ruleRowsSpec)) ruleRowsUptoCard

/-- THE SECOND FORM's CARD OF 'moietylaw06.PairDiffers'. -/
def pairDiffersUptoCard : Claim7 := { stood := { row := pairDiffersUptoRow, standIns := [], harness := (true, "f4dc001a8cb5d8852a04b0fbfd0692b8fee865e7759f23d6311413d5eae31d52"), looks := false }, kinds := [], alts := [], laidByText := true, laidKinds := [.data], laidTests := true, laidLooks := .later }
def PairDiffersUptoCardSaid : Prop := Claim7.holds Tryz.pinned (.plain (OpenSpec.upto pairDiffersSpec)) pairDiffersUptoCard

/-- THE SECOND FORM's CARD OF 'moietylaw06.PairSound'. -/
def pairSoundUptoCard : Claim7 := { stood := { row := pairSoundUptoRow, standIns := [], harness := (true, "f4dc001a8cb5d8852a04b0fbfd0692b8fee865e7759f23d6311413d5eae31d52"), looks := false }, kinds := [], alts := [], laidByText := true, laidKinds := [.data], laidTests := true, laidLooks := .later }
def PairSoundUptoCardSaid : Prop := Claim7.holds Tryz.pinned (.plain (OpenSpec.upto pairSoundSpec)) pairSoundUptoCard

/-- THE SECOND FORM's CARD OF 'moietylaw06.PairSharp'. -/
def pairSharpUptoCard : Claim7 := { stood := { row := pairSharpUptoRow, standIns := [], harness := (true, "f4dc001a8cb5d8852a04b0fbfd0692b8fee865e7759f23d6311413d5eae31d52"), looks := false }, kinds := [], alts := [], laidByText := true, laidKinds := [.data], laidTests := true, laidLooks := .later }
def PairSharpUptoCardSaid : Prop := Claim7.holds Tryz.pinned (.plain (OpenSpec.upto pairSharpSpec)) pairSharpUptoCard

/-- THE SECOND FORM's CARD OF 'moietylaw06.PairRows'. -/
def pairRowsUptoCard : Claim7 := { stood := { row := pairRowsUptoRow, standIns := [], harness := (true, "f4dc001a8cb5d8852a04b0fbfd0692b8fee865e7759f23d6311413d5eae31d52"), looks := false }, kinds := [], alts := [], laidByText := true, laidKinds := [.data], laidTests := true, laidLooks := .later }
def PairRowsUptoCardSaid : Prop := Claim7.holds Tryz.pinned (.plain (OpenSpec.upto pairRowsSpec)) pairRowsUptoCard

/-- THE SECOND FORM's CARD OF 'moietytop.WholeTraces'. -/
def wholeTracesUptoCard : Claim7 := { stood := { row := wholeTracesUptoRow, standIns := [], harness := (true, "f4dc001a8cb5d8852a04b0fbfd0692b8fee865e7759f23d6311413d5eae31d52"), looks := false }, kinds := [], alts := [], laidByText := true, laidKinds := [.data], laidTests := true, laidLooks := .later }
def WholeTracesUptoCardSaid : Prop := Claim7.holds Tryz.pinned (.plain (OpenSpec.upto wholeTracesSpec)) wholeTracesUptoCard
end Rows
end Go.Proofs.YtcahncaofhaadaaGreatDoor
