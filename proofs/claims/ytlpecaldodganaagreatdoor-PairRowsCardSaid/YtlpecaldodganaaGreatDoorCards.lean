/-
  DERIVED. GIVEN WITH THE SEED: THE CARDS: each row of YtlpecaldodganaaGreatDoorRows.lean that lists a variable, with what it lists TIED to the program's text (the seventh form; the later family's looks); each row that meets fmt, with fmt's text TOLD by the authors' own Lean function (tested against real Go, not proved from fmt's source: count such statements apart). THE CARD IS WHAT COUNTS. Prove the row's statement (the work); the ties are given (YtlpecaldodganaaGreatDoorTie.lean); close each card by the builder's one call (the guide's Derived/Test/ToyasCard.lean, 'card_holds'). Laid BY PROGRAM, IN A SANDBOX (cutbox-door.mjs). By AI agents, Wed Nov 11 2026. No macro, syntax, notation, axiom, sorry.
-/
import Derived.Test.YtlpecaldodganaaGreatDoorRows
import GoSem.ClaimSeven
namespace Go.Proofs.YtlpecaldodganaaGreatDoor
namespace Rows

/-- THE TIED CARD OF 'moietylaw06.PairDiffers'. -/
def pairDiffersCard : Claim7 := { stood := { row := pairDiffersRow, standIns := [], harness := (true, "e9718ed19385e03c1f78548580e05f04d065d37010ec69f1b0b534676287f5de"), looks := false }, kinds := [], alts := [], laidByText := true, laidKinds := [.data], laidTests := true, laidLooks := .later }
def PairDiffersCardSaid : Prop := Claim7.holds Tryz.pinned (.plain (OpenSpec.ofChange pairDiffersSpec)) pairDiffersCard

/-- THE TIED CARD OF 'moietylaw06.PairSound'. -/
def pairSoundCard : Claim7 := { stood := { row := pairSoundRow, standIns := [], harness := (true, "e9718ed19385e03c1f78548580e05f04d065d37010ec69f1b0b534676287f5de"), looks := false }, kinds := [], alts := [], laidByText := true, laidKinds := [.data], laidTests := true, laidLooks := .later }
def PairSoundCardSaid : Prop := Claim7.holds Tryz.pinned (.plain (OpenSpec.ofChange pairSoundSpec)) pairSoundCard

/-- THE TIED CARD OF 'moietylaw06.PairSharp'. -/
def pairSharpCard : Claim7 := { stood := { row := pairSharpRow, standIns := [], harness := (true, "e9718ed19385e03c1f78548580e05f04d065d37010ec69f1b0b534676287f5de"), looks := false }, kinds := [], alts := [], laidByText := true, laidKinds := [.data], laidTests := true, laidLooks := .later }
def PairSharpCardSaid : Prop := Claim7.holds Tryz.pinned (.plain (OpenSpec.ofChange pairSharpSpec)) pairSharpCard

/-- THE TIED CARD OF 'moietylaw06.PairRows'. -/
def pairRowsCard : Claim7 := { stood := { row := pairRowsRow, standIns := [], harness := (true, "e9718ed19385e03c1f78548580e05f04d065d37010ec69f1b0b534676287f5de"), looks := false }, kinds := [], alts := [], laidByText := true, laidKinds := [.data], laidTests := true, laidLooks := .later }
def PairRowsCardSaid : Prop := Claim7.holds Tryz.pinned (.plain (OpenSpec.ofChange pairRowsSpec)) pairRowsCard

/-- THE TIED CARD OF 'moietylaw07.ShareSlices'. -/
def shareSlicesCard : Claim7 := { stood := { row := shareSlicesRow, standIns := [], harness := (true, "e9718ed19385e03c1f78548580e05f04d065d37010ec69f1b0b534676287f5de"), looks := false }, kinds := [], alts := [], laidByText := true, laidKinds := [.data], laidTests := true, laidLooks := .later }
def ShareSlicesCardSaid : Prop := Claim7.holds Tryz.pinned (.plain (OpenSpec.ofChange shareSlicesSpec)) shareSlicesCard

/-- THE TIED CARD OF 'moietylaw07.ShareMerges'. -/
def shareMergesCard : Claim7 := { stood := { row := shareMergesRow, standIns := [], harness := (true, "e9718ed19385e03c1f78548580e05f04d065d37010ec69f1b0b534676287f5de"), looks := false }, kinds := [], alts := [], laidByText := true, laidKinds := [.data], laidTests := true, laidLooks := .later }
def ShareMergesCardSaid : Prop := Claim7.holds Tryz.pinned (.plain (OpenSpec.ofChange shareMergesSpec)) shareMergesCard

/-- THE TIED CARD OF 'moietylaw07.ShareDraws'. -/
def shareDrawsCard : Claim7 := { stood := { row := shareDrawsRow, standIns := [], harness := (true, "e9718ed19385e03c1f78548580e05f04d065d37010ec69f1b0b534676287f5de"), looks := false }, kinds := [], alts := [], laidByText := true, laidKinds := [.data], laidTests := true, laidLooks := .later }
def ShareDrawsCardSaid : Prop := Claim7.holds Tryz.pinned (.plain (OpenSpec.ofChange shareDrawsSpec)) shareDrawsCard

/-- THE TIED CARD OF 'moietylaw07.ShareEscrow'. -/
def shareEscrowCard : Claim7 := { stood := { row := shareEscrowRow, standIns := [], harness := (true, "e9718ed19385e03c1f78548580e05f04d065d37010ec69f1b0b534676287f5de"), looks := false }, kinds := [], alts := [], laidByText := true, laidKinds := [.data], laidTests := true, laidLooks := .later }
def ShareEscrowCardSaid : Prop := Claim7.holds Tryz.pinned (.plain (OpenSpec.ofChange shareEscrowSpec)) shareEscrowCard

/-- THE TIED CARD OF 'moietylaw07.ShareSome'. -/
def shareSomeCard : Claim7 := { stood := { row := shareSomeRow, standIns := [], harness := (true, "e9718ed19385e03c1f78548580e05f04d065d37010ec69f1b0b534676287f5de"), looks := false }, kinds := [], alts := [], laidByText := true, laidKinds := [.data], laidTests := true, laidLooks := .later }
def ShareSomeCardSaid : Prop := Claim7.holds Tryz.pinned (.plain (OpenSpec.ofChange shareSomeSpec)) shareSomeCard

/-- THE TIED CARD OF 'moietytop.WholeTraces'. -/
def wholeTracesCard : Claim7 := { stood := { row := wholeTracesRow, standIns := [], harness := (true, "e9718ed19385e03c1f78548580e05f04d065d37010ec69f1b0b534676287f5de"), looks := false }, kinds := [], alts := [], laidByText := true, laidKinds := [.data], laidTests := true, laidLooks := .later }
def WholeTracesCardSaid : Prop := Claim7.holds Tryz.pinned (.plain (OpenSpec.ofChange wholeTracesSpec)) wholeTracesCard

/-- THE SECOND FORM's CARD OF 'moietylaw06.PairDiffers'. -/
def pairDiffersUptoCard : Claim7 := { stood := { row := pairDiffersUptoRow, standIns := [], harness := (true, "e9718ed19385e03c1f78548580e05f04d065d37010ec69f1b0b534676287f5de"), looks := false }, kinds := [], alts := [], laidByText := true, laidKinds := [.data], laidTests := true, laidLooks := .later }
def PairDiffersUptoCardSaid : Prop := Claim7.holds Tryz.pinned (.plain (OpenSpec.upto pairDiffersSpec)) pairDiffersUptoCard

/-- THE SECOND FORM's CARD OF 'moietylaw06.PairSound'. -/
def pairSoundUptoCard : Claim7 := { stood := { row := pairSoundUptoRow, standIns := [], harness := (true, "e9718ed19385e03c1f78548580e05f04d065d37010ec69f1b0b534676287f5de"), looks := false }, kinds := [], alts := [], laidByText := true, laidKinds := [.data], laidTests := true, laidLooks := .later }
def PairSoundUptoCardSaid : Prop := Claim7.holds Tryz.pinned (.plain (OpenSpec.upto pairSoundSpec)) pairSoundUptoCard

/-- THE SECOND FORM's CARD OF 'moietylaw06.PairSharp'. -/
def pairSharpUptoCard : Claim7 := { stood := { row := pairSharpUptoRow, standIns := [], harness := (true, "e9718ed19385e03c1f78548580e05f04d065d37010ec69f1b0b534676287f5de"), looks := false }, kinds := [], alts := [], laidByText := true, laidKinds := [.data], laidTests := true, laidLooks := .later }
def PairSharpUptoCardSaid : Prop := Claim7.holds Tryz.pinned (.plain (OpenSpec.upto pairSharpSpec)) pairSharpUptoCard

/-- THE SECOND FORM's CARD OF 'moietylaw06.PairRows'. -/
def pairRowsUptoCard : Claim7 := { stood := { row := pairRowsUptoRow, standIns := [], harness := (true, "e9718ed19385e03c1f78548580e05f04d065d37010ec69f1b0b534676287f5de"), looks := false }, kinds := [], alts := [], laidByText := true, laidKinds := [.data], laidTests := true, laidLooks := .later }
def PairRowsUptoCardSaid : Prop := Claim7.holds Tryz.pinned (.plain (OpenSpec.upto pairRowsSpec)) pairRowsUptoCard

/-- THE SECOND FORM's CARD OF 'moietylaw07.ShareSlices'. -/
def shareSlicesUptoCard : Claim7 := { stood := { row := shareSlicesUptoRow, standIns := [], harness := (true, "e9718ed19385e03c1f78548580e05f04d065d37010ec69f1b0b534676287f5de"), looks := false }, kinds := [], alts := [], laidByText := true, laidKinds := [.data], laidTests := true, laidLooks := .later }
def ShareSlicesUptoCardSaid : Prop := Claim7.holds Tryz.pinned (.plain (OpenSpec.upto shareSlicesSpec)) shareSlicesUptoCard

/-- THE SECOND FORM's CARD OF 'moietylaw07.ShareMerges'. -/
def shareMergesUptoCard : Claim7 := { stood := { row := shareMergesUptoRow, standIns := [], harness := (true, "e9718ed19385e03c1f78548580e05f04d065d37010ec69f1b0b534676287f5de"), looks := false }, kinds := [], alts := [], laidByText := true, laidKinds := [.data], laidTests := true, laidLooks := .later }
def ShareMergesUptoCardSaid : Prop := Claim7.holds Tryz.pinned (.plain (OpenSpec.upto shareMergesSpec)) shareMergesUptoCard

/-- THE SECOND FORM's CARD OF 'moietylaw07.ShareDraws'. -/
def shareDrawsUptoCard : Claim7 := { stood := { row := shareDrawsUptoRow, standIns := [], harness := (true, "e9718ed19385e03c1f78548580e05f04d065d37010ec69f1b0b534676287f5de"), looks := false }, kinds := [], alts := [], laidByText := true, laidKinds := [.data], laidTests := true, laidLooks := .later }
def ShareDrawsUptoCardSaid : Prop := Claim7.holds Tryz.pinned (.plain (OpenSpec.upto shareDrawsSpec)) shareDrawsUptoCard

/-- THE SECOND FORM's CARD OF 'moietylaw07.ShareEscrow'. -/
def shareEscrowUptoCard : Claim7 := { stood := { row := shareEscrowUptoRow, standIns := [], harness := (true, "e9718ed19385e03c1f78548580e05f04d065d37010ec69f1b0b534676287f5de"), looks := false }, kinds := [], alts := [], laidByText := true, laidKinds := [.data], laidTests := true, laidLooks := .later }
def ShareEscrowUptoCardSaid : Prop := Claim7.holds Tryz.pinned (.plain (OpenSpec.upto shareEscrowSpec)) shareEscrowUptoCard

/-- THE SECOND FORM's CARD OF 'moietylaw07.ShareSome'. -/
def shareSomeUptoCard : Claim7 := { stood := { row := shareSomeUptoRow, standIns := [], harness := (true, "e9718ed19385e03c1f78548580e05f04d065d37010ec69f1b0b534676287f5de"), looks := false }, kinds := [], alts := [], laidByText := true, laidKinds := [.data], laidTests := true, laidLooks := .later }
def ShareSomeUptoCardSaid : Prop := Claim7.holds Tryz.pinned (.plain (OpenSpec.upto shareSomeSpec)) shareSomeUptoCard

/-- THE SECOND FORM's CARD OF 'moietytop.WholeTraces'. -/
def wholeTracesUptoCard : Claim7 := { stood := { row := wholeTracesUptoRow, standIns := [], harness := (true, "e9718ed19385e03c1f78548580e05f04d065d37010ec69f1b0b534676287f5de"), looks := false }, kinds := [], alts := [], laidByText := true, laidKinds := [.data], laidTests := true, laidLooks := .later }
def WholeTracesUptoCardSaid : Prop := Claim7.holds Tryz.pinned (.plain (OpenSpec.upto wholeTracesSpec)) wholeTracesUptoCard
end Rows
end Go.Proofs.YtlpecaldodganaaGreatDoor
