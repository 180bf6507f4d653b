/-
  DERIVED. GIVEN WITH THE SEED: THE CARDS: each row of YtlpecaldodganaaDoorRows.lean that lists a variable, with what it lists TIED to the program's text (the seventh form; the later family's looks); each row that meets fmt, with fmt's text TOLD by the authors' own Lean function (tested against real Go, not proved from fmt's source: count such statements apart). THE CARD IS WHAT COUNTS. Prove the row's statement (the work); the ties are given (YtlpecaldodganaaDoorTie.lean); close each card by the builder's one call (the guide's Derived/Test/ToyasCard.lean, 'card_holds'). Laid BY PROGRAM, IN A SANDBOX (cutbox-door.mjs). By AI agents, Wed Nov 11 2026. No macro, syntax, notation, axiom, sorry.
-/
import Derived.Test.YtlpecaldodganaaDoorRows
import GoSem.ClaimSeven
namespace Go.Proofs.YtlpecaldodganaaDoor
namespace Rows

/-- THE TIED CARD OF 'moietylaw06.PairKinds'. -/
def pairKindsCard : Claim7 := { stood := { row := pairKindsRow, standIns := [], harness := (true, "928b058c356b2dcf6912061813404f37512541e15a2d043ba15f0f6bae444c16"), looks := false }, kinds := [], alts := [], laidByText := true, laidKinds := [.data], laidTests := true, laidLooks := .later }
def PairKindsCardSaid : Prop := Claim7.holds Tryd.pinned (.plain (OpenSpec.ofChange pairKindsSpec)) pairKindsCard

/-- THE SECOND FORM's CARD OF 'moietylaw06.PairKinds'. -/
def pairKindsUptoCard : Claim7 := { stood := { row := pairKindsUptoRow, standIns := [], harness := (true, "928b058c356b2dcf6912061813404f37512541e15a2d043ba15f0f6bae444c16"), looks := false }, kinds := [], alts := [], laidByText := true, laidKinds := [.data], laidTests := true, laidLooks := .later }
def PairKindsUptoCardSaid : Prop := Claim7.holds Tryd.pinned (.plain (OpenSpec.upto pairKindsSpec)) pairKindsUptoCard
end Rows
end Go.Proofs.YtlpecaldodganaaDoor
