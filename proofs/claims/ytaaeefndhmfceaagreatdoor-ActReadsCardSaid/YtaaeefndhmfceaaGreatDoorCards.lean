/-
  DERIVED. GIVEN WITH THE SEED: THE CARDS: each row of YtaaeefndhmfceaaGreatDoorRows.lean that lists a variable, with what it lists TIED to the program's text (the seventh form; the later family's looks); each row that meets fmt, with fmt's text TOLD by the authors' own Lean function (tested against real Go, not proved from fmt's source: count such statements apart). THE CARD IS WHAT COUNTS. Prove the row's statement (the work); the ties are given (YtaaeefndhmfceaaGreatDoorTie.lean); close each card by the builder's one call (the guide's Derived/Test/ToyasCard.lean, 'card_holds'). Laid BY PROGRAM, IN A SANDBOX (cutbox-door.mjs). By AI agents, Wed Nov 11 2026. No macro, syntax, notation, axiom, sorry.
-/
import Derived.Test.YtaaeefndhmfceaaGreatDoorRows
import GoSem.ClaimSeven
namespace Go.Proofs.YtaaeefndhmfceaaGreatDoor
namespace Rows

/-- THE TIED CARD OF 'moietylaw04.ActBytes'. -/
def actBytesCard : Claim7 := { stood := { row := actBytesRow, standIns := [], harness := (true, "dc663e4906f4724819a8d633598739166d2378f0594b2a54e39ca6d8e30e6a44"), looks := true }, kinds := [], alts := [], laidByText := true, laidKinds := [.data], laidTests := true, laidLooks := .later }
def ActBytesCardSaid : Prop := Claim7.holds Tryz.pinned (.plain (OpenSpec.ofChange actBytesSpec)) actBytesCard

/-- THE TIED CARD OF 'moietylaw04.ActReads'. -/
def actReadsCard : Claim7 := { stood := { row := actReadsRow, standIns := [], harness := (true, "dc663e4906f4724819a8d633598739166d2378f0594b2a54e39ca6d8e30e6a44"), looks := true }, kinds := [], alts := [], laidByText := true, laidKinds := [.data], laidTests := true, laidLooks := .later }
def ActReadsCardSaid : Prop := Claim7.holds Tryz.pinned (.plain (OpenSpec.ofChange actReadsSpec)) actReadsCard

/-- THE TIED CARD OF 'moietylaw05.RuleApplies'. -/
def ruleAppliesCard : Claim7 := { stood := { row := ruleAppliesRow, standIns := [], harness := (true, "dc663e4906f4724819a8d633598739166d2378f0594b2a54e39ca6d8e30e6a44"), looks := true }, kinds := [], alts := [], laidByText := true, laidKinds := [.data], laidTests := true, laidLooks := .later }
def RuleAppliesCardSaid : Prop := Claim7.holds Tryz.pinned (.plain (OpenSpec.ofChange ruleAppliesSpec)) ruleAppliesCard

/-- THE TIED CARD OF 'moietylaw05.RuleRows'. -/
def ruleRowsCard : Claim7 := { stood := { row := ruleRowsRow, standIns := [], harness := (true, "dc663e4906f4724819a8d633598739166d2378f0594b2a54e39ca6d8e30e6a44"), looks := true }, kinds := [], alts := [], laidByText := true, laidKinds := [.data], laidTests := true, laidLooks := .later }
def RuleRowsCardSaid : Prop := Claim7.holds Tryz.pinned (.plain (OpenSpec.ofChange ruleRowsSpec)) ruleRowsCard

/-- THE SECOND FORM's CARD OF 'moietylaw04.ActBytes'. -/
def actBytesUptoCard : Claim7 := { stood := { row := actBytesUptoRow, standIns := [], harness := (true, "dc663e4906f4724819a8d633598739166d2378f0594b2a54e39ca6d8e30e6a44"), looks := true }, kinds := [], alts := [], laidByText := true, laidKinds := [.data], laidTests := true, laidLooks := .later }
def ActBytesUptoCardSaid : Prop := Claim7.holds Tryz.pinned (.plain (OpenSpec.upto actBytesSpec)) actBytesUptoCard

/-- THE SECOND FORM's CARD OF 'moietylaw04.ActReads'. -/
def actReadsUptoCard : Claim7 := { stood := { row := actReadsUptoRow, standIns := [], harness := (true, "dc663e4906f4724819a8d633598739166d2378f0594b2a54e39ca6d8e30e6a44"), looks := true }, kinds := [], alts := [], laidByText := true, laidKinds := [.data], laidTests := true, laidLooks := .later }
def ActReadsUptoCardSaid : Prop := Claim7.holds Tryz.pinned (.plain (OpenSpec.upto actReadsSpec)) actReadsUptoCard

/-- THE SECOND FORM's CARD OF 'moietylaw05.RuleApplies'. -/
def ruleAppliesUptoCard : Claim7 := { stood := { row := ruleAppliesUptoRow, standIns := [], harness := (true, "dc663e4906f4724819a8d633598739166d2378f0594b2a54e39ca6d8e30e6a44"), looks := true }, kinds := [], alts := [], laidByText := true, laidKinds := [.data], laidTests := true, laidLooks := .later }
def RuleAppliesUptoCardSaid : Prop := Claim7.holds Tryz.pinned (.plain (OpenSpec.upto ruleAppliesSpec)) ruleAppliesUptoCard

/-- THE SECOND FORM's CARD OF 'moietylaw05.RuleRows'. -/
def ruleRowsUptoCard : Claim7 := { stood := { row := ruleRowsUptoRow, standIns := [], harness := (true, "dc663e4906f4724819a8d633598739166d2378f0594b2a54e39ca6d8e30e6a44"), looks := true }, kinds := [], alts := [], laidByText := true, laidKinds := [.data], laidTests := true, laidLooks := .later }
def RuleRowsUptoCardSaid : Prop := Claim7.holds Tryz.pinned (.plain (OpenSpec.upto ruleRowsSpec)) ruleRowsUptoCard
end Rows
end Go.Proofs.YtaaeefndhmfceaaGreatDoor
