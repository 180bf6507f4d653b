/-
  DERIVED. GIVEN WITH THE SEED: THE CARDS: each row of YtaaeefndhmfceaaDoorRows.lean that lists a variable, with what it lists TIED to the program's text (the seventh form; the later family's looks); each row that meets fmt, with fmt's text TOLD by the authors' own Lean function (tested against real Go, not proved from fmt's source: count such statements apart). THE CARD IS WHAT COUNTS. Prove the row's statement (the work); the ties are given (YtaaeefndhmfceaaDoorTie.lean); close each card by the builder's one call (the guide's Derived/Test/ToyasCard.lean, 'card_holds'). Laid BY PROGRAM, IN A SANDBOX (cutbox-door.mjs). By AI agents, Wed Nov 11 2026. No macro, syntax, notation, axiom, sorry.
-/
import Derived.Test.YtaaeefndhmfceaaDoorRows
import GoSem.ClaimSeven
namespace Go.Proofs.YtaaeefndhmfceaaDoor
namespace Rows

/-- THE TIED CARD OF 'moietylaw05.RuleKeeps'. -/
def ruleKeepsCard : Claim7 := { stood := { row := ruleKeepsRow, standIns := [], harness := (true, "dada527a5a4349e80a08da728c2652c2e6f3960dd3532e9e71f3cc04846686d8"), looks := false }, kinds := [], alts := [], laidByText := true, laidKinds := [.data], laidTests := true, laidLooks := .later }
def RuleKeepsCardSaid : Prop := Claim7.holds Tryd.pinned (.plain (OpenSpec.ofChange ruleKeepsSpec)) ruleKeepsCard

/-- THE TIED CARD OF 'moietylaw05.RuleTwice'. -/
def ruleTwiceCard : Claim7 := { stood := { row := ruleTwiceRow, standIns := [], harness := (true, "dada527a5a4349e80a08da728c2652c2e6f3960dd3532e9e71f3cc04846686d8"), looks := false }, kinds := [], alts := [], laidByText := true, laidKinds := [.data], laidTests := true, laidLooks := .later }
def RuleTwiceCardSaid : Prop := Claim7.holds Tryd.pinned (.plain (OpenSpec.ofChange ruleTwiceSpec)) ruleTwiceCard

/-- THE TIED CARD OF 'moietylaw05.RuleBack'. -/
def ruleBackCard : Claim7 := { stood := { row := ruleBackRow, standIns := [], harness := (true, "dada527a5a4349e80a08da728c2652c2e6f3960dd3532e9e71f3cc04846686d8"), looks := false }, kinds := [], alts := [], laidByText := true, laidKinds := [.data], laidTests := true, laidLooks := .later }
def RuleBackCardSaid : Prop := Claim7.holds Tryd.pinned (.plain (OpenSpec.ofChange ruleBackSpec)) ruleBackCard

/-- THE TIED CARD OF 'moietylaw05.RuleOwn'. -/
def ruleOwnCard : Claim7 := { stood := { row := ruleOwnRow, standIns := [], harness := (true, "dada527a5a4349e80a08da728c2652c2e6f3960dd3532e9e71f3cc04846686d8"), looks := false }, kinds := [], alts := [], laidByText := true, laidKinds := [.data], laidTests := true, laidLooks := .later }
def RuleOwnCardSaid : Prop := Claim7.holds Tryd.pinned (.plain (OpenSpec.ofChange ruleOwnSpec)) ruleOwnCard

/-- THE TIED CARD OF 'moietylaw06.PairKinds'. -/
def pairKindsCard : Claim7 := { stood := { row := pairKindsRow, standIns := [], harness := (true, "dada527a5a4349e80a08da728c2652c2e6f3960dd3532e9e71f3cc04846686d8"), looks := false }, kinds := [], alts := [], laidByText := true, laidKinds := [.data], laidTests := true, laidLooks := .later }
def PairKindsCardSaid : Prop := Claim7.holds Tryd.pinned (.plain (OpenSpec.ofChange pairKindsSpec)) pairKindsCard

/-- THE TIED CARD OF 'moietytop.WholePrefix'. -/
def wholePrefixCard : Claim7 := { stood := { row := wholePrefixRow, standIns := [], harness := (true, "dada527a5a4349e80a08da728c2652c2e6f3960dd3532e9e71f3cc04846686d8"), looks := false }, kinds := [], alts := [], laidByText := true, laidKinds := [.data], laidTests := true, laidLooks := .later }
def WholePrefixCardSaid : Prop := Claim7.holds Tryd.pinned (.plain (OpenSpec.ofChange wholePrefixSpec)) wholePrefixCard

/-- THE SECOND FORM's CARD OF 'moietylaw05.RuleKeeps'. -/
def ruleKeepsUptoCard : Claim7 := { stood := { row := ruleKeepsUptoRow, standIns := [], harness := (true, "dada527a5a4349e80a08da728c2652c2e6f3960dd3532e9e71f3cc04846686d8"), looks := false }, kinds := [], alts := [], laidByText := true, laidKinds := [.data], laidTests := true, laidLooks := .later }
def RuleKeepsUptoCardSaid : Prop := Claim7.holds Tryd.pinned (.plain (OpenSpec.upto ruleKeepsSpec)) ruleKeepsUptoCard

/-- THE SECOND FORM's CARD OF 'moietylaw05.RuleTwice'. -/
def ruleTwiceUptoCard : Claim7 := { stood := { row := ruleTwiceUptoRow, standIns := [], harness := (true, "dada527a5a4349e80a08da728c2652c2e6f3960dd3532e9e71f3cc04846686d8"), looks := false }, kinds := [], alts := [], laidByText := true, laidKinds := [.data], laidTests := true, laidLooks := .later }
def RuleTwiceUptoCardSaid : Prop := Claim7.holds Tryd.pinned (.plain (OpenSpec.upto ruleTwiceSpec)) ruleTwiceUptoCard

/-- THE SECOND FORM's CARD OF 'moietylaw05.RuleBack'. -/
def ruleBackUptoCard : Claim7 := { stood := { row := ruleBackUptoRow, standIns := [], harness := (true, "dada527a5a4349e80a08da728c2652c2e6f3960dd3532e9e71f3cc04846686d8"), looks := false }, kinds := [], alts := [], laidByText := true, laidKinds := [.data], laidTests := true, laidLooks := .later }
def RuleBackUptoCardSaid : Prop := Claim7.holds Tryd.pinned (.plain (OpenSpec.upto ruleBackSpec)) ruleBackUptoCard

/-- THE SECOND FORM's CARD OF 'moietylaw05.RuleOwn'. -/
def ruleOwnUptoCard : Claim7 := { stood := { row := ruleOwnUptoRow, standIns := [], harness := (true, "dada527a5a4349e80a08da728c2652c2e6f3960dd3532e9e71f3cc04846686d8"), looks := false }, kinds := [], alts := [], laidByText := true, laidKinds := [.data], laidTests := true, laidLooks := .later }
def RuleOwnUptoCardSaid : Prop := Claim7.holds Tryd.pinned (.plain (OpenSpec.upto ruleOwnSpec)) ruleOwnUptoCard

/-- THE SECOND FORM's CARD OF 'moietylaw06.PairKinds'. -/
def pairKindsUptoCard : Claim7 := { stood := { row := pairKindsUptoRow, standIns := [], harness := (true, "dada527a5a4349e80a08da728c2652c2e6f3960dd3532e9e71f3cc04846686d8"), looks := false }, kinds := [], alts := [], laidByText := true, laidKinds := [.data], laidTests := true, laidLooks := .later }
def PairKindsUptoCardSaid : Prop := Claim7.holds Tryd.pinned (.plain (OpenSpec.upto pairKindsSpec)) pairKindsUptoCard

/-- THE SECOND FORM's CARD OF 'moietytop.WholePrefix'. -/
def wholePrefixUptoCard : Claim7 := { stood := { row := wholePrefixUptoRow, standIns := [], harness := (true, "dada527a5a4349e80a08da728c2652c2e6f3960dd3532e9e71f3cc04846686d8"), looks := false }, kinds := [], alts := [], laidByText := true, laidKinds := [.data], laidTests := true, laidLooks := .later }
def WholePrefixUptoCardSaid : Prop := Claim7.holds Tryd.pinned (.plain (OpenSpec.upto wholePrefixSpec)) wholePrefixUptoCard
end Rows
end Go.Proofs.YtaaeefndhmfceaaDoor
