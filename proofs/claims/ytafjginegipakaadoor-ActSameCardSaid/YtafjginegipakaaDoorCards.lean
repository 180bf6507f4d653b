/-
  DERIVED. GIVEN WITH THE SEED: THE CARDS: each row of YtafjginegipakaaDoorRows.lean that lists a variable, with what it lists TIED to the program's text (the seventh form; the later family's looks); each row that meets fmt, with fmt's text TOLD by the authors' own Lean function (tested against real Go, not proved from fmt's source: count such statements apart). THE CARD IS WHAT COUNTS. Prove the row's statement (the work); the ties are given (YtafjginegipakaaDoorTie.lean); close each card by the builder's one call (the guide's Derived/Test/ToyasCard.lean, 'card_holds'). Laid BY PROGRAM, IN A SANDBOX (cutbox-door.mjs). By AI agents, Wed Nov 11 2026. No macro, syntax, notation, axiom, sorry.
-/
import Derived.Test.YtafjginegipakaaDoorRows
import GoSem.ClaimSeven
namespace Go.Proofs.YtafjginegipakaaDoor
namespace Rows

/-- THE TIED CARD OF 'moietylaw03.RecReads'. -/
def recReadsCard : Claim7 := { stood := { row := recReadsRow, standIns := [], harness := (true, "4bb17a248df7637ca07969089f278e59af3fb2fb4e91e4a4e1262c284349cdff"), looks := true }, kinds := [], alts := [], laidByText := true, laidKinds := [.data], laidTests := true, laidLooks := .later }
def RecReadsCardSaid : Prop := Claim7.holds Tryd.pinned (.plain (OpenSpec.ofChange recReadsSpec)) recReadsCard

/-- THE TIED CARD OF 'moietylaw04.ActKinds'. -/
def actKindsCard : Claim7 := { stood := { row := actKindsRow, standIns := [], harness := (true, "4bb17a248df7637ca07969089f278e59af3fb2fb4e91e4a4e1262c284349cdff"), looks := true }, kinds := [], alts := [], laidByText := true, laidKinds := [.data], laidTests := true, laidLooks := .later }
def ActKindsCardSaid : Prop := Claim7.holds Tryd.pinned (.plain (OpenSpec.ofChange actKindsSpec)) actKindsCard

/-- THE TIED CARD OF 'moietylaw04.ActChecks'. -/
def actChecksCard : Claim7 := { stood := { row := actChecksRow, standIns := [], harness := (true, "4bb17a248df7637ca07969089f278e59af3fb2fb4e91e4a4e1262c284349cdff"), looks := true }, kinds := [], alts := [], laidByText := true, laidKinds := [.data], laidTests := true, laidLooks := .later }
def ActChecksCardSaid : Prop := Claim7.holds Tryd.pinned (.plain (OpenSpec.ofChange actChecksSpec)) actChecksCard

/-- THE TIED CARD OF 'moietylaw04.ActSame'. -/
def actSameCard : Claim7 := { stood := { row := actSameRow, standIns := [], harness := (true, "4bb17a248df7637ca07969089f278e59af3fb2fb4e91e4a4e1262c284349cdff"), looks := true }, kinds := [], alts := [], laidByText := true, laidKinds := [.data], laidTests := true, laidLooks := .later }
def ActSameCardSaid : Prop := Claim7.holds Tryd.pinned (.plain (OpenSpec.ofChange actSameSpec)) actSameCard

/-- THE TIED CARD OF 'moietylaw04.ActTakes'. -/
def actTakesCard : Claim7 := { stood := { row := actTakesRow, standIns := [], harness := (true, "4bb17a248df7637ca07969089f278e59af3fb2fb4e91e4a4e1262c284349cdff"), looks := true }, kinds := [], alts := [], laidByText := true, laidKinds := [.data], laidTests := true, laidLooks := .later }
def ActTakesCardSaid : Prop := Claim7.holds Tryd.pinned (.plain (OpenSpec.ofChange actTakesSpec)) actTakesCard

/-- THE TIED CARD OF 'moietylaw05.RuleKeeps'. -/
def ruleKeepsCard : Claim7 := { stood := { row := ruleKeepsRow, standIns := [], harness := (true, "4bb17a248df7637ca07969089f278e59af3fb2fb4e91e4a4e1262c284349cdff"), looks := true }, kinds := [], alts := [], laidByText := true, laidKinds := [.data], laidTests := true, laidLooks := .later }
def RuleKeepsCardSaid : Prop := Claim7.holds Tryd.pinned (.plain (OpenSpec.ofChange ruleKeepsSpec)) ruleKeepsCard

/-- THE TIED CARD OF 'moietylaw05.RuleTwice'. -/
def ruleTwiceCard : Claim7 := { stood := { row := ruleTwiceRow, standIns := [], harness := (true, "4bb17a248df7637ca07969089f278e59af3fb2fb4e91e4a4e1262c284349cdff"), looks := true }, kinds := [], alts := [], laidByText := true, laidKinds := [.data], laidTests := true, laidLooks := .later }
def RuleTwiceCardSaid : Prop := Claim7.holds Tryd.pinned (.plain (OpenSpec.ofChange ruleTwiceSpec)) ruleTwiceCard

/-- THE TIED CARD OF 'moietylaw05.RuleOwn'. -/
def ruleOwnCard : Claim7 := { stood := { row := ruleOwnRow, standIns := [], harness := (true, "4bb17a248df7637ca07969089f278e59af3fb2fb4e91e4a4e1262c284349cdff"), looks := true }, kinds := [], alts := [], laidByText := true, laidKinds := [.data], laidTests := true, laidLooks := .later }
def RuleOwnCardSaid : Prop := Claim7.holds Tryd.pinned (.plain (OpenSpec.ofChange ruleOwnSpec)) ruleOwnCard

/-- THE TIED CARD OF 'moietylaw06.PairKinds'. -/
def pairKindsCard : Claim7 := { stood := { row := pairKindsRow, standIns := [], harness := (true, "4bb17a248df7637ca07969089f278e59af3fb2fb4e91e4a4e1262c284349cdff"), looks := true }, kinds := [], alts := [], laidByText := true, laidKinds := [.data], laidTests := true, laidLooks := .later }
def PairKindsCardSaid : Prop := Claim7.holds Tryd.pinned (.plain (OpenSpec.ofChange pairKindsSpec)) pairKindsCard

/-- THE SECOND FORM's CARD OF 'moietylaw03.RecReads'. -/
def recReadsUptoCard : Claim7 := { stood := { row := recReadsUptoRow, standIns := [], harness := (true, "4bb17a248df7637ca07969089f278e59af3fb2fb4e91e4a4e1262c284349cdff"), looks := true }, kinds := [], alts := [], laidByText := true, laidKinds := [.data], laidTests := true, laidLooks := .later }
def RecReadsUptoCardSaid : Prop := Claim7.holds Tryd.pinned (.plain (OpenSpec.upto recReadsSpec)) recReadsUptoCard

/-- THE SECOND FORM's CARD OF 'moietylaw04.ActKinds'. -/
def actKindsUptoCard : Claim7 := { stood := { row := actKindsUptoRow, standIns := [], harness := (true, "4bb17a248df7637ca07969089f278e59af3fb2fb4e91e4a4e1262c284349cdff"), looks := true }, kinds := [], alts := [], laidByText := true, laidKinds := [.data], laidTests := true, laidLooks := .later }
def ActKindsUptoCardSaid : Prop := Claim7.holds Tryd.pinned (.plain (OpenSpec.upto actKindsSpec)) actKindsUptoCard

/-- THE SECOND FORM's CARD OF 'moietylaw04.ActChecks'. -/
def actChecksUptoCard : Claim7 := { stood := { row := actChecksUptoRow, standIns := [], harness := (true, "4bb17a248df7637ca07969089f278e59af3fb2fb4e91e4a4e1262c284349cdff"), looks := true }, kinds := [], alts := [], laidByText := true, laidKinds := [.data], laidTests := true, laidLooks := .later }
def ActChecksUptoCardSaid : Prop := Claim7.holds Tryd.pinned (.plain (OpenSpec.upto actChecksSpec)) actChecksUptoCard

/-- THE SECOND FORM's CARD OF 'moietylaw04.ActSame'. -/
def actSameUptoCard : Claim7 := { stood := { row := actSameUptoRow, standIns := [], harness := (true, "4bb17a248df7637ca07969089f278e59af3fb2fb4e91e4a4e1262c284349cdff"), looks := true }, kinds := [], alts := [], laidByText := true, laidKinds := [.data], laidTests := true, laidLooks := .later }
def ActSameUptoCardSaid : Prop := Claim7.holds Tryd.pinned (.plain (OpenSpec.upto actSameSpec)) actSameUptoCard

/-- THE SECOND FORM's CARD OF 'moietylaw04.ActTakes'. -/
def actTakesUptoCard : Claim7 := { stood := { row := actTakesUptoRow, standIns := [], harness := (true, "4bb17a248df7637ca07969089f278e59af3fb2fb4e91e4a4e1262c284349cdff"), looks := true }, kinds := [], alts := [], laidByText := true, laidKinds := [.data], laidTests := true, laidLooks := .later }
def ActTakesUptoCardSaid : Prop := Claim7.holds Tryd.pinned (.plain (OpenSpec.upto actTakesSpec)) actTakesUptoCard

/-- THE SECOND FORM's CARD OF 'moietylaw05.RuleKeeps'. -/
def ruleKeepsUptoCard : Claim7 := { stood := { row := ruleKeepsUptoRow, standIns := [], harness := (true, "4bb17a248df7637ca07969089f278e59af3fb2fb4e91e4a4e1262c284349cdff"), looks := true }, kinds := [], alts := [], laidByText := true, laidKinds := [.data], laidTests := true, laidLooks := .later }
def RuleKeepsUptoCardSaid : Prop := Claim7.holds Tryd.pinned (.plain (OpenSpec.upto ruleKeepsSpec)) ruleKeepsUptoCard

/-- THE SECOND FORM's CARD OF 'moietylaw05.RuleTwice'. -/
def ruleTwiceUptoCard : Claim7 := { stood := { row := ruleTwiceUptoRow, standIns := [], harness := (true, "4bb17a248df7637ca07969089f278e59af3fb2fb4e91e4a4e1262c284349cdff"), looks := true }, kinds := [], alts := [], laidByText := true, laidKinds := [.data], laidTests := true, laidLooks := .later }
def RuleTwiceUptoCardSaid : Prop := Claim7.holds Tryd.pinned (.plain (OpenSpec.upto ruleTwiceSpec)) ruleTwiceUptoCard

/-- THE SECOND FORM's CARD OF 'moietylaw05.RuleOwn'. -/
def ruleOwnUptoCard : Claim7 := { stood := { row := ruleOwnUptoRow, standIns := [], harness := (true, "4bb17a248df7637ca07969089f278e59af3fb2fb4e91e4a4e1262c284349cdff"), looks := true }, kinds := [], alts := [], laidByText := true, laidKinds := [.data], laidTests := true, laidLooks := .later }
def RuleOwnUptoCardSaid : Prop := Claim7.holds Tryd.pinned (.plain (OpenSpec.upto ruleOwnSpec)) ruleOwnUptoCard

/-- THE SECOND FORM's CARD OF 'moietylaw06.PairKinds'. -/
def pairKindsUptoCard : Claim7 := { stood := { row := pairKindsUptoRow, standIns := [], harness := (true, "4bb17a248df7637ca07969089f278e59af3fb2fb4e91e4a4e1262c284349cdff"), looks := true }, kinds := [], alts := [], laidByText := true, laidKinds := [.data], laidTests := true, laidLooks := .later }
def PairKindsUptoCardSaid : Prop := Claim7.holds Tryd.pinned (.plain (OpenSpec.upto pairKindsSpec)) pairKindsUptoCard
end Rows
end Go.Proofs.YtafjginegipakaaDoor
