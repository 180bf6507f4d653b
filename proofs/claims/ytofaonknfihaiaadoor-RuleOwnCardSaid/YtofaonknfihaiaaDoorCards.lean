/-
  DERIVED. GIVEN WITH THE SEED: THE CARDS: each row of YtofaonknfihaiaaDoorRows.lean that lists a variable, with what it lists TIED to the program's text (the seventh form; the later family's looks); each row that meets fmt, with fmt's text TOLD by the authors' own Lean function (tested against real Go, not proved from fmt's source: count such statements apart). THE CARD IS WHAT COUNTS. Prove the row's statement (the work); the ties are given (YtofaonknfihaiaaDoorTie.lean); close each card by the builder's one call (the guide's Derived/Test/ToyasCard.lean, 'card_holds'). Laid BY PROGRAM, IN A SANDBOX (cutbox-door.mjs). By AI agents, Wed Nov 11 2026. No macro, syntax, notation, axiom, sorry.
-/
import Derived.Test.YtofaonknfihaiaaDoorRows
import GoSem.ClaimSeven
namespace Go.Proofs.YtofaonknfihaiaaDoor
namespace Rows

/-- THE TIED CARD OF 'moietylaw05.RuleKeeps'. -/
def ruleKeepsCard : Claim7 := { stood := { row := ruleKeepsRow, standIns := [], harness := (true, "23d4d746d7f45bc296aaaf7fdf097dbd048bbb5d0724d3f4e857b92e90f93aac"), looks := false }, kinds := [], alts := [], laidByText := true, laidKinds := [.data], laidTests := true, laidLooks := .later }
def RuleKeepsCardSaid : Prop := Claim7.holds Tryd.pinned (.plain (OpenSpec.ofChange ruleKeepsSpec)) ruleKeepsCard

/-- THE TIED CARD OF 'moietylaw05.RuleTwice'. -/
def ruleTwiceCard : Claim7 := { stood := { row := ruleTwiceRow, standIns := [], harness := (true, "23d4d746d7f45bc296aaaf7fdf097dbd048bbb5d0724d3f4e857b92e90f93aac"), looks := false }, kinds := [], alts := [], laidByText := true, laidKinds := [.data], laidTests := true, laidLooks := .later }
def RuleTwiceCardSaid : Prop := Claim7.holds Tryd.pinned (.plain (OpenSpec.ofChange ruleTwiceSpec)) ruleTwiceCard

/-- THE TIED CARD OF 'moietylaw05.RuleBack'. -/
def ruleBackCard : Claim7 := { stood := { row := ruleBackRow, standIns := [], harness := (true, "23d4d746d7f45bc296aaaf7fdf097dbd048bbb5d0724d3f4e857b92e90f93aac"), looks := false }, kinds := [], alts := [], laidByText := true, laidKinds := [.data], laidTests := true, laidLooks := .later }
def RuleBackCardSaid : Prop := Claim7.holds Tryd.pinned (.plain (OpenSpec.ofChange ruleBackSpec)) ruleBackCard

/-- THE TIED CARD OF 'moietylaw05.RuleOwn'. -/
def ruleOwnCard : Claim7 := { stood := { row := ruleOwnRow, standIns := [], harness := (true, "23d4d746d7f45bc296aaaf7fdf097dbd048bbb5d0724d3f4e857b92e90f93aac"), looks := false }, kinds := [], alts := [], laidByText := true, laidKinds := [.data], laidTests := true, laidLooks := .later }
def RuleOwnCardSaid : Prop := Claim7.holds Tryd.pinned (.plain (OpenSpec.ofChange ruleOwnSpec)) ruleOwnCard

/-- THE SECOND FORM's CARD OF 'moietylaw05.RuleKeeps'. -/
def ruleKeepsUptoCard : Claim7 := { stood := { row := ruleKeepsUptoRow, standIns := [], harness := (true, "23d4d746d7f45bc296aaaf7fdf097dbd048bbb5d0724d3f4e857b92e90f93aac"), looks := false }, kinds := [], alts := [], laidByText := true, laidKinds := [.data], laidTests := true, laidLooks := .later }
def RuleKeepsUptoCardSaid : Prop := Claim7.holds Tryd.pinned (.plain (OpenSpec.upto ruleKeepsSpec)) ruleKeepsUptoCard

/-- THE SECOND FORM's CARD OF 'moietylaw05.RuleTwice'. -/
def ruleTwiceUptoCard : Claim7 := { stood := { row := ruleTwiceUptoRow, standIns := [], harness := (true, "23d4d746d7f45bc296aaaf7fdf097dbd048bbb5d0724d3f4e857b92e90f93aac"), looks := false }, kinds := [], alts := [], laidByText := true, laidKinds := [.data], laidTests := true, laidLooks := .later }
def RuleTwiceUptoCardSaid : Prop := Claim7.holds Tryd.pinned (.plain (OpenSpec.upto ruleTwiceSpec)) ruleTwiceUptoCard

/-- THE SECOND FORM's CARD OF 'moietylaw05.RuleBack'. -/
def ruleBackUptoCard : Claim7 := { stood := { row := ruleBackUptoRow, standIns := [], harness := (true, "23d4d746d7f45bc296aaaf7fdf097dbd048bbb5d0724d3f4e857b92e90f93aac"), looks := false }, kinds := [], alts := [], laidByText := true, laidKinds := [.data], laidTests := true, laidLooks := .later }
def RuleBackUptoCardSaid : Prop := Claim7.holds Tryd.pinned (.plain (OpenSpec.upto ruleBackSpec)) ruleBackUptoCard

/-- THE SECOND FORM's CARD OF 'moietylaw05.RuleOwn'. -/
def ruleOwnUptoCard : Claim7 := { stood := { row := ruleOwnUptoRow, standIns := [], harness := (true, "23d4d746d7f45bc296aaaf7fdf097dbd048bbb5d0724d3f4e857b92e90f93aac"), looks := false }, kinds := [], alts := [], laidByText := true, laidKinds := [.data], laidTests := true, laidLooks := .later }
def RuleOwnUptoCardSaid : Prop := Claim7.holds Tryd.pinned (.plain (OpenSpec.upto ruleOwnSpec)) ruleOwnUptoCard
end Rows
end Go.Proofs.YtofaonknfihaiaaDoor
