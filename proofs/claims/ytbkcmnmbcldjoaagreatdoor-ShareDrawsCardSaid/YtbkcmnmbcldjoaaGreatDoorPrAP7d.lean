/- Contracts of package pair: acts and records among which a case is sought. -/
import Derived.Test.YtbkcmnmbcldjoaaGreatDoorRuWP7d
import Derived.Test.YtbkcmnmbcldjoaaGreatDoorSpFP7d
import Derived.Test.YtbkcmnmbcldjoaaGreatDoorActMP7d
namespace Go.Proofs.YtbkcmnmbcldjoaaGreatDoor
open Go.RowKit MM
set_option linter.unusedVariables false
set_option linter.unusedSimpArgs false
def RU.sA : ByteArray := ⟨#[97]⟩
def RU.sB : ByteArray := ⟨#[98]⟩
end Go.Proofs.YtbkcmnmbcldjoaaGreatDoor
namespace Go.Proofs.YtbkcmnmbcldjoaaGreatDoor
open Go.RowKit MM
set_option linter.unusedVariables false
set_option linter.unusedSimpArgs false
/-- A record in a row, and where its list lies. -/
structure Rw where
  r : RC.Rc
  A : Option Addr
  c : Nat
def Rw.cells (x : Rw) : Array Value := recC x.r.kind x.r.num x.r.low x.r.high x.r.real x.r.cap x.r.text (.slice x.A x.r.list.length x.c)
end Go.Proofs.YtbkcmnmbcldjoaaGreatDoor
namespace Go.Proofs.YtbkcmnmbcldjoaaGreatDoor
open Go.RowKit MM
set_option linter.unusedVariables false
set_option linter.unusedSimpArgs false
end Go.Proofs.YtbkcmnmbcldjoaaGreatDoor
