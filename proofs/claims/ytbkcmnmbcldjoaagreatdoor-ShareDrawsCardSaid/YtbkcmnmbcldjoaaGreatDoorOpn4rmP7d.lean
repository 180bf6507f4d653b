/- Arguments opened: rows of acts. -/
import Derived.Test.YtbkcmnmbcldjoaaGreatDoorOpnMP7d
namespace Go.Proofs.YtbkcmnmbcldjoaaGreatDoor
open Go.ChangeShapes Go.WideShapes Go.ChangeAt Go.RowKit Go.Deep MM
/-- An act, and where its list lies. -/
structure Al where
  r : AC.Ac
  A : Option Addr
  c : Nat
def Al.cells (x : Al) : Array Value := actC x.r x.A x.c
/-- A slice that reads as acts. -/
structure ActsIn (w : World) (A : Option Addr) (l : List Al) : Prop where
  rows : l = [] ∨ ∃ b off, A = some ⟨b, off, none⟩ ∧ b < w.heap.size ∧ ∀ i x, l[i]? = some x → ∀ j v, x.cells[j]? = some v → w.cell? ⟨b, off + i * 14 + j, none⟩ = some v
  all : ∀ x ∈ l, ActIn w x.r x.A x.c
  len : l.length ≤ maxLen
end Go.Proofs.YtbkcmnmbcldjoaaGreatDoor
