/- Contracts of package act: are two acts the same? an act is written. -/
import Derived.Test.YtbkcmnmbcldjoaaGreatDoorActMP7d
import Derived.Test.YtbkcmnmbcldjoaaGreatDoorRecNP7d
namespace Go.Proofs.YtbkcmnmbcldjoaaGreatDoor
open Go.RowKit MM
def SAPost (a b : AC.Ac) (w : World) (e : Ending) (w' : World) : Prop := e = .returned (.bool (AC.same a b)) ∧ Below w.heap.size w w'
theorem SAPost.mk {a b : AC.Ac} {w w' : World} {t : Bool} (h : AC.same a b = t) (hb : Below w.heap.size w w') : SAPost a b w (.returned (.bool t)) w' := by subst h; exact ⟨rfl, hb⟩
/-- How things stand while an act is written: its box, the writer, and what is read meanwhile. -/
structure WAt (w : World) (a : AC.Ac) (L : Option Addr) (cl : Nat) (p : Nat) (A0 A : Option Addr) (c : Nat) (xs : List UInt8) (u : World) : Prop where
  box : u.heap[w.heap.size]? = some (.cells (actC a L cl) 37 (0, 0))
  wr : Wr 5 u p A c xs
  ws : WS p A0 A w u
  its : Its u L a.make.list
  bes : Beside a.make.list L p A
  rows : RowsAt u
  farp : p ≠ 1
  fara : ob A ≠ some 1
  boxa : ob A ≠ some w.heap.size
section
variable {w : World} {a : AC.Ac} {L : Option Addr} {cl p : Nat} {A0 A A' : Option Addr} {c c' : Nat} {xs ys : List UInt8} {u u' : World}
theorem rows_lt (h : RowsAt u) : 1 < u.heap.size := World.block_lt_of_cell? u _ (h 0 noRow rfl 0 _ rfl)
theorem RowsAt.kp {S : Nat → Prop} (h : RowsAt u) (hk : Kp S u u') (hn : ¬ S 1) : RowsAt u' := fun i r hr j v hv => hk.cell (h i r hr j v hv) hn
theorem WAt.write (h : WAt w a L cl p A0 A c xs u) (hp : p < w.heap.size) (hw : Wr 5 u' p A' c' ys) (hs : WS p A A' u u') : WAt w a L cl p A0 A' c' ys u' := by
  have hz := lt_of_heap h.box
  have hr := rows_lt h.rows
  have hS : ∀ k, ¬ (k = p ∨ ob A = some k) → k < u.heap.size → ob A' ≠ some k := fun k hk hl e => by
    rcases hs.at_ with x | ⟨j, x, hj⟩
    · exact hk (.inr (x ▸ e))
    · rw [x] at e; injection e with e; omega
  have n1 : ¬ (w.heap.size = p ∨ ob A = some w.heap.size) := fun x => by
    rcases x with x | x
    · omega
    · exact h.boxa x
  have n2 : ¬ (1 = p ∨ ob A = some 1) := fun x => by
    rcases x with x | x
    · exact h.farp x.symm
    · exact h.fara x
  exact ⟨(hs.kp.block _ hz n1).trans h.box, hw, h.ws.trans hs, h.its.ws hs h.bes, h.bes.ws h.its hs, h.rows.kp hs.kp n2, h.farp, hS _ n2 hr, hS _ n1 hz⟩
end
end Go.Proofs.YtbkcmnmbcldjoaaGreatDoor
