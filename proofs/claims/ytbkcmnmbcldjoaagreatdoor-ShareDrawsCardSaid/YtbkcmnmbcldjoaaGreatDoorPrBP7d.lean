/- Contracts of package pair: which kinds change places. -/
import Derived.Test.YtbkcmnmbcldjoaaGreatDoorRuWP7d
import Derived.Test.YtbkcmnmbcldjoaaGreatDoorActMP7d
import Derived.Test.YtbkcmnmbcldjoaaGreatDoorRuQP7d
import Derived.Test.YtbkcmnmbcldjoaaGreatDoorOpn4rmP7d
import Derived.Deep.MidRow
import Derived.Deep.WholeRow
import Derived.Laws.Rows
namespace Go.Proofs.YtbkcmnmbcldjoaaGreatDoor
open Go.RowKit MM
set_option linter.unusedVariables false
set_option linter.unusedSimpArgs false
def RU.gath (k : Int) : Bool := k == 7 || k == 13 || k == 14 || k == 19 || k == 21
end Go.Proofs.YtbkcmnmbcldjoaaGreatDoor
namespace Go.Proofs.YtbkcmnmbcldjoaaGreatDoor
open Go.RowKit MM
set_option linter.unusedVariables false
set_option linter.unusedSimpArgs false
theorem act_inf9 : (Tryz.prog.info? 37).map (fun i => i.size) = some 14 := by kernel_rfl
theorem range_keep9 {w w' : World} {b o : Nat} {cs : List Value} (hb : Below w.heap.size w w') (h : w.rangeAt b o cs) : w'.rangeAt b o cs := fun j v hv => below_keep hb (h j v hv)
theorem acts_range9 {w : World} {L : Option Addr} {P : List Al} (h : ActsIn w L P) {i : Nat} (hi : i < P.length) : ∃ b off, L = some ⟨b, off, none⟩ ∧ w.rangeAt b (off + i * 14) (actC P[i].r P[i].A P[i].c).toList := by
  rcases h.rows with h0 | ⟨b, off, rfl, hb, hr⟩
  · subst h0
    simp at hi
  · exact ⟨b, off, rfl, fun j v hv => hr i P[i] (List.getElem?_eq_getElem hi) j v (by show (actC P[i].r P[i].A P[i].c)[j]? = some v; rw [← Array.getElem?_toList]; exact hv)⟩
end Go.Proofs.YtbkcmnmbcldjoaaGreatDoor
