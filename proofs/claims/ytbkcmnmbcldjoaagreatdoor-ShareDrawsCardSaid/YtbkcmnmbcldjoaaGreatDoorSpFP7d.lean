/- Layer 5's statements' own head: a purse; acts one behind the other; what is more than is looked at. -/
import Derived.Test.YtbkcmnmbcldjoaaGreatDoorRuVP7d
import Derived.Test.YtbkcmnmbcldjoaaGreatDoorBig4mP7d
namespace Go.Proofs.YtbkcmnmbcldjoaaGreatDoor
open Go.RowKit MM
theorem RecIn.keep {w w' : World} {r : RC.Rc} {A : Option Addr} {c : Nat} (h : RecIn w r A c) (hb : Below w.heap.size w w') : RecIn w' r A c := ⟨h.ok, h.its.below hb, h.len, h.text, h.names⟩
theorem ActIn.keep {w w' : World} {a : AC.Ac} {A : Option Addr} {c : Nat} (h : ActIn w a A c) (hb : Below w.heap.size w w') : ActIn w' a A c := ⟨h.ok, h.make.keep hb, h.key, h.s⟩
theorem ActsIn.keep {w w' : World} {L : Option Addr} {l : List Al} (h : ActsIn w L l) (hb : Below w.heap.size w w') : ActsIn w' L l := by
  refine ⟨?_, fun x hx => (h.all x hx).keep hb, h.len⟩
  rcases h.rows with h1 | ⟨b, off, h1, h2, h3⟩
  · exact .inl h1
  · exact .inr ⟨b, off, h1, Nat.lt_of_lt_of_le h2 hb.size, fun i x hi j v hv => below_keep hb (h3 i x hi j v hv)⟩
theorem acts_one {w : World} {a : AC.Ac} {A : Option Addr} {c : Nat} (t : TypeId) (h : ActIn w a A c) : ActsIn (w.alloc (.cells (actC a A c) t)) (some ⟨w.heap.size, 0, none⟩) [⟨a, A, c⟩] := by
  refine ⟨.inr ⟨w.heap.size, 0, rfl, by simp, fun i x hi j v hv => ?_⟩, fun x hx => ?_, by unfold maxLen; simp⟩
  · have hi0 : i = 0 := by
      rcases Nat.eq_zero_or_pos i with h0 | h0
      · exact h0
      · rw [List.getElem?_eq_none (by simp; omega)] at hi; cases hi
    subst hi0
    simp at hi
    subst hi
    rw [show 0 + 0 * 14 + j = j by omega, cell_of_row _ _ j _ _ (0, 0) (heap_alloc_new w _)]
    exact hv
  · simp at hx
    subst hx
    exact h.keep (below1 w _)
end Go.Proofs.YtbkcmnmbcldjoaaGreatDoor
namespace Go.Proofs.YtbkcmnmbcldjoaaGreatDoor
open Go.RowKit MM
end Go.Proofs.YtbkcmnmbcldjoaaGreatDoor
namespace Go.Proofs.YtbkcmnmbcldjoaaGreatDoor
open Go.RowKit MM
set_option linter.unusedVariables false
end Go.Proofs.YtbkcmnmbcldjoaaGreatDoor
