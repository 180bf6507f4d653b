/- Contracts of the document's own answers for layer 4: kinds; are two acts the same? -/
import Derived.Test.YtbkcmnmbcldjoaaGreatDoorAct4mP7c
import Derived.Test.YtbkcmnmbcldjoaaGreatDoorRefMP7c
namespace Go.Proofs.YtbkcmnmbcldjoaaGreatDoor
open Go.RowKit MM
def HPost (s : ByteArray) (c : UInt8) (w : World) (e : Ending) (w' : World) : Prop := e = .returned (.bool (decide (c ∈ s.data.toList))) ∧ Below w.heap.size w w'
theorem HPost.yes {s : ByteArray} {c : UInt8} {w w' : World} (j : Nat) (h : j < s.size) (e : s[j] = c) (hb : Below w.heap.size w w') : HPost s c w (.returned (.bool true)) w' := by
  refine ⟨?_, hb⟩
  have hm : s[j] ∈ s.data.toList := by
    have : s.data.toList[j]'(by simpa using h) = s[j] := rfl
    rw [← this]; exact List.getElem_mem _
  rw [e] at hm
  rw [decide_eq_true hm]
theorem HPost.no {s : ByteArray} {c : UInt8} {w w' : World} (h : c ∉ s.data.toList) (hb : Below w.heap.size w w') : HPost s c w (.returned (.bool false)) w' := by
  refine ⟨?_, hb⟩
  rw [decide_eq_false h]
end Go.Proofs.YtbkcmnmbcldjoaaGreatDoor
