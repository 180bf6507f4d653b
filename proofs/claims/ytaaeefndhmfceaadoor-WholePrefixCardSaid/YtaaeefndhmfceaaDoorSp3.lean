/- Layer 3's statements' own head: a few records there and back. -/
import Derived.Test.YtaaeefndhmfceaaDoorRec10
namespace Go.Proofs.YtaaeefndhmfceaaDoor
open Go.RowKit MM

theorem dsm (n : Nat) (h : n < 128) : PK.digits n = [n.toUInt8] := PK.digits_small h

def sp3 : RC.Rc := ⟨8, 0, 0, 0, 0, 2, ⟨#[]⟩, [⟨0, ⟨#[97]⟩⟩]⟩
def sp3b : RC.Rc := ⟨3, 3, 0, 0, 0, 0, ⟨#[]⟩, []⟩
theorem sp3_ok : sp3.ok := ⟨rfl, rfl, rfl, rfl, w0, rfl, fun x h => by
  have : x = ⟨0, ⟨#[97]⟩⟩ := by simpa [sp3] using h
  subst this; exact w0⟩
theorem sp3b_ok : sp3b.ok := ⟨rfl, rfl, rfl, rfl, w0, rfl, fun x h => by cases h⟩
theorem sp3_chk : RC.chk sp3 = 0 := by decide +kernel
theorem sp3_bytes : bytesOf sp3 = [8, 2, 1, 1, 97] := by
  unfold bytesOf
  rw [if_pos sp3_chk]
  show PK.digits 8 ++ (PK.digits 2 ++ (PK.digits 1 ++ ((([] : List UInt8) ++ (PK.digits 1 ++ [97])) ++ []))) = _
  rw [dsm 8 (by omega), dsm 2 (by omega), dsm 1 (by omega)]
  rfl
theorem sp3b_bytes : bytesOf sp3b = [3, 6] := by
  unfold bytesOf
  rw [if_pos (by decide +kernel)]
  show PK.digits 3 ++ PK.digits 6 = _
  rw [dsm 3 (by omega), dsm 6 (by omega)]
  rfl
theorem sp3_read : wholeR recR [8, 2, 1, 1, 97] = .ok sp3 5 := by
  have h := recR_recB sp3 [] sp3_ok sp3_chk
  have e : RC.recB sp3 = [8, 2, 1, 1, 97] := by have := sp3_bytes; unfold bytesOf at this; rw [if_pos sp3_chk] at this; exact this
  rw [List.append_nil, e] at h
  exact wholeR_ok h rfl

end Go.Proofs.YtaaeefndhmfceaaDoor
