/- Layer 3's statements' own head: a few records there and back. -/
import Derived.Test.YtafjginegipakaaDoorRec10
namespace Go.Proofs.YtafjginegipakaaDoor
open Go.RowKit MM

def sp3 : RC.Rc := ⟨8, 0, 0, 0, 0, 2, ⟨#[]⟩, [⟨0, ⟨#[97]⟩⟩]⟩
def sp3b : RC.Rc := ⟨3, 3, 0, 0, 0, 0, ⟨#[]⟩, []⟩
theorem sp3_ok : sp3.ok := ⟨rfl, rfl, rfl, rfl, w0, rfl, fun x h => by
  have : x = ⟨0, ⟨#[97]⟩⟩ := by simpa [sp3] using h
  subst this; exact w0⟩
theorem sp3b_ok : sp3b.ok := ⟨rfl, rfl, rfl, rfl, w0, rfl, fun x h => by cases h⟩
theorem dsm (n : Nat) (h : n < 128) : PK.digits n = [n.toUInt8] := PK.digits_small h
theorem sp3_chk : RC.chk sp3 = 0 := by decide +kernel
theorem sp3_bytes : bytesOf sp3 = [8, 2, 1, 1, 97] := by
  unfold bytesOf
  rw [if_pos sp3_chk]
  show PK.digits 8 ++ (PK.digits 2 ++ (PK.digits 1 ++ ((([] : List UInt8) ++ (PK.digits 1 ++ [97])) ++ []))) = _
  rw [dsm 8 (by omega), dsm 2 (by omega), dsm 1 (by omega)]
  rfl
theorem sp3b_bytes : bytesOf sp3b = [3, 6] := by
  unfold bytesOf
  rw [if_pos (by decide +kernel)]
  show PK.digits 3 ++ PK.digits 6 = _
  rw [dsm 3 (by omega), dsm 6 (by omega)]
  rfl
theorem sp3_read : wholeR recR [8, 2, 1, 1, 97] = .ok sp3 5 := by
  have h := recR_recB sp3 [] sp3_ok sp3_chk
  have e : RC.recB sp3 = [8, 2, 1, 1, 97] := by have := sp3_bytes; unfold bytesOf at this; rw [if_pos sp3_chk] at this; exact this
  rw [List.append_nil, e] at h
  exact wholeR_ok h rfl

theorem its_new (w : World) (t : TypeId) (xs : List RC.It) (hl : xs.length ≤ maxLen) : Its (w.alloc (.cells (itCells xs).toArray t)) (some ⟨w.heap.size, 0, none⟩) xs :=
  Its.own (c := xs.length) (World.ownsRow_lit (base := 0) (e := t) (size := 2) w (itCells xs).toArray xs.length (Nat.zero_le _) hl (by simp [itCells_length]))
theorem sp3_same : RC.same sp3 sp3 = true := RC.same_refl' sp3
theorem zero_chk : RC.chk RC.zero = 5 := rfl
theorem top_name : recNameOf 9 = ⟨#[116, 111, 112]⟩ := rfl

set_option maxHeartbeats 4000000 in
set_option maxRecDepth 100000 in
theorem speaks3_any (w : World) (hN : NamesAt w) :
    Calls Tryd.prog 12 #[] w fun e w' => e = .returned (.bool true) ∧ Below w.heap.size w w' := by
  have HN := Lib.hid hN
  clear hN
  go_enter Tryd.func12, Tryd.ntmps12
  go_wp2_with fail
  refine (recBytes_any sp3 (some ⟨w.heap.size, 0, none⟩) 1 _ sp3_ok ((its_new w _ sp3.list (by decide)).alloc _) (by unfold Lim; decide)).mono ?_
  rw [sp3_bytes]
  rintro e w1 ⟨A1, c1, rfl, ho1, hn1, hb1⟩
  have HI1 := Lib.hid (((its_new w _ sp3.list (by decide)).alloc _).below hb1)
  have e1 := (hb1.block (w.heap.size + 1) (by simp only [World.size_alloc]; omega)).trans (heap_alloc2_new w _ _)
  have HB1 := Lib.hid (show Below w.heap.size w w1 from (below2 w _ _).trans (hb1.mono (by simp only [World.size_alloc]; omega)))
  have hz1 := hb1.size
  simp only [World.size_alloc] at hz1
  have E1 := Lib.hid e1
  clear hb1 e1
  go_wp2_with fail
  refine (recRead_any A1 c1 [8, 2, 1, 1, 97] _ (Bts.own ho1) (by unfold Lim; decide)).mono ?_
  rw [sp3_read]
  rintro e w2 ⟨A2, c2, rfl, ho2, hn2, hb2⟩
  have e2 := (hb2.block _ (lt_of_heap E1.out)).trans E1.out
  have hcv := fun o o' => run_text (P := Tryd.prog) ((w2.alloc o).alloc o') 22 9 5 A1 c1 [8, 2, 1, 1, 97] Tryd.underlying22 Tryd.underlying5 Tryd.underlying9 ((((Bts.own ho1).below hb2).alloc o).alloc o')
  rw [show ([8, 2, 1, 1, 97] : List UInt8).length = 5 from rfl] at hcv
  have hz2 := hb2.size
  have k2 := fun p q o => cell_of_row ((w2.alloc p).alloc q) _ o _ _ (0, 0) ((heap_alloc_old (w2.alloc p) q (by simp; omega)).trans ((heap_alloc_old w2 p (by omega)).trans e2))
  have HB2 := Lib.hid (show Below w.heap.size w w2 from HB1.out.trans (hb2.mono HB1.out.size))
  have HI2 := Lib.hid (HI1.out.below hb2)
  have HO2 := Lib.hid ho2
  clear e2 hb2 ho1 hn1 hn2 ho2
  have hne : ¬ w.heap.size + 1 = w2.heap.size := by omega
  have hne1 : ¬ w.heap.size = w2.heap.size := by omega
  go_wp2_with fail
  refine (recSame_any sp3 sp3 A2 (some ⟨w.heap.size, 0, none⟩) c2 1 _ sp3_ok sp3_ok (((Its.own HO2.out).alloc _).alloc _) ((HI2.out.alloc _).alloc _) (by unfold Lim; decide)).mono ?_
  rintro e w3 ⟨rfl, hb3⟩
  rw [sp3_same]
  have HB3 := Lib.hid (show Below w.heap.size w w3 from HB2.out.trans ((below2 w2 _ _).mono HB2.out.size |>.trans (hb3.mono (by have := HB2.out.size; simp; omega))))
  clear hb3 hcv k2
  go_wp2_with fail
  refine (recCheck_any RC.zero none 0 _ RC.zero_ok (Its.nil _ _) (by unfold Lim; decide)).mono ?_
  rintro e w4 ⟨rfl, hb4⟩
  rw [zero_chk]
  have HB4 := Lib.hid (show Below w.heap.size w w4 from HB3.out.trans (hb4.mono HB3.out.size))
  clear hb4
  go_wp2_with fail
  refine (recBytes_any sp3b none 0 _ sp3b_ok (Its.nil _ _) (by unfold Lim; decide)).mono ?_
  rw [sp3b_bytes]
  rintro e w5 ⟨A5, c5, rfl, ho5, hn5, hb5⟩
  have hcv := run_text (P := Tryd.prog) w5 22 9 5 A5 c5 [3, 6] Tryd.underlying22 Tryd.underlying5 Tryd.underlying9 (Bts.own ho5)
  rw [show ([3, 6] : List UInt8).length = 2 from rfl] at hcv
  have HB5 := Lib.hid (show Below w.heap.size w w5 from HB4.out.trans (hb5.mono HB4.out.size))
  clear hb5
  go_wp2_with fail
  refine (recName_any 9 _ (HN.out.below HB5.out)).mono ?_
  rw [top_name]
  rintro e w6 ⟨rfl, rfl⟩
  go_wp2_with fail
  go_ret
  exact ⟨rfl, HB5.out⟩

end Go.Proofs.YtafjginegipakaaDoor
