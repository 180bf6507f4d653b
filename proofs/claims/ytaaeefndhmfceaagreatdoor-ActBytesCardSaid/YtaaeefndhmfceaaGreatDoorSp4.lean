/- Layer 4's statements' own head: an act there and back; acts of more bytes than are looked at. -/
import Derived.Test.YtaaeefndhmfceaaGreatDoorAct8
import Derived.Test.YtaaeefndhmfceaaGreatDoorSp3
import Derived.Test.YtaaeefndhmfceaaGreatDoorBig3
namespace Go.Proofs.YtaaeefndhmfceaaGreatDoor
open Go.RowKit MM

def sp4 : AC.Ac := ⟨8, ⟨#[97]⟩, 3, 0, ⟨#[]⟩, RC.zero, false⟩
def sp4b : AC.Ac := ⟨2, ⟨#[97]⟩, 1, 0, ⟨#[]⟩, RC.zero, false⟩
theorem sp4_ok : sp4.ok := ⟨rfl, rfl, w0, RC.zero_ok⟩
theorem sp4b_ok : sp4b.ok := ⟨rfl, rfl, w0, RC.zero_ok⟩
theorem sp4_chk : AC.chk sp4 = 0 := by decide +kernel
theorem sp4b_chk : AC.chk sp4b = 4 := by decide +kernel
theorem sp4_actB : AC.actB sp4 = [8, 0, 1, 97, 6] := by
  show PK.digits 8 ++ ([0] ++ ((PK.digits 1 ++ [97]) ++ (PK.digits 6 ++ ([] ++ ([] ++ []))))) = _
  rw [dsm 8 (by omega), dsm 1 (by omega), dsm 6 (by omega)]
  rfl
theorem sp4_bytes : bytesA sp4 = [8, 0, 1, 97, 6] := by
  unfold bytesA
  rw [if_pos sp4_chk, sp4_actB]
theorem sp4_read : wholeR actR [8, 0, 1, 97, 6] = .ok sp4 5 := by
  have h := actR_actB sp4 [] sp4_ok sp4_chk
  rw [List.append_nil, sp4_actB] at h
  exact wholeR_ok h rfl
theorem sp4_same : AC.same sp4 sp4 = true := AC.same_refl' sp4
theorem fld_1m : fld 1 (109 : Nat).toUInt8 = true := by decide +kernel

set_option maxHeartbeats 4000000 in
set_option maxRecDepth 100000 in
theorem speaks4_any (w : World) (hR : RowsAt w) :
    Calls Tryz.prog 7 #[] w fun e w' => e = .returned (.bool true) ∧ Below w.heap.size w w' := by
  have HR := Lib.hid hR
  have B := Lib.hid (AB.new 27 w (actC sp4 none 0))
  clear hR
  go_enter Tryz.func7, Tryz.ntmps7
  go_wp2_with fail
  refine (actBytes_any sp4 none 0 _ sp4_ok (HR.out.below B.out.bel) (Its.nil _ _) (by unfold Lim; decide) (by unfold Lim; decide) (by unfold Lim; decide)).mono ?_
  rw [sp4_bytes]
  rintro e w1 ⟨A1, c1, rfl, ho1, hn1, hb1⟩
  have B1 := Lib.hid (B.out.next hb1)
  clear hb1
  go_wp2_with fail
  refine (actRead_any A1 c1 [8, 0, 1, 97, 6] _ (Bts.own ho1) (by unfold Lim; decide) (HR.out.below B1.out.bel)).mono ?_
  rw [sp4_read]
  rintro e w2 ⟨A2, c2, rfl, ho2, hn2, hb2⟩
  have B2 := Lib.hid (B1.out.next hb2)
  have hcv := fun o o' => run_text (P := Tryz.prog) ((w2.alloc o).alloc o') 30 9 5 A1 c1 [8, 0, 1, 97, 6] Tryz.underlying30 Tryz.underlying5 Tryz.underlying9 ((((Bts.own ho1).below hb2).alloc o).alloc o')
  rw [show ([8, 0, 1, 97, 6] : List UInt8).length = 5 from rfl] at hcv
  have hz2 := B2.out.lt
  have k2 := fun p q o => cell_of_row ((w2.alloc p).alloc q) _ o _ _ (0, 0) ((heap_alloc_old (w2.alloc p) q (by simp; omega)).trans ((heap_alloc_old w2 p (by omega)).trans B2.out.box))
  have HO2 := Lib.hid ho2
  clear hb2 ho1 hn1 hn2 ho2
  have hne : ¬ w.heap.size = w2.heap.size := by omega
  go_wp2_with fail
  refine (actSame_any sp4 sp4 none A2 0 c2 _ sp4_ok sp4_ok (Its.nil _ _) (((Its.own HO2.out).alloc _).alloc _) (by unfold Lim; decide)).mono ?_
  rintro e w3 ⟨rfl, hb3⟩
  rw [sp4_same]
  have HB3 := Lib.hid (show Below w.heap.size w w3 from B2.out.bel.trans ((below2 w2 _ _).mono B2.out.bel.size |>.trans (hb3.mono (by have := B2.out.bel.size; simp; omega))))
  clear hb3 hcv k2
  go_wp2_with fail
  refine (actCheck_any sp4b none 0 _ sp4b_ok (HR.out.below HB3.out) (Its.nil _ _) (by unfold Lim; decide) (by unfold Lim; decide) (by unfold Lim; decide)).mono ?_
  rintro e w4 ⟨rfl, hb4⟩
  rw [sp4b_chk]
  have HB4 := Lib.hid (show Below w.heap.size w w4 from HB3.out.trans (hb4.mono HB3.out.size))
  clear hb4
  go_wp2_with fail
  refine (actName_any 21 _ (HR.out.below HB4.out)).mono ?_
  rw [show (rowAt 21).name = ⟨#[111, 102, 102, 101, 114]⟩ from rfl]
  rintro e w5 ⟨rfl, hb5⟩
  have HB5 := Lib.hid (show Below w.heap.size w w5 from HB4.out.trans (hb5.mono HB4.out.size))
  clear hb5
  go_wp2_with fail
  refine (actOn_any 10 _ (HR.out.below HB5.out)).mono ?_
  rw [show (rowAt 10).on = 4 from rfl]
  rintro e w6 ⟨rfl, hb6⟩
  have HB6 := Lib.hid (show Below w.heap.size w w6 from HB5.out.trans (hb6.mono HB5.out.size))
  clear hb6
  go_wp2_with fail
  refine (actReads_any 20 _ (HR.out.below HB6.out)).mono ?_
  rw [show (rowAt 20).reads = true from rfl]
  rintro e w7 ⟨rfl, hb7⟩
  have HB7 := Lib.hid (show Below w.heap.size w w7 from HB6.out.trans (hb7.mono HB6.out.size))
  clear hb7
  go_wp2_with fail
  refine (field_is 1 109 true _ (HR.out.below HB7.out) fld_1m).mono ?_
  rintro e w8 ⟨rfl, hb8⟩
  have HB8 := Lib.hid (show Below w.heap.size w w8 from HB7.out.trans (hb8.mono HB7.out.size))
  clear hb8
  go_wp2_with fail
  go_ret
  exact ⟨rfl, HB8.out⟩

end Go.Proofs.YtaaeefndhmfceaaGreatDoor
