/- Contracts of package rec: Check. -/
import Derived.Test.YtaaeefndhmfceaaDoorRec3
namespace RC
theorem rest_ok {r : Rc} (h : r.ok) : (rest r).ok := by
  obtain ⟨h1, h2, h3, h4, h5, h6, h7⟩ := h
  refine ⟨rfl, ?_, ?_, ?_, ?_, ?_, ?_⟩
  · simp only [rest]; split; rfl; exact h2
  · simp only [rest]; split; rfl; exact h3
  · simp only [rest]; split; rfl; exact h4
  · simp only [rest]; split; (unfold MF.W64; decide); exact h5
  · simp only [rest]; split; rfl; exact h6
  · simp only [rest]
    split
    · intro x hx; cases hx
    · exact h7
theorem rest_len (r : Rc) : (rest r).list.length ≤ r.list.length := by
  simp only [rest]
  split
  · exact Nat.zero_le _
  · exact Nat.le_refl _
theorem chk_kind {r : Rc} (h : known r.kind = false) : chk r = 5 := by unfold chk; rw [if_neg (by rw [h]; simp)]
theorem chk_form {r : Rc} (h : known r.kind = true) (h2 : clean r = false) : chk r = 4 := by unfold chk; rw [if_pos h, if_neg (by rw [h2]; simp)]
theorem chk_field {r : Rc} (h : known r.kind = true) (h2 : clean r = true) : chk r = fieldE r := by unfold chk; rw [if_pos h, if_pos h2]
end RC
namespace Go.Proofs.YtaaeefndhmfceaaDoor
open Go.RowKit MM

set_option maxHeartbeats 2000000 in
set_option maxRecDepth 100000 in
theorem recCheck_any (r : RC.Rc) (A : Option Addr) (c : Nat) (w : World) (hr : r.ok) (hA : Its w A r.list) (hn : Lim r.list.length) :
    Calls Tryd.prog 13 #[recV r A c] w (EPost (RC.chk r) w) := by
  cases hk : RC.known r.kind
  · have He := Lib.hid (RC.chk_kind hk)
    obtain ⟨k, n, l, h, x, cap, t, s⟩ := r
    have Hk := Lib.hid hk
    clear hk hA
    go_enter Tryd.func13, Tryd.ntmps13
    go_wp2_with fail
    refine (recKnown_any k _).mono ?_
    rw [show RC.known k = false from Hk.out]
    rintro e w' ⟨rfl, rfl⟩
    go_wp2_with fail
    go_ret
    exact EPost.mk He.out rfl (below1 w _)
  · have hro := RC.rest_ok hr
    have hrl := RC.rest_len r
    have hB := fun o => beyond_any r A c (w.alloc o) (hA.alloc o) hk
    have HS := Lib.hid (fun (A' : Option Addr) (c' : Nat) (w' : World) (hI : Its w' A' (RC.rest r).list) => recSame_any (RC.rest r) RC.zero A' none c' 0 w' hro RC.zero_ok hI (Its.nil _ _) (hn.le hrl))
    have HT := Lib.hid (fun w' (hI : Its w' A r.list) => checkList_any r A c w' hI hr.list hn)
    have HP := Lib.hid (fun w' => checkPurse_any r A c w')
    cases hc : RC.clean r
    · have He := Lib.hid (RC.chk_form hk hc)
      have Hc := Lib.hid (show RC.same (RC.rest r) RC.zero = false from hc)
      have Hk := Lib.hid hk
      have HB := Lib.hid hB
      clear hk hc hA hB HT HP hro hrl
      obtain ⟨k, n, l, h, x, cap, t, s⟩ := r
      go_enter Tryd.func13, Tryd.ntmps13
      go_wp2_with fail
      refine (recKnown_any k _).mono ?_
      rw [show RC.known k = true from Hk.out]
      rintro e w' ⟨rfl, rfl⟩
      go_wp2_with fail
      refine (HB.out _).mono ?_
      rintro e w1 ⟨A', c', rfl, hI1, hb1⟩
      go_wp2_with fail
      refine (HS.out A' c' _ hI1).mono ?_
      rintro e w2 ⟨rfl, hb2⟩
      rw [Hc.out]
      have hB2 : Below w.heap.size w w2 := (below1 w _).trans ((hb1.mono (by simp)).trans (hb2.mono (Nat.le_trans (by simp) hb1.size)))
      have HB2 := Lib.hid hB2
      clear hb1 hb2 hI1 hB2
      go_wp2_with fail
      go_ret
      exact EPost.mk He.out rfl HB2.out
    · have He := Lib.hid (RC.chk_field hk hc)
      have Hc := Lib.hid (show RC.same (RC.rest r) RC.zero = true from hc)
      have Hk := Lib.hid hk
      have HB := Lib.hid hB
      have HA := Lib.hid hA
      clear hc hA hB hro hrl
      obtain ⟨k, n, l, h, x, cap, t, s⟩ := r
      rcases RC.kind9 hk with rfl | rfl | rfl | rfl | rfl | rfl | rfl | rfl | rfl
      all_goals
        clear hk
        go_enter Tryd.func13, Tryd.ntmps13
        go_wp2_with fail
        refine (recKnown_any _ _).mono ?_
        rw [show RC.known _ = true from Hk.out]
        rintro e w' ⟨rfl, rfl⟩
        go_wp2_with fail
        refine (HB.out _).mono ?_
        rintro e w1 ⟨A', c', rfl, hI1, hb1⟩
        go_wp2_with fail
        refine (HS.out A' c' _ hI1).mono ?_
        rintro e w2 ⟨rfl, hb2⟩
        rw [Hc.out]
        have hB2 : Below (w.heap.size + 1) (w.alloc _) w2 := (hb1.mono (by simp)).trans (hb2.mono (Nat.le_trans (by simp) hb1.size))
        have e0 := (hB2.block w.heap.size (by omega)).trans (heap_alloc_new w _)
        have c0 := (cell_of_row w2 _ 0 _ _ (0, 0) e0)
        have c1 := (cell_of_row w2 _ 1 _ _ (0, 0) e0)
        have c2 := (cell_of_row w2 _ 2 _ _ (0, 0) e0)
        have c3 := (cell_of_row w2 _ 3 _ _ (0, 0) e0)
        have c4 := (cell_of_row w2 _ 4 _ _ (0, 0) e0)
        have c5 := (cell_of_row w2 _ 5 _ _ (0, 0) e0)
        have c6 := (cell_of_row w2 _ 6 _ _ (0, 0) e0)
        have c7 := (cell_of_row w2 _ 7 _ _ (0, 0) e0)
        have hB3 : Below w.heap.size w w2 := (below1 w _).trans (hB2.mono (by omega))
        have HB3 := Lib.hid hB3
        clear hb1 hb2 hI1 hB2 e0 hB3
        simp at c0 c1 c2 c3 c4 c5 c6 c7
        go_wp2_with fail
      · refine (checkText_any t _).mono ?_
        rintro e w3 ⟨rfl, rfl⟩
        go_wp2_with fail
        go_ret
        exact EPost.mk He.out rfl HB3.out
      · go_ret
        exact EPost.mk He.out rfl HB3.out
      · go_ret
        exact EPost.mk He.out rfl HB3.out
      · refine (HP.out _).mono ?_
        rintro e w3 ⟨rfl, hb3⟩
        go_wp2_with fail
        go_ret
        exact EPost.mk He.out rfl (HB3.out.trans (hb3.mono HB3.out.size))
      · refine (checkReal_any x _).mono ?_
        rintro e w3 ⟨rfl, rfl⟩
        go_wp2_with fail
        go_ret
        exact EPost.mk He.out rfl HB3.out
      · refine (checkReal_any x _).mono ?_
        rintro e w3 ⟨rfl, rfl⟩
        go_wp2_with fail
        go_ret
        exact EPost.mk He.out rfl HB3.out
      · refine (checkReal_any x _).mono ?_
        rintro e w3 ⟨rfl, rfl⟩
        go_wp2_with fail
        go_ret
        exact EPost.mk He.out rfl HB3.out
      · refine (HT.out _ (HA.out.below HB3.out)).mono ?_
        rintro e w3 ⟨rfl, hb3⟩
        go_wp2_with fail
        go_ret
        exact EPost.mk He.out rfl (HB3.out.trans (hb3.mono HB3.out.size))
      · refine (HT.out _ (HA.out.below HB3.out)).mono ?_
        rintro e w3 ⟨rfl, hb3⟩
        go_wp2_with fail
        go_ret
        exact EPost.mk He.out rfl (HB3.out.trans (hb3.mono HB3.out.size))

end Go.Proofs.YtaaeefndhmfceaaDoor
