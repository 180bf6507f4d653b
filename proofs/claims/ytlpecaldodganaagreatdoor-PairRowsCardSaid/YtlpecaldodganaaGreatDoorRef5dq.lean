/- Contracts of the document's own answers for layer 5: a list with an item more, by what is better. -/
import Derived.Test.YtlpecaldodganaaGreatDoorRef5cq
namespace Go.Proofs.YtlpecaldodganaaGreatDoor
open Go.RowKit MM
set_option linter.unusedVariables false
set_option linter.unusedSimpArgs false
set_option linter.unusedSimpArgs false in
set_option maxHeartbeats 16000000 in
set_option maxRecDepth 100000 in
theorem laid_better (l : List RC.It) (x : RC.It) (A : Option Addr) (c : Nat) (w : World) (hA : Its w A l) (hn : l.length ≤ 1000) (hs : ∀ y ∈ l, MF.W64 y.score) (hx : MF.W64 x.score) :
    Calls Tryz.prog 134 #[.slice A l.length c, itV x, .bool false] w (CPost (RU.laidG (fun y => RC.better y x) (fun y => RU.sameK y x) x l false) w) := by
  obtain ⟨i0, hi0, hz0, hz1, hz2⟩ := info_parts item_info
  have HA := Lib.hid hA
  have HW := Lib.hid hs
  clear hA hs
  go_enter Tryz.func134, Tryz.ntmps134
  go_wp2_with fail
  generalize hw1 : World.alloc (World.alloc w _) _ = w1
  have H0 := Lib.hid (show LdAt w x (some ⟨w.heap.size + 1, 0, none⟩) 0 [] w1 by
    rw [← hw1]
    refine ⟨heap_alloc2_old w _ _, ?_, fun k e => (by injection e with e; have e' : w.heap.size + 1 = k := e; omega), below2 w _ _⟩
    have h := World.ownsRow_lit (base := 0) (e := 108) (size := 2) (w.alloc (.cells #[.float .f64 x.score, .string x.name] 108)) #[] 0 (Nat.zero_le _) (by unfold maxLen; omega) rfl
    rw [World.size_alloc] at h
    exact h)
  clear hw1
  go_loopw [7, 8, 9] (fun t7 t8 t9 wr => ∃ (i : Nat) (d : Bool) (out : List RC.It) (B : Option Addr) (cb : Nat), t9 = .int .i64 i ∧ t8 = .bool d ∧ t7 = .slice B out.length cb ∧ i ≤ l.length ∧ out.length ≤ 2 * i ∧ out ++ RU.laidG (fun y => RC.better y x) (fun y => RU.sameK y x) x (l.drop i) d = RU.laidG (fun y => RC.better y x) (fun y => RU.sameK y x) x l false ∧ LdAt w x B cb out wr) (fun _ _ t9 _ => l.length - (intOf t9).toNat)
  case atStart => exact ⟨0, false, [], _, _, rfl, rfl, rfl, Nat.zero_le _, Nat.le_refl _, rfl, H0.out⟩
  case round =>
    obtain ⟨i, d, out, B, cb, rfl, rfl, rfl, hi, hol, heq, hv⟩ := hrel
    have HV := Lib.hid hv
    have HEq := Lib.hid heq
    clear hv heq H0
    by_cases hlt : i < l.length
    · have hd := List.drop_eq_getElem_cons hlt
      have HEq2 := HEq
      rw [hd] at HEq2
      rcases HA.out with h0 | ⟨b, off, rfl, hb, hrow⟩
      · subst h0; simp at hlt
      have hc := hrow i l[i] (List.getElem?_eq_getElem hlt)
      clear hrow hd
      have hwy := HW.out _ (List.getElem_mem hlt)
      generalize l[i] = y at *
      have y0 := below_keep HV.out.below hc.1
      have y1 := below_keep HV.out.below hc.2
      have HC0 := Lib.hid hc.1
      have HC1 := Lib.hid hc.2
      have x0 := fun o => cell_of_row wr _ o _ _ (0, 0) HV.out.box
      have hi1 : (i : Int) < (l.length : Int) := by omega
      clear hc
      go_wp2_with fail
      go_cut [10] (fun t10 wx => t10 = .bool (RC.better y x) ∧ Below wr.heap.size wr wx)
      case first =>
        have HAh := Lib.hid (fun u => rahead_any y x u hwy hx)
        have x0' : wr.cell? ⟨w.heap.size, 0, none⟩ = some (.float .f64 x.score) := x0 0
        have x1' : wr.cell? ⟨w.heap.size, 1, none⟩ = some (.string x.name) := x0 1
        cases hbt : RC.better y x
        · rw [hbt] at HAh
          have Hb := Lib.hid hbt
          clear hbt
          refine wp_region_held_drew (S := fun W => Below wr.heap.size wr W) (by kernel_rfl) (below_drew (Below.refl _ _)) (fun hHeld => ?_)
          refine wpAnyH_take (i := 0) (oi := ⟨_, _, _, _, _, _⟩) (v := ?_) rfl (by kernel_rfl) (by kernel_rfl) (by kernel_rfl) (fun _ _ _ h => h) (Or.inl ⟨by kernel_rfl, ?_⟩) hHeld ?_
          rotate_left 1
          · intro W hW; first | (go_simp; done) | (go_simp; with_reducible rfl)
          try simp only [Act.put, List.setIfInBounds_toArray, List.set_cons_zero, List.set_cons_succ]
          refine wpAnyH_take (i := 1) (oi := ⟨_, _, _, _, _, _⟩) (v := ?_) rfl (by kernel_rfl) (by kernel_rfl) (by kernel_rfl) (fun _ _ _ h => h) (Or.inl ⟨by kernel_rfl, ?_⟩) hHeld ?_
          rotate_left 1
          · intro W hW; first | (go_simp; done) | (go_simp; with_reducible rfl)
          try simp only [Act.put, List.setIfInBounds_toArray, List.set_cons_zero, List.set_cons_succ]
          refine wpAnyH_take (i := 2) (oi := ⟨_, _, _, _, _, _⟩) (v := ?_) rfl (by kernel_rfl) (by kernel_rfl) (by kernel_rfl) (fun _ _ _ h => h) (Or.inl ⟨by kernel_rfl, ?_⟩) hHeld ?_
          rotate_left 1
          · intro W hW; first | (go_simp; done) | (go_simp; with_reducible rfl)
          try simp only [Act.put, List.setIfInBounds_toArray, List.set_cons_zero, List.set_cons_succ]
          refine wpAnyH_take (i := 3) (oi := ⟨_, _, _, _, _, _⟩) (v := ?_) rfl (by kernel_rfl) (by kernel_rfl) (by kernel_rfl) (fun _ _ _ h => h) (Or.inl ⟨by kernel_rfl, ?_⟩) hHeld ?_
          rotate_left 1
          · intro W hW; first | (go_simp; done) | (go_simp; with_reducible rfl)
          try simp only [Act.put, List.setIfInBounds_toArray, List.set_cons_zero, List.set_cons_succ]
          refine wpAnyH_take (i := 4) (oi := ⟨_, _, _, _, _, _⟩) (v := ?_) rfl (by kernel_rfl) (by kernel_rfl) (by kernel_rfl) (fun _ _ _ h => h) (Or.inl ⟨by kernel_rfl, ?_⟩) hHeld ?_
          rotate_left 1
          · intro W hW; first | (go_simp; done) | (go_simp; with_reducible rfl)
          try simp only [Act.put, List.setIfInBounds_toArray, List.set_cons_zero, List.set_cons_succ]
          refine wpAnyH_take (i := 5) (oi := ⟨_, _, _, _, _, _⟩) (v := ?_) rfl (by kernel_rfl) (by kernel_rfl) (by kernel_rfl) (fun _ _ _ h => h) (Or.inl ⟨by kernel_rfl, ?_⟩) hHeld ?_
          rotate_left 1
          · intro W hW; first | (go_simp; done) | (go_simp; with_reducible rfl)
          try simp only [Act.put, List.setIfInBounds_toArray, List.set_cons_zero, List.set_cons_succ]
          refine wpAnyH_take (i := 6) (oi := ⟨_, _, _, _, _, _⟩) (v := ?_) rfl (by kernel_rfl) (by kernel_rfl) (by kernel_rfl) (fun _ _ _ h => h) (Or.inl ⟨by kernel_rfl, ?_⟩) hHeld ?_
          rotate_left 1
          · intro W hW; have k0 := below_keep hW y0; have k1 := below_keep hW y1; have k2 := below_keep hW x0'; have k3 := below_keep hW x1'; first | (go_simp; done) | (go_simp; with_reducible rfl)
          try simp only [Act.put, List.setIfInBounds_toArray, List.set_cons_zero, List.set_cons_succ]
          refine wpAnyH_take (i := 7) (oi := ⟨_, _, _, _, _, _⟩) (v := ?_) rfl (by kernel_rfl) (by kernel_rfl) (by kernel_rfl) (fun _ _ _ h => h) (Or.inl ⟨by kernel_rfl, ?_⟩) hHeld ?_
          rotate_left 1
          · intro W hW; have k0 := below_keep hW y0; have k1 := below_keep hW y1; have k2 := below_keep hW x0'; have k3 := below_keep hW x1'; first | (go_simp; done) | (go_simp; with_reducible rfl)
          try simp only [Act.put, List.setIfInBounds_toArray, List.set_cons_zero, List.set_cons_succ]
          refine wpAnyH_ready (rs := [8]) (by kernel_rfl) (by simp) ?_
          refine AllReadyH.cons rfl (fun K hK => ?_) AllReadyH.nil
          go_simp
          refine (HAh.out _).mono ?_
          rintro e w2 ⟨rfl, hb2⟩
          go_wp2_with fail
          refine hK.out _ _ ?_ (fun hHeld2 => ?_)
          · exact hHeld.trans (hb2.mono hHeld.size)
          clear hK K
          try simp only [Act.put, List.setIfInBounds_toArray, List.set_cons_zero, List.set_cons_succ]
          refine wpAnyH_take (i := 9) (oi := ⟨_, _, _, _, _, _⟩) (v := ?_) rfl (by kernel_rfl) (by kernel_rfl) (by kernel_rfl) (fun _ _ _ h => h) (Or.inl ⟨by kernel_rfl, ?_⟩) hHeld2 ?_
          rotate_left 1
          · intro W hW; first | (go_simp; done) | (go_simp; with_reducible rfl)
          try simp only [Act.put, List.setIfInBounds_toArray, List.set_cons_zero, List.set_cons_succ]
          refine wpAnyH_take (i := 10) (oi := ⟨_, _, _, _, _, _⟩) (v := ?_) rfl (by kernel_rfl) (by kernel_rfl) (by kernel_rfl) (fun _ _ _ h => h) (Or.inl ⟨by kernel_rfl, ?_⟩) hHeld2 ?_
          rotate_left 1
          · intro W hW; first | (go_simp; done) | (go_simp; with_reducible rfl)
          try simp only [Act.put, List.setIfInBounds_toArray, List.set_cons_zero, List.set_cons_succ]
          refine wpAnyH_take (i := 11) (oi := ⟨_, _, _, _, _, _⟩) (v := ?_) rfl (by kernel_rfl) (by kernel_rfl) (by kernel_rfl) (fun _ _ _ h => h) (Or.inl ⟨by kernel_rfl, ?_⟩) hHeld2 ?_
          rotate_left 1
          · intro W hW; first | (go_simp; done) | (go_simp; with_reducible rfl)
          try simp only [Act.put, List.setIfInBounds_toArray, List.set_cons_zero, List.set_cons_succ]
          refine wpAnyH_take (i := 12) (oi := ⟨_, _, _, _, _, _⟩) (v := ?_) rfl (by kernel_rfl) (by kernel_rfl) (by kernel_rfl) (fun _ _ _ h => h) (Or.inl ⟨by kernel_rfl, ?_⟩) hHeld2 ?_
          rotate_left 1
          · intro W hW; first | (go_simp; done) | (go_simp; with_reducible rfl)
          try simp only [Act.put, List.setIfInBounds_toArray, List.set_cons_zero, List.set_cons_succ]
          refine wpAnyH_take (i := 13) (oi := ⟨_, _, _, _, _, _⟩) (v := undef) rfl (by kernel_rfl) (by kernel_rfl) (by kernel_rfl) (fun _ _ _ h => h) (Or.inr ⟨by kernel_rfl, rfl⟩) hHeld2 ?_
          try simp only [Act.put, List.setIfInBounds_toArray, List.set_cons_zero, List.set_cons_succ]
          refine wpAnyH_take (i := 14) (oi := ⟨_, _, _, _, _, _⟩) (v := undef) rfl (by kernel_rfl) (by kernel_rfl) (by kernel_rfl) (fun _ _ _ h => h) (Or.inr ⟨by kernel_rfl, rfl⟩) hHeld2 ?_
          try simp only [Act.put, List.setIfInBounds_toArray, List.set_cons_zero, List.set_cons_succ]
          refine wpAnyH_take (i := 15) (oi := ⟨_, _, _, _, _, _⟩) (v := undef) rfl (by kernel_rfl) (by kernel_rfl) (by kernel_rfl) (fun _ _ _ h => h) (Or.inr ⟨by kernel_rfl, rfl⟩) hHeld2 ?_
          try simp only [Act.put, List.setIfInBounds_toArray, List.set_cons_zero, List.set_cons_succ]
          refine wpAnyH_take (i := 16) (oi := ⟨_, _, _, _, _, _⟩) (v := undef) rfl (by kernel_rfl) (by kernel_rfl) (by kernel_rfl) (fun _ _ _ h => h) (Or.inr ⟨by kernel_rfl, rfl⟩) hHeld2 ?_
          try simp only [Act.put, List.setIfInBounds_toArray, List.set_cons_zero, List.set_cons_succ]
          refine wpAnyH_take (i := 17) (oi := ⟨_, _, _, _, _, _⟩) (v := undef) rfl (by kernel_rfl) (by kernel_rfl) (by kernel_rfl) (fun _ _ _ h => h) (Or.inr ⟨by kernel_rfl, rfl⟩) hHeld2 ?_
          try simp only [Act.put, List.setIfInBounds_toArray, List.set_cons_zero, List.set_cons_succ]
          refine wpAnyH_take (i := 18) (oi := ⟨_, _, _, _, _, _⟩) (v := undef) rfl (by kernel_rfl) (by kernel_rfl) (by kernel_rfl) (fun _ _ _ h => h) (Or.inr ⟨by kernel_rfl, rfl⟩) hHeld2 ?_
          try simp only [Act.put, List.setIfInBounds_toArray, List.set_cons_zero, List.set_cons_succ]
          refine wpAnyH_take (i := 19) (oi := ⟨_, _, _, _, _, _⟩) (v := undef) rfl (by kernel_rfl) (by kernel_rfl) (by kernel_rfl) (fun _ _ _ h => h) (Or.inr ⟨by kernel_rfl, rfl⟩) hHeld2 ?_
          try simp only [Act.put, List.setIfInBounds_toArray, List.set_cons_zero, List.set_cons_succ]
          refine wpAnyH_take (i := 20) (oi := ⟨_, _, _, _, _, _⟩) (v := undef) rfl (by kernel_rfl) (by kernel_rfl) (by kernel_rfl) (fun _ _ _ h => h) (Or.inr ⟨by kernel_rfl, rfl⟩) hHeld2 ?_
          try simp only [Act.put, List.setIfInBounds_toArray, List.set_cons_zero, List.set_cons_succ]
          refine wpAnyH_take (i := 21) (oi := ⟨_, _, _, _, _, _⟩) (v := ?_) rfl (by kernel_rfl) (by kernel_rfl) (by kernel_rfl) (fun _ _ _ h => h) (Or.inl ⟨by kernel_rfl, ?_⟩) hHeld2 ?_
          rotate_left 1
          · intro W hW; first | (go_simp; done) | (go_simp; with_reducible rfl)
          try simp only [Act.put, List.setIfInBounds_toArray, List.set_cons_zero, List.set_cons_succ]
          refine wpAnyH_take (i := 22) (oi := ⟨_, _, _, _, _, _⟩) (v := ?_) rfl (by kernel_rfl) (by kernel_rfl) (by kernel_rfl) (fun _ _ _ h => h) (Or.inl ⟨by kernel_rfl, ?_⟩) hHeld2 ?_
          rotate_left 1
          · intro W hW; first | (go_simp; done) | (go_simp; with_reducible rfl)
          try simp only [Act.put, List.setIfInBounds_toArray, List.set_cons_zero, List.set_cons_succ]
          refine wpAnyH_take (i := 23) (oi := ⟨_, _, _, _, _, _⟩) (v := ?_) rfl (by kernel_rfl) (by kernel_rfl) (by kernel_rfl) (fun _ _ _ h => h) (Or.inl ⟨by kernel_rfl, ?_⟩) hHeld2 ?_
          rotate_left 1
          · intro W hW; first | (go_simp; done) | (go_simp; with_reducible rfl)
          try simp only [Act.put, List.setIfInBounds_toArray, List.set_cons_zero, List.set_cons_succ]
          refine wpAnyH_done (by kernel_rfl) ?_ _
          go_wp2_with fail
          go_meet
          exact ⟨by rw [Hb.out], hHeld2⟩
        · rw [hbt] at HAh
          have Hb := Lib.hid hbt
          clear hbt
          refine wp_region_held_drew (S := fun W => Below wr.heap.size wr W) (by kernel_rfl) (below_drew (Below.refl _ _)) (fun hHeld => ?_)
          refine wpAnyH_take (i := 0) (oi := ⟨_, _, _, _, _, _⟩) (v := ?_) rfl (by kernel_rfl) (by kernel_rfl) (by kernel_rfl) (fun _ _ _ h => h) (Or.inl ⟨by kernel_rfl, ?_⟩) hHeld ?_
          rotate_left 1
          · intro W hW; first | (go_simp; done) | (go_simp; with_reducible rfl)
          try simp only [Act.put, List.setIfInBounds_toArray, List.set_cons_zero, List.set_cons_succ]
          refine wpAnyH_take (i := 1) (oi := ⟨_, _, _, _, _, _⟩) (v := ?_) rfl (by kernel_rfl) (by kernel_rfl) (by kernel_rfl) (fun _ _ _ h => h) (Or.inl ⟨by kernel_rfl, ?_⟩) hHeld ?_
          rotate_left 1
          · intro W hW; first | (go_simp; done) | (go_simp; with_reducible rfl)
          try simp only [Act.put, List.setIfInBounds_toArray, List.set_cons_zero, List.set_cons_succ]
          refine wpAnyH_take (i := 2) (oi := ⟨_, _, _, _, _, _⟩) (v := ?_) rfl (by kernel_rfl) (by kernel_rfl) (by kernel_rfl) (fun _ _ _ h => h) (Or.inl ⟨by kernel_rfl, ?_⟩) hHeld ?_
          rotate_left 1
          · intro W hW; first | (go_simp; done) | (go_simp; with_reducible rfl)
          try simp only [Act.put, List.setIfInBounds_toArray, List.set_cons_zero, List.set_cons_succ]
          refine wpAnyH_take (i := 3) (oi := ⟨_, _, _, _, _, _⟩) (v := ?_) rfl (by kernel_rfl) (by kernel_rfl) (by kernel_rfl) (fun _ _ _ h => h) (Or.inl ⟨by kernel_rfl, ?_⟩) hHeld ?_
          rotate_left 1
          · intro W hW; first | (go_simp; done) | (go_simp; with_reducible rfl)
          try simp only [Act.put, List.setIfInBounds_toArray, List.set_cons_zero, List.set_cons_succ]
          refine wpAnyH_take (i := 4) (oi := ⟨_, _, _, _, _, _⟩) (v := ?_) rfl (by kernel_rfl) (by kernel_rfl) (by kernel_rfl) (fun _ _ _ h => h) (Or.inl ⟨by kernel_rfl, ?_⟩) hHeld ?_
          rotate_left 1
          · intro W hW; first | (go_simp; done) | (go_simp; with_reducible rfl)
          try simp only [Act.put, List.setIfInBounds_toArray, List.set_cons_zero, List.set_cons_succ]
          refine wpAnyH_take (i := 5) (oi := ⟨_, _, _, _, _, _⟩) (v := ?_) rfl (by kernel_rfl) (by kernel_rfl) (by kernel_rfl) (fun _ _ _ h => h) (Or.inl ⟨by kernel_rfl, ?_⟩) hHeld ?_
          rotate_left 1
          · intro W hW; first | (go_simp; done) | (go_simp; with_reducible rfl)
          try simp only [Act.put, List.setIfInBounds_toArray, List.set_cons_zero, List.set_cons_succ]
          refine wpAnyH_take (i := 6) (oi := ⟨_, _, _, _, _, _⟩) (v := ?_) rfl (by kernel_rfl) (by kernel_rfl) (by kernel_rfl) (fun _ _ _ h => h) (Or.inl ⟨by kernel_rfl, ?_⟩) hHeld ?_
          rotate_left 1
          · intro W hW; have k0 := below_keep hW y0; have k1 := below_keep hW y1; have k2 := below_keep hW x0'; have k3 := below_keep hW x1'; first | (go_simp; done) | (go_simp; with_reducible rfl)
          try simp only [Act.put, List.setIfInBounds_toArray, List.set_cons_zero, List.set_cons_succ]
          refine wpAnyH_take (i := 7) (oi := ⟨_, _, _, _, _, _⟩) (v := ?_) rfl (by kernel_rfl) (by kernel_rfl) (by kernel_rfl) (fun _ _ _ h => h) (Or.inl ⟨by kernel_rfl, ?_⟩) hHeld ?_
          rotate_left 1
          · intro W hW; have k0 := below_keep hW y0; have k1 := below_keep hW y1; have k2 := below_keep hW x0'; have k3 := below_keep hW x1'; first | (go_simp; done) | (go_simp; with_reducible rfl)
          try simp only [Act.put, List.setIfInBounds_toArray, List.set_cons_zero, List.set_cons_succ]
          refine wpAnyH_ready (rs := [8]) (by kernel_rfl) (by simp) ?_
          refine AllReadyH.cons rfl (fun K hK => ?_) AllReadyH.nil
          go_simp
          refine (HAh.out _).mono ?_
          rintro e w2 ⟨rfl, hb2⟩
          go_wp2_with fail
          refine hK.out _ _ ?_ (fun hHeld2 => ?_)
          · exact hHeld.trans (hb2.mono hHeld.size)
          clear hK K
          try simp only [Act.put, List.setIfInBounds_toArray, List.set_cons_zero, List.set_cons_succ]
          refine wpAnyH_take (i := 9) (oi := ⟨_, _, _, _, _, _⟩) (v := ?_) rfl (by kernel_rfl) (by kernel_rfl) (by kernel_rfl) (fun _ _ _ h => h) (Or.inl ⟨by kernel_rfl, ?_⟩) hHeld2 ?_
          rotate_left 1
          · intro W hW; first | (go_simp; done) | (go_simp; with_reducible rfl)
          try simp only [Act.put, List.setIfInBounds_toArray, List.set_cons_zero, List.set_cons_succ]
          refine wpAnyH_take (i := 10) (oi := ⟨_, _, _, _, _, _⟩) (v := ?_) rfl (by kernel_rfl) (by kernel_rfl) (by kernel_rfl) (fun _ _ _ h => h) (Or.inl ⟨by kernel_rfl, ?_⟩) hHeld2 ?_
          rotate_left 1
          · intro W hW; first | (go_simp; done) | (go_simp; with_reducible rfl)
          try simp only [Act.put, List.setIfInBounds_toArray, List.set_cons_zero, List.set_cons_succ]
          refine wpAnyH_take (i := 11) (oi := ⟨_, _, _, _, _, _⟩) (v := undef) rfl (by kernel_rfl) (by kernel_rfl) (by kernel_rfl) (fun _ _ _ h => h) (Or.inr ⟨by kernel_rfl, rfl⟩) hHeld2 ?_
          try simp only [Act.put, List.setIfInBounds_toArray, List.set_cons_zero, List.set_cons_succ]
          refine wpAnyH_take (i := 12) (oi := ⟨_, _, _, _, _, _⟩) (v := undef) rfl (by kernel_rfl) (by kernel_rfl) (by kernel_rfl) (fun _ _ _ h => h) (Or.inr ⟨by kernel_rfl, rfl⟩) hHeld2 ?_
          try simp only [Act.put, List.setIfInBounds_toArray, List.set_cons_zero, List.set_cons_succ]
          refine wpAnyH_take (i := 13) (oi := ⟨_, _, _, _, _, _⟩) (v := undef) rfl (by kernel_rfl) (by kernel_rfl) (by kernel_rfl) (fun _ _ _ h => h) (Or.inr ⟨by kernel_rfl, rfl⟩) hHeld2 ?_
          try simp only [Act.put, List.setIfInBounds_toArray, List.set_cons_zero, List.set_cons_succ]
          refine wpAnyH_take (i := 14) (oi := ⟨_, _, _, _, _, _⟩) (v := undef) rfl (by kernel_rfl) (by kernel_rfl) (by kernel_rfl) (fun _ _ _ h => h) (Or.inr ⟨by kernel_rfl, rfl⟩) hHeld2 ?_
          try simp only [Act.put, List.setIfInBounds_toArray, List.set_cons_zero, List.set_cons_succ]
          refine wpAnyH_take (i := 15) (oi := ⟨_, _, _, _, _, _⟩) (v := undef) rfl (by kernel_rfl) (by kernel_rfl) (by kernel_rfl) (fun _ _ _ h => h) (Or.inr ⟨by kernel_rfl, rfl⟩) hHeld2 ?_
          try simp only [Act.put, List.setIfInBounds_toArray, List.set_cons_zero, List.set_cons_succ]
          refine wpAnyH_take (i := 16) (oi := ⟨_, _, _, _, _, _⟩) (v := undef) rfl (by kernel_rfl) (by kernel_rfl) (by kernel_rfl) (fun _ _ _ h => h) (Or.inr ⟨by kernel_rfl, rfl⟩) hHeld2 ?_
          try simp only [Act.put, List.setIfInBounds_toArray, List.set_cons_zero, List.set_cons_succ]
          refine wpAnyH_take (i := 17) (oi := ⟨_, _, _, _, _, _⟩) (v := undef) rfl (by kernel_rfl) (by kernel_rfl) (by kernel_rfl) (fun _ _ _ h => h) (Or.inr ⟨by kernel_rfl, rfl⟩) hHeld2 ?_
          try simp only [Act.put, List.setIfInBounds_toArray, List.set_cons_zero, List.set_cons_succ]
          refine wpAnyH_take (i := 18) (oi := ⟨_, _, _, _, _, _⟩) (v := undef) rfl (by kernel_rfl) (by kernel_rfl) (by kernel_rfl) (fun _ _ _ h => h) (Or.inr ⟨by kernel_rfl, rfl⟩) hHeld2 ?_
          try simp only [Act.put, List.setIfInBounds_toArray, List.set_cons_zero, List.set_cons_succ]
          refine wpAnyH_take (i := 19) (oi := ⟨_, _, _, _, _, _⟩) (v := undef) rfl (by kernel_rfl) (by kernel_rfl) (by kernel_rfl) (fun _ _ _ h => h) (Or.inr ⟨by kernel_rfl, rfl⟩) hHeld2 ?_
          try simp only [Act.put, List.setIfInBounds_toArray, List.set_cons_zero, List.set_cons_succ]
          refine wpAnyH_take (i := 20) (oi := ⟨_, _, _, _, _, _⟩) (v := undef) rfl (by kernel_rfl) (by kernel_rfl) (by kernel_rfl) (fun _ _ _ h => h) (Or.inr ⟨by kernel_rfl, rfl⟩) hHeld2 ?_
          try simp only [Act.put, List.setIfInBounds_toArray, List.set_cons_zero, List.set_cons_succ]
          refine wpAnyH_take (i := 21) (oi := ⟨_, _, _, _, _, _⟩) (v := undef) rfl (by kernel_rfl) (by kernel_rfl) (by kernel_rfl) (fun _ _ _ h => h) (Or.inr ⟨by kernel_rfl, rfl⟩) hHeld2 ?_
          try simp only [Act.put, List.setIfInBounds_toArray, List.set_cons_zero, List.set_cons_succ]
          refine wpAnyH_take (i := 22) (oi := ⟨_, _, _, _, _, _⟩) (v := ?_) rfl (by kernel_rfl) (by kernel_rfl) (by kernel_rfl) (fun _ _ _ h => h) (Or.inl ⟨by kernel_rfl, ?_⟩) hHeld2 ?_
          rotate_left 1
          · intro W hW; first | (go_simp; done) | (go_simp; with_reducible rfl)
          try simp only [Act.put, List.setIfInBounds_toArray, List.set_cons_zero, List.set_cons_succ]
          refine wpAnyH_take (i := 23) (oi := ⟨_, _, _, _, _, _⟩) (v := ?_) rfl (by kernel_rfl) (by kernel_rfl) (by kernel_rfl) (fun _ _ _ h => h) (Or.inl ⟨by kernel_rfl, ?_⟩) hHeld2 ?_
          rotate_left 1
          · intro W hW; first | (go_simp; done) | (go_simp; with_reducible rfl)
          try simp only [Act.put, List.setIfInBounds_toArray, List.set_cons_zero, List.set_cons_succ]
          refine wpAnyH_done (by kernel_rfl) ?_ _
          go_wp2_with fail
          go_meet
          exact ⟨by rw [Hb.out], hHeld2⟩
      case rest =>
      obtain ⟨rfl, hb2⟩ := hcut
      generalize hwc : wc = w2 at *
      clear hwc
      have HV2 := Lib.hid (HV.out.look hb2)
      clear y0 y1 x0 hb2
      have y0 := below_keep HV2.out.below HC0.out
      have y1 := below_keep HV2.out.below HC1.out
      have x0 := fun o => cell_of_row w2 _ o _ _ (0, 0) HV2.out.box
      go_wp2_with fail
      go_cut [11] (fun t11 wx => t11 = .bool (RU.sameK y x) ∧ Below w2.heap.size w2 wx)
      case first =>
        have HSm := Lib.hid (fun u => (rsame_any y.score x.score u hwy hx).mono (fun e w' h => (⟨h.1, h.2.symm⟩ : e = .returned (.bool (MF.same y.score x.score)) ∧ w' = u)))
        cases he : RC.strEq y.name x.name
        · have he' : (y.name.toList == x.name.toList) = false := he
          have He := Lib.hid (show RU.sameK y x = false by unfold RU.sameK; rw [he]; rfl)
          clear he
          go_quiet (fail)
          go_wp2_with fail
          go_meet
          exact ⟨by rw [He.out], rfl, rfl, rfl, Nat.le_refl _, fun _ _ => rfl⟩
        · have he' : (y.name.toList == x.name.toList) = true := he
          have He := Lib.hid (show RU.sameK y x = MF.same y.score x.score by unfold RU.sameK; rw [he]; rfl)
          clear he
          go_quiet (first | (go_at_call 64; exact Calls.quiet_of_same (HSm.out _)))
          go_wp2_with fail
          go_meet
          exact ⟨by rw [He.out], rfl, rfl, rfl, Nat.le_refl _, fun _ _ => rfl⟩
      case rest =>
      obtain ⟨rfl, hb3⟩ := hcut
      generalize hwc : wc = w3 at *
      clear hwc
      have HV3 := Lib.hid (HV2.out.look hb3)
      clear y0 y1 x0 hb3 HV HV2
      have y0 := below_keep HV3.out.below HC0.out
      have y1 := below_keep HV3.out.below HC1.out
      have x0 := fun o => cell_of_row w3 _ o _ _ (0, 0) HV3.out.box
      have HS := Lib.hid (show RU.laidG (fun y => RC.better y x) (fun y => RU.sameK y x) x (y :: l.drop (i + 1)) d = if !d && !RC.better y x then (if RU.sameK y x then y :: RU.laidG (fun y => RC.better y x) (fun y => RU.sameK y x) x (l.drop (i + 1)) true else x :: y :: RU.laidG (fun y => RC.better y x) (fun y => RU.sameK y x) x (l.drop (i + 1)) true) else y :: RU.laidG (fun y => RC.better y x) (fun y => RU.sameK y x) x (l.drop (i + 1)) d from rfl)
      have hlx := lt_of_heap HV3.out.box
      have HCell := Lib.hid (show ∀ B2 c2 o2 W, LdAt w x B2 c2 o2 W → W.cell? ⟨b, off + i * 2, none⟩ = some (.float .f64 y.score) ∧ W.cell? ⟨b, off + i * 2 + 1, none⟩ = some (.string y.name) from fun _ _ _ _ h => ⟨below_keep h.below HC0.out, below_keep h.below HC1.out⟩)
      generalize RC.better y x = a1 at *
      generalize RU.sameK y x = s1 at *
      have hone : ∀ d', RU.laidG (fun y => RC.better y x) (fun y => RU.sameK y x) x (y :: l.drop (i + 1)) d = y :: RU.laidG (fun y => RC.better y x) (fun y => RU.sameK y x) x (l.drop (i + 1)) d' → (out ++ [y]) ++ RU.laidG (fun y => RC.better y x) (fun y => RU.sameK y x) x (l.drop (i + 1)) d' = RU.laidG (fun y => RC.better y x) (fun y => RU.sameK y x) x l false := fun d' e => by
        rw [List.append_assoc, List.singleton_append, ← e]
        exact HEq2.out
      have HOne := Lib.hid hone
      clear hone
      cases d
      case true =>
        go_wp2_with (first
          | (at_builtin
             refine wpList_append_at rfl _ _ _ _ rfl 108 i0 _ 2 24 Tryz.underlying23 hi0 hz0 hz1 hz2 rfl B (out.length) cb (itCells (out)) rfl (own_below (HV3.out.ownN rfl) (below1 _ _)) _ 1 _ rfl (src_it Tryz.underlying23 _ _ _ _ rfl rfl rfl) (by unfold maxLen; omega) (by omega) ?_
             intro B5 c5 w5 ho hg hat
             have H5 := Lib.hid (HV3.out.more rfl (y := y) hg hat ho)
             clear ho hg hat))
        go_wp2_with fail
        go_roundw
        case rel => exact ⟨i + 1, true, out ++ [y], B5, c5, by go_num, rfl, by simp, by omega, by simp; omega, HOne.out true (by rw [HS.out]; rfl), H5.out⟩
        case measure => simp [intOf]; omega
      cases a1
      case true =>
        go_wp2_with (first
          | (at_builtin
             refine wpList_append_at rfl _ _ _ _ rfl 108 i0 _ 2 24 Tryz.underlying23 hi0 hz0 hz1 hz2 rfl B (out.length) cb (itCells (out)) rfl (own_below (HV3.out.ownN rfl) (below1 _ _)) _ 1 _ rfl (src_it Tryz.underlying23 _ _ _ _ rfl rfl rfl) (by unfold maxLen; omega) (by omega) ?_
             intro B5 c5 w5 ho hg hat
             have H5 := Lib.hid (HV3.out.more rfl (y := y) hg hat ho)
             clear ho hg hat))
        go_wp2_with fail
        go_roundw
        case rel => exact ⟨i + 1, false, out ++ [y], B5, c5, by go_num, rfl, by simp, by omega, by simp; omega, HOne.out false (by rw [HS.out]; rfl), H5.out⟩
        case measure => simp [intOf]; omega
      cases s1
      case true =>
        go_wp2_with (first
          | (at_builtin
             refine wpList_append_at rfl _ _ _ _ rfl 108 i0 _ 2 24 Tryz.underlying23 hi0 hz0 hz1 hz2 rfl B (out.length) cb (itCells (out)) rfl (own_below (HV3.out.ownN rfl) (below1 _ _)) _ 1 _ rfl (src_it Tryz.underlying23 _ _ _ _ rfl rfl rfl) (by unfold maxLen; omega) (by omega) ?_
             intro B5 c5 w5 ho hg hat
             have H5 := Lib.hid (HV3.out.more rfl (y := y) hg hat ho)
             clear ho hg hat))
        go_wp2_with fail
        go_roundw
        case rel => exact ⟨i + 1, true, out ++ [y], B5, c5, by go_num, rfl, by simp, by omega, by simp; omega, HOne.out true (by rw [HS.out]; rfl), H5.out⟩
        case measure => simp [intOf]; omega
      go_wp2_with (first
        | (at_builtin
           refine wpList_append_at rfl _ _ _ _ rfl 108 i0 _ 2 24 Tryz.underlying23 hi0 hz0 hz1 hz2 rfl B (out.length) cb (itCells (out)) rfl (own_below (HV3.out.ownN rfl) (below1 _ _)) _ 1 _ rfl (src_it Tryz.underlying23 _ _ _ _ rfl rfl rfl) (by unfold maxLen; omega) (by omega) ?_
           intro B4 c4 w4 ho hg hat
           have H4 := Lib.hid (HV3.out.more rfl (y := x) hg hat ho)
           clear ho hg hat y0 y1 x0
           obtain ⟨y0, y1⟩ := HCell.out _ _ _ _ H4.out)
        | (at_builtin
           refine wpList_append_at rfl _ _ _ _ rfl 108 i0 _ 2 24 Tryz.underlying23 hi0 hz0 hz1 hz2 rfl B4 (out.length + 1) c4 (itCells (out ++ [x])) rfl (own_below (H4.out.ownN (by simp)) (below1 _ _)) _ 1 _ rfl (src_it Tryz.underlying23 _ _ _ _ rfl rfl rfl) (by unfold maxLen; omega) (by omega) ?_
           intro B5 c5 w5 ho hg hat
           have H5 := Lib.hid (H4.out.more (by simp) (y := y) hg hat ho)
           clear ho hg hat))
      go_wp2_with fail
      go_roundw
      case rel =>
        refine ⟨i + 1, true, (out ++ [x]) ++ [y], B5, c5, by go_num, rfl, by simp, by omega, by simp; omega, ?_, H5.out⟩
        rw [List.append_assoc, List.append_assoc, List.singleton_append, List.singleton_append, ← HEq2.out, HS.out]
        rfl
      case measure => simp [intOf]; omega
    · have hi' : i = l.length := by omega
      subst hi'
      have hi1 : ¬ (l.length : Int) < (l.length : Int) := by omega
      have HEn := HEq
      rw [List.drop_length] at HEn
      have x0 := fun o => cell_of_row wr _ o _ _ (0, 0) HV.out.box
      have hlx := lt_of_heap HV.out.box
      cases d
      · have hT : out ++ [x] = RU.laidG (fun y => RC.better y x) (fun y => RU.sameK y x) x l false := HEn.out
        have HT := Lib.hid hT
        clear hT
        go_wp2_with (first
          | (at_builtin
             refine wpList_append_at rfl _ _ _ _ rfl 108 i0 _ 2 24 Tryz.underlying23 hi0 hz0 hz1 hz2 rfl B (out.length) cb (itCells (out)) rfl (own_below (HV.out.ownN rfl) (below1 _ _)) _ 1 _ rfl (src_it Tryz.underlying23 _ _ _ _ rfl rfl rfl) (by unfold maxLen; omega) (by omega) ?_
             intro B5 c5 w5 ho hg hat
             have H5 := Lib.hid (HV.out.more rfl (y := x) hg hat ho)
             clear ho hg hat))
        go_ret
        rw [← HT.out]
        exact ⟨B5, c5, by simp, H5.out.own, fun k e => by have := H5.out.new k e; omega, H5.out.below⟩
      · have hT : out = RU.laidG (fun y => RC.better y x) (fun y => RU.sameK y x) x l false := by
          have := HEn.out
          rwa [show RU.laidG (fun y => RC.better y x) (fun y => RU.sameK y x) x [] true = [] from rfl, List.append_nil] at this
        have HT := Lib.hid hT
        clear hT
        go_wp2_with fail
        go_ret
        rw [← HT.out]
        exact ⟨B, cb, rfl, HV.out.own, fun k e => by have := HV.out.new k e; omega, HV.out.below⟩
end Go.Proofs.YtlpecaldodganaaGreatDoor
