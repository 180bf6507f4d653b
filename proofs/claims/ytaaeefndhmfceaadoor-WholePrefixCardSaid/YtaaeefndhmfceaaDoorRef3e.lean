/- Contracts of the document's own answers for layer 3: may a record be? -/
import Derived.Test.YtaaeefndhmfceaaDoorRef3d
import Derived.Deep.RegionHeld3
namespace Go.Proofs.YtaaeefndhmfceaaDoor
open Go.RowKit MM

set_option maxHeartbeats 2000000 in
set_option maxRecDepth 100000 in
theorem ritem_9 (A : Option Addr) (c : Nat) (l : List RC.It) (i : Nat) (w : World) (hI : Its w A l) (hl : WS64 l) (hi : i < l.length) (hn : Lim l.length) :
    Calls Tryd.prog 36 #[.int .i64 9, .slice A l.length c, .int .i64 i] w (EPost (RC.itemE 9 (RC.prev l i) l[i]) w) := by
  have hn' : (l.length : Int) ≤ 4294967296 := by unfold Lim at hn; omega
  rcases hI with rfl | ⟨b, off, rfl, hb, hc⟩
  · simp at hi
  obtain ⟨a0, a1⟩ := hc i l[i] (List.getElem?_eq_getElem hi)
  have wy := hl.at hi
  have hpr : i = 0 ∧ RC.prev l i = none ∨ ∃ p, 0 < i ∧ RC.prev l i = some p ∧ MF.W64 p.score ∧ w.cell? ⟨b, off + (i - 1) * 2, none⟩ = some (.float .f64 p.score) ∧ w.cell? ⟨b, off + (i - 1) * 2 + 1, none⟩ = some (.string p.name) := by
    by_cases h0 : i = 0
    · subst h0; exact .inl ⟨rfl, rfl⟩
    · have hj : i - 1 < l.length := by omega
      obtain ⟨q0, q1⟩ := hc (i - 1) l[i - 1] (List.getElem?_eq_getElem hj)
      refine .inr ⟨l[i - 1], by omega, ?_, hl.at hj, q0, q1⟩
      unfold RC.prev
      rw [if_neg h0, List.getElem?_eq_getElem hj]
  generalize l[i] = y at *
  generalize RC.prev l i = pv at *
  obtain ⟨ys, yn⟩ := y
  replace a0 : w.cell? ⟨b, off + i * 2, none⟩ = some (.float .f64 ys) := a0
  replace a1 : w.cell? ⟨b, off + i * 2 + 1, none⟩ = some (.string yn) := a1
  replace wy : MF.W64 ys := wy
  have hi1 : (i : Int) < (l.length : Int) := by omega
  have hi0 : (0 : Int) ≤ (i : Int) := by omega
  have Hp := Lib.hid (fun w => rproper_any ys w)
  have He := Lib.hid (show ∀ p, RC.itemE 9 p ⟨ys, yn⟩ = if 16 < yn.size then 3 else if MF.proper ys && RC.follows 9 p ⟨ys, yn⟩ then 0 else 4 from fun _ => rfl)
  clear hc hl
  generalize MF.proper ys = pr at *
  by_cases h16 : 16 < yn.size
  · clear hpr
    go_enter Tryd.func36, Tryd.ntmps36
    go_wp2_with fail
    go_ret
    exact EPost.mk (m := 3) (by rw [He.out, if_pos h16]) rfl (below1 w _)
  cases pr
  · clear hpr
    go_enter Tryd.func36, Tryd.ntmps36
    go_wp2_with (first
      | (go_at_call 35; refine (Hp.out _).mono ?_; rintro e w' ⟨rfl, rfl⟩))
    go_ret
    exact EPost.mk (m := 4) (by rw [He.out, if_neg h16]; rfl) rfl (below1 w _)
  rcases hpr with ⟨rfl, rfl⟩ | ⟨p, h0, rfl, wp, p0, p1⟩
  · rw [Nat.zero_mul, Nat.add_zero] at a0 a1
    go_enter Tryd.func36, Tryd.ntmps36
    go_wp2_with (first
      | (go_at_call 35; refine (Hp.out _).mono ?_; rintro e w' ⟨rfl, rfl⟩))
    generalize hw2 : w.alloc _ = w2
    have HB2 := Lib.hid (show Below w.heap.size w w2 by rw [← hw2]; exact below1 w _)
    clear hw2
    go_quiet (fail)
    go_wp2
    go_quiet (fail)
    go_wp2
    go_ret
    exact EPost.mk (m := 0) (by rw [He.out, if_neg h16]; rfl) rfl (below_drewN (below_drewN HB2.out _) _)
  · obtain ⟨ps, pn⟩ := p
    replace p0 : w.cell? ⟨b, off + (i - 1) * 2, none⟩ = some (.float .f64 ps) := p0
    replace p1 : w.cell? ⟨b, off + (i - 1) * 2 + 1, none⟩ = some (.string pn) := p1
    replace wp : MF.W64 ps := wp
    have W1 : IntKind.i64.wrap ((i : Int) - 1) = ((i - 1 : Nat) : Int) := (IntWalk.i64_in _ (by omega)).trans (by omega)
    have hj0 : (0 : Int) ≤ ((i - 1 : Nat) : Int) := Int.natCast_nonneg _
    have hj1 : ((i - 1 : Nat) : Int) < (l.length : Int) := by omega
    have h0' : decide ((0 : Int) < (i : Int)) = true := by simp; omega
    have He2 := Lib.hid (show RC.itemE 9 (some ⟨ps, pn⟩) ⟨ys, yn⟩ = if RC.better ⟨ps, pn⟩ ⟨ys, yn⟩ then 0 else 4 by rw [He.out, if_neg h16]; rfl)
    have HA := Lib.hid (fun w => rahead_any ⟨ps, pn⟩ ⟨ys, yn⟩ w wp wy)
    clear He
    generalize RC.better ⟨ps, pn⟩ ⟨ys, yn⟩ = q at *
    cases q
    all_goals
      go_enter Tryd.func36, Tryd.ntmps36
      go_wp2_with (first
        | (go_at_call 35; refine (Hp.out _).mono ?_; rintro e w' ⟨rfl, rfl⟩))
      generalize hw2 : w.alloc _ = w2
      have hB2 : Below w.heap.size w w2 := by rw [← hw2]; exact below1 w _
      have y0 : w2.cell? ⟨w.heap.size, 0, none⟩ = some (.float .f64 ys) := by rw [← hw2]; simp [go_sem]
      have y1 : w2.cell? ⟨w.heap.size, 1, none⟩ = some (.string yn) := by rw [← hw2]; simp [go_sem]
      replace p0 := (hB2.cell (p := ⟨b, off + (i - 1) * 2, none⟩) hb).trans p0
      replace p1 := (hB2.cell (p := ⟨b, off + (i - 1) * 2 + 1, none⟩) hb).trans p1
      have HB2 := Lib.hid hB2
      clear hw2 hB2 a0 a1
      go_quiet (fail)
      go_wp2_with fail
      rename_i nq _
      generalize hw3 : World.drewN w2 _ = w3 at *
      have HB3 := Lib.hid (show Below w.heap.size w w3 by rw [← hw3]; exact below_drewN HB2.out _)
      replace y0 : w3.cell? ⟨w.heap.size, 0, none⟩ = some (.float .f64 ys) := by rw [← hw3]; exact y0
      replace y1 : w3.cell? ⟨w.heap.size, 1, none⟩ = some (.string yn) := by rw [← hw3]; exact y1
      replace p0 : w3.cell? ⟨b, off + (i - 1) * 2, none⟩ = some (.float .f64 ps) := by rw [← hw3]; exact p0
      replace p1 : w3.cell? ⟨b, off + (i - 1) * 2 + 1, none⟩ = some (.string pn) := by rw [← hw3]; exact p1
      clear hw3 HB2
      go_region_held3 (fun w' => w'.cell? ⟨w.heap.size, 0, none⟩ = some (.float .f64 ys) ∧ w'.cell? ⟨w.heap.size, 1, none⟩ = some (.string yn) ∧ w'.cell? ⟨b, off + (i - 1) * 2, none⟩ = some (.float .f64 ps) ∧ w'.cell? ⟨b, off + (i - 1) * 2 + 1, none⟩ = some (.string pn))
        (first
          | go_keep
          | (go_split_ands; exact ⟨below_keep hb4 (by assumption), below_keep hb4 (by assumption), below_keep hb4 (by assumption), below_keep hb4 (by assumption)⟩))
        (first
          | (go_at_call 68; refine (HA.out _).mono ?_; rintro e w4 ⟨rfl, hb4⟩))
      go_wp2_with fail
      go_ret
    · exact EPost.mk (m := 4) (by rw [He2.out]; rfl) rfl (HB3.out.trans (((below_a w3).mono HB3.out.size).trans (hb4.mono HB3.out.size)))
    · exact EPost.mk (m := 0) (by rw [He2.out]; rfl) rfl (HB3.out.trans (((below_a w3).mono HB3.out.size).trans (hb4.mono HB3.out.size)))

end Go.Proofs.YtaaeefndhmfceaaDoor
