/- The walk of RecBetter. -/
import Derived.Test.YtjonkchmechecaaDoorRef3a
import Derived.Deep.RegionHeld3
namespace Go.Proofs.YtjonkchmechecaaDoor
open Go.RowKit MM

set_option maxHeartbeats 2000000 in
set_option maxRecDepth 100000 in
theorem recBetter_any (a b c : RC.It) (w : World) (ha : MF.W64 a.score) (hb : MF.W64 b.score) (hc : MF.W64 c.score) (hN : NamesAt w) :
    Calls Tryd.prog 7 #[itV a, itV b, itV c] w fun e w' => e = .returned (.bool true) ∧ Below w.heap.size w w' := by
  have HS := Lib.hid (fun w hN => speaks3_any w hN)
  have Hab := Lib.hid (fun w => better_any a b w ha hb)
  have Hba := Lib.hid (fun w => better_any b a w hb ha)
  have Haa := Lib.hid (fun w => better_any a a w ha ha)
  have Hbc := Lib.hid (fun w => better_any b c w hb hc)
  have Hac := Lib.hid (fun w => better_any a c w ha hc)
  have Rab := Lib.hid (fun w => rahead_any a b w ha hb)
  have Rba := Lib.hid (fun w => rahead_any b a w hb ha)
  have Hirr := Lib.hid (RC.better_irrefl a)
  have HNN := Lib.hid hN
  obtain ⟨sa, na⟩ := a
  obtain ⟨sb, nb⟩ := b
  obtain ⟨sc, nc⟩ := c
  have Htr := Lib.hid (fun h k => RC.better_trans (a := ⟨sa, na⟩) (b := ⟨sb, nb⟩) (c := ⟨sc, nc⟩) h k)
  have Has := Lib.hid (fun h => RC.better_asymm (a := ⟨sa, na⟩) (b := ⟨sb, nb⟩) h)
  clear hN
  rw [Hirr.out] at Haa
  clear Hirr
  generalize hx : RC.better ⟨sa, na⟩ ⟨sb, nb⟩ = x at *
  generalize hy : RC.better ⟨sb, nb⟩ ⟨sa, na⟩ = y at *
  generalize hz : RC.better ⟨sb, nb⟩ ⟨sc, nc⟩ = z at *
  generalize hu : RC.better ⟨sa, na⟩ ⟨sc, nc⟩ = u at *
  clear hx hy hz hu
  go_enter Tryd.func7, Tryd.ntmps7
  go_wp2_with fail
  refine (HS.out _ (HNN.out.below (((below2 w _ _).alloc (by simp only [World.size_alloc]; omega) _)))).mono ?_
  rintro e w1 ⟨rfl, hb1⟩
  have hsz := hb1.size
  simp only [World.size_alloc] at hsz
  have e0 : w1.heap[w.heap.size]? = some (.cells #[.float .f64 sa, .string na] 46 (0, 0)) := (hb1.block _ (by simp only [World.size_alloc]; omega)).trans ((heap_alloc_old _ _ (by simp only [World.size_alloc]; omega)).trans (heap_alloc2_old w _ _))
  have e1 : w1.heap[w.heap.size + 1]? = some (.cells #[.float .f64 sb, .string nb] 46 (0, 0)) := (hb1.block _ (by simp only [World.size_alloc]; omega)).trans ((heap_alloc_old _ _ (by simp only [World.size_alloc]; omega)).trans (heap_alloc2_new w _ _))
  have e2 : w1.heap[w.heap.size + 1 + 1]? = some (.cells #[.float .f64 sc, .string nc] 46 (0, 0)) := (hb1.block _ (by simp only [World.size_alloc]; omega)).trans ((heap_new _ _ _ (by simp)))
  have a0 : w1.cell? ⟨w.heap.size, 0, none⟩ = some (.float .f64 sa) := (cell_of_row w1 _ 0 _ _ (0, 0) e0).trans rfl
  have a1 : w1.cell? ⟨w.heap.size, 1, none⟩ = some (.string na) := (cell_of_row w1 _ 1 _ _ (0, 0) e0).trans rfl
  have b0 : w1.cell? ⟨w.heap.size + 1, 0, none⟩ = some (.float .f64 sb) := (cell_of_row w1 _ 0 _ _ (0, 0) e1).trans rfl
  have b1 : w1.cell? ⟨w.heap.size + 1, 1, none⟩ = some (.string nb) := (cell_of_row w1 _ 1 _ _ (0, 0) e1).trans rfl
  have c0 : w1.cell? ⟨w.heap.size + 1 + 1, 0, none⟩ = some (.float .f64 sc) := (cell_of_row w1 _ 0 _ _ (0, 0) e2).trans rfl
  have c1 : w1.cell? ⟨w.heap.size + 1 + 1, 1, none⟩ = some (.string nc) := (cell_of_row w1 _ 1 _ _ (0, 0) e2).trans rfl
  have HB1 := Lib.hid (show Below w.heap.size w w1 from ((below2 w _ _).alloc (by simp only [World.size_alloc]; omega) _).trans (hb1.mono (by simp only [World.size_alloc]; omega)))
  clear hb1 e0 e1 e2 hsz
  go_wp2_with fail
  go_region_held3 (fun w' => w'.cell? ⟨w.heap.size, 0, none⟩ = some (.float .f64 sa) ∧ w'.cell? ⟨w.heap.size, 1, none⟩ = some (.string na) ∧ w'.cell? ⟨w.heap.size + 1, 0, none⟩ = some (.float .f64 sb) ∧ w'.cell? ⟨w.heap.size + 1, 1, none⟩ = some (.string nb) ∧ w'.cell? ⟨w.heap.size + 1 + 1, 0, none⟩ = some (.float .f64 sc) ∧ w'.cell? ⟨w.heap.size + 1 + 1, 1, none⟩ = some (.string nc))
    (first
      | go_keep
      | (go_split_ands; exact ⟨below_keep hb3 (by assumption), below_keep hb3 (by assumption), below_keep hb3 (by assumption), below_keep hb3 (by assumption), below_keep hb3 (by assumption), below_keep hb3 (by assumption)⟩)
      | (go_split_ands; exact ⟨below_keep hb2 (by assumption), below_keep hb2 (by assumption), below_keep hb2 (by assumption), below_keep hb2 (by assumption), below_keep hb2 (by assumption), below_keep hb2 (by assumption)⟩))
    (first
      | (go_at_call 25; (with_reducible refine (Hab.out _).mono ?_); rintro e w2 ⟨rfl, hb2⟩)
      | (go_at_call 25; (with_reducible refine (Hba.out _).mono ?_); rintro e w3 ⟨rfl, hb3⟩))
  rename_i hH
  obtain ⟨a0, a1, b0, b1, c0, c1⟩ := hH
  have HB3 := Lib.hid (show Below w.heap.size w w3 from HB1.out.trans (((below_a w1).mono HB1.out.size).trans ((hb2.mono HB1.out.size).trans (hb3.mono (Nat.le_trans HB1.out.size hb2.size)))))
  clear hb2 hb3 HB1
  have hxy : ¬ (x = true ∧ y = true) := by
    rintro ⟨rfl, rfl⟩
    exact absurd (Has.out rfl) (by simp)
  cases x
  all_goals cases y
  all_goals try (exact absurd ⟨rfl, rfl⟩ hxy)
  all_goals
    clear hxy
    go_wp2_with fail
    refine (Rab.out _).mono ?_
    rintro e w4 ⟨rfl, hb4⟩
    replace a0 := below_keep hb4 a0
    replace a1 := below_keep hb4 a1
    replace b0 := below_keep hb4 b0
    replace b1 := below_keep hb4 b1
    replace c0 := below_keep hb4 c0
    replace c1 := below_keep hb4 c1
    have HB4 := Lib.hid (HB3.out.trans (hb4.mono HB3.out.size))
    clear hb4 HB3
    go_wp2_with fail
    refine (Rba.out _).mono ?_
    rintro e w5 ⟨rfl, hb5⟩
    replace a0 := below_keep hb5 a0
    replace a1 := below_keep hb5 a1
    replace b0 := below_keep hb5 b0
    replace b1 := below_keep hb5 b1
    replace c0 := below_keep hb5 c0
    replace c1 := below_keep hb5 c1
    have HB5 := Lib.hid (HB4.out.trans (hb5.mono HB4.out.size))
    clear hb5 HB4
    go_wp2_with fail
    refine (Haa.out _).mono ?_
    rintro e w6 ⟨rfl, hb6⟩
    replace a0 := below_keep hb6 a0
    replace a1 := below_keep hb6 a1
    replace b0 := below_keep hb6 b0
    replace b1 := below_keep hb6 b1
    replace c0 := below_keep hb6 c0
    replace c1 := below_keep hb6 c1
    have HB6 := Lib.hid (HB5.out.trans (hb6.mono HB5.out.size))
    clear hb6 HB5
    go_wp2_with fail
  · go_ret
    exact ⟨rfl, HB6.out⟩
  · go_ret
    exact ⟨rfl, HB6.out⟩
  · refine (Hbc.out _).mono ?_
    rintro e w7 ⟨rfl, hb7⟩
    replace a0 := below_keep hb7 a0
    replace a1 := below_keep hb7 a1
    replace c0 := below_keep hb7 c0
    replace c1 := below_keep hb7 c1
    have HB7 := Lib.hid (HB6.out.trans (hb7.mono HB6.out.size))
    clear hb7 HB6
    cases z
    · go_wp2_with fail
      go_ret
      exact ⟨rfl, HB7.out⟩
    · have hu : u = true := Htr.out (by trivial) (by trivial)
      subst hu
      go_wp2_with fail
      refine (Hac.out _).mono ?_
      rintro e w8 ⟨rfl, hb8⟩
      go_wp2_with fail
      go_ret
      exact ⟨rfl, HB7.out.trans (hb8.mono HB7.out.size)⟩

end Go.Proofs.YtjonkchmechecaaDoor
