/- Layer 5's statements' own head: speaks. -/
import Derived.Test.YtofaonknfihaiaaDoorSp5
namespace Go.Proofs.YtofaonknfihaiaaDoor
open Go.RowKit MM

def sp5r : RC.Rc := ⟨4, 2, 0, 9, 0, 0, ⟨#[]⟩, []⟩
def sp5a : AC.Ac := ⟨11, ⟨#[97]⟩, 3, 0, ⟨#[]⟩, RC.zero, false⟩
def sp5m : RC.Rc := ⟨2, 5, 0, 0, 0, 0, ⟨#[]⟩, []⟩
def sp5n : RC.Rc := ⟨2, 7, 0, 0, 0, 0, ⟨#[]⟩, []⟩
def sp5b : AC.Ac := ⟨1, ⟨#[97]⟩, 0, 0, ⟨#[]⟩, sp5m, false⟩
def sp5c : AC.Ac := ⟨7, ⟨#[97]⟩, 2, 0, ⟨#[]⟩, RC.zero, false⟩
theorem sp5r_ok : sp5r.ok := ⟨rfl, rfl, rfl, rfl, w0, rfl, fun x h => by cases h⟩
theorem sp5m_ok : sp5m.ok := ⟨rfl, rfl, rfl, rfl, w0, rfl, fun x h => by cases h⟩
theorem sp5a_ok : sp5a.ok := ⟨rfl, rfl, w0, RC.zero_ok⟩
theorem sp5b_ok : sp5b.ok := ⟨rfl, rfl, w0, sp5m_ok⟩
theorem sp5c_ok : sp5c.ok := ⟨rfl, rfl, w0, RC.zero_ok⟩
theorem sp5_app : RU.apply sp5r true sp5a = (sp5r, true, RU.err 10) := by kernel_rfl
theorem sp5_st : RU.st RC.zero false [sp5b, sp5c] 2 = (sp5n, true, [RU.err 0, RU.err 0]) := by kernel_rfl
theorem sp5_act {w : World} {a : AC.Ac} {c : Nat} (h : a.ok) (h1 : a.key.size ≤ maxLen) (h2 : a.s.size ≤ maxLen) (h3 : a.make.list = []) (h4 : a.make.text.size ≤ maxLen) : ActIn w a none c := ⟨h, ⟨h.make, by rw [h3]; exact Its.nil _ _, by rw [h3]; exact Nat.zero_le _, h4, by rw [h3]; intro x hx; cases hx⟩, h1, h2⟩

set_option maxHeartbeats 4000000 in
set_option maxRecDepth 100000 in
theorem speaks5_any (w : World) (hR : RowsAt w) :
    Calls Tryd.prog 7 #[] w fun e w' => e = .returned (.bool true) ∧ Below w.heap.size w w' := by
  have HR := Lib.hid hR
  clear hR
  go_enter Tryd.func7, Tryd.ntmps7
  go_wp2_with fail
  refine (apply_any sp5r true sp5a none none 0 0 w sp5r_ok sp5a_ok HR.out (Its.nil _ _) (Its.nil _ _) (by unfold Lim; decide) (by unfold Lim; decide) (by unfold Lim; decide) (by unfold Lim; decide)).mono ?_
  rw [sp5_app]
  rintro e w1 ⟨A1, c1, B, cb, rfl, ho1, ho2, hn1, hn2, hb1⟩
  have HB1 := Lib.hid hb1
  have hs1 := hb1.size
  clear ho1 ho2 hn1 hn2 hb1
  have g1 : sp5r.num = 2 := rfl
  have g2 : ((RU.err 10).code : Int) = 10 := rfl
  have HA := Lib.hid (show ∀ X Y, ActsIn (((w1.alloc X).alloc Y).alloc (.cells (actC2 sp5b none 0 sp5c none 0) 31)) (some ⟨w1.heap.size + 1 + 1, 0, none⟩) [⟨sp5b, none, 0⟩, ⟨sp5c, none, 0⟩] from fun X Y => by
    have h := acts_two (w := (w1.alloc X).alloc Y) 31 (sp5_act (c := 0) sp5b_ok (by unfold maxLen; decide) (by unfold maxLen; decide) rfl (by unfold maxLen; decide)) (sp5_act (c := 0) sp5c_ok (by unfold maxLen; decide) (by unfold maxLen; decide) rfl (by unfold maxLen; decide))
    rw [World.size_alloc, World.size_alloc] at h
    exact h)
  go_wp2_with fail
  refine (row_any RC.zero false [⟨sp5b, none, 0⟩, ⟨sp5c, none, 0⟩] none (some ⟨w1.heap.size + 1 + 1, 0, none⟩) 0 2 _ RC.zero_ok (HR.out.below (HB1.out.trans ((below3 w1 _ _ _).mono hs1))) (Its.nil _ _) (by unfold Lim; decide) (HA.out _ _) (by simp) (fun x hx => by
    simp at hx
    rcases hx with rfl | rfl
    · exact ⟨by unfold Lim; decide, by unfold Lim; decide, by unfold Lim; decide⟩
    · exact ⟨by unfold Lim; decide, by unfold Lim; decide, by unfold Lim; decide⟩)).mono ?_
  rintro e w2 ⟨q, t, A2, c2, ys, B2, cb2, rfl, hst, hyl, ho, hans, hits, hqk, hql, hyk, hnA, hnB, hb2⟩
  have hst' : (q, t, ys.map (fun y => y.x)) = (sp5n, true, [RU.err 0, RU.err 0]) := hst.symm.trans sp5_st
  simp only [Prod.mk.injEq] at hst'
  obtain ⟨rfl, rfl, hys⟩ := hst'
  match ys, hyl with
  | [⟨x0, A3, c3⟩, ⟨x1, A4, c4⟩], _ =>
  simp only [List.map_cons, List.map_nil, List.cons.injEq, and_true] at hys
  obtain ⟨rfl, rfl⟩ := hys
  obtain ⟨g, hg, hgl, hcell⟩ := own_cell hans (by simp)
  subst hg
  have r0 := fun o v (h : (An.cells ⟨RU.err 0, A3, c3⟩)[o]? = some v) => hcell _ _ (anCells_at [⟨RU.err 0, A3, c3⟩, ⟨RU.err 0, A4, c4⟩] 0 _ rfl o v h)
  have r1 := hcell _ _ (anCells_at [⟨RU.err 0, A3, c3⟩, ⟨RU.err 0, A4, c4⟩] 1 _ rfl 0 (.int .i64 0) rfl)
  have j0 : w2.cell? ⟨g, 0, none⟩ = some (.int .i64 0) := r0 0 _ rfl
  have j1 : w2.cell? ⟨g, 1, none⟩ = some (.int .i64 0) := r0 1 _ rfl
  have j2 : w2.cell? ⟨g, 2, none⟩ = some (.int .i64 0) := r0 2 _ rfl
  have j3 : w2.cell? ⟨g, 3, none⟩ = some (.int .i64 0) := r0 3 _ rfl
  have j4 : w2.cell? ⟨g, 4, none⟩ = some (.int .i64 0) := r0 4 _ rfl
  have j5 : w2.cell? ⟨g, 5, none⟩ = some (.int .i64 0) := r0 5 _ rfl
  have j6 : w2.cell? ⟨g, 6, none⟩ = some (.float .f64 0) := r0 6 _ rfl
  have j7 : w2.cell? ⟨g, 7, none⟩ = some (.int .i64 0) := r0 7 _ rfl
  have j8 : w2.cell? ⟨g, 8, none⟩ = some (.string ⟨#[]⟩) := r0 8 _ rfl
  have j9 : w2.cell? ⟨g, 9, none⟩ = some (.slice A3 0 c3) := r0 9 _ rfl
  have k0 : w2.cell? ⟨g, 10, none⟩ = some (.int .i64 0) := r1
  have g3 : sp5n.num = 7 := rfl
  have hs2 := hb2.size
  simp only [World.size_alloc] at hs2
  have e0 := (hb2.block w1.heap.size (by simp only [World.size_alloc]; omega)).trans ((heap_alloc_old _ _ (by simp only [World.size_alloc]; omega)).trans (heap_alloc2_old w1 _ _))
  have d0 := fun o => cell_of_row w2 _ o _ _ (0, 0) e0
  have f0 : ∀ o, w2.frozen? ⟨w1.heap.size, o, none⟩ = false := fun o => frozen_of_row _ _ o _ _ e0
  have HB2 := Lib.hid (show Below w.heap.size w w2 from (HB1.out.trans ((below3 w1 _ _ _).mono hs1)).trans (hb2.mono (by simp only [World.size_alloc]; omega)))
  have hgn : w1.heap.size ≠ g := fun e => by
    have := hnB g rfl
    simp only [World.size_alloc] at this
    omega
  have hgn' := hgn.symm
  have HIt := Lib.hid (hits ⟨RU.err 0, A3, c3⟩ (List.mem_cons_self ..))
  clear hst ho hans hits hqk hql hyk hnA hnB hb2 hcell r0 r1 e0 HA
  go_wp2_with fail
  generalize hwz : World.setCell _ _ _ = wz
  have hk : Kp (fun k => k = w1.heap.size) w2 wz := by rw [← hwz]; exact kp8g (Kp.refl _ _) (Or.inl rfl)
  have k1 : wz.cell? ⟨g, 10, none⟩ = some (.int .i64 0) := hk.cell k0 hgn'
  have HB3 := Lib.hid (show Below w.heap.size w wz from HB2.out.trans (hk.below (by omega) (fun i hi x => by omega)))
  clear hwz hk j0 j1 j2 j3 j4 j5 j6 j7 j8 j9 k0 d0 f0
  refine (ruleSame_any (RU.err 0) (RU.err 0) A3 none c3 0 _ RC.zero_ok RC.zero_ok (Its.nil _ _) (Its.nil _ _) (by unfold Lim; decide)).mono ?_
  rw [show RU.sameAns (RU.err 0) (RU.err 0) = true by decide +kernel]
  rintro e w3 ⟨rfl, hb3⟩
  have k2 := below_keep hb3 k1
  have HB4 := Lib.hid (HB3.out.trans (hb3.mono HB3.out.size))
  clear hb3 k1
  go_wp2_with fail
  go_ret
  exact ⟨rfl, HB4.out⟩

end Go.Proofs.YtofaonknfihaiaaDoor
