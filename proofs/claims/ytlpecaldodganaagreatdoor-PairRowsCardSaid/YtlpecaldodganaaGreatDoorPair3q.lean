/- Contracts of package pair: does it matter which of two acts is first? -/
import Derived.Test.YtlpecaldodganaaGreatDoorRuWq
import Derived.Test.YtlpecaldodganaaGreatDoorSpFq
namespace Go.Proofs.YtlpecaldodganaaGreatDoor
open Go.RowKit MM
set_option linter.unusedVariables false
set_option linter.unusedSimpArgs false
/-- Does it matter which of two acts is first? -/
def RU.differs (r : RC.Rc) (t : Bool) (a b : AC.Ac) : Bool :=
  ((RU.apply (RU.apply r t a).1 (RU.apply r t a).2.1 b).2.1 != (RU.apply (RU.apply r t b).1 (RU.apply r t b).2.1 a).2.1) || !RC.same (RU.apply (RU.apply r t a).1 (RU.apply r t a).2.1 b).1 (RU.apply (RU.apply r t b).1 (RU.apply r t b).2.1 a).1 || !RU.sameAns (RU.apply r t a).2.2 (RU.apply (RU.apply r t b).1 (RU.apply r t b).2.1 a).2.2 || !RU.sameAns (RU.apply (RU.apply r t a).1 (RU.apply r t a).2.1 b).2.2 (RU.apply r t b).2.2
theorem apply_own (r : RC.Rc) (t : Bool) (a : AC.Ac) : RU.apply (ownR r t) t a = RU.apply r t a := by
  unfold RU.apply
  rw [show ownR (ownR r t) t = ownR r t by cases t <;> rfl]
theorem st_row2 (r : RC.Rc) (t : Bool) (a b : AC.Ac) : RU.st (ownR r t) t [a, b] 2 = ((RU.apply (RU.apply r t a).1 (RU.apply r t a).2.1 b).1, (RU.apply (RU.apply r t a).1 (RU.apply r t a).2.1 b).2.1, [(RU.apply r t a).2.2, (RU.apply (RU.apply r t a).1 (RU.apply r t a).2.1 b).2.2]) := by
  rw [RU.st_next _ _ _ 1 b rfl, RU.st_next _ _ _ 0 a rfl]
  simp [RU.st, apply_own]
set_option linter.unusedSimpArgs false in
set_option maxHeartbeats 16000000 in
set_option maxRecDepth 100000 in
theorem pairDiffers_any (r : RC.Rc) (t : Bool) (a b : AC.Ac) (A La Lb : Option Addr) (c ca cb : Nat) (w : World) (hr : r.ok) (hA : Its w A r.list) (n1 : Lim r.list.length) (ha : ActIn w a La ca) (hb : ActIn w b Lb cb) (sa : Lim a.make.list.length ∧ Lim a.key.size ∧ Lim a.s.size) (sb : Lim b.make.list.length ∧ Lim b.key.size ∧ Lim b.s.size) (hR : RowsAt w) :
    Calls Tryz.prog 15 #[recV r A c, .bool t, actV a La ca, actV b Lb cb] w fun e w' => e = .returned (.bool (RU.differs r t a b)) ∧ Below w.heap.size w w' := by
  have HR := Lib.hid hR
  have HI := Lib.hid hA
  have HJ := Lib.hid ha
  have HK := Lib.hid hb
  have HRo := Lib.hid hr
  have HN := Lib.hid n1
  have HSa := Lib.hid sa
  have HSb := Lib.hid sb
  have HD := Lib.hid (show RU.differs r t a b = (((RU.apply (RU.apply r t a).1 (RU.apply r t a).2.1 b).2.1 != (RU.apply (RU.apply r t b).1 (RU.apply r t b).2.1 a).2.1) || !RC.same (RU.apply (RU.apply r t a).1 (RU.apply r t a).2.1 b).1 (RU.apply (RU.apply r t b).1 (RU.apply r t b).2.1 a).1 || !RU.sameAns (RU.apply r t a).2.2 (RU.apply (RU.apply r t b).1 (RU.apply r t b).2.1 a).2.2 || !RU.sameAns (RU.apply (RU.apply r t a).1 (RU.apply r t a).2.1 b).2.2 (RU.apply r t b).2.2) from rfl)
  have HT1 := Lib.hid (st_row2 r t a b)
  have HT2 := Lib.hid (st_row2 r t b a)
  generalize RU.differs r t a b = V at *
  clear hR hA ha hb hr n1 sa sb
  have HA1 := Lib.hid (show ∀ X Y Z, ActsIn ((((w.alloc X).alloc Y).alloc Z).alloc (.cells (actC2 a La ca b Lb cb) 27)) (some ⟨w.heap.size + 3, 0, none⟩) [⟨a, La, ca⟩, ⟨b, Lb, cb⟩] from fun X Y Z => by
    have hbx : Below w.heap.size w (((w.alloc X).alloc Y).alloc Z) := (below2 w X Y).alloc (by simp only [World.size_alloc]; omega) Z
    have h := acts_two (w := ((w.alloc X).alloc Y).alloc Z) 27 (HJ.out.keep hbx) (HK.out.keep hbx)
    simp only [World.size_alloc] at h
    exact h)
  have HRw := Lib.hid (fun u L cl (bw : Below w.heap.size w u) (hl : ActsIn u L [⟨a, La, ca⟩, ⟨b, Lb, cb⟩]) => row_any r t [⟨a, La, ca⟩, ⟨b, Lb, cb⟩] A L c cl u HRo.out (HR.out.below bw) (HI.out.below bw) HN.out hl (by simp) (fun x hx => by
    simp at hx
    rcases hx with rfl | rfl
    · exact HSa.out
    · exact HSb.out))
  have HRx := Lib.hid (fun u L cl (bw : Below w.heap.size w u) (hl : ActsIn u L [⟨b, Lb, cb⟩, ⟨a, La, ca⟩]) => row_any r t [⟨b, Lb, cb⟩, ⟨a, La, ca⟩] A L c cl u HRo.out (HR.out.below bw) (HI.out.below bw) HN.out hl (by simp) (fun x hx => by
    simp at hx
    rcases hx with rfl | rfl
    · exact HSb.out
    · exact HSa.out))
  go_enter Tryz.func15, Tryz.ntmps15
  go_wp2_with fail
  refine (HRw.out _ (some ⟨w.heap.size + 3, 0, none⟩) 2 ((below4 w _ _ _ _)) (HA1.out _ _ _)).mono ?_
  rintro e w5 ⟨q1, t1, A5, c5, ys, B5, cb5, rfl, hst, hyl, ho, hans, hits, hqk, hql, hyk, hnA, hnB, hb5⟩
  have hst' : RU.st (ownR r t) t [a, b] 2 = (q1, t1, ys.map (fun y => y.x)) := hst
  rw [HT1.out] at hst'
  obtain ⟨hq1, ht1, hx1⟩ := Prod.mk.inj hst' |>.imp_right Prod.mk.inj
  rcases ys with _ | ⟨⟨x0, A6, c6⟩, _ | ⟨⟨x1, A7, c7⟩, _ | ⟨y2, ys⟩⟩⟩
  · simp at hx1
  · simp at hx1
  rotate_left
  · simp at hx1
  simp only [List.map_cons, List.map_nil, List.cons.injEq, and_true] at hx1
  obtain ⟨hx0, hx1⟩ := hx1
  obtain ⟨g, hg, hgl, hcell⟩ := own_cell hans (by simp)
  subst hg
  rw [hq1, ht1, hx0, hx1] at HD
  have hs5 := hb5.size
  simp only [World.size_alloc] at hs5
  have HB5 := Lib.hid (show Below w.heap.size w w5 from (below4 w _ _ _ _).trans (hb5.mono (by simp only [World.size_alloc]; omega)))
  have E4 := Lib.hid ((hb5.block w.heap.size (by simp only [World.size_alloc]; omega)).trans ((heap_alloc_old _ _ (by simp only [World.size_alloc]; omega)).trans ((heap_alloc_old _ _ (by simp only [World.size_alloc]; omega)).trans (heap_alloc2_old w _ _))))
  have E6 := Lib.hid ((hb5.block (w.heap.size + 1) (by simp only [World.size_alloc]; omega)).trans ((heap_alloc_old _ _ (by simp only [World.size_alloc]; omega)).trans ((heap_alloc_old _ _ (by simp only [World.size_alloc]; omega)).trans (heap_alloc2_new w _ _))))
  have E7 := Lib.hid ((hb5.block (w.heap.size + 1 + 1) (by simp only [World.size_alloc]; omega)).trans ((heap_alloc_old _ _ (by simp only [World.size_alloc]; omega)).trans (heap_new _ _ _ (by simp))))
  have HO5 := Lib.hid (show Its w5 A5 q1.list from Its.own ho)
  have HQ1 := Lib.hid (show q1.ok ∧ Lim q1.list.length from ⟨hqk, hql⟩)
  have HY0 := Lib.hid (show Its w5 A6 x0.rc.list from hits ⟨x0, A6, c6⟩ (by simp))
  have HY1 := Lib.hid (show Its w5 A7 x1.rc.list from hits ⟨x1, A7, c7⟩ (by simp))
  have HX0 := Lib.hid (show x0.rc.ok ∧ Lim x0.rc.list.length from hyk ⟨x0, A6, c6⟩ (by simp))
  have HX1 := Lib.hid (show x1.rc.ok ∧ Lim x1.rc.list.length from hyk ⟨x1, A7, c7⟩ (by simp))
  have j0 := Lib.hid (show w5.cell? ⟨g, 0, none⟩ = some (.int .i64 x0.code) from hcell _ _ (anCells_at [⟨x0, A6, c6⟩, ⟨x1, A7, c7⟩] 0 _ rfl 0 _ rfl))
  have j1 := Lib.hid (show w5.cell? ⟨g, 1, none⟩ = some (.int .i64 x0.num) from hcell _ _ (anCells_at [⟨x0, A6, c6⟩, ⟨x1, A7, c7⟩] 0 _ rfl 1 _ rfl))
  have j2 := Lib.hid (show w5.cell? ⟨g, 2, none⟩ = some (.int .i64 x0.rc.kind) from hcell _ _ (anCells_at [⟨x0, A6, c6⟩, ⟨x1, A7, c7⟩] 0 _ rfl 2 _ rfl))
  have j3 := Lib.hid (show w5.cell? ⟨g, 3, none⟩ = some (.int .i64 x0.rc.num) from hcell _ _ (anCells_at [⟨x0, A6, c6⟩, ⟨x1, A7, c7⟩] 0 _ rfl 3 _ rfl))
  have j4 := Lib.hid (show w5.cell? ⟨g, 4, none⟩ = some (.int .i64 x0.rc.low) from hcell _ _ (anCells_at [⟨x0, A6, c6⟩, ⟨x1, A7, c7⟩] 0 _ rfl 4 _ rfl))
  have j5 := Lib.hid (show w5.cell? ⟨g, 5, none⟩ = some (.int .i64 x0.rc.high) from hcell _ _ (anCells_at [⟨x0, A6, c6⟩, ⟨x1, A7, c7⟩] 0 _ rfl 5 _ rfl))
  have j6 := Lib.hid (show w5.cell? ⟨g, 6, none⟩ = some (.float .f64 x0.rc.real) from hcell _ _ (anCells_at [⟨x0, A6, c6⟩, ⟨x1, A7, c7⟩] 0 _ rfl 6 _ rfl))
  have j7 := Lib.hid (show w5.cell? ⟨g, 7, none⟩ = some (.int .i64 x0.rc.cap) from hcell _ _ (anCells_at [⟨x0, A6, c6⟩, ⟨x1, A7, c7⟩] 0 _ rfl 7 _ rfl))
  have j8 := Lib.hid (show w5.cell? ⟨g, 8, none⟩ = some (.string x0.rc.text) from hcell _ _ (anCells_at [⟨x0, A6, c6⟩, ⟨x1, A7, c7⟩] 0 _ rfl 8 _ rfl))
  have j9 := Lib.hid (show w5.cell? ⟨g, 9, none⟩ = some (.slice A6 x0.rc.list.length c6) from hcell _ _ (anCells_at [⟨x0, A6, c6⟩, ⟨x1, A7, c7⟩] 0 _ rfl 9 _ rfl))
  have j10 := Lib.hid (show w5.cell? ⟨g, 10, none⟩ = some (.int .i64 x1.code) from hcell _ _ (anCells_at [⟨x0, A6, c6⟩, ⟨x1, A7, c7⟩] 1 _ rfl 0 _ rfl))
  have j11 := Lib.hid (show w5.cell? ⟨g, 11, none⟩ = some (.int .i64 x1.num) from hcell _ _ (anCells_at [⟨x0, A6, c6⟩, ⟨x1, A7, c7⟩] 1 _ rfl 1 _ rfl))
  have j12 := Lib.hid (show w5.cell? ⟨g, 12, none⟩ = some (.int .i64 x1.rc.kind) from hcell _ _ (anCells_at [⟨x0, A6, c6⟩, ⟨x1, A7, c7⟩] 1 _ rfl 2 _ rfl))
  have j13 := Lib.hid (show w5.cell? ⟨g, 13, none⟩ = some (.int .i64 x1.rc.num) from hcell _ _ (anCells_at [⟨x0, A6, c6⟩, ⟨x1, A7, c7⟩] 1 _ rfl 3 _ rfl))
  have j14 := Lib.hid (show w5.cell? ⟨g, 14, none⟩ = some (.int .i64 x1.rc.low) from hcell _ _ (anCells_at [⟨x0, A6, c6⟩, ⟨x1, A7, c7⟩] 1 _ rfl 4 _ rfl))
  have j15 := Lib.hid (show w5.cell? ⟨g, 15, none⟩ = some (.int .i64 x1.rc.high) from hcell _ _ (anCells_at [⟨x0, A6, c6⟩, ⟨x1, A7, c7⟩] 1 _ rfl 5 _ rfl))
  have j16 := Lib.hid (show w5.cell? ⟨g, 16, none⟩ = some (.float .f64 x1.rc.real) from hcell _ _ (anCells_at [⟨x0, A6, c6⟩, ⟨x1, A7, c7⟩] 1 _ rfl 6 _ rfl))
  have j17 := Lib.hid (show w5.cell? ⟨g, 17, none⟩ = some (.int .i64 x1.rc.cap) from hcell _ _ (anCells_at [⟨x0, A6, c6⟩, ⟨x1, A7, c7⟩] 1 _ rfl 7 _ rfl))
  have j18 := Lib.hid (show w5.cell? ⟨g, 18, none⟩ = some (.string x1.rc.text) from hcell _ _ (anCells_at [⟨x0, A6, c6⟩, ⟨x1, A7, c7⟩] 1 _ rfl 8 _ rfl))
  have j19 := Lib.hid (show w5.cell? ⟨g, 19, none⟩ = some (.slice A7 x1.rc.list.length c7) from hcell _ _ (anCells_at [⟨x0, A6, c6⟩, ⟨x1, A7, c7⟩] 1 _ rfl 9 _ rfl))
  have k4 := fun p o => cell_of_row (w5.alloc p) _ o _ _ (0, 0) ((heap_alloc_old w5 p (lt_of_heap E4.out)).trans E4.out)
  have k6 := fun p o => cell_of_row (w5.alloc p) _ o _ _ (0, 0) ((heap_alloc_old w5 p (lt_of_heap E6.out)).trans E6.out)
  have k7 := fun p o => cell_of_row (w5.alloc p) _ o _ _ (0, 0) ((heap_alloc_old w5 p (lt_of_heap E7.out)).trans E7.out)
  have HA2 := Lib.hid (show ∀ X, ActsIn ((w5.alloc X).alloc (.cells (actC2 b Lb cb a La ca) 27)) (some ⟨w5.heap.size + 1, 0, none⟩) [⟨b, Lb, cb⟩, ⟨a, La, ca⟩] from fun X => by
    have hbx : Below w.heap.size w (w5.alloc X) := HB5.out.trans ((below1 w5 X).mono HB5.out.size)
    have h := acts_two (w := w5.alloc X) 27 (HK.out.keep hbx) (HJ.out.keep hbx)
    simp only [World.size_alloc] at h
    exact h)
  clear hst hst' hyl ho hans hits hqk hql hyk hnA hnB hcell hq1 ht1 hx0 hx1 HA1 HRw HT1 hb5
  go_wp2_with fail
  refine (HRx.out _ (some ⟨w5.heap.size + 1, 0, none⟩) 2 (HB5.out.trans ((below2 w5 _ _).mono HB5.out.size)) (HA2.out _)).mono ?_
  generalize hwx : World.alloc w5 _ = wx
  have hbx : Below w5.heap.size w5 wx := by rw [← hwx]; exact below1 w5 _
  have hsx : wx.heap.size = w5.heap.size + 1 := by rw [← hwx]; simp
  have F9 := Lib.hid (show wx.heap[w5.heap.size]? = some (.cells (recC q1.kind q1.num q1.low q1.high q1.real q1.cap q1.text (.slice A5 q1.list.length c5)) 25 (0, 0)) by rw [← hwx]; exact heap_alloc_new w5 _)
  clear hwx k4 k6 k7 HA2 HRx
  rintro e w6 ⟨q2, t2, A8, c8, zs, B8, cb8, rfl, hst, hyl, ho, hans, hits, hqk, hql, hyk, hnA, hnB, hb6⟩
  have hst' : RU.st (ownR r t) t [b, a] 2 = (q2, t2, zs.map (fun y => y.x)) := hst
  rw [HT2.out] at hst'
  obtain ⟨hq1, ht1, hx1⟩ := Prod.mk.inj hst' |>.imp_right Prod.mk.inj
  rcases zs with _ | ⟨⟨z0, D0, d0⟩, _ | ⟨⟨z1, D1, d1⟩, _ | ⟨y2, ys⟩⟩⟩
  · simp at hx1
  · simp at hx1
  rotate_left
  · simp at hx1
  simp only [List.map_cons, List.map_nil, List.cons.injEq, and_true] at hx1
  obtain ⟨hx0, hx1⟩ := hx1
  obtain ⟨g', hg, hgl', hcell⟩ := own_cell hans (by simp)
  subst hg
  rw [hq1, ht1, hx0, hx1] at HD
  have hs6 := hb6.size
  simp only [World.size_alloc] at hs6
  have hb56 : Below w5.heap.size w5 w6 := hbx.trans (((below1 wx _).mono (by omega)).trans (hb6.mono (by simp only [World.size_alloc]; omega)))
  have G9 := Lib.hid ((hb6.block w5.heap.size (by simp only [World.size_alloc]; omega)).trans ((heap_alloc_old wx _ (by omega)).trans F9.out))
  have HB6 := Lib.hid (show Below w.heap.size w w6 from HB5.out.trans (hb56.mono HB5.out.size))
  have HP1 := Lib.hid (HO5.out.below hb56)
  have HP2 := Lib.hid (show Its w6 A8 q2.list from Its.own ho)
  have HQ2 := Lib.hid (show q2.ok ∧ Lim q2.list.length from ⟨hqk, hql⟩)
  have HW0 := Lib.hid (HY0.out.below hb56)
  have HW1 := Lib.hid (HY1.out.below hb56)
  have HZ0 := Lib.hid (show Its w6 D0 z0.rc.list from hits ⟨z0, D0, d0⟩ (by simp))
  have HZ1 := Lib.hid (show Its w6 D1 z1.rc.list from hits ⟨z1, D1, d1⟩ (by simp))
  have HV0 := Lib.hid (show z0.rc.ok ∧ Lim z0.rc.list.length from hyk ⟨z0, D0, d0⟩ (by simp))
  have HV1 := Lib.hid (show z1.rc.ok ∧ Lim z1.rc.list.length from hyk ⟨z1, D1, d1⟩ (by simp))
  have j0 := Lib.hid (below_keep hb56 j0.out)
  have j1 := Lib.hid (below_keep hb56 j1.out)
  have j2 := Lib.hid (below_keep hb56 j2.out)
  have j3 := Lib.hid (below_keep hb56 j3.out)
  have j4 := Lib.hid (below_keep hb56 j4.out)
  have j5 := Lib.hid (below_keep hb56 j5.out)
  have j6 := Lib.hid (below_keep hb56 j6.out)
  have j7 := Lib.hid (below_keep hb56 j7.out)
  have j8 := Lib.hid (below_keep hb56 j8.out)
  have j9 := Lib.hid (below_keep hb56 j9.out)
  have j10 := Lib.hid (below_keep hb56 j10.out)
  have j11 := Lib.hid (below_keep hb56 j11.out)
  have j12 := Lib.hid (below_keep hb56 j12.out)
  have j13 := Lib.hid (below_keep hb56 j13.out)
  have j14 := Lib.hid (below_keep hb56 j14.out)
  have j15 := Lib.hid (below_keep hb56 j15.out)
  have j16 := Lib.hid (below_keep hb56 j16.out)
  have j17 := Lib.hid (below_keep hb56 j17.out)
  have j18 := Lib.hid (below_keep hb56 j18.out)
  have j19 := Lib.hid (below_keep hb56 j19.out)
  have i0 := Lib.hid (show w6.cell? ⟨g', 0, none⟩ = some (.int .i64 z0.code) from hcell _ _ (anCells_at [⟨z0, D0, d0⟩, ⟨z1, D1, d1⟩] 0 _ rfl 0 _ rfl))
  have i1 := Lib.hid (show w6.cell? ⟨g', 1, none⟩ = some (.int .i64 z0.num) from hcell _ _ (anCells_at [⟨z0, D0, d0⟩, ⟨z1, D1, d1⟩] 0 _ rfl 1 _ rfl))
  have i2 := Lib.hid (show w6.cell? ⟨g', 2, none⟩ = some (.int .i64 z0.rc.kind) from hcell _ _ (anCells_at [⟨z0, D0, d0⟩, ⟨z1, D1, d1⟩] 0 _ rfl 2 _ rfl))
  have i3 := Lib.hid (show w6.cell? ⟨g', 3, none⟩ = some (.int .i64 z0.rc.num) from hcell _ _ (anCells_at [⟨z0, D0, d0⟩, ⟨z1, D1, d1⟩] 0 _ rfl 3 _ rfl))
  have i4 := Lib.hid (show w6.cell? ⟨g', 4, none⟩ = some (.int .i64 z0.rc.low) from hcell _ _ (anCells_at [⟨z0, D0, d0⟩, ⟨z1, D1, d1⟩] 0 _ rfl 4 _ rfl))
  have i5 := Lib.hid (show w6.cell? ⟨g', 5, none⟩ = some (.int .i64 z0.rc.high) from hcell _ _ (anCells_at [⟨z0, D0, d0⟩, ⟨z1, D1, d1⟩] 0 _ rfl 5 _ rfl))
  have i6 := Lib.hid (show w6.cell? ⟨g', 6, none⟩ = some (.float .f64 z0.rc.real) from hcell _ _ (anCells_at [⟨z0, D0, d0⟩, ⟨z1, D1, d1⟩] 0 _ rfl 6 _ rfl))
  have i7 := Lib.hid (show w6.cell? ⟨g', 7, none⟩ = some (.int .i64 z0.rc.cap) from hcell _ _ (anCells_at [⟨z0, D0, d0⟩, ⟨z1, D1, d1⟩] 0 _ rfl 7 _ rfl))
  have i8 := Lib.hid (show w6.cell? ⟨g', 8, none⟩ = some (.string z0.rc.text) from hcell _ _ (anCells_at [⟨z0, D0, d0⟩, ⟨z1, D1, d1⟩] 0 _ rfl 8 _ rfl))
  have i9 := Lib.hid (show w6.cell? ⟨g', 9, none⟩ = some (.slice D0 z0.rc.list.length d0) from hcell _ _ (anCells_at [⟨z0, D0, d0⟩, ⟨z1, D1, d1⟩] 0 _ rfl 9 _ rfl))
  have i10 := Lib.hid (show w6.cell? ⟨g', 10, none⟩ = some (.int .i64 z1.code) from hcell _ _ (anCells_at [⟨z0, D0, d0⟩, ⟨z1, D1, d1⟩] 1 _ rfl 0 _ rfl))
  have i11 := Lib.hid (show w6.cell? ⟨g', 11, none⟩ = some (.int .i64 z1.num) from hcell _ _ (anCells_at [⟨z0, D0, d0⟩, ⟨z1, D1, d1⟩] 1 _ rfl 1 _ rfl))
  have i12 := Lib.hid (show w6.cell? ⟨g', 12, none⟩ = some (.int .i64 z1.rc.kind) from hcell _ _ (anCells_at [⟨z0, D0, d0⟩, ⟨z1, D1, d1⟩] 1 _ rfl 2 _ rfl))
  have i13 := Lib.hid (show w6.cell? ⟨g', 13, none⟩ = some (.int .i64 z1.rc.num) from hcell _ _ (anCells_at [⟨z0, D0, d0⟩, ⟨z1, D1, d1⟩] 1 _ rfl 3 _ rfl))
  have i14 := Lib.hid (show w6.cell? ⟨g', 14, none⟩ = some (.int .i64 z1.rc.low) from hcell _ _ (anCells_at [⟨z0, D0, d0⟩, ⟨z1, D1, d1⟩] 1 _ rfl 4 _ rfl))
  have i15 := Lib.hid (show w6.cell? ⟨g', 15, none⟩ = some (.int .i64 z1.rc.high) from hcell _ _ (anCells_at [⟨z0, D0, d0⟩, ⟨z1, D1, d1⟩] 1 _ rfl 5 _ rfl))
  have i16 := Lib.hid (show w6.cell? ⟨g', 16, none⟩ = some (.float .f64 z1.rc.real) from hcell _ _ (anCells_at [⟨z0, D0, d0⟩, ⟨z1, D1, d1⟩] 1 _ rfl 6 _ rfl))
  have i17 := Lib.hid (show w6.cell? ⟨g', 17, none⟩ = some (.int .i64 z1.rc.cap) from hcell _ _ (anCells_at [⟨z0, D0, d0⟩, ⟨z1, D1, d1⟩] 1 _ rfl 7 _ rfl))
  have i18 := Lib.hid (show w6.cell? ⟨g', 18, none⟩ = some (.string z1.rc.text) from hcell _ _ (anCells_at [⟨z0, D0, d0⟩, ⟨z1, D1, d1⟩] 1 _ rfl 8 _ rfl))
  have i19 := Lib.hid (show w6.cell? ⟨g', 19, none⟩ = some (.slice D1 z1.rc.list.length d1) from hcell _ _ (anCells_at [⟨z0, D0, d0⟩, ⟨z1, D1, d1⟩] 1 _ rfl 9 _ rfl))
  clear hst hst' hyl ho hans hits hqk hql hyk hnA hnB hcell hq1 ht1 hx0 hx1 HT2 hb6 hb56 hbx F9 HO5 HY0 HY1
  go_upto_region 3 with fail
  generalize hw7 : World.alloc w6 _ = w7
  have hb67 : Below w6.heap.size w6 w7 := by rw [← hw7]; exact below1 w6 _
  have G12 := Lib.hid (show w7.heap[w6.heap.size]? = some (.cells (recC q2.kind q2.num q2.low q2.high q2.real q2.cap q2.text (.slice A8 q2.list.length c8)) 25 (0, 0)) by rw [← hw7]; exact heap_alloc_new w6 _)
  have G9' := Lib.hid ((hb67.block _ (lt_of_heap G9.out)).trans G9.out)
  have HB7 := Lib.hid (HB6.out.trans (hb67.mono HB6.out.size))
  have HP1 := Lib.hid (HP1.out.below hb67)
  have HP2 := Lib.hid (HP2.out.below hb67)
  have HW0 := Lib.hid (HW0.out.below hb67)
  have HW1 := Lib.hid (HW1.out.below hb67)
  have HZ0 := Lib.hid (HZ0.out.below hb67)
  have HZ1 := Lib.hid (HZ1.out.below hb67)
  have j0 := below_keep hb67 j0.out
  have j1 := below_keep hb67 j1.out
  have j2 := below_keep hb67 j2.out
  have j3 := below_keep hb67 j3.out
  have j4 := below_keep hb67 j4.out
  have j5 := below_keep hb67 j5.out
  have j6 := below_keep hb67 j6.out
  have j7 := below_keep hb67 j7.out
  have j8 := below_keep hb67 j8.out
  have j9 := below_keep hb67 j9.out
  have j10 := below_keep hb67 j10.out
  have j11 := below_keep hb67 j11.out
  have j12 := below_keep hb67 j12.out
  have j13 := below_keep hb67 j13.out
  have j14 := below_keep hb67 j14.out
  have j15 := below_keep hb67 j15.out
  have j16 := below_keep hb67 j16.out
  have j17 := below_keep hb67 j17.out
  have j18 := below_keep hb67 j18.out
  have j19 := below_keep hb67 j19.out
  have i0 := below_keep hb67 i0.out
  have i1 := below_keep hb67 i1.out
  have i2 := below_keep hb67 i2.out
  have i3 := below_keep hb67 i3.out
  have i4 := below_keep hb67 i4.out
  have i5 := below_keep hb67 i5.out
  have i6 := below_keep hb67 i6.out
  have i7 := below_keep hb67 i7.out
  have i8 := below_keep hb67 i8.out
  have i9 := below_keep hb67 i9.out
  have i10 := below_keep hb67 i10.out
  have i11 := below_keep hb67 i11.out
  have i12 := below_keep hb67 i12.out
  have i13 := below_keep hb67 i13.out
  have i14 := below_keep hb67 i14.out
  have i15 := below_keep hb67 i15.out
  have i16 := below_keep hb67 i16.out
  have i17 := below_keep hb67 i17.out
  have i18 := below_keep hb67 i18.out
  have i19 := below_keep hb67 i19.out
  have p0 : w7.cell? ⟨w5.heap.size, 0, none⟩ = some (.int .i64 q1.kind) := (cell_of_row w7 _ 0 _ _ (0, 0) G9'.out).trans rfl
  have p1 : w7.cell? ⟨w5.heap.size, 1, none⟩ = some (.int .i64 q1.num) := (cell_of_row w7 _ 1 _ _ (0, 0) G9'.out).trans rfl
  have p2 : w7.cell? ⟨w5.heap.size, 2, none⟩ = some (.int .i64 q1.low) := (cell_of_row w7 _ 2 _ _ (0, 0) G9'.out).trans rfl
  have p3 : w7.cell? ⟨w5.heap.size, 3, none⟩ = some (.int .i64 q1.high) := (cell_of_row w7 _ 3 _ _ (0, 0) G9'.out).trans rfl
  have p4 : w7.cell? ⟨w5.heap.size, 4, none⟩ = some (.float .f64 q1.real) := (cell_of_row w7 _ 4 _ _ (0, 0) G9'.out).trans rfl
  have p5 : w7.cell? ⟨w5.heap.size, 5, none⟩ = some (.int .i64 q1.cap) := (cell_of_row w7 _ 5 _ _ (0, 0) G9'.out).trans rfl
  have p6 : w7.cell? ⟨w5.heap.size, 6, none⟩ = some (.string q1.text) := (cell_of_row w7 _ 6 _ _ (0, 0) G9'.out).trans rfl
  have p7 : w7.cell? ⟨w5.heap.size, 7, none⟩ = some (.slice A5 q1.list.length c5) := (cell_of_row w7 _ 7 _ _ (0, 0) G9'.out).trans rfl
  have o0 : w7.cell? ⟨w6.heap.size, 0, none⟩ = some (.int .i64 q2.kind) := (cell_of_row w7 _ 0 _ _ (0, 0) G12.out).trans rfl
  have o1 : w7.cell? ⟨w6.heap.size, 1, none⟩ = some (.int .i64 q2.num) := (cell_of_row w7 _ 1 _ _ (0, 0) G12.out).trans rfl
  have o2 : w7.cell? ⟨w6.heap.size, 2, none⟩ = some (.int .i64 q2.low) := (cell_of_row w7 _ 2 _ _ (0, 0) G12.out).trans rfl
  have o3 : w7.cell? ⟨w6.heap.size, 3, none⟩ = some (.int .i64 q2.high) := (cell_of_row w7 _ 3 _ _ (0, 0) G12.out).trans rfl
  have o4 : w7.cell? ⟨w6.heap.size, 4, none⟩ = some (.float .f64 q2.real) := (cell_of_row w7 _ 4 _ _ (0, 0) G12.out).trans rfl
  have o5 : w7.cell? ⟨w6.heap.size, 5, none⟩ = some (.int .i64 q2.cap) := (cell_of_row w7 _ 5 _ _ (0, 0) G12.out).trans rfl
  have o6 : w7.cell? ⟨w6.heap.size, 6, none⟩ = some (.string q2.text) := (cell_of_row w7 _ 6 _ _ (0, 0) G12.out).trans rfl
  have o7 : w7.cell? ⟨w6.heap.size, 7, none⟩ = some (.slice A8 q2.list.length c8) := (cell_of_row w7 _ 7 _ _ (0, 0) G12.out).trans rfl
  have HS3 := Lib.hid (fun u (h : Below w7.heap.size w7 u) => (recSame_any q1 q2 A5 A8 c5 c8 u HQ1.out.1 HQ2.out.1 (HP1.out.below h) (HP2.out.below h) HQ1.out.2).mono (fun e w' x => (show e = .returned (.bool (RC.same q1 q2)) ∧ Below u.heap.size u w' from x)))
  have HSx := Lib.hid (fun u (h : Below w7.heap.size w7 u) => ruleSame_any x0 z1 A6 D1 c6 d1 u HX0.out.1 HV1.out.1 (HW0.out.below h) (HZ1.out.below h) HX0.out.2)
  have HSy := Lib.hid (fun u (h : Below w7.heap.size w7 u) => ruleSame_any x1 z0 A7 D0 c7 d0 u HX1.out.1 HV0.out.1 (HW1.out.below h) (HZ0.out.below h) HX1.out.2)
  generalize RC.same q1 q2 = s1 at *
  generalize RU.sameAns x0 z1 = s2 at *
  generalize RU.sameAns x1 z0 = s3 at *
  clear hw7 hb67 G9 HB6 hs5 hs6
  by_cases hteq : t1 = t2
  case neg =>
    cases t1
    · cases t2
      · exact absurd rfl hteq
      · clear hteq
        refine wp_region_held_drew (S := fun W => Below w7.heap.size w7 W) (by kernel_rfl) (below_drew (Below.refl _ _)) (fun hHeld => ?_)
        refine wpAnyH_take (i := 0) (oi := ⟨_, _, _, _, _, _⟩) (v := ?_) rfl (by kernel_rfl) (by kernel_rfl) (by kernel_rfl) (fun _ _ _ h => h) (Or.inl ⟨by kernel_rfl, ?_⟩) hHeld ?_
        rotate_left 1
        · intro W hW; first | (go_simp; done) | (go_simp; with_reducible rfl)
        try simp only [Act.put, List.setIfInBounds_toArray, List.set_cons_zero, List.set_cons_succ]
        refine wpAnyH_take (i := 1) (oi := ⟨_, _, _, _, _, _⟩) (v := ?_) rfl (by kernel_rfl) (by kernel_rfl) (by kernel_rfl) (fun _ _ _ h => h) (Or.inl ⟨by kernel_rfl, ?_⟩) hHeld ?_
        rotate_left 1
        · intro W hW; first | (go_simp; done) | (go_simp; with_reducible rfl)
        try simp only [Act.put, List.setIfInBounds_toArray, List.set_cons_zero, List.set_cons_succ]
        refine wpAnyH_take (i := 2) (oi := ⟨_, _, _, _, _, _⟩) (v := ?_) rfl (by kernel_rfl) (by kernel_rfl) (by kernel_rfl) (fun _ _ _ h => h) (Or.inl ⟨by kernel_rfl, ?_⟩) hHeld ?_
        rotate_left 1
        · intro W hW; first | (go_simp; done) | (go_simp; with_reducible rfl)
        try simp only [Act.put, List.setIfInBounds_toArray, List.set_cons_zero, List.set_cons_succ]
        refine wpAnyH_take (i := 3) (oi := ⟨_, _, _, _, _, _⟩) (v := ?_) rfl (by kernel_rfl) (by kernel_rfl) (by kernel_rfl) (fun _ _ _ h => h) (Or.inl ⟨by kernel_rfl, ?_⟩) hHeld ?_
        rotate_left 1
        · intro W hW; first | (go_simp; done) | (go_simp; with_reducible rfl)
        try simp only [Act.put, List.setIfInBounds_toArray, List.set_cons_zero, List.set_cons_succ]
        refine wpAnyH_take (i := 4) (oi := ⟨_, _, _, _, _, _⟩) (v := undef) rfl (by kernel_rfl) (by kernel_rfl) (by kernel_rfl) (fun _ _ _ h => h) (Or.inr ⟨by kernel_rfl, rfl⟩) hHeld ?_
        try simp only [Act.put, List.setIfInBounds_toArray, List.set_cons_zero, List.set_cons_succ]
        refine wpAnyH_take (i := 5) (oi := ⟨_, _, _, _, _, _⟩) (v := undef) rfl (by kernel_rfl) (by kernel_rfl) (by kernel_rfl) (fun _ _ _ h => h) (Or.inr ⟨by kernel_rfl, rfl⟩) hHeld ?_
        try simp only [Act.put, List.setIfInBounds_toArray, List.set_cons_zero, List.set_cons_succ]
        refine wpAnyH_take (i := 6) (oi := ⟨_, _, _, _, _, _⟩) (v := undef) rfl (by kernel_rfl) (by kernel_rfl) (by kernel_rfl) (fun _ _ _ h => h) (Or.inr ⟨by kernel_rfl, rfl⟩) hHeld ?_
        try simp only [Act.put, List.setIfInBounds_toArray, List.set_cons_zero, List.set_cons_succ]
        refine wpAnyH_take (i := 7) (oi := ⟨_, _, _, _, _, _⟩) (v := undef) rfl (by kernel_rfl) (by kernel_rfl) (by kernel_rfl) (fun _ _ _ h => h) (Or.inr ⟨by kernel_rfl, rfl⟩) hHeld ?_
        try simp only [Act.put, List.setIfInBounds_toArray, List.set_cons_zero, List.set_cons_succ]
        refine wpAnyH_take (i := 8) (oi := ⟨_, _, _, _, _, _⟩) (v := ?_) rfl (by kernel_rfl) (by kernel_rfl) (by kernel_rfl) (fun _ _ _ h => h) (Or.inl ⟨by kernel_rfl, ?_⟩) hHeld ?_
        rotate_left 1
        · intro W hW; first | (go_simp; done) | (go_simp; with_reducible rfl)
        try simp only [Act.put, List.setIfInBounds_toArray, List.set_cons_zero, List.set_cons_succ]
        refine wpAnyH_take (i := 9) (oi := ⟨_, _, _, _, _, _⟩) (v := ?_) rfl (by kernel_rfl) (by kernel_rfl) (by kernel_rfl) (fun _ _ _ h => h) (Or.inl ⟨by kernel_rfl, ?_⟩) hHeld ?_
        rotate_left 1
        · intro W hW; first | (go_simp; done) | (go_simp; with_reducible rfl)
        try simp only [Act.put, List.setIfInBounds_toArray, List.set_cons_zero, List.set_cons_succ]
        refine wpAnyH_take (i := 10) (oi := ⟨_, _, _, _, _, _⟩) (v := undef) rfl (by kernel_rfl) (by kernel_rfl) (by kernel_rfl) (fun _ _ _ h => h) (Or.inr ⟨by kernel_rfl, rfl⟩) hHeld ?_
        try simp only [Act.put, List.setIfInBounds_toArray, List.set_cons_zero, List.set_cons_succ]
        refine wpAnyH_take (i := 11) (oi := ⟨_, _, _, _, _, _⟩) (v := undef) rfl (by kernel_rfl) (by kernel_rfl) (by kernel_rfl) (fun _ _ _ h => h) (Or.inr ⟨by kernel_rfl, rfl⟩) hHeld ?_
        try simp only [Act.put, List.setIfInBounds_toArray, List.set_cons_zero, List.set_cons_succ]
        refine wpAnyH_take (i := 12) (oi := ⟨_, _, _, _, _, _⟩) (v := undef) rfl (by kernel_rfl) (by kernel_rfl) (by kernel_rfl) (fun _ _ _ h => h) (Or.inr ⟨by kernel_rfl, rfl⟩) hHeld ?_
        try simp only [Act.put, List.setIfInBounds_toArray, List.set_cons_zero, List.set_cons_succ]
        refine wpAnyH_take (i := 13) (oi := ⟨_, _, _, _, _, _⟩) (v := undef) rfl (by kernel_rfl) (by kernel_rfl) (by kernel_rfl) (fun _ _ _ h => h) (Or.inr ⟨by kernel_rfl, rfl⟩) hHeld ?_
        try simp only [Act.put, List.setIfInBounds_toArray, List.set_cons_zero, List.set_cons_succ]
        refine wpAnyH_take (i := 14) (oi := ⟨_, _, _, _, _, _⟩) (v := undef) rfl (by kernel_rfl) (by kernel_rfl) (by kernel_rfl) (fun _ _ _ h => h) (Or.inr ⟨by kernel_rfl, rfl⟩) hHeld ?_
        try simp only [Act.put, List.setIfInBounds_toArray, List.set_cons_zero, List.set_cons_succ]
        refine wpAnyH_take (i := 15) (oi := ⟨_, _, _, _, _, _⟩) (v := undef) rfl (by kernel_rfl) (by kernel_rfl) (by kernel_rfl) (fun _ _ _ h => h) (Or.inr ⟨by kernel_rfl, rfl⟩) hHeld ?_
        try simp only [Act.put, List.setIfInBounds_toArray, List.set_cons_zero, List.set_cons_succ]
        refine wpAnyH_take (i := 16) (oi := ⟨_, _, _, _, _, _⟩) (v := undef) rfl (by kernel_rfl) (by kernel_rfl) (by kernel_rfl) (fun _ _ _ h => h) (Or.inr ⟨by kernel_rfl, rfl⟩) hHeld ?_
        try simp only [Act.put, List.setIfInBounds_toArray, List.set_cons_zero, List.set_cons_succ]
        refine wpAnyH_take (i := 17) (oi := ⟨_, _, _, _, _, _⟩) (v := undef) rfl (by kernel_rfl) (by kernel_rfl) (by kernel_rfl) (fun _ _ _ h => h) (Or.inr ⟨by kernel_rfl, rfl⟩) hHeld ?_
        try simp only [Act.put, List.setIfInBounds_toArray, List.set_cons_zero, List.set_cons_succ]
        refine wpAnyH_take (i := 18) (oi := ⟨_, _, _, _, _, _⟩) (v := ?_) rfl (by kernel_rfl) (by kernel_rfl) (by kernel_rfl) (fun _ _ _ h => h) (Or.inl ⟨by kernel_rfl, ?_⟩) hHeld ?_
        rotate_left 1
        · intro W hW; first | (go_simp; done) | (go_simp; with_reducible rfl)
        try simp only [Act.put, List.setIfInBounds_toArray, List.set_cons_zero, List.set_cons_succ]
        refine wpAnyH_take (i := 19) (oi := ⟨_, _, _, _, _, _⟩) (v := ?_) rfl (by kernel_rfl) (by kernel_rfl) (by kernel_rfl) (fun _ _ _ h => h) (Or.inl ⟨by kernel_rfl, ?_⟩) hHeld ?_
        rotate_left 1
        · intro W hW; first | (go_simp; done) | (go_simp; with_reducible rfl)
        try simp only [Act.put, List.setIfInBounds_toArray, List.set_cons_zero, List.set_cons_succ]
        refine wpAnyH_take (i := 20) (oi := ⟨_, _, _, _, _, _⟩) (v := undef) rfl (by kernel_rfl) (by kernel_rfl) (by kernel_rfl) (fun _ _ _ h => h) (Or.inr ⟨by kernel_rfl, rfl⟩) hHeld ?_
        try simp only [Act.put, List.setIfInBounds_toArray, List.set_cons_zero, List.set_cons_succ]
        refine wpAnyH_take (i := 21) (oi := ⟨_, _, _, _, _, _⟩) (v := undef) rfl (by kernel_rfl) (by kernel_rfl) (by kernel_rfl) (fun _ _ _ h => h) (Or.inr ⟨by kernel_rfl, rfl⟩) hHeld ?_
        try simp only [Act.put, List.setIfInBounds_toArray, List.set_cons_zero, List.set_cons_succ]
        refine wpAnyH_take (i := 22) (oi := ⟨_, _, _, _, _, _⟩) (v := undef) rfl (by kernel_rfl) (by kernel_rfl) (by kernel_rfl) (fun _ _ _ h => h) (Or.inr ⟨by kernel_rfl, rfl⟩) hHeld ?_
        try simp only [Act.put, List.setIfInBounds_toArray, List.set_cons_zero, List.set_cons_succ]
        refine wpAnyH_take (i := 23) (oi := ⟨_, _, _, _, _, _⟩) (v := undef) rfl (by kernel_rfl) (by kernel_rfl) (by kernel_rfl) (fun _ _ _ h => h) (Or.inr ⟨by kernel_rfl, rfl⟩) hHeld ?_
        try simp only [Act.put, List.setIfInBounds_toArray, List.set_cons_zero, List.set_cons_succ]
        refine wpAnyH_take (i := 24) (oi := ⟨_, _, _, _, _, _⟩) (v := undef) rfl (by kernel_rfl) (by kernel_rfl) (by kernel_rfl) (fun _ _ _ h => h) (Or.inr ⟨by kernel_rfl, rfl⟩) hHeld ?_
        try simp only [Act.put, List.setIfInBounds_toArray, List.set_cons_zero, List.set_cons_succ]
        refine wpAnyH_take (i := 25) (oi := ⟨_, _, _, _, _, _⟩) (v := undef) rfl (by kernel_rfl) (by kernel_rfl) (by kernel_rfl) (fun _ _ _ h => h) (Or.inr ⟨by kernel_rfl, rfl⟩) hHeld ?_
        try simp only [Act.put, List.setIfInBounds_toArray, List.set_cons_zero, List.set_cons_succ]
        refine wpAnyH_take (i := 26) (oi := ⟨_, _, _, _, _, _⟩) (v := undef) rfl (by kernel_rfl) (by kernel_rfl) (by kernel_rfl) (fun _ _ _ h => h) (Or.inr ⟨by kernel_rfl, rfl⟩) hHeld ?_
        try simp only [Act.put, List.setIfInBounds_toArray, List.set_cons_zero, List.set_cons_succ]
        refine wpAnyH_take (i := 27) (oi := ⟨_, _, _, _, _, _⟩) (v := undef) rfl (by kernel_rfl) (by kernel_rfl) (by kernel_rfl) (fun _ _ _ h => h) (Or.inr ⟨by kernel_rfl, rfl⟩) hHeld ?_
        try simp only [Act.put, List.setIfInBounds_toArray, List.set_cons_zero, List.set_cons_succ]
        refine wpAnyH_take (i := 28) (oi := ⟨_, _, _, _, _, _⟩) (v := ?_) rfl (by kernel_rfl) (by kernel_rfl) (by kernel_rfl) (fun _ _ _ h => h) (Or.inl ⟨by kernel_rfl, ?_⟩) hHeld ?_
        rotate_left 1
        · intro W hW; first | (go_simp; done) | (go_simp; with_reducible rfl)
        try simp only [Act.put, List.setIfInBounds_toArray, List.set_cons_zero, List.set_cons_succ]
        refine wpAnyH_take (i := 29) (oi := ⟨_, _, _, _, _, _⟩) (v := ?_) rfl (by kernel_rfl) (by kernel_rfl) (by kernel_rfl) (fun _ _ _ h => h) (Or.inl ⟨by kernel_rfl, ?_⟩) hHeld ?_
        rotate_left 1
        · intro W hW; first | (go_simp; done) | (go_simp; with_reducible rfl)
        try simp only [Act.put, List.setIfInBounds_toArray, List.set_cons_zero, List.set_cons_succ]
        refine wpAnyH_done (by kernel_rfl) ?_ _
        go_wp2_with fail
        go_ret
        exact ⟨by rw [HD.out]; rfl, HB7.out.trans (hHeld.mono HB7.out.size)⟩
    · cases t2
      · clear hteq
        refine wp_region_held_drew (S := fun W => Below w7.heap.size w7 W) (by kernel_rfl) (below_drew (Below.refl _ _)) (fun hHeld => ?_)
        refine wpAnyH_take (i := 0) (oi := ⟨_, _, _, _, _, _⟩) (v := ?_) rfl (by kernel_rfl) (by kernel_rfl) (by kernel_rfl) (fun _ _ _ h => h) (Or.inl ⟨by kernel_rfl, ?_⟩) hHeld ?_
        rotate_left 1
        · intro W hW; first | (go_simp; done) | (go_simp; with_reducible rfl)
        try simp only [Act.put, List.setIfInBounds_toArray, List.set_cons_zero, List.set_cons_succ]
        refine wpAnyH_take (i := 1) (oi := ⟨_, _, _, _, _, _⟩) (v := ?_) rfl (by kernel_rfl) (by kernel_rfl) (by kernel_rfl) (fun _ _ _ h => h) (Or.inl ⟨by kernel_rfl, ?_⟩) hHeld ?_
        rotate_left 1
        · intro W hW; first | (go_simp; done) | (go_simp; with_reducible rfl)
        try simp only [Act.put, List.setIfInBounds_toArray, List.set_cons_zero, List.set_cons_succ]
        refine wpAnyH_take (i := 2) (oi := ⟨_, _, _, _, _, _⟩) (v := ?_) rfl (by kernel_rfl) (by kernel_rfl) (by kernel_rfl) (fun _ _ _ h => h) (Or.inl ⟨by kernel_rfl, ?_⟩) hHeld ?_
        rotate_left 1
        · intro W hW; first | (go_simp; done) | (go_simp; with_reducible rfl)
        try simp only [Act.put, List.setIfInBounds_toArray, List.set_cons_zero, List.set_cons_succ]
        refine wpAnyH_take (i := 3) (oi := ⟨_, _, _, _, _, _⟩) (v := ?_) rfl (by kernel_rfl) (by kernel_rfl) (by kernel_rfl) (fun _ _ _ h => h) (Or.inl ⟨by kernel_rfl, ?_⟩) hHeld ?_
        rotate_left 1
        · intro W hW; first | (go_simp; done) | (go_simp; with_reducible rfl)
        try simp only [Act.put, List.setIfInBounds_toArray, List.set_cons_zero, List.set_cons_succ]
        refine wpAnyH_take (i := 4) (oi := ⟨_, _, _, _, _, _⟩) (v := undef) rfl (by kernel_rfl) (by kernel_rfl) (by kernel_rfl) (fun _ _ _ h => h) (Or.inr ⟨by kernel_rfl, rfl⟩) hHeld ?_
        try simp only [Act.put, List.setIfInBounds_toArray, List.set_cons_zero, List.set_cons_succ]
        refine wpAnyH_take (i := 5) (oi := ⟨_, _, _, _, _, _⟩) (v := undef) rfl (by kernel_rfl) (by kernel_rfl) (by kernel_rfl) (fun _ _ _ h => h) (Or.inr ⟨by kernel_rfl, rfl⟩) hHeld ?_
        try simp only [Act.put, List.setIfInBounds_toArray, List.set_cons_zero, List.set_cons_succ]
        refine wpAnyH_take (i := 6) (oi := ⟨_, _, _, _, _, _⟩) (v := undef) rfl (by kernel_rfl) (by kernel_rfl) (by kernel_rfl) (fun _ _ _ h => h) (Or.inr ⟨by kernel_rfl, rfl⟩) hHeld ?_
        try simp only [Act.put, List.setIfInBounds_toArray, List.set_cons_zero, List.set_cons_succ]
        refine wpAnyH_take (i := 7) (oi := ⟨_, _, _, _, _, _⟩) (v := undef) rfl (by kernel_rfl) (by kernel_rfl) (by kernel_rfl) (fun _ _ _ h => h) (Or.inr ⟨by kernel_rfl, rfl⟩) hHeld ?_
        try simp only [Act.put, List.setIfInBounds_toArray, List.set_cons_zero, List.set_cons_succ]
        refine wpAnyH_take (i := 8) (oi := ⟨_, _, _, _, _, _⟩) (v := ?_) rfl (by kernel_rfl) (by kernel_rfl) (by kernel_rfl) (fun _ _ _ h => h) (Or.inl ⟨by kernel_rfl, ?_⟩) hHeld ?_
        rotate_left 1
        · intro W hW; first | (go_simp; done) | (go_simp; with_reducible rfl)
        try simp only [Act.put, List.setIfInBounds_toArray, List.set_cons_zero, List.set_cons_succ]
        refine wpAnyH_take (i := 9) (oi := ⟨_, _, _, _, _, _⟩) (v := ?_) rfl (by kernel_rfl) (by kernel_rfl) (by kernel_rfl) (fun _ _ _ h => h) (Or.inl ⟨by kernel_rfl, ?_⟩) hHeld ?_
        rotate_left 1
        · intro W hW; first | (go_simp; done) | (go_simp; with_reducible rfl)
        try simp only [Act.put, List.setIfInBounds_toArray, List.set_cons_zero, List.set_cons_succ]
        refine wpAnyH_take (i := 10) (oi := ⟨_, _, _, _, _, _⟩) (v := undef) rfl (by kernel_rfl) (by kernel_rfl) (by kernel_rfl) (fun _ _ _ h => h) (Or.inr ⟨by kernel_rfl, rfl⟩) hHeld ?_
        try simp only [Act.put, List.setIfInBounds_toArray, List.set_cons_zero, List.set_cons_succ]
        refine wpAnyH_take (i := 11) (oi := ⟨_, _, _, _, _, _⟩) (v := undef) rfl (by kernel_rfl) (by kernel_rfl) (by kernel_rfl) (fun _ _ _ h => h) (Or.inr ⟨by kernel_rfl, rfl⟩) hHeld ?_
        try simp only [Act.put, List.setIfInBounds_toArray, List.set_cons_zero, List.set_cons_succ]
        refine wpAnyH_take (i := 12) (oi := ⟨_, _, _, _, _, _⟩) (v := undef) rfl (by kernel_rfl) (by kernel_rfl) (by kernel_rfl) (fun _ _ _ h => h) (Or.inr ⟨by kernel_rfl, rfl⟩) hHeld ?_
        try simp only [Act.put, List.setIfInBounds_toArray, List.set_cons_zero, List.set_cons_succ]
        refine wpAnyH_take (i := 13) (oi := ⟨_, _, _, _, _, _⟩) (v := undef) rfl (by kernel_rfl) (by kernel_rfl) (by kernel_rfl) (fun _ _ _ h => h) (Or.inr ⟨by kernel_rfl, rfl⟩) hHeld ?_
        try simp only [Act.put, List.setIfInBounds_toArray, List.set_cons_zero, List.set_cons_succ]
        refine wpAnyH_take (i := 14) (oi := ⟨_, _, _, _, _, _⟩) (v := undef) rfl (by kernel_rfl) (by kernel_rfl) (by kernel_rfl) (fun _ _ _ h => h) (Or.inr ⟨by kernel_rfl, rfl⟩) hHeld ?_
        try simp only [Act.put, List.setIfInBounds_toArray, List.set_cons_zero, List.set_cons_succ]
        refine wpAnyH_take (i := 15) (oi := ⟨_, _, _, _, _, _⟩) (v := undef) rfl (by kernel_rfl) (by kernel_rfl) (by kernel_rfl) (fun _ _ _ h => h) (Or.inr ⟨by kernel_rfl, rfl⟩) hHeld ?_
        try simp only [Act.put, List.setIfInBounds_toArray, List.set_cons_zero, List.set_cons_succ]
        refine wpAnyH_take (i := 16) (oi := ⟨_, _, _, _, _, _⟩) (v := undef) rfl (by kernel_rfl) (by kernel_rfl) (by kernel_rfl) (fun _ _ _ h => h) (Or.inr ⟨by kernel_rfl, rfl⟩) hHeld ?_
        try simp only [Act.put, List.setIfInBounds_toArray, List.set_cons_zero, List.set_cons_succ]
        refine wpAnyH_take (i := 17) (oi := ⟨_, _, _, _, _, _⟩) (v := undef) rfl (by kernel_rfl) (by kernel_rfl) (by kernel_rfl) (fun _ _ _ h => h) (Or.inr ⟨by kernel_rfl, rfl⟩) hHeld ?_
        try simp only [Act.put, List.setIfInBounds_toArray, List.set_cons_zero, List.set_cons_succ]
        refine wpAnyH_take (i := 18) (oi := ⟨_, _, _, _, _, _⟩) (v := ?_) rfl (by kernel_rfl) (by kernel_rfl) (by kernel_rfl) (fun _ _ _ h => h) (Or.inl ⟨by kernel_rfl, ?_⟩) hHeld ?_
        rotate_left 1
        · intro W hW; first | (go_simp; done) | (go_simp; with_reducible rfl)
        try simp only [Act.put, List.setIfInBounds_toArray, List.set_cons_zero, List.set_cons_succ]
        refine wpAnyH_take (i := 19) (oi := ⟨_, _, _, _, _, _⟩) (v := ?_) rfl (by kernel_rfl) (by kernel_rfl) (by kernel_rfl) (fun _ _ _ h => h) (Or.inl ⟨by kernel_rfl, ?_⟩) hHeld ?_
        rotate_left 1
        · intro W hW; first | (go_simp; done) | (go_simp; with_reducible rfl)
        try simp only [Act.put, List.setIfInBounds_toArray, List.set_cons_zero, List.set_cons_succ]
        refine wpAnyH_take (i := 20) (oi := ⟨_, _, _, _, _, _⟩) (v := undef) rfl (by kernel_rfl) (by kernel_rfl) (by kernel_rfl) (fun _ _ _ h => h) (Or.inr ⟨by kernel_rfl, rfl⟩) hHeld ?_
        try simp only [Act.put, List.setIfInBounds_toArray, List.set_cons_zero, List.set_cons_succ]
        refine wpAnyH_take (i := 21) (oi := ⟨_, _, _, _, _, _⟩) (v := undef) rfl (by kernel_rfl) (by kernel_rfl) (by kernel_rfl) (fun _ _ _ h => h) (Or.inr ⟨by kernel_rfl, rfl⟩) hHeld ?_
        try simp only [Act.put, List.setIfInBounds_toArray, List.set_cons_zero, List.set_cons_succ]
        refine wpAnyH_take (i := 22) (oi := ⟨_, _, _, _, _, _⟩) (v := undef) rfl (by kernel_rfl) (by kernel_rfl) (by kernel_rfl) (fun _ _ _ h => h) (Or.inr ⟨by kernel_rfl, rfl⟩) hHeld ?_
        try simp only [Act.put, List.setIfInBounds_toArray, List.set_cons_zero, List.set_cons_succ]
        refine wpAnyH_take (i := 23) (oi := ⟨_, _, _, _, _, _⟩) (v := undef) rfl (by kernel_rfl) (by kernel_rfl) (by kernel_rfl) (fun _ _ _ h => h) (Or.inr ⟨by kernel_rfl, rfl⟩) hHeld ?_
        try simp only [Act.put, List.setIfInBounds_toArray, List.set_cons_zero, List.set_cons_succ]
        refine wpAnyH_take (i := 24) (oi := ⟨_, _, _, _, _, _⟩) (v := undef) rfl (by kernel_rfl) (by kernel_rfl) (by kernel_rfl) (fun _ _ _ h => h) (Or.inr ⟨by kernel_rfl, rfl⟩) hHeld ?_
        try simp only [Act.put, List.setIfInBounds_toArray, List.set_cons_zero, List.set_cons_succ]
        refine wpAnyH_take (i := 25) (oi := ⟨_, _, _, _, _, _⟩) (v := undef) rfl (by kernel_rfl) (by kernel_rfl) (by kernel_rfl) (fun _ _ _ h => h) (Or.inr ⟨by kernel_rfl, rfl⟩) hHeld ?_
        try simp only [Act.put, List.setIfInBounds_toArray, List.set_cons_zero, List.set_cons_succ]
        refine wpAnyH_take (i := 26) (oi := ⟨_, _, _, _, _, _⟩) (v := undef) rfl (by kernel_rfl) (by kernel_rfl) (by kernel_rfl) (fun _ _ _ h => h) (Or.inr ⟨by kernel_rfl, rfl⟩) hHeld ?_
        try simp only [Act.put, List.setIfInBounds_toArray, List.set_cons_zero, List.set_cons_succ]
        refine wpAnyH_take (i := 27) (oi := ⟨_, _, _, _, _, _⟩) (v := undef) rfl (by kernel_rfl) (by kernel_rfl) (by kernel_rfl) (fun _ _ _ h => h) (Or.inr ⟨by kernel_rfl, rfl⟩) hHeld ?_
        try simp only [Act.put, List.setIfInBounds_toArray, List.set_cons_zero, List.set_cons_succ]
        refine wpAnyH_take (i := 28) (oi := ⟨_, _, _, _, _, _⟩) (v := ?_) rfl (by kernel_rfl) (by kernel_rfl) (by kernel_rfl) (fun _ _ _ h => h) (Or.inl ⟨by kernel_rfl, ?_⟩) hHeld ?_
        rotate_left 1
        · intro W hW; first | (go_simp; done) | (go_simp; with_reducible rfl)
        try simp only [Act.put, List.setIfInBounds_toArray, List.set_cons_zero, List.set_cons_succ]
        refine wpAnyH_take (i := 29) (oi := ⟨_, _, _, _, _, _⟩) (v := ?_) rfl (by kernel_rfl) (by kernel_rfl) (by kernel_rfl) (fun _ _ _ h => h) (Or.inl ⟨by kernel_rfl, ?_⟩) hHeld ?_
        rotate_left 1
        · intro W hW; first | (go_simp; done) | (go_simp; with_reducible rfl)
        try simp only [Act.put, List.setIfInBounds_toArray, List.set_cons_zero, List.set_cons_succ]
        refine wpAnyH_done (by kernel_rfl) ?_ _
        go_wp2_with fail
        go_ret
        exact ⟨by rw [HD.out]; rfl, HB7.out.trans (hHeld.mono HB7.out.size)⟩
      · exact absurd rfl hteq
  subst hteq
  rw [show (t1 != t1) = false by simp] at HD
  cases s1
  case false =>
    refine wp_region_held_drew (S := fun W => Below w7.heap.size w7 W) (by kernel_rfl) (below_drew (Below.refl _ _)) (fun hHeld => ?_)
    refine wpAnyH_take (i := 0) (oi := ⟨_, _, _, _, _, _⟩) (v := ?_) rfl (by kernel_rfl) (by kernel_rfl) (by kernel_rfl) (fun _ _ _ h => h) (Or.inl ⟨by kernel_rfl, ?_⟩) hHeld ?_
    rotate_left 1
    · intro W hW; first | (go_simp; done) | (go_simp; with_reducible rfl)
    try simp only [Act.put, List.setIfInBounds_toArray, List.set_cons_zero, List.set_cons_succ]
    refine wpAnyH_take (i := 1) (oi := ⟨_, _, _, _, _, _⟩) (v := ?_) rfl (by kernel_rfl) (by kernel_rfl) (by kernel_rfl) (fun _ _ _ h => h) (Or.inl ⟨by kernel_rfl, ?_⟩) hHeld ?_
    rotate_left 1
    · intro W hW; first | (go_simp; done) | (go_simp; with_reducible rfl)
    try simp only [Act.put, List.setIfInBounds_toArray, List.set_cons_zero, List.set_cons_succ]
    refine wpAnyH_take (i := 2) (oi := ⟨_, _, _, _, _, _⟩) (v := ?_) rfl (by kernel_rfl) (by kernel_rfl) (by kernel_rfl) (fun _ _ _ h => h) (Or.inl ⟨by kernel_rfl, ?_⟩) hHeld ?_
    rotate_left 1
    · intro W hW; first | (go_simp; done) | (go_simp; with_reducible rfl)
    try simp only [Act.put, List.setIfInBounds_toArray, List.set_cons_zero, List.set_cons_succ]
    refine wpAnyH_take (i := 3) (oi := ⟨_, _, _, _, _, _⟩) (v := ?_) rfl (by kernel_rfl) (by kernel_rfl) (by kernel_rfl) (fun _ _ _ h => h) (Or.inl ⟨by kernel_rfl, ?_⟩) hHeld ?_
    rotate_left 1
    · intro W hW; first | (go_simp; done) | (go_simp; with_reducible rfl)
    try simp only [Act.put, List.setIfInBounds_toArray, List.set_cons_zero, List.set_cons_succ]
    refine wpAnyH_take (i := 4) (oi := ⟨_, _, _, _, _, _⟩) (v := ?_) rfl (by kernel_rfl) (by kernel_rfl) (by kernel_rfl) (fun _ _ _ h => h) (Or.inl ⟨by kernel_rfl, ?_⟩) hHeld ?_
    rotate_left 1
    · intro W hW; have k0 := below_keep hW p0; have k1 := below_keep hW p1; have k2 := below_keep hW p2; have k3 := below_keep hW p3; have k4 := below_keep hW p4; have k5 := below_keep hW p5; have k6 := below_keep hW p6; have k7 := below_keep hW p7; first | (go_simp; done) | (go_simp; with_reducible rfl)
    try simp only [Act.put, List.setIfInBounds_toArray, List.set_cons_zero, List.set_cons_succ]
    refine wpAnyH_take (i := 5) (oi := ⟨_, _, _, _, _, _⟩) (v := ?_) rfl (by kernel_rfl) (by kernel_rfl) (by kernel_rfl) (fun _ _ _ h => h) (Or.inl ⟨by kernel_rfl, ?_⟩) hHeld ?_
    rotate_left 1
    · intro W hW; have k0 := below_keep hW o0; have k1 := below_keep hW o1; have k2 := below_keep hW o2; have k3 := below_keep hW o3; have k4 := below_keep hW o4; have k5 := below_keep hW o5; have k6 := below_keep hW o6; have k7 := below_keep hW o7; first | (go_simp; done) | (go_simp; with_reducible rfl)
    try simp only [Act.put, List.setIfInBounds_toArray, List.set_cons_zero, List.set_cons_succ]
    refine wpAnyH_ready (rs := [6]) (by kernel_rfl) (by simp) ?_
    refine AllReadyH.cons rfl (fun K hK => ?_) AllReadyH.nil
    go_simp
    refine (HS3.out _ hHeld).mono ?_
    rintro e wv ⟨rfl, hbv⟩
    go_wp2_with fail
    refine hK.out _ _ ?_ (fun hHelda => ?_)
    · exact hHeld.trans (hbv.mono hHeld.size)
    clear hK K
    try simp only [Act.put, List.setIfInBounds_toArray, List.set_cons_zero, List.set_cons_succ]
    clear hbv
    refine wpAnyH_take (i := 7) (oi := ⟨_, _, _, _, _, _⟩) (v := ?_) rfl (by kernel_rfl) (by kernel_rfl) (by kernel_rfl) (fun _ _ _ h => h) (Or.inl ⟨by kernel_rfl, ?_⟩) hHelda ?_
    rotate_left 1
    · intro W hW; first | (go_simp; done) | (go_simp; with_reducible rfl)
    try simp only [Act.put, List.setIfInBounds_toArray, List.set_cons_zero, List.set_cons_succ]
    refine wpAnyH_take (i := 8) (oi := ⟨_, _, _, _, _, _⟩) (v := ?_) rfl (by kernel_rfl) (by kernel_rfl) (by kernel_rfl) (fun _ _ _ h => h) (Or.inl ⟨by kernel_rfl, ?_⟩) hHelda ?_
    rotate_left 1
    · intro W hW; first | (go_simp; done) | (go_simp; with_reducible rfl)
    try simp only [Act.put, List.setIfInBounds_toArray, List.set_cons_zero, List.set_cons_succ]
    refine wpAnyH_take (i := 9) (oi := ⟨_, _, _, _, _, _⟩) (v := ?_) rfl (by kernel_rfl) (by kernel_rfl) (by kernel_rfl) (fun _ _ _ h => h) (Or.inl ⟨by kernel_rfl, ?_⟩) hHelda ?_
    rotate_left 1
    · intro W hW; first | (go_simp; done) | (go_simp; with_reducible rfl)
    try simp only [Act.put, List.setIfInBounds_toArray, List.set_cons_zero, List.set_cons_succ]
    refine wpAnyH_take (i := 10) (oi := ⟨_, _, _, _, _, _⟩) (v := undef) rfl (by kernel_rfl) (by kernel_rfl) (by kernel_rfl) (fun _ _ _ h => h) (Or.inr ⟨by kernel_rfl, rfl⟩) hHelda ?_
    try simp only [Act.put, List.setIfInBounds_toArray, List.set_cons_zero, List.set_cons_succ]
    refine wpAnyH_take (i := 11) (oi := ⟨_, _, _, _, _, _⟩) (v := undef) rfl (by kernel_rfl) (by kernel_rfl) (by kernel_rfl) (fun _ _ _ h => h) (Or.inr ⟨by kernel_rfl, rfl⟩) hHelda ?_
    try simp only [Act.put, List.setIfInBounds_toArray, List.set_cons_zero, List.set_cons_succ]
    refine wpAnyH_take (i := 12) (oi := ⟨_, _, _, _, _, _⟩) (v := undef) rfl (by kernel_rfl) (by kernel_rfl) (by kernel_rfl) (fun _ _ _ h => h) (Or.inr ⟨by kernel_rfl, rfl⟩) hHelda ?_
    try simp only [Act.put, List.setIfInBounds_toArray, List.set_cons_zero, List.set_cons_succ]
    refine wpAnyH_take (i := 13) (oi := ⟨_, _, _, _, _, _⟩) (v := undef) rfl (by kernel_rfl) (by kernel_rfl) (by kernel_rfl) (fun _ _ _ h => h) (Or.inr ⟨by kernel_rfl, rfl⟩) hHelda ?_
    try simp only [Act.put, List.setIfInBounds_toArray, List.set_cons_zero, List.set_cons_succ]
    refine wpAnyH_take (i := 14) (oi := ⟨_, _, _, _, _, _⟩) (v := undef) rfl (by kernel_rfl) (by kernel_rfl) (by kernel_rfl) (fun _ _ _ h => h) (Or.inr ⟨by kernel_rfl, rfl⟩) hHelda ?_
    try simp only [Act.put, List.setIfInBounds_toArray, List.set_cons_zero, List.set_cons_succ]
    refine wpAnyH_take (i := 15) (oi := ⟨_, _, _, _, _, _⟩) (v := undef) rfl (by kernel_rfl) (by kernel_rfl) (by kernel_rfl) (fun _ _ _ h => h) (Or.inr ⟨by kernel_rfl, rfl⟩) hHelda ?_
    try simp only [Act.put, List.setIfInBounds_toArray, List.set_cons_zero, List.set_cons_succ]
    refine wpAnyH_take (i := 16) (oi := ⟨_, _, _, _, _, _⟩) (v := undef) rfl (by kernel_rfl) (by kernel_rfl) (by kernel_rfl) (fun _ _ _ h => h) (Or.inr ⟨by kernel_rfl, rfl⟩) hHelda ?_
    try simp only [Act.put, List.setIfInBounds_toArray, List.set_cons_zero, List.set_cons_succ]
    refine wpAnyH_take (i := 17) (oi := ⟨_, _, _, _, _, _⟩) (v := undef) rfl (by kernel_rfl) (by kernel_rfl) (by kernel_rfl) (fun _ _ _ h => h) (Or.inr ⟨by kernel_rfl, rfl⟩) hHelda ?_
    try simp only [Act.put, List.setIfInBounds_toArray, List.set_cons_zero, List.set_cons_succ]
    refine wpAnyH_take (i := 18) (oi := ⟨_, _, _, _, _, _⟩) (v := ?_) rfl (by kernel_rfl) (by kernel_rfl) (by kernel_rfl) (fun _ _ _ h => h) (Or.inl ⟨by kernel_rfl, ?_⟩) hHelda ?_
    rotate_left 1
    · intro W hW; first | (go_simp; done) | (go_simp; with_reducible rfl)
    try simp only [Act.put, List.setIfInBounds_toArray, List.set_cons_zero, List.set_cons_succ]
    refine wpAnyH_take (i := 19) (oi := ⟨_, _, _, _, _, _⟩) (v := ?_) rfl (by kernel_rfl) (by kernel_rfl) (by kernel_rfl) (fun _ _ _ h => h) (Or.inl ⟨by kernel_rfl, ?_⟩) hHelda ?_
    rotate_left 1
    · intro W hW; first | (go_simp; done) | (go_simp; with_reducible rfl)
    try simp only [Act.put, List.setIfInBounds_toArray, List.set_cons_zero, List.set_cons_succ]
    refine wpAnyH_take (i := 20) (oi := ⟨_, _, _, _, _, _⟩) (v := undef) rfl (by kernel_rfl) (by kernel_rfl) (by kernel_rfl) (fun _ _ _ h => h) (Or.inr ⟨by kernel_rfl, rfl⟩) hHelda ?_
    try simp only [Act.put, List.setIfInBounds_toArray, List.set_cons_zero, List.set_cons_succ]
    refine wpAnyH_take (i := 21) (oi := ⟨_, _, _, _, _, _⟩) (v := undef) rfl (by kernel_rfl) (by kernel_rfl) (by kernel_rfl) (fun _ _ _ h => h) (Or.inr ⟨by kernel_rfl, rfl⟩) hHelda ?_
    try simp only [Act.put, List.setIfInBounds_toArray, List.set_cons_zero, List.set_cons_succ]
    refine wpAnyH_take (i := 22) (oi := ⟨_, _, _, _, _, _⟩) (v := undef) rfl (by kernel_rfl) (by kernel_rfl) (by kernel_rfl) (fun _ _ _ h => h) (Or.inr ⟨by kernel_rfl, rfl⟩) hHelda ?_
    try simp only [Act.put, List.setIfInBounds_toArray, List.set_cons_zero, List.set_cons_succ]
    refine wpAnyH_take (i := 23) (oi := ⟨_, _, _, _, _, _⟩) (v := undef) rfl (by kernel_rfl) (by kernel_rfl) (by kernel_rfl) (fun _ _ _ h => h) (Or.inr ⟨by kernel_rfl, rfl⟩) hHelda ?_
    try simp only [Act.put, List.setIfInBounds_toArray, List.set_cons_zero, List.set_cons_succ]
    refine wpAnyH_take (i := 24) (oi := ⟨_, _, _, _, _, _⟩) (v := undef) rfl (by kernel_rfl) (by kernel_rfl) (by kernel_rfl) (fun _ _ _ h => h) (Or.inr ⟨by kernel_rfl, rfl⟩) hHelda ?_
    try simp only [Act.put, List.setIfInBounds_toArray, List.set_cons_zero, List.set_cons_succ]
    refine wpAnyH_take (i := 25) (oi := ⟨_, _, _, _, _, _⟩) (v := undef) rfl (by kernel_rfl) (by kernel_rfl) (by kernel_rfl) (fun _ _ _ h => h) (Or.inr ⟨by kernel_rfl, rfl⟩) hHelda ?_
    try simp only [Act.put, List.setIfInBounds_toArray, List.set_cons_zero, List.set_cons_succ]
    refine wpAnyH_take (i := 26) (oi := ⟨_, _, _, _, _, _⟩) (v := undef) rfl (by kernel_rfl) (by kernel_rfl) (by kernel_rfl) (fun _ _ _ h => h) (Or.inr ⟨by kernel_rfl, rfl⟩) hHelda ?_
    try simp only [Act.put, List.setIfInBounds_toArray, List.set_cons_zero, List.set_cons_succ]
    refine wpAnyH_take (i := 27) (oi := ⟨_, _, _, _, _, _⟩) (v := undef) rfl (by kernel_rfl) (by kernel_rfl) (by kernel_rfl) (fun _ _ _ h => h) (Or.inr ⟨by kernel_rfl, rfl⟩) hHelda ?_
    try simp only [Act.put, List.setIfInBounds_toArray, List.set_cons_zero, List.set_cons_succ]
    refine wpAnyH_take (i := 28) (oi := ⟨_, _, _, _, _, _⟩) (v := ?_) rfl (by kernel_rfl) (by kernel_rfl) (by kernel_rfl) (fun _ _ _ h => h) (Or.inl ⟨by kernel_rfl, ?_⟩) hHelda ?_
    rotate_left 1
    · intro W hW; first | (go_simp; done) | (go_simp; with_reducible rfl)
    try simp only [Act.put, List.setIfInBounds_toArray, List.set_cons_zero, List.set_cons_succ]
    refine wpAnyH_take (i := 29) (oi := ⟨_, _, _, _, _, _⟩) (v := ?_) rfl (by kernel_rfl) (by kernel_rfl) (by kernel_rfl) (fun _ _ _ h => h) (Or.inl ⟨by kernel_rfl, ?_⟩) hHelda ?_
    rotate_left 1
    · intro W hW; first | (go_simp; done) | (go_simp; with_reducible rfl)
    try simp only [Act.put, List.setIfInBounds_toArray, List.set_cons_zero, List.set_cons_succ]
    refine wpAnyH_done (by kernel_rfl) ?_ _
    go_wp2_with fail
    go_ret
    exact ⟨by rw [HD.out]; rfl, HB7.out.trans (hHelda.mono HB7.out.size)⟩
  cases s2
  case false =>
    refine wp_region_held_drew (S := fun W => Below w7.heap.size w7 W) (by kernel_rfl) (below_drew (Below.refl _ _)) (fun hHeld => ?_)
    refine wpAnyH_take (i := 0) (oi := ⟨_, _, _, _, _, _⟩) (v := ?_) rfl (by kernel_rfl) (by kernel_rfl) (by kernel_rfl) (fun _ _ _ h => h) (Or.inl ⟨by kernel_rfl, ?_⟩) hHeld ?_
    rotate_left 1
    · intro W hW; first | (go_simp; done) | (go_simp; with_reducible rfl)
    try simp only [Act.put, List.setIfInBounds_toArray, List.set_cons_zero, List.set_cons_succ]
    refine wpAnyH_take (i := 1) (oi := ⟨_, _, _, _, _, _⟩) (v := ?_) rfl (by kernel_rfl) (by kernel_rfl) (by kernel_rfl) (fun _ _ _ h => h) (Or.inl ⟨by kernel_rfl, ?_⟩) hHeld ?_
    rotate_left 1
    · intro W hW; first | (go_simp; done) | (go_simp; with_reducible rfl)
    try simp only [Act.put, List.setIfInBounds_toArray, List.set_cons_zero, List.set_cons_succ]
    refine wpAnyH_take (i := 2) (oi := ⟨_, _, _, _, _, _⟩) (v := ?_) rfl (by kernel_rfl) (by kernel_rfl) (by kernel_rfl) (fun _ _ _ h => h) (Or.inl ⟨by kernel_rfl, ?_⟩) hHeld ?_
    rotate_left 1
    · intro W hW; first | (go_simp; done) | (go_simp; with_reducible rfl)
    try simp only [Act.put, List.setIfInBounds_toArray, List.set_cons_zero, List.set_cons_succ]
    refine wpAnyH_take (i := 3) (oi := ⟨_, _, _, _, _, _⟩) (v := ?_) rfl (by kernel_rfl) (by kernel_rfl) (by kernel_rfl) (fun _ _ _ h => h) (Or.inl ⟨by kernel_rfl, ?_⟩) hHeld ?_
    rotate_left 1
    · intro W hW; first | (go_simp; done) | (go_simp; with_reducible rfl)
    try simp only [Act.put, List.setIfInBounds_toArray, List.set_cons_zero, List.set_cons_succ]
    refine wpAnyH_take (i := 4) (oi := ⟨_, _, _, _, _, _⟩) (v := ?_) rfl (by kernel_rfl) (by kernel_rfl) (by kernel_rfl) (fun _ _ _ h => h) (Or.inl ⟨by kernel_rfl, ?_⟩) hHeld ?_
    rotate_left 1
    · intro W hW; have k0 := below_keep hW p0; have k1 := below_keep hW p1; have k2 := below_keep hW p2; have k3 := below_keep hW p3; have k4 := below_keep hW p4; have k5 := below_keep hW p5; have k6 := below_keep hW p6; have k7 := below_keep hW p7; first | (go_simp; done) | (go_simp; with_reducible rfl)
    try simp only [Act.put, List.setIfInBounds_toArray, List.set_cons_zero, List.set_cons_succ]
    refine wpAnyH_take (i := 5) (oi := ⟨_, _, _, _, _, _⟩) (v := ?_) rfl (by kernel_rfl) (by kernel_rfl) (by kernel_rfl) (fun _ _ _ h => h) (Or.inl ⟨by kernel_rfl, ?_⟩) hHeld ?_
    rotate_left 1
    · intro W hW; have k0 := below_keep hW o0; have k1 := below_keep hW o1; have k2 := below_keep hW o2; have k3 := below_keep hW o3; have k4 := below_keep hW o4; have k5 := below_keep hW o5; have k6 := below_keep hW o6; have k7 := below_keep hW o7; first | (go_simp; done) | (go_simp; with_reducible rfl)
    try simp only [Act.put, List.setIfInBounds_toArray, List.set_cons_zero, List.set_cons_succ]
    refine wpAnyH_ready (rs := [6]) (by kernel_rfl) (by simp) ?_
    refine AllReadyH.cons rfl (fun K hK => ?_) AllReadyH.nil
    go_simp
    refine (HS3.out _ hHeld).mono ?_
    rintro e wv ⟨rfl, hbv⟩
    go_wp2_with fail
    refine hK.out _ _ ?_ (fun hHelda => ?_)
    · exact hHeld.trans (hbv.mono hHeld.size)
    clear hK K
    try simp only [Act.put, List.setIfInBounds_toArray, List.set_cons_zero, List.set_cons_succ]
    clear hbv
    refine wpAnyH_take (i := 7) (oi := ⟨_, _, _, _, _, _⟩) (v := ?_) rfl (by kernel_rfl) (by kernel_rfl) (by kernel_rfl) (fun _ _ _ h => h) (Or.inl ⟨by kernel_rfl, ?_⟩) hHelda ?_
    rotate_left 1
    · intro W hW; first | (go_simp; done) | (go_simp; with_reducible rfl)
    try simp only [Act.put, List.setIfInBounds_toArray, List.set_cons_zero, List.set_cons_succ]
    refine wpAnyH_take (i := 8) (oi := ⟨_, _, _, _, _, _⟩) (v := ?_) rfl (by kernel_rfl) (by kernel_rfl) (by kernel_rfl) (fun _ _ _ h => h) (Or.inl ⟨by kernel_rfl, ?_⟩) hHelda ?_
    rotate_left 1
    · intro W hW; first | (go_simp; done) | (go_simp; with_reducible rfl)
    try simp only [Act.put, List.setIfInBounds_toArray, List.set_cons_zero, List.set_cons_succ]
    refine wpAnyH_take (i := 9) (oi := ⟨_, _, _, _, _, _⟩) (v := ?_) rfl (by kernel_rfl) (by kernel_rfl) (by kernel_rfl) (fun _ _ _ h => h) (Or.inl ⟨by kernel_rfl, ?_⟩) hHelda ?_
    rotate_left 1
    · intro W hW; first | (go_simp; done) | (go_simp; with_reducible rfl)
    try simp only [Act.put, List.setIfInBounds_toArray, List.set_cons_zero, List.set_cons_succ]
    refine wpAnyH_take (i := 10) (oi := ⟨_, _, _, _, _, _⟩) (v := ?_) rfl (by kernel_rfl) (by kernel_rfl) (by kernel_rfl) (fun _ _ _ h => h) (Or.inl ⟨by kernel_rfl, ?_⟩) hHelda ?_
    rotate_left 1
    · intro W hW; first | (go_simp; done) | (go_simp; with_reducible rfl)
    try simp only [Act.put, List.setIfInBounds_toArray, List.set_cons_zero, List.set_cons_succ]
    refine wpAnyH_take (i := 11) (oi := ⟨_, _, _, _, _, _⟩) (v := ?_) rfl (by kernel_rfl) (by kernel_rfl) (by kernel_rfl) (fun _ _ _ h => h) (Or.inl ⟨by kernel_rfl, ?_⟩) hHelda ?_
    rotate_left 1
    · intro W hW; first | (go_simp; done) | (go_simp; with_reducible rfl)
    try simp only [Act.put, List.setIfInBounds_toArray, List.set_cons_zero, List.set_cons_succ]
    refine wpAnyH_take (i := 12) (oi := ⟨_, _, _, _, _, _⟩) (v := ?_) rfl (by kernel_rfl) (by kernel_rfl) (by kernel_rfl) (fun _ _ _ h => h) (Or.inl ⟨by kernel_rfl, ?_⟩) hHelda ?_
    rotate_left 1
    · intro W hW; have k0 := below_keep hW j0; have k1 := below_keep hW j1; have k2 := below_keep hW j2; have k3 := below_keep hW j3; have k4 := below_keep hW j4; have k5 := below_keep hW j5; have k6 := below_keep hW j6; have k7 := below_keep hW j7; have k8 := below_keep hW j8; have k9 := below_keep hW j9; first | (go_simp; done) | (go_simp; with_reducible rfl)
    try simp only [Act.put, List.setIfInBounds_toArray, List.set_cons_zero, List.set_cons_succ]
    refine wpAnyH_take (i := 13) (oi := ⟨_, _, _, _, _, _⟩) (v := ?_) rfl (by kernel_rfl) (by kernel_rfl) (by kernel_rfl) (fun _ _ _ h => h) (Or.inl ⟨by kernel_rfl, ?_⟩) hHelda ?_
    rotate_left 1
    · intro W hW; first | (go_simp; done) | (go_simp; with_reducible rfl)
    try simp only [Act.put, List.setIfInBounds_toArray, List.set_cons_zero, List.set_cons_succ]
    refine wpAnyH_take (i := 14) (oi := ⟨_, _, _, _, _, _⟩) (v := ?_) rfl (by kernel_rfl) (by kernel_rfl) (by kernel_rfl) (fun _ _ _ h => h) (Or.inl ⟨by kernel_rfl, ?_⟩) hHelda ?_
    rotate_left 1
    · intro W hW; first | (go_simp; done) | (go_simp; with_reducible rfl)
    try simp only [Act.put, List.setIfInBounds_toArray, List.set_cons_zero, List.set_cons_succ]
    refine wpAnyH_take (i := 15) (oi := ⟨_, _, _, _, _, _⟩) (v := ?_) rfl (by kernel_rfl) (by kernel_rfl) (by kernel_rfl) (fun _ _ _ h => h) (Or.inl ⟨by kernel_rfl, ?_⟩) hHelda ?_
    rotate_left 1
    · intro W hW; have k0 := below_keep hW i10; have k1 := below_keep hW i11; have k2 := below_keep hW i12; have k3 := below_keep hW i13; have k4 := below_keep hW i14; have k5 := below_keep hW i15; have k6 := below_keep hW i16; have k7 := below_keep hW i17; have k8 := below_keep hW i18; have k9 := below_keep hW i19; first | (go_simp; done) | (go_simp; with_reducible rfl)
    try simp only [Act.put, List.setIfInBounds_toArray, List.set_cons_zero, List.set_cons_succ]
    refine wpAnyH_ready (rs := [16]) (by kernel_rfl) (by simp) ?_
    refine AllReadyH.cons rfl (fun K hK => ?_) AllReadyH.nil
    go_simp
    refine (HSx.out _ hHelda).mono ?_
    rintro e wv ⟨rfl, hbv⟩
    go_wp2_with fail
    refine hK.out _ _ ?_ (fun hHeldaa => ?_)
    · exact hHelda.trans (hbv.mono hHelda.size)
    clear hK K
    try simp only [Act.put, List.setIfInBounds_toArray, List.set_cons_zero, List.set_cons_succ]
    clear hbv
    refine wpAnyH_take (i := 17) (oi := ⟨_, _, _, _, _, _⟩) (v := ?_) rfl (by kernel_rfl) (by kernel_rfl) (by kernel_rfl) (fun _ _ _ h => h) (Or.inl ⟨by kernel_rfl, ?_⟩) hHeldaa ?_
    rotate_left 1
    · intro W hW; first | (go_simp; done) | (go_simp; with_reducible rfl)
    try simp only [Act.put, List.setIfInBounds_toArray, List.set_cons_zero, List.set_cons_succ]
    refine wpAnyH_take (i := 18) (oi := ⟨_, _, _, _, _, _⟩) (v := ?_) rfl (by kernel_rfl) (by kernel_rfl) (by kernel_rfl) (fun _ _ _ h => h) (Or.inl ⟨by kernel_rfl, ?_⟩) hHeldaa ?_
    rotate_left 1
    · intro W hW; first | (go_simp; done) | (go_simp; with_reducible rfl)
    try simp only [Act.put, List.setIfInBounds_toArray, List.set_cons_zero, List.set_cons_succ]
    refine wpAnyH_take (i := 19) (oi := ⟨_, _, _, _, _, _⟩) (v := ?_) rfl (by kernel_rfl) (by kernel_rfl) (by kernel_rfl) (fun _ _ _ h => h) (Or.inl ⟨by kernel_rfl, ?_⟩) hHeldaa ?_
    rotate_left 1
    · intro W hW; first | (go_simp; done) | (go_simp; with_reducible rfl)
    try simp only [Act.put, List.setIfInBounds_toArray, List.set_cons_zero, List.set_cons_succ]
    refine wpAnyH_take (i := 20) (oi := ⟨_, _, _, _, _, _⟩) (v := undef) rfl (by kernel_rfl) (by kernel_rfl) (by kernel_rfl) (fun _ _ _ h => h) (Or.inr ⟨by kernel_rfl, rfl⟩) hHeldaa ?_
    try simp only [Act.put, List.setIfInBounds_toArray, List.set_cons_zero, List.set_cons_succ]
    refine wpAnyH_take (i := 21) (oi := ⟨_, _, _, _, _, _⟩) (v := undef) rfl (by kernel_rfl) (by kernel_rfl) (by kernel_rfl) (fun _ _ _ h => h) (Or.inr ⟨by kernel_rfl, rfl⟩) hHeldaa ?_
    try simp only [Act.put, List.setIfInBounds_toArray, List.set_cons_zero, List.set_cons_succ]
    refine wpAnyH_take (i := 22) (oi := ⟨_, _, _, _, _, _⟩) (v := undef) rfl (by kernel_rfl) (by kernel_rfl) (by kernel_rfl) (fun _ _ _ h => h) (Or.inr ⟨by kernel_rfl, rfl⟩) hHeldaa ?_
    try simp only [Act.put, List.setIfInBounds_toArray, List.set_cons_zero, List.set_cons_succ]
    refine wpAnyH_take (i := 23) (oi := ⟨_, _, _, _, _, _⟩) (v := undef) rfl (by kernel_rfl) (by kernel_rfl) (by kernel_rfl) (fun _ _ _ h => h) (Or.inr ⟨by kernel_rfl, rfl⟩) hHeldaa ?_
    try simp only [Act.put, List.setIfInBounds_toArray, List.set_cons_zero, List.set_cons_succ]
    refine wpAnyH_take (i := 24) (oi := ⟨_, _, _, _, _, _⟩) (v := undef) rfl (by kernel_rfl) (by kernel_rfl) (by kernel_rfl) (fun _ _ _ h => h) (Or.inr ⟨by kernel_rfl, rfl⟩) hHeldaa ?_
    try simp only [Act.put, List.setIfInBounds_toArray, List.set_cons_zero, List.set_cons_succ]
    refine wpAnyH_take (i := 25) (oi := ⟨_, _, _, _, _, _⟩) (v := undef) rfl (by kernel_rfl) (by kernel_rfl) (by kernel_rfl) (fun _ _ _ h => h) (Or.inr ⟨by kernel_rfl, rfl⟩) hHeldaa ?_
    try simp only [Act.put, List.setIfInBounds_toArray, List.set_cons_zero, List.set_cons_succ]
    refine wpAnyH_take (i := 26) (oi := ⟨_, _, _, _, _, _⟩) (v := undef) rfl (by kernel_rfl) (by kernel_rfl) (by kernel_rfl) (fun _ _ _ h => h) (Or.inr ⟨by kernel_rfl, rfl⟩) hHeldaa ?_
    try simp only [Act.put, List.setIfInBounds_toArray, List.set_cons_zero, List.set_cons_succ]
    refine wpAnyH_take (i := 27) (oi := ⟨_, _, _, _, _, _⟩) (v := undef) rfl (by kernel_rfl) (by kernel_rfl) (by kernel_rfl) (fun _ _ _ h => h) (Or.inr ⟨by kernel_rfl, rfl⟩) hHeldaa ?_
    try simp only [Act.put, List.setIfInBounds_toArray, List.set_cons_zero, List.set_cons_succ]
    refine wpAnyH_take (i := 28) (oi := ⟨_, _, _, _, _, _⟩) (v := ?_) rfl (by kernel_rfl) (by kernel_rfl) (by kernel_rfl) (fun _ _ _ h => h) (Or.inl ⟨by kernel_rfl, ?_⟩) hHeldaa ?_
    rotate_left 1
    · intro W hW; first | (go_simp; done) | (go_simp; with_reducible rfl)
    try simp only [Act.put, List.setIfInBounds_toArray, List.set_cons_zero, List.set_cons_succ]
    refine wpAnyH_take (i := 29) (oi := ⟨_, _, _, _, _, _⟩) (v := ?_) rfl (by kernel_rfl) (by kernel_rfl) (by kernel_rfl) (fun _ _ _ h => h) (Or.inl ⟨by kernel_rfl, ?_⟩) hHeldaa ?_
    rotate_left 1
    · intro W hW; first | (go_simp; done) | (go_simp; with_reducible rfl)
    try simp only [Act.put, List.setIfInBounds_toArray, List.set_cons_zero, List.set_cons_succ]
    refine wpAnyH_done (by kernel_rfl) ?_ _
    go_wp2_with fail
    go_ret
    exact ⟨by rw [HD.out]; rfl, HB7.out.trans (hHeldaa.mono HB7.out.size)⟩
  refine wp_region_held_drew (S := fun W => Below w7.heap.size w7 W) (by kernel_rfl) (below_drew (Below.refl _ _)) (fun hHeld => ?_)
  refine wpAnyH_take (i := 0) (oi := ⟨_, _, _, _, _, _⟩) (v := ?_) rfl (by kernel_rfl) (by kernel_rfl) (by kernel_rfl) (fun _ _ _ h => h) (Or.inl ⟨by kernel_rfl, ?_⟩) hHeld ?_
  rotate_left 1
  · intro W hW; first | (go_simp; done) | (go_simp; with_reducible rfl)
  try simp only [Act.put, List.setIfInBounds_toArray, List.set_cons_zero, List.set_cons_succ]
  refine wpAnyH_take (i := 1) (oi := ⟨_, _, _, _, _, _⟩) (v := ?_) rfl (by kernel_rfl) (by kernel_rfl) (by kernel_rfl) (fun _ _ _ h => h) (Or.inl ⟨by kernel_rfl, ?_⟩) hHeld ?_
  rotate_left 1
  · intro W hW; first | (go_simp; done) | (go_simp; with_reducible rfl)
  try simp only [Act.put, List.setIfInBounds_toArray, List.set_cons_zero, List.set_cons_succ]
  refine wpAnyH_take (i := 2) (oi := ⟨_, _, _, _, _, _⟩) (v := ?_) rfl (by kernel_rfl) (by kernel_rfl) (by kernel_rfl) (fun _ _ _ h => h) (Or.inl ⟨by kernel_rfl, ?_⟩) hHeld ?_
  rotate_left 1
  · intro W hW; first | (go_simp; done) | (go_simp; with_reducible rfl)
  try simp only [Act.put, List.setIfInBounds_toArray, List.set_cons_zero, List.set_cons_succ]
  refine wpAnyH_take (i := 3) (oi := ⟨_, _, _, _, _, _⟩) (v := ?_) rfl (by kernel_rfl) (by kernel_rfl) (by kernel_rfl) (fun _ _ _ h => h) (Or.inl ⟨by kernel_rfl, ?_⟩) hHeld ?_
  rotate_left 1
  · intro W hW; first | (go_simp; done) | (go_simp; with_reducible rfl)
  try simp only [Act.put, List.setIfInBounds_toArray, List.set_cons_zero, List.set_cons_succ]
  refine wpAnyH_take (i := 4) (oi := ⟨_, _, _, _, _, _⟩) (v := ?_) rfl (by kernel_rfl) (by kernel_rfl) (by kernel_rfl) (fun _ _ _ h => h) (Or.inl ⟨by kernel_rfl, ?_⟩) hHeld ?_
  rotate_left 1
  · intro W hW; have k0 := below_keep hW p0; have k1 := below_keep hW p1; have k2 := below_keep hW p2; have k3 := below_keep hW p3; have k4 := below_keep hW p4; have k5 := below_keep hW p5; have k6 := below_keep hW p6; have k7 := below_keep hW p7; first | (go_simp; done) | (go_simp; with_reducible rfl)
  try simp only [Act.put, List.setIfInBounds_toArray, List.set_cons_zero, List.set_cons_succ]
  refine wpAnyH_take (i := 5) (oi := ⟨_, _, _, _, _, _⟩) (v := ?_) rfl (by kernel_rfl) (by kernel_rfl) (by kernel_rfl) (fun _ _ _ h => h) (Or.inl ⟨by kernel_rfl, ?_⟩) hHeld ?_
  rotate_left 1
  · intro W hW; have k0 := below_keep hW o0; have k1 := below_keep hW o1; have k2 := below_keep hW o2; have k3 := below_keep hW o3; have k4 := below_keep hW o4; have k5 := below_keep hW o5; have k6 := below_keep hW o6; have k7 := below_keep hW o7; first | (go_simp; done) | (go_simp; with_reducible rfl)
  try simp only [Act.put, List.setIfInBounds_toArray, List.set_cons_zero, List.set_cons_succ]
  refine wpAnyH_ready (rs := [6]) (by kernel_rfl) (by simp) ?_
  refine AllReadyH.cons rfl (fun K hK => ?_) AllReadyH.nil
  go_simp
  refine (HS3.out _ hHeld).mono ?_
  rintro e wv ⟨rfl, hbv⟩
  go_wp2_with fail
  refine hK.out _ _ ?_ (fun hHelda => ?_)
  · exact hHeld.trans (hbv.mono hHeld.size)
  clear hK K
  try simp only [Act.put, List.setIfInBounds_toArray, List.set_cons_zero, List.set_cons_succ]
  clear hbv
  refine wpAnyH_take (i := 7) (oi := ⟨_, _, _, _, _, _⟩) (v := ?_) rfl (by kernel_rfl) (by kernel_rfl) (by kernel_rfl) (fun _ _ _ h => h) (Or.inl ⟨by kernel_rfl, ?_⟩) hHelda ?_
  rotate_left 1
  · intro W hW; first | (go_simp; done) | (go_simp; with_reducible rfl)
  try simp only [Act.put, List.setIfInBounds_toArray, List.set_cons_zero, List.set_cons_succ]
  refine wpAnyH_take (i := 8) (oi := ⟨_, _, _, _, _, _⟩) (v := ?_) rfl (by kernel_rfl) (by kernel_rfl) (by kernel_rfl) (fun _ _ _ h => h) (Or.inl ⟨by kernel_rfl, ?_⟩) hHelda ?_
  rotate_left 1
  · intro W hW; first | (go_simp; done) | (go_simp; with_reducible rfl)
  try simp only [Act.put, List.setIfInBounds_toArray, List.set_cons_zero, List.set_cons_succ]
  refine wpAnyH_take (i := 9) (oi := ⟨_, _, _, _, _, _⟩) (v := ?_) rfl (by kernel_rfl) (by kernel_rfl) (by kernel_rfl) (fun _ _ _ h => h) (Or.inl ⟨by kernel_rfl, ?_⟩) hHelda ?_
  rotate_left 1
  · intro W hW; first | (go_simp; done) | (go_simp; with_reducible rfl)
  try simp only [Act.put, List.setIfInBounds_toArray, List.set_cons_zero, List.set_cons_succ]
  refine wpAnyH_take (i := 10) (oi := ⟨_, _, _, _, _, _⟩) (v := ?_) rfl (by kernel_rfl) (by kernel_rfl) (by kernel_rfl) (fun _ _ _ h => h) (Or.inl ⟨by kernel_rfl, ?_⟩) hHelda ?_
  rotate_left 1
  · intro W hW; first | (go_simp; done) | (go_simp; with_reducible rfl)
  try simp only [Act.put, List.setIfInBounds_toArray, List.set_cons_zero, List.set_cons_succ]
  refine wpAnyH_take (i := 11) (oi := ⟨_, _, _, _, _, _⟩) (v := ?_) rfl (by kernel_rfl) (by kernel_rfl) (by kernel_rfl) (fun _ _ _ h => h) (Or.inl ⟨by kernel_rfl, ?_⟩) hHelda ?_
  rotate_left 1
  · intro W hW; first | (go_simp; done) | (go_simp; with_reducible rfl)
  try simp only [Act.put, List.setIfInBounds_toArray, List.set_cons_zero, List.set_cons_succ]
  refine wpAnyH_take (i := 12) (oi := ⟨_, _, _, _, _, _⟩) (v := ?_) rfl (by kernel_rfl) (by kernel_rfl) (by kernel_rfl) (fun _ _ _ h => h) (Or.inl ⟨by kernel_rfl, ?_⟩) hHelda ?_
  rotate_left 1
  · intro W hW; have k0 := below_keep hW j0; have k1 := below_keep hW j1; have k2 := below_keep hW j2; have k3 := below_keep hW j3; have k4 := below_keep hW j4; have k5 := below_keep hW j5; have k6 := below_keep hW j6; have k7 := below_keep hW j7; have k8 := below_keep hW j8; have k9 := below_keep hW j9; first | (go_simp; done) | (go_simp; with_reducible rfl)
  try simp only [Act.put, List.setIfInBounds_toArray, List.set_cons_zero, List.set_cons_succ]
  refine wpAnyH_take (i := 13) (oi := ⟨_, _, _, _, _, _⟩) (v := ?_) rfl (by kernel_rfl) (by kernel_rfl) (by kernel_rfl) (fun _ _ _ h => h) (Or.inl ⟨by kernel_rfl, ?_⟩) hHelda ?_
  rotate_left 1
  · intro W hW; first | (go_simp; done) | (go_simp; with_reducible rfl)
  try simp only [Act.put, List.setIfInBounds_toArray, List.set_cons_zero, List.set_cons_succ]
  refine wpAnyH_take (i := 14) (oi := ⟨_, _, _, _, _, _⟩) (v := ?_) rfl (by kernel_rfl) (by kernel_rfl) (by kernel_rfl) (fun _ _ _ h => h) (Or.inl ⟨by kernel_rfl, ?_⟩) hHelda ?_
  rotate_left 1
  · intro W hW; first | (go_simp; done) | (go_simp; with_reducible rfl)
  try simp only [Act.put, List.setIfInBounds_toArray, List.set_cons_zero, List.set_cons_succ]
  refine wpAnyH_take (i := 15) (oi := ⟨_, _, _, _, _, _⟩) (v := ?_) rfl (by kernel_rfl) (by kernel_rfl) (by kernel_rfl) (fun _ _ _ h => h) (Or.inl ⟨by kernel_rfl, ?_⟩) hHelda ?_
  rotate_left 1
  · intro W hW; have k0 := below_keep hW i10; have k1 := below_keep hW i11; have k2 := below_keep hW i12; have k3 := below_keep hW i13; have k4 := below_keep hW i14; have k5 := below_keep hW i15; have k6 := below_keep hW i16; have k7 := below_keep hW i17; have k8 := below_keep hW i18; have k9 := below_keep hW i19; first | (go_simp; done) | (go_simp; with_reducible rfl)
  try simp only [Act.put, List.setIfInBounds_toArray, List.set_cons_zero, List.set_cons_succ]
  refine wpAnyH_ready (rs := [16]) (by kernel_rfl) (by simp) ?_
  refine AllReadyH.cons rfl (fun K hK => ?_) AllReadyH.nil
  go_simp
  refine (HSx.out _ hHelda).mono ?_
  rintro e wv ⟨rfl, hbv⟩
  go_wp2_with fail
  refine hK.out _ _ ?_ (fun hHeldaa => ?_)
  · exact hHelda.trans (hbv.mono hHelda.size)
  clear hK K
  try simp only [Act.put, List.setIfInBounds_toArray, List.set_cons_zero, List.set_cons_succ]
  clear hbv
  refine wpAnyH_take (i := 17) (oi := ⟨_, _, _, _, _, _⟩) (v := ?_) rfl (by kernel_rfl) (by kernel_rfl) (by kernel_rfl) (fun _ _ _ h => h) (Or.inl ⟨by kernel_rfl, ?_⟩) hHeldaa ?_
  rotate_left 1
  · intro W hW; first | (go_simp; done) | (go_simp; with_reducible rfl)
  try simp only [Act.put, List.setIfInBounds_toArray, List.set_cons_zero, List.set_cons_succ]
  refine wpAnyH_take (i := 18) (oi := ⟨_, _, _, _, _, _⟩) (v := ?_) rfl (by kernel_rfl) (by kernel_rfl) (by kernel_rfl) (fun _ _ _ h => h) (Or.inl ⟨by kernel_rfl, ?_⟩) hHeldaa ?_
  rotate_left 1
  · intro W hW; first | (go_simp; done) | (go_simp; with_reducible rfl)
  try simp only [Act.put, List.setIfInBounds_toArray, List.set_cons_zero, List.set_cons_succ]
  refine wpAnyH_take (i := 19) (oi := ⟨_, _, _, _, _, _⟩) (v := ?_) rfl (by kernel_rfl) (by kernel_rfl) (by kernel_rfl) (fun _ _ _ h => h) (Or.inl ⟨by kernel_rfl, ?_⟩) hHeldaa ?_
  rotate_left 1
  · intro W hW; first | (go_simp; done) | (go_simp; with_reducible rfl)
  try simp only [Act.put, List.setIfInBounds_toArray, List.set_cons_zero, List.set_cons_succ]
  refine wpAnyH_take (i := 20) (oi := ⟨_, _, _, _, _, _⟩) (v := ?_) rfl (by kernel_rfl) (by kernel_rfl) (by kernel_rfl) (fun _ _ _ h => h) (Or.inl ⟨by kernel_rfl, ?_⟩) hHeldaa ?_
  rotate_left 1
  · intro W hW; first | (go_simp; done) | (go_simp; with_reducible rfl)
  try simp only [Act.put, List.setIfInBounds_toArray, List.set_cons_zero, List.set_cons_succ]
  refine wpAnyH_take (i := 21) (oi := ⟨_, _, _, _, _, _⟩) (v := ?_) rfl (by kernel_rfl) (by kernel_rfl) (by kernel_rfl) (fun _ _ _ h => h) (Or.inl ⟨by kernel_rfl, ?_⟩) hHeldaa ?_
  rotate_left 1
  · intro W hW; first | (go_simp; done) | (go_simp; with_reducible rfl)
  try simp only [Act.put, List.setIfInBounds_toArray, List.set_cons_zero, List.set_cons_succ]
  refine wpAnyH_take (i := 22) (oi := ⟨_, _, _, _, _, _⟩) (v := ?_) rfl (by kernel_rfl) (by kernel_rfl) (by kernel_rfl) (fun _ _ _ h => h) (Or.inl ⟨by kernel_rfl, ?_⟩) hHeldaa ?_
  rotate_left 1
  · intro W hW; have k0 := below_keep hW j10; have k1 := below_keep hW j11; have k2 := below_keep hW j12; have k3 := below_keep hW j13; have k4 := below_keep hW j14; have k5 := below_keep hW j15; have k6 := below_keep hW j16; have k7 := below_keep hW j17; have k8 := below_keep hW j18; have k9 := below_keep hW j19; first | (go_simp; done) | (go_simp; with_reducible rfl)
  try simp only [Act.put, List.setIfInBounds_toArray, List.set_cons_zero, List.set_cons_succ]
  refine wpAnyH_take (i := 23) (oi := ⟨_, _, _, _, _, _⟩) (v := ?_) rfl (by kernel_rfl) (by kernel_rfl) (by kernel_rfl) (fun _ _ _ h => h) (Or.inl ⟨by kernel_rfl, ?_⟩) hHeldaa ?_
  rotate_left 1
  · intro W hW; first | (go_simp; done) | (go_simp; with_reducible rfl)
  try simp only [Act.put, List.setIfInBounds_toArray, List.set_cons_zero, List.set_cons_succ]
  refine wpAnyH_take (i := 24) (oi := ⟨_, _, _, _, _, _⟩) (v := ?_) rfl (by kernel_rfl) (by kernel_rfl) (by kernel_rfl) (fun _ _ _ h => h) (Or.inl ⟨by kernel_rfl, ?_⟩) hHeldaa ?_
  rotate_left 1
  · intro W hW; first | (go_simp; done) | (go_simp; with_reducible rfl)
  try simp only [Act.put, List.setIfInBounds_toArray, List.set_cons_zero, List.set_cons_succ]
  refine wpAnyH_take (i := 25) (oi := ⟨_, _, _, _, _, _⟩) (v := ?_) rfl (by kernel_rfl) (by kernel_rfl) (by kernel_rfl) (fun _ _ _ h => h) (Or.inl ⟨by kernel_rfl, ?_⟩) hHeldaa ?_
  rotate_left 1
  · intro W hW; have k0 := below_keep hW i0; have k1 := below_keep hW i1; have k2 := below_keep hW i2; have k3 := below_keep hW i3; have k4 := below_keep hW i4; have k5 := below_keep hW i5; have k6 := below_keep hW i6; have k7 := below_keep hW i7; have k8 := below_keep hW i8; have k9 := below_keep hW i9; first | (go_simp; done) | (go_simp; with_reducible rfl)
  try simp only [Act.put, List.setIfInBounds_toArray, List.set_cons_zero, List.set_cons_succ]
  refine wpAnyH_ready (rs := [26]) (by kernel_rfl) (by simp) ?_
  refine AllReadyH.cons rfl (fun K hK => ?_) AllReadyH.nil
  go_simp
  refine (HSy.out _ hHeldaa).mono ?_
  rintro e wv ⟨rfl, hbv⟩
  go_wp2_with fail
  refine hK.out _ _ ?_ (fun hHeldaaa => ?_)
  · exact hHeldaa.trans (hbv.mono hHeldaa.size)
  clear hK K
  try simp only [Act.put, List.setIfInBounds_toArray, List.set_cons_zero, List.set_cons_succ]
  clear hbv
  refine wpAnyH_take (i := 27) (oi := ⟨_, _, _, _, _, _⟩) (v := ?_) rfl (by kernel_rfl) (by kernel_rfl) (by kernel_rfl) (fun _ _ _ h => h) (Or.inl ⟨by kernel_rfl, ?_⟩) hHeldaaa ?_
  rotate_left 1
  · intro W hW; first | (go_simp; done) | (go_simp; with_reducible rfl)
  try simp only [Act.put, List.setIfInBounds_toArray, List.set_cons_zero, List.set_cons_succ]
  refine wpAnyH_take (i := 28) (oi := ⟨_, _, _, _, _, _⟩) (v := ?_) rfl (by kernel_rfl) (by kernel_rfl) (by kernel_rfl) (fun _ _ _ h => h) (Or.inl ⟨by kernel_rfl, ?_⟩) hHeldaaa ?_
  rotate_left 1
  · intro W hW; first | (go_simp; done) | (go_simp; with_reducible rfl)
  try simp only [Act.put, List.setIfInBounds_toArray, List.set_cons_zero, List.set_cons_succ]
  refine wpAnyH_take (i := 29) (oi := ⟨_, _, _, _, _, _⟩) (v := ?_) rfl (by kernel_rfl) (by kernel_rfl) (by kernel_rfl) (fun _ _ _ h => h) (Or.inl ⟨by kernel_rfl, ?_⟩) hHeldaaa ?_
  rotate_left 1
  · intro W hW; first | (go_simp; done) | (go_simp; with_reducible rfl)
  try simp only [Act.put, List.setIfInBounds_toArray, List.set_cons_zero, List.set_cons_succ]
  refine wpAnyH_done (by kernel_rfl) ?_ _
  go_wp2_with fail
  go_ret
  exact ⟨by rw [HD.out]; rfl, HB7.out.trans (hHeldaaa.mono HB7.out.size)⟩
end Go.Proofs.YtlpecaldodganaaGreatDoor
