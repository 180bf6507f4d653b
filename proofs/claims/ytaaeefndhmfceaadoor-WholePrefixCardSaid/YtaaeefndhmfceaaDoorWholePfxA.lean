/- The walk of WholePrefix: acts that are too big. -/
import Derived.Test.YtaaeefndhmfceaaDoorWholePfx0
namespace Go.Proofs.YtaaeefndhmfceaaDoor
open Go.RowKit MM

set_option maxHeartbeats 8000000 in
set_option maxRecDepth 100000 in
theorem wholePrefix_tt (a : AC.Ac) (A : Option Addr) (ca : Nat) (b : AC.Ac) (B : Option Addr) (cb : Nat) (w : World) (ha : ActIn w a A ca) (hb : ActIn w b B cb) (hR : RowsAt w) (h1 : AC.big a = true) (h2 : AC.big b = true) :
    Calls Tryd.prog 8 #[actV a A ca, actV b B cb] w fun e w' => e = .returned (.bool true) ∧ Below w.heap.size w w' := by
  have HR := Lib.hid hR
  have HIa := Lib.hid ha.make.its
  have HIb := Lib.hid hb.make.its
  have HGa := Lib.hid (fun w hA => big4_any a A ca w hA ha.make.len)
  have HGb := Lib.hid (fun w hB => big4_any b B cb w hB hb.make.len)
  rw [h1] at HGa
  rw [h2] at HGb

  clear ha hb hR
  obtain ⟨k1, y1, n1, x1, s1, m1, u1⟩ := a
  obtain ⟨k2, y2, n2, x2, s2', m2, u2⟩ := b
  have q0 : IntKind.i64.wrap 0 = 0 := rfl
  have q1 : IntKind.i64.wrap 1 = 1 := rfl
  have q2 : IntKind.i64.wrap 2 = 2 := rfl
  go_enter Tryd.func8, Tryd.ntmps8
  go_wp2_with fail
  refine (actBytes_any d4 none 0 _ d4_ok (HR.out.below (below2 w _ _)) (Its.nil _ _) (by unfold Lim; decide) (by unfold Lim; decide) (by unfold Lim; decide)).mono ?_
  rw [d4_bytes]
  rintro e v1 ⟨A1, c1, rfl, ho1, hn1, hb1⟩
  have HV1 := Lib.hid (show Below w.heap.size w v1 from (below2 w _ _).trans (hb1.mono (by simp only [World.size_alloc]; omega)))
  have E0 := Lib.hid ((hb1.block w.heap.size (by simp only [World.size_alloc]; omega)).trans (heap_alloc2_old w _ _))
  have E1 := Lib.hid ((hb1.block (w.heap.size + 1) (by simp only [World.size_alloc]; omega)).trans (heap_alloc2_new w _ _))
  clear hb1 ho1 hn1
  go_wp2_with fail
  refine (recBytes_any s2 none 0 _ s2_ok (Its.nil _ _) (by unfold Lim; decide)).mono ?_
  rw [s2_bytes]
  rintro e w1 ⟨A2, c2, rfl, ho2, hn2, hb2⟩
  have HB1 := Lib.hid (HV1.out.trans (hb2.mono HV1.out.size))
  have e0 := (hb2.block _ (lt_of_heap E0.out)).trans E0.out
  have e1 := (hb2.block _ (lt_of_heap E1.out)).trans E1.out
  have cf := fun o => cell_of_row w1 _ o _ _ (0, 0) e0
  have cg := fun o => cell_of_row w1 _ o _ _ (0, 0) e1
  have hlt0 : w.heap.size < w1.heap.size := lt_of_heap e0
  have hlt1 : w.heap.size + 1 < w1.heap.size := lt_of_heap e1
  have HIa1 := Lib.hid (HIa.out.below HB1.out)
  have HIb1 := Lib.hid (HIb.out.below HB1.out)
  clear hb2 ho2 hn2 e0 e1 E0 E1 HV1
  go_wp2_with fail
  have hIa1 : Its w1.drew A m1.list := HIa1.out
  have hIb1 : Its w1.drew B m2.list := HIb1.out
  go_region_with (first
    | (go_at_call 30; (with_reducible refine (HGa.out _ hIa1).mono ?_); rintro e w2 ⟨rfl, hb2⟩; have hB2 : Below w1.heap.size w1 w2 := (below_a w1).trans hb2; have f2 : ∀ o, w2.cell? ⟨w.heap.size, o, none⟩ = _ := fun o => (hB2.cell (p := ⟨w.heap.size, o, none⟩) hlt0).trans (cf o); have g2 : ∀ o, w2.cell? ⟨w.heap.size + 1, o, none⟩ = _ := fun o => (hB2.cell (p := ⟨w.heap.size + 1, o, none⟩) hlt1).trans (cg o); have hIb2 := HIb1.out.below hB2)
    | (go_at_call 30; (with_reducible refine (HGb.out _ hIb2).mono ?_); rintro e w3 ⟨rfl, hb3⟩; have hB3 : Below w1.heap.size w1 w3 := hB2.trans (hb3.mono hB2.size); have f3 : ∀ o, w3.cell? ⟨w.heap.size, o, none⟩ = _ := fun o => (hB3.cell (p := ⟨w.heap.size, o, none⟩) hlt0).trans (cf o); have g3 : ∀ o, w3.cell? ⟨w.heap.size + 1, o, none⟩ = _ := fun o => (hB3.cell (p := ⟨w.heap.size + 1, o, none⟩) hlt1).trans (cg o); have hIa3 := HIa1.out.below hB3))
  all_goals
    go_wp2_with fail
    go_ret
    exact ⟨rfl, HB1.out.trans (hB3.mono HB1.out.size)⟩

set_option maxHeartbeats 8000000 in
set_option maxRecDepth 100000 in
theorem wholePrefix_tf (a : AC.Ac) (A : Option Addr) (ca : Nat) (b : AC.Ac) (B : Option Addr) (cb : Nat) (w : World) (ha : ActIn w a A ca) (hb : ActIn w b B cb) (hR : RowsAt w) (h1 : AC.big a = true) (h2 : AC.big b = false) :
    Calls Tryd.prog 8 #[actV a A ca, actV b B cb] w fun e w' => e = .returned (.bool true) ∧ Below w.heap.size w w' := by
  have HR := Lib.hid hR
  have HIa := Lib.hid ha.make.its
  have HIb := Lib.hid hb.make.its
  have HGa := Lib.hid (fun w hA => big4_any a A ca w hA ha.make.len)
  have HGb := Lib.hid (fun w hB => big4_any b B cb w hB hb.make.len)
  rw [h1] at HGa
  rw [h2] at HGb

  clear ha hb hR
  obtain ⟨k1, y1, n1, x1, s1, m1, u1⟩ := a
  obtain ⟨k2, y2, n2, x2, s2', m2, u2⟩ := b
  have q0 : IntKind.i64.wrap 0 = 0 := rfl
  have q1 : IntKind.i64.wrap 1 = 1 := rfl
  have q2 : IntKind.i64.wrap 2 = 2 := rfl
  go_enter Tryd.func8, Tryd.ntmps8
  go_wp2_with fail
  refine (actBytes_any d4 none 0 _ d4_ok (HR.out.below (below2 w _ _)) (Its.nil _ _) (by unfold Lim; decide) (by unfold Lim; decide) (by unfold Lim; decide)).mono ?_
  rw [d4_bytes]
  rintro e v1 ⟨A1, c1, rfl, ho1, hn1, hb1⟩
  have HV1 := Lib.hid (show Below w.heap.size w v1 from (below2 w _ _).trans (hb1.mono (by simp only [World.size_alloc]; omega)))
  have E0 := Lib.hid ((hb1.block w.heap.size (by simp only [World.size_alloc]; omega)).trans (heap_alloc2_old w _ _))
  have E1 := Lib.hid ((hb1.block (w.heap.size + 1) (by simp only [World.size_alloc]; omega)).trans (heap_alloc2_new w _ _))
  clear hb1 ho1 hn1
  go_wp2_with fail
  refine (recBytes_any s2 none 0 _ s2_ok (Its.nil _ _) (by unfold Lim; decide)).mono ?_
  rw [s2_bytes]
  rintro e w1 ⟨A2, c2, rfl, ho2, hn2, hb2⟩
  have HB1 := Lib.hid (HV1.out.trans (hb2.mono HV1.out.size))
  have e0 := (hb2.block _ (lt_of_heap E0.out)).trans E0.out
  have e1 := (hb2.block _ (lt_of_heap E1.out)).trans E1.out
  have cf := fun o => cell_of_row w1 _ o _ _ (0, 0) e0
  have cg := fun o => cell_of_row w1 _ o _ _ (0, 0) e1
  have hlt0 : w.heap.size < w1.heap.size := lt_of_heap e0
  have hlt1 : w.heap.size + 1 < w1.heap.size := lt_of_heap e1
  have HIa1 := Lib.hid (HIa.out.below HB1.out)
  have HIb1 := Lib.hid (HIb.out.below HB1.out)
  clear hb2 ho2 hn2 e0 e1 E0 E1 HV1
  go_wp2_with fail
  have hIa1 : Its w1.drew A m1.list := HIa1.out
  have hIb1 : Its w1.drew B m2.list := HIb1.out
  go_region_with (first
    | (go_at_call 30; (with_reducible refine (HGa.out _ hIa1).mono ?_); rintro e w2 ⟨rfl, hb2⟩; have hB2 : Below w1.heap.size w1 w2 := (below_a w1).trans hb2; have f2 : ∀ o, w2.cell? ⟨w.heap.size, o, none⟩ = _ := fun o => (hB2.cell (p := ⟨w.heap.size, o, none⟩) hlt0).trans (cf o); have g2 : ∀ o, w2.cell? ⟨w.heap.size + 1, o, none⟩ = _ := fun o => (hB2.cell (p := ⟨w.heap.size + 1, o, none⟩) hlt1).trans (cg o); have hIb2 := HIb1.out.below hB2)
    | (go_at_call 30; (with_reducible refine (HGb.out _ hIb2).mono ?_); rintro e w3 ⟨rfl, hb3⟩; have hB3 : Below w1.heap.size w1 w3 := hB2.trans (hb3.mono hB2.size); have f3 : ∀ o, w3.cell? ⟨w.heap.size, o, none⟩ = _ := fun o => (hB3.cell (p := ⟨w.heap.size, o, none⟩) hlt0).trans (cf o); have g3 : ∀ o, w3.cell? ⟨w.heap.size + 1, o, none⟩ = _ := fun o => (hB3.cell (p := ⟨w.heap.size + 1, o, none⟩) hlt1).trans (cg o); have hIa3 := HIa1.out.below hB3))
  all_goals
    go_wp2_with fail
    go_ret
    exact ⟨rfl, HB1.out.trans (hB3.mono HB1.out.size)⟩

set_option maxHeartbeats 8000000 in
set_option maxRecDepth 100000 in
theorem wholePrefix_ft (a : AC.Ac) (A : Option Addr) (ca : Nat) (b : AC.Ac) (B : Option Addr) (cb : Nat) (w : World) (ha : ActIn w a A ca) (hb : ActIn w b B cb) (hR : RowsAt w) (h1 : AC.big a = false) (h2 : AC.big b = true) :
    Calls Tryd.prog 8 #[actV a A ca, actV b B cb] w fun e w' => e = .returned (.bool true) ∧ Below w.heap.size w w' := by
  have HR := Lib.hid hR
  have HIa := Lib.hid ha.make.its
  have HIb := Lib.hid hb.make.its
  have HGa := Lib.hid (fun w hA => big4_any a A ca w hA ha.make.len)
  have HGb := Lib.hid (fun w hB => big4_any b B cb w hB hb.make.len)
  rw [h1] at HGa
  rw [h2] at HGb

  clear ha hb hR
  obtain ⟨k1, y1, n1, x1, s1, m1, u1⟩ := a
  obtain ⟨k2, y2, n2, x2, s2', m2, u2⟩ := b
  have q0 : IntKind.i64.wrap 0 = 0 := rfl
  have q1 : IntKind.i64.wrap 1 = 1 := rfl
  have q2 : IntKind.i64.wrap 2 = 2 := rfl
  go_enter Tryd.func8, Tryd.ntmps8
  go_wp2_with fail
  refine (actBytes_any d4 none 0 _ d4_ok (HR.out.below (below2 w _ _)) (Its.nil _ _) (by unfold Lim; decide) (by unfold Lim; decide) (by unfold Lim; decide)).mono ?_
  rw [d4_bytes]
  rintro e v1 ⟨A1, c1, rfl, ho1, hn1, hb1⟩
  have HV1 := Lib.hid (show Below w.heap.size w v1 from (below2 w _ _).trans (hb1.mono (by simp only [World.size_alloc]; omega)))
  have E0 := Lib.hid ((hb1.block w.heap.size (by simp only [World.size_alloc]; omega)).trans (heap_alloc2_old w _ _))
  have E1 := Lib.hid ((hb1.block (w.heap.size + 1) (by simp only [World.size_alloc]; omega)).trans (heap_alloc2_new w _ _))
  clear hb1 ho1 hn1
  go_wp2_with fail
  refine (recBytes_any s2 none 0 _ s2_ok (Its.nil _ _) (by unfold Lim; decide)).mono ?_
  rw [s2_bytes]
  rintro e w1 ⟨A2, c2, rfl, ho2, hn2, hb2⟩
  have HB1 := Lib.hid (HV1.out.trans (hb2.mono HV1.out.size))
  have e0 := (hb2.block _ (lt_of_heap E0.out)).trans E0.out
  have e1 := (hb2.block _ (lt_of_heap E1.out)).trans E1.out
  have cf := fun o => cell_of_row w1 _ o _ _ (0, 0) e0
  have cg := fun o => cell_of_row w1 _ o _ _ (0, 0) e1
  have hlt0 : w.heap.size < w1.heap.size := lt_of_heap e0
  have hlt1 : w.heap.size + 1 < w1.heap.size := lt_of_heap e1
  have HIa1 := Lib.hid (HIa.out.below HB1.out)
  have HIb1 := Lib.hid (HIb.out.below HB1.out)
  clear hb2 ho2 hn2 e0 e1 E0 E1 HV1
  go_wp2_with fail
  have hIa1 : Its w1.drew A m1.list := HIa1.out
  have hIb1 : Its w1.drew B m2.list := HIb1.out
  go_region_with (first
    | (go_at_call 30; (with_reducible refine (HGa.out _ hIa1).mono ?_); rintro e w2 ⟨rfl, hb2⟩; have hB2 : Below w1.heap.size w1 w2 := (below_a w1).trans hb2; have f2 : ∀ o, w2.cell? ⟨w.heap.size, o, none⟩ = _ := fun o => (hB2.cell (p := ⟨w.heap.size, o, none⟩) hlt0).trans (cf o); have g2 : ∀ o, w2.cell? ⟨w.heap.size + 1, o, none⟩ = _ := fun o => (hB2.cell (p := ⟨w.heap.size + 1, o, none⟩) hlt1).trans (cg o); have hIb2 := HIb1.out.below hB2)
    | (go_at_call 30; (with_reducible refine (HGb.out _ hIb2).mono ?_); rintro e w3 ⟨rfl, hb3⟩; have hB3 : Below w1.heap.size w1 w3 := hB2.trans (hb3.mono hB2.size); have f3 : ∀ o, w3.cell? ⟨w.heap.size, o, none⟩ = _ := fun o => (hB3.cell (p := ⟨w.heap.size, o, none⟩) hlt0).trans (cf o); have g3 : ∀ o, w3.cell? ⟨w.heap.size + 1, o, none⟩ = _ := fun o => (hB3.cell (p := ⟨w.heap.size + 1, o, none⟩) hlt1).trans (cg o); have hIa3 := HIa1.out.below hB3))
  all_goals
    go_wp2_with fail
    go_ret
    exact ⟨rfl, HB1.out.trans (hB3.mono HB1.out.size)⟩

end Go.Proofs.YtaaeefndhmfceaaDoor
