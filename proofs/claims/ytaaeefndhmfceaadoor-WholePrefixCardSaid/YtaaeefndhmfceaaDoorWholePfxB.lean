/- The walk of WholePrefix: acts that may not be. -/
import Derived.Test.YtaaeefndhmfceaaDoorWholePfx0
namespace Go.Proofs.YtaaeefndhmfceaaDoor
open Go.RowKit MM

set_option maxHeartbeats 8000000 in
set_option maxRecDepth 100000 in
theorem wholePrefix_ea (a : AC.Ac) (A : Option Addr) (ca : Nat) (b : AC.Ac) (B : Option Addr) (cb : Nat) (w : World) (ha : ActIn w a A ca) (hb : ActIn w b B cb) (hR : RowsAt w) (h1 : AC.big a = false) (h2 : AC.big b = false) (h3 : 0 < AC.chk a) :
    Calls Tryd.prog 8 #[actV a A ca, actV b B cb] w fun e w' => e = .returned (.bool true) ∧ Below w.heap.size w w' := by
  have HR := Lib.hid hR
  have HIa := Lib.hid ha.make.its
  have HIb := Lib.hid hb.make.its
  have HGa := Lib.hid (fun w hA => big4_any a A ca w hA ha.make.len)
  have HGb := Lib.hid (fun w hB => big4_any b B cb w hB hb.make.len)
  rw [h1] at HGa
  rw [h2] at HGb
  have HCa := Lib.hid (fun w hI => rcheck4_any a A ca w ha.ok hI (act_smallP ha h1).1 (act_smallP ha h1).2.1 (act_smallP ha h1).2.2)
  have HCb := Lib.hid (fun w hI => rcheck4_any b B cb w hb.ok hI (act_smallP hb h2).1 (act_smallP hb h2).2.1 (act_smallP hb h2).2.2)
  generalize AC.chk a = Ea at *
  generalize AC.chk b = Eb at *
  have hE' : ((Ea : Int) != 0) = true := by simp; omega
  clear h3
  clear ha hb hR
  obtain ⟨k1, y1, n1, x1, s1, m1, u1⟩ := a
  obtain ⟨k2, y2, n2, x2, s2', m2, u2⟩ := b
  have q0 : IntKind.i64.wrap 0 = 0 := rfl
  have q1 : IntKind.i64.wrap 1 = 1 := rfl
  have q2 : IntKind.i64.wrap 2 = 2 := rfl
  go_enter Tryd.func8, Tryd.ntmps8
  go_wp2_with fail
  refine (actBytes_any d4 none 0 _ d4_ok (HR.out.below (below2 w _ _)) (Its.nil _ _) (by unfold Lim; decide) (by unfold Lim; decide) (by unfold Lim; decide)).mono ?_
  rw [d4_bytes]
  rintro e v1 ⟨A1, c1, rfl, ho1, hn1, hb1⟩
  have HV1 := Lib.hid (show Below w.heap.size w v1 from (below2 w _ _).trans (hb1.mono (by simp only [World.size_alloc]; omega)))
  have E0 := Lib.hid ((hb1.block w.heap.size (by simp only [World.size_alloc]; omega)).trans (heap_alloc2_old w _ _))
  have E1 := Lib.hid ((hb1.block (w.heap.size + 1) (by simp only [World.size_alloc]; omega)).trans (heap_alloc2_new w _ _))
  clear hb1 ho1 hn1
  go_wp2_with fail
  refine (recBytes_any s2 none 0 _ s2_ok (Its.nil _ _) (by unfold Lim; decide)).mono ?_
  rw [s2_bytes]
  rintro e w1 ⟨A2, c2, rfl, ho2, hn2, hb2⟩
  have HB1 := Lib.hid (HV1.out.trans (hb2.mono HV1.out.size))
  have e0 := (hb2.block _ (lt_of_heap E0.out)).trans E0.out
  have e1 := (hb2.block _ (lt_of_heap E1.out)).trans E1.out
  have cf := fun o => cell_of_row w1 _ o _ _ (0, 0) e0
  have cg := fun o => cell_of_row w1 _ o _ _ (0, 0) e1
  have hlt0 : w.heap.size < w1.heap.size := lt_of_heap e0
  have hlt1 : w.heap.size + 1 < w1.heap.size := lt_of_heap e1
  have HIa1 := Lib.hid (HIa.out.below HB1.out)
  have HIb1 := Lib.hid (HIb.out.below HB1.out)
  clear hb2 ho2 hn2 e0 e1 E0 E1 HV1
  go_wp2_with fail
  have hIa1 : Its w1.drew A m1.list := HIa1.out
  have hIb1 : Its w1.drew B m2.list := HIb1.out
  go_region_with (first
    | (go_at_call 30; (with_reducible refine (HGa.out _ hIa1).mono ?_); rintro e w2 ⟨rfl, hb2⟩; have hB2 : Below w1.heap.size w1 w2 := (below_a w1).trans hb2; have f2 : ∀ o, w2.cell? ⟨w.heap.size, o, none⟩ = _ := fun o => (hB2.cell (p := ⟨w.heap.size, o, none⟩) hlt0).trans (cf o); have g2 : ∀ o, w2.cell? ⟨w.heap.size + 1, o, none⟩ = _ := fun o => (hB2.cell (p := ⟨w.heap.size + 1, o, none⟩) hlt1).trans (cg o); have hIb2 := HIb1.out.below hB2)
    | (go_at_call 30; (with_reducible refine (HGb.out _ hIb2).mono ?_); rintro e w3 ⟨rfl, hb3⟩; have hB3 : Below w1.heap.size w1 w3 := hB2.trans (hb3.mono hB2.size); have f3 : ∀ o, w3.cell? ⟨w.heap.size, o, none⟩ = _ := fun o => (hB3.cell (p := ⟨w.heap.size, o, none⟩) hlt0).trans (cf o); have g3 : ∀ o, w3.cell? ⟨w.heap.size + 1, o, none⟩ = _ := fun o => (hB3.cell (p := ⟨w.heap.size + 1, o, none⟩) hlt1).trans (cg o); have hIa3 := HIa1.out.below hB3)
    | (go_at_call 17; (with_reducible refine (HCa.out _ hIa3).mono ?_); rintro e w4 ⟨rfl, hb4⟩; have hB4 : Below w1.heap.size w1 w4 := hB3.trans (hb4.mono hB3.size); have f4 : ∀ o, w4.cell? ⟨w.heap.size, o, none⟩ = _ := fun o => (hB4.cell (p := ⟨w.heap.size, o, none⟩) hlt0).trans (cf o); have g4 : ∀ o, w4.cell? ⟨w.heap.size + 1, o, none⟩ = _ := fun o => (hB4.cell (p := ⟨w.heap.size + 1, o, none⟩) hlt1).trans (cg o); have hIb4 := HIb1.out.below hB4))
  all_goals
    go_wp2_with fail
    go_ret
    exact ⟨rfl, HB1.out.trans (hB4.mono HB1.out.size)⟩

set_option maxHeartbeats 8000000 in
set_option maxRecDepth 100000 in
theorem wholePrefix_eb (a : AC.Ac) (A : Option Addr) (ca : Nat) (b : AC.Ac) (B : Option Addr) (cb : Nat) (w : World) (ha : ActIn w a A ca) (hb : ActIn w b B cb) (hR : RowsAt w) (h1 : AC.big a = false) (h2 : AC.big b = false) (h3 : AC.chk a = 0) (h4 : 0 < AC.chk b) :
    Calls Tryd.prog 8 #[actV a A ca, actV b B cb] w fun e w' => e = .returned (.bool true) ∧ Below w.heap.size w w' := by
  have HR := Lib.hid hR
  have HIa := Lib.hid ha.make.its
  have HIb := Lib.hid hb.make.its
  have HGa := Lib.hid (fun w hA => big4_any a A ca w hA ha.make.len)
  have HGb := Lib.hid (fun w hB => big4_any b B cb w hB hb.make.len)
  rw [h1] at HGa
  rw [h2] at HGb
  have HCa := Lib.hid (fun w hI => rcheck4_any a A ca w ha.ok hI (act_smallP ha h1).1 (act_smallP ha h1).2.1 (act_smallP ha h1).2.2)
  have HCb := Lib.hid (fun w hI => rcheck4_any b B cb w hb.ok hI (act_smallP hb h2).1 (act_smallP hb h2).2.1 (act_smallP hb h2).2.2)
  rw [h3] at HCa
  generalize AC.chk b = Eb at *
  have hE' : ((Eb : Int) != 0) = true := by simp; omega
  clear h3 h4
  clear ha hb hR
  obtain ⟨k1, y1, n1, x1, s1, m1, u1⟩ := a
  obtain ⟨k2, y2, n2, x2, s2', m2, u2⟩ := b
  have q0 : IntKind.i64.wrap 0 = 0 := rfl
  have q1 : IntKind.i64.wrap 1 = 1 := rfl
  have q2 : IntKind.i64.wrap 2 = 2 := rfl
  go_enter Tryd.func8, Tryd.ntmps8
  go_wp2_with fail
  refine (actBytes_any d4 none 0 _ d4_ok (HR.out.below (below2 w _ _)) (Its.nil _ _) (by unfold Lim; decide) (by unfold Lim; decide) (by unfold Lim; decide)).mono ?_
  rw [d4_bytes]
  rintro e v1 ⟨A1, c1, rfl, ho1, hn1, hb1⟩
  have HV1 := Lib.hid (show Below w.heap.size w v1 from (below2 w _ _).trans (hb1.mono (by simp only [World.size_alloc]; omega)))
  have E0 := Lib.hid ((hb1.block w.heap.size (by simp only [World.size_alloc]; omega)).trans (heap_alloc2_old w _ _))
  have E1 := Lib.hid ((hb1.block (w.heap.size + 1) (by simp only [World.size_alloc]; omega)).trans (heap_alloc2_new w _ _))
  clear hb1 ho1 hn1
  go_wp2_with fail
  refine (recBytes_any s2 none 0 _ s2_ok (Its.nil _ _) (by unfold Lim; decide)).mono ?_
  rw [s2_bytes]
  rintro e w1 ⟨A2, c2, rfl, ho2, hn2, hb2⟩
  have HB1 := Lib.hid (HV1.out.trans (hb2.mono HV1.out.size))
  have e0 := (hb2.block _ (lt_of_heap E0.out)).trans E0.out
  have e1 := (hb2.block _ (lt_of_heap E1.out)).trans E1.out
  have cf := fun o => cell_of_row w1 _ o _ _ (0, 0) e0
  have cg := fun o => cell_of_row w1 _ o _ _ (0, 0) e1
  have hlt0 : w.heap.size < w1.heap.size := lt_of_heap e0
  have hlt1 : w.heap.size + 1 < w1.heap.size := lt_of_heap e1
  have HIa1 := Lib.hid (HIa.out.below HB1.out)
  have HIb1 := Lib.hid (HIb.out.below HB1.out)
  clear hb2 ho2 hn2 e0 e1 E0 E1 HV1
  go_wp2_with fail
  have hIa1 : Its w1.drew A m1.list := HIa1.out
  have hIb1 : Its w1.drew B m2.list := HIb1.out
  go_region_with (first
    | (go_at_call 30; (with_reducible refine (HGa.out _ hIa1).mono ?_); rintro e w2 ⟨rfl, hb2⟩; have hB2 : Below w1.heap.size w1 w2 := (below_a w1).trans hb2; have f2 : ∀ o, w2.cell? ⟨w.heap.size, o, none⟩ = _ := fun o => (hB2.cell (p := ⟨w.heap.size, o, none⟩) hlt0).trans (cf o); have g2 : ∀ o, w2.cell? ⟨w.heap.size + 1, o, none⟩ = _ := fun o => (hB2.cell (p := ⟨w.heap.size + 1, o, none⟩) hlt1).trans (cg o); have hIb2 := HIb1.out.below hB2)
    | (go_at_call 30; (with_reducible refine (HGb.out _ hIb2).mono ?_); rintro e w3 ⟨rfl, hb3⟩; have hB3 : Below w1.heap.size w1 w3 := hB2.trans (hb3.mono hB2.size); have f3 : ∀ o, w3.cell? ⟨w.heap.size, o, none⟩ = _ := fun o => (hB3.cell (p := ⟨w.heap.size, o, none⟩) hlt0).trans (cf o); have g3 : ∀ o, w3.cell? ⟨w.heap.size + 1, o, none⟩ = _ := fun o => (hB3.cell (p := ⟨w.heap.size + 1, o, none⟩) hlt1).trans (cg o); have hIa3 := HIa1.out.below hB3)
    | (go_at_call 17; (with_reducible refine (HCa.out _ hIa3).mono ?_); rintro e w4 ⟨rfl, hb4⟩; have hB4 : Below w1.heap.size w1 w4 := hB3.trans (hb4.mono hB3.size); have f4 : ∀ o, w4.cell? ⟨w.heap.size, o, none⟩ = _ := fun o => (hB4.cell (p := ⟨w.heap.size, o, none⟩) hlt0).trans (cf o); have g4 : ∀ o, w4.cell? ⟨w.heap.size + 1, o, none⟩ = _ := fun o => (hB4.cell (p := ⟨w.heap.size + 1, o, none⟩) hlt1).trans (cg o); have hIb4 := HIb1.out.below hB4)
    | (go_at_call 17; (with_reducible refine (HCb.out _ hIb4).mono ?_); rintro e w5 ⟨rfl, hb5⟩; have hB5 : Below w1.heap.size w1 w5 := hB4.trans (hb5.mono hB4.size); have f5 : ∀ o, w5.cell? ⟨w.heap.size, o, none⟩ = _ := fun o => (hB5.cell (p := ⟨w.heap.size, o, none⟩) hlt0).trans (cf o); have g5 : ∀ o, w5.cell? ⟨w.heap.size + 1, o, none⟩ = _ := fun o => (hB5.cell (p := ⟨w.heap.size + 1, o, none⟩) hlt1).trans (cg o)))
  all_goals
    go_wp2_with fail
    go_ret
    exact ⟨rfl, HB1.out.trans (hB5.mono HB1.out.size)⟩

end Go.Proofs.YtaaeefndhmfceaaDoor
