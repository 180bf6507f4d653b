/- Contracts of package act: the act that bytes are. -/
import Derived.Test.YtaaeefndhmfceaaGreatDoorAct7
import Derived.Test.YtaaeefndhmfceaaGreatDoorRec9
namespace Go.Proofs.YtaaeefndhmfceaaGreatDoor
open Go.RowKit MM

set_option maxHeartbeats 1000000 in
set_option maxRecDepth 100000 in
theorem actCatch_fault (q : Nat) (x y : Value) (code at_ : Nat) (older : List PanicEntry) (w : World) (h0 : w.cell? ⟨q, 0, none⟩ = some x) (h1 : w.cell? ⟨q, 1, none⟩ = some y) (hf : ∀ o, w.frozen? ⟨q, o, none⟩ = false) :
    CallsD Tryz.prog 37 #[.pointer (some ⟨q, 0, none⟩)] (.panicking ({ v := .iface 34 (fltV code at_), recovered := false } :: older)) w fun e u' w' =>
      e = .returned (.tuple #[]) ∧ u' = .panicking ({ v := .iface 34 (fltV code at_), recovered := true } :: older) ∧ LaidAt q code at_ w w' := by
  refine callsD_of_wpS Tryz.func37 rfl fun c₀ cs hu => ?_
  apply wpS_region
  simp [wpOpsS, go_sem, recoverD, hu, Tryz.ntmps37]
  refine (caught_fault code at_ w).mono ?_
  rintro e w1 ⟨rfl, hb1⟩
  have hq : q < w.heap.size := World.block_lt_of_cell? w _ h0
  have c0 : w1.cell? ⟨q, 0, none⟩ = some x := (hb1.cell (p := ⟨q, 0, none⟩) hq).trans h0
  have c1 : w1.cell? ⟨q, 1, none⟩ = some y := (hb1.cell (p := ⟨q, 1, none⟩) hq).trans h1
  have f0 : ∀ o, w1.frozen? ⟨q, o, none⟩ = false := fun o => (hb1.frozen (p := ⟨q, o, none⟩) hq).trans (hf o)
  simp [go_sem, c0, c1, f0, bodyPostS, results, Tryz.results37]
  exact ⟨w1, hb1, rfl⟩

set_option maxHeartbeats 1000000 in
set_option maxRecDepth 100000 in
theorem actCatch_none (q : Nat) (x y : Value) (w : World) (h0 : w.cell? ⟨q, 0, none⟩ = some x) (h1 : w.cell? ⟨q, 1, none⟩ = some y) (hf : ∀ o, w.frozen? ⟨q, o, none⟩ = false) :
    CallsD Tryz.prog 37 #[.pointer (some ⟨q, 0, none⟩)] .returning w fun e u' w' =>
      e = .returned (.tuple #[]) ∧ u' = .returning ∧ LaidAt q 0 0 w w' := by
  refine callsD_of_wpS Tryz.func37 rfl fun c₀ cs hu => ?_
  apply wpS_region
  simp [wpOpsS, go_sem, recoverD, hu, Tryz.ntmps37]
  refine (caught_nil w).mono ?_
  rintro e w1 ⟨rfl, hb1⟩
  have hq : q < w.heap.size := World.block_lt_of_cell? w _ h0
  have c0 : w1.cell? ⟨q, 0, none⟩ = some x := (hb1.cell (p := ⟨q, 0, none⟩) hq).trans h0
  have c1 : w1.cell? ⟨q, 1, none⟩ = some y := (hb1.cell (p := ⟨q, 1, none⟩) hq).trans h1
  have f0 : ∀ o, w1.frozen? ⟨q, o, none⟩ = false := fun o => (hb1.frozen (p := ⟨q, o, none⟩) hq).trans (hf o)
  cases c₀
  simp_all [go_sem, bodyPostS, results, Tryz.results37]
  exact ⟨w1, hb1, rfl⟩

def RActPost (r : Res AC.Ac) (w : World) (e : Ending) (w' : World) : Prop :=
  match r with
  | .ok r _ => ∃ A c, e = .returned (.tuple #[actV r A c, fltV 0 0]) ∧ w'.ownsRow 0 88 2 (.slice A r.make.list.length c) r.make.list.length (itCells r.make.list) ∧ (∀ k, ob A = some k → w.heap.size ≤ k) ∧ Below w.heap.size w w'
  | .bad code n => e = .returned (.tuple #[actV AC.zero none 0, fltV code n]) ∧ Below w.heap.size w w'

theorem RActPost.bad {r : Res AC.Ac} {code n : Nat} {z : Int} {w w' : World} (h : r = .bad code n) (hz : z = (n : Int)) (hb : Below w.heap.size w w') : RActPost r w (.returned (.tuple #[.agg zeroA, .agg #[.int .i64 (code : Int), .int .i64 z]])) w' := by
  subst h hz
  exact ⟨rfl, hb⟩
theorem RActPost.good {r : Res AC.Ac} {x : AC.Ac} {n : Nat} {A : Option Addr} {c : Nat} {w w' : World} (h : r = .ok x n) (ho : w'.ownsRow 0 88 2 (.slice A x.make.list.length c) x.make.list.length (itCells x.make.list)) (hn : ∀ k, ob A = some k → w.heap.size ≤ k) (hb : Below w.heap.size w w') :
    RActPost r w (.returned (.tuple #[actV x A c, .agg #[.int .i64 0, .int .i64 0]])) w' := by
  subst h
  exact ⟨A, c, rfl, ho, hn, hb⟩
section
variable {w : World} {g : Nat} {x0 x1 x2 x3 x4 x5 x6 x7 x8 x9 x10 x11 x12 x13 d0 d1 d2 d3 d4 d5 d6 d7 d8 d9 d10 d11 d12 d13 : Value} {t : TypeId}
theorem act_all (hq : w.heap[g]? = some (.cells #[x0, x1, x2, x3, x4, x5, x6, x7, x8, x9, x10, x11, x12, x13] t (0, 0))) :
    ((((((((((((((w.setCell ⟨g, 0, none⟩ d0).setCell ⟨g, 1, none⟩ d1).setCell ⟨g, 2, none⟩ d2).setCell ⟨g, 3, none⟩ d3).setCell ⟨g, 4, none⟩ d4).setCell ⟨g, 5, none⟩ d5).setCell ⟨g, 6, none⟩ d6).setCell ⟨g, 7, none⟩ d7).setCell ⟨g, 8, none⟩ d8).setCell ⟨g, 9, none⟩ d9).setCell ⟨g, 10, none⟩ d10).setCell ⟨g, 11, none⟩ d11).setCell ⟨g, 12, none⟩ d12).setCell ⟨g, 13, none⟩ d13).heap[g]? = some (.cells #[d0, d1, d2, d3, d4, d5, d6, d7, d8, d9, d10, d11, d12, d13] t (0, 0)) := by
  have h0 : (w.setCell ⟨g, 0, none⟩ d0).heap[g]? = some (.cells #[d0, x1, x2, x3, x4, x5, x6, x7, x8, x9, x10, x11, x12, x13] t (0, 0)) := heap_setCell_same _ _ _ _ _ _ hq
  have h1 : ((w.setCell ⟨g, 0, none⟩ d0).setCell ⟨g, 1, none⟩ d1).heap[g]? = some (.cells #[d0, d1, x2, x3, x4, x5, x6, x7, x8, x9, x10, x11, x12, x13] t (0, 0)) := heap_setCell_same _ _ _ _ _ _ h0
  have h2 : (((w.setCell ⟨g, 0, none⟩ d0).setCell ⟨g, 1, none⟩ d1).setCell ⟨g, 2, none⟩ d2).heap[g]? = some (.cells #[d0, d1, d2, x3, x4, x5, x6, x7, x8, x9, x10, x11, x12, x13] t (0, 0)) := heap_setCell_same _ _ _ _ _ _ h1
  have h3 : ((((w.setCell ⟨g, 0, none⟩ d0).setCell ⟨g, 1, none⟩ d1).setCell ⟨g, 2, none⟩ d2).setCell ⟨g, 3, none⟩ d3).heap[g]? = some (.cells #[d0, d1, d2, d3, x4, x5, x6, x7, x8, x9, x10, x11, x12, x13] t (0, 0)) := heap_setCell_same _ _ _ _ _ _ h2
  have h4 : (((((w.setCell ⟨g, 0, none⟩ d0).setCell ⟨g, 1, none⟩ d1).setCell ⟨g, 2, none⟩ d2).setCell ⟨g, 3, none⟩ d3).setCell ⟨g, 4, none⟩ d4).heap[g]? = some (.cells #[d0, d1, d2, d3, d4, x5, x6, x7, x8, x9, x10, x11, x12, x13] t (0, 0)) := heap_setCell_same _ _ _ _ _ _ h3
  have h5 : ((((((w.setCell ⟨g, 0, none⟩ d0).setCell ⟨g, 1, none⟩ d1).setCell ⟨g, 2, none⟩ d2).setCell ⟨g, 3, none⟩ d3).setCell ⟨g, 4, none⟩ d4).setCell ⟨g, 5, none⟩ d5).heap[g]? = some (.cells #[d0, d1, d2, d3, d4, d5, x6, x7, x8, x9, x10, x11, x12, x13] t (0, 0)) := heap_setCell_same _ _ _ _ _ _ h4
  have h6 : (((((((w.setCell ⟨g, 0, none⟩ d0).setCell ⟨g, 1, none⟩ d1).setCell ⟨g, 2, none⟩ d2).setCell ⟨g, 3, none⟩ d3).setCell ⟨g, 4, none⟩ d4).setCell ⟨g, 5, none⟩ d5).setCell ⟨g, 6, none⟩ d6).heap[g]? = some (.cells #[d0, d1, d2, d3, d4, d5, d6, x7, x8, x9, x10, x11, x12, x13] t (0, 0)) := heap_setCell_same _ _ _ _ _ _ h5
  have h7 : ((((((((w.setCell ⟨g, 0, none⟩ d0).setCell ⟨g, 1, none⟩ d1).setCell ⟨g, 2, none⟩ d2).setCell ⟨g, 3, none⟩ d3).setCell ⟨g, 4, none⟩ d4).setCell ⟨g, 5, none⟩ d5).setCell ⟨g, 6, none⟩ d6).setCell ⟨g, 7, none⟩ d7).heap[g]? = some (.cells #[d0, d1, d2, d3, d4, d5, d6, d7, x8, x9, x10, x11, x12, x13] t (0, 0)) := heap_setCell_same _ _ _ _ _ _ h6
  have h8 : (((((((((w.setCell ⟨g, 0, none⟩ d0).setCell ⟨g, 1, none⟩ d1).setCell ⟨g, 2, none⟩ d2).setCell ⟨g, 3, none⟩ d3).setCell ⟨g, 4, none⟩ d4).setCell ⟨g, 5, none⟩ d5).setCell ⟨g, 6, none⟩ d6).setCell ⟨g, 7, none⟩ d7).setCell ⟨g, 8, none⟩ d8).heap[g]? = some (.cells #[d0, d1, d2, d3, d4, d5, d6, d7, d8, x9, x10, x11, x12, x13] t (0, 0)) := heap_setCell_same _ _ _ _ _ _ h7
  have h9 : ((((((((((w.setCell ⟨g, 0, none⟩ d0).setCell ⟨g, 1, none⟩ d1).setCell ⟨g, 2, none⟩ d2).setCell ⟨g, 3, none⟩ d3).setCell ⟨g, 4, none⟩ d4).setCell ⟨g, 5, none⟩ d5).setCell ⟨g, 6, none⟩ d6).setCell ⟨g, 7, none⟩ d7).setCell ⟨g, 8, none⟩ d8).setCell ⟨g, 9, none⟩ d9).heap[g]? = some (.cells #[d0, d1, d2, d3, d4, d5, d6, d7, d8, d9, x10, x11, x12, x13] t (0, 0)) := heap_setCell_same _ _ _ _ _ _ h8
  have h10 : (((((((((((w.setCell ⟨g, 0, none⟩ d0).setCell ⟨g, 1, none⟩ d1).setCell ⟨g, 2, none⟩ d2).setCell ⟨g, 3, none⟩ d3).setCell ⟨g, 4, none⟩ d4).setCell ⟨g, 5, none⟩ d5).setCell ⟨g, 6, none⟩ d6).setCell ⟨g, 7, none⟩ d7).setCell ⟨g, 8, none⟩ d8).setCell ⟨g, 9, none⟩ d9).setCell ⟨g, 10, none⟩ d10).heap[g]? = some (.cells #[d0, d1, d2, d3, d4, d5, d6, d7, d8, d9, d10, x11, x12, x13] t (0, 0)) := heap_setCell_same _ _ _ _ _ _ h9
  have h11 : ((((((((((((w.setCell ⟨g, 0, none⟩ d0).setCell ⟨g, 1, none⟩ d1).setCell ⟨g, 2, none⟩ d2).setCell ⟨g, 3, none⟩ d3).setCell ⟨g, 4, none⟩ d4).setCell ⟨g, 5, none⟩ d5).setCell ⟨g, 6, none⟩ d6).setCell ⟨g, 7, none⟩ d7).setCell ⟨g, 8, none⟩ d8).setCell ⟨g, 9, none⟩ d9).setCell ⟨g, 10, none⟩ d10).setCell ⟨g, 11, none⟩ d11).heap[g]? = some (.cells #[d0, d1, d2, d3, d4, d5, d6, d7, d8, d9, d10, d11, x12, x13] t (0, 0)) := heap_setCell_same _ _ _ _ _ _ h10
  have h12 : (((((((((((((w.setCell ⟨g, 0, none⟩ d0).setCell ⟨g, 1, none⟩ d1).setCell ⟨g, 2, none⟩ d2).setCell ⟨g, 3, none⟩ d3).setCell ⟨g, 4, none⟩ d4).setCell ⟨g, 5, none⟩ d5).setCell ⟨g, 6, none⟩ d6).setCell ⟨g, 7, none⟩ d7).setCell ⟨g, 8, none⟩ d8).setCell ⟨g, 9, none⟩ d9).setCell ⟨g, 10, none⟩ d10).setCell ⟨g, 11, none⟩ d11).setCell ⟨g, 12, none⟩ d12).heap[g]? = some (.cells #[d0, d1, d2, d3, d4, d5, d6, d7, d8, d9, d10, d11, d12, x13] t (0, 0)) := heap_setCell_same _ _ _ _ _ _ h11
  have h13 : ((((((((((((((w.setCell ⟨g, 0, none⟩ d0).setCell ⟨g, 1, none⟩ d1).setCell ⟨g, 2, none⟩ d2).setCell ⟨g, 3, none⟩ d3).setCell ⟨g, 4, none⟩ d4).setCell ⟨g, 5, none⟩ d5).setCell ⟨g, 6, none⟩ d6).setCell ⟨g, 7, none⟩ d7).setCell ⟨g, 8, none⟩ d8).setCell ⟨g, 9, none⟩ d9).setCell ⟨g, 10, none⟩ d10).setCell ⟨g, 11, none⟩ d11).setCell ⟨g, 12, none⟩ d12).setCell ⟨g, 13, none⟩ d13).heap[g]? = some (.cells #[d0, d1, d2, d3, d4, d5, d6, d7, d8, d9, d10, d11, d12, d13] t (0, 0)) := heap_setCell_same _ _ _ _ _ _ h12
  exact h13
theorem act_other {k : Nat} (h : k ≠ g) : ((((((((((((((w.setCell ⟨g, 0, none⟩ d0).setCell ⟨g, 1, none⟩ d1).setCell ⟨g, 2, none⟩ d2).setCell ⟨g, 3, none⟩ d3).setCell ⟨g, 4, none⟩ d4).setCell ⟨g, 5, none⟩ d5).setCell ⟨g, 6, none⟩ d6).setCell ⟨g, 7, none⟩ d7).setCell ⟨g, 8, none⟩ d8).setCell ⟨g, 9, none⟩ d9).setCell ⟨g, 10, none⟩ d10).setCell ⟨g, 11, none⟩ d11).setCell ⟨g, 12, none⟩ d12).setCell ⟨g, 13, none⟩ d13).heap[k]? = w.heap[k]? := by
  iterate 14 refine (heap_setCell_other _ _ _ _ h).trans ?_
  rfl
end

set_option maxHeartbeats 2000000 in
set_option maxRecDepth 100000 in
theorem actRead_any (A : Option Addr) (c : Nat) (bs : List UInt8) (w : World) (hb : Bts w A bs) (hl : Lim bs.length) (hR : RowsAt w) :
    Calls Tryz.prog 11 #[.slice A bs.length c] w (RActPost (wholeR actR bs) w) := by
  have hmf : ∀ (fn : Fn) (first cap : Array Value) (w : World), (Instr.makeFunc fn first cap).run Tryz.prog w = .ok (.func fn first cap) w := fun _ _ _ _ => rfl
  have HB := Lib.hid hb
  have HRo := Lib.hid hR
  clear hb hR
  cases hR : actR bs with
  | bad code n =>
    have HC := Lib.hid (wholeR_bad hR)
    have HR := Lib.hid hR
    clear hR
    go_enter_defers Tryz.func11, Tryz.ntmps11
    go_wp2_with fail
    refine (new_any A c bs _ ((HB.out.alloc _).alloc _) hl).mono ?_
    rintro e w1 ⟨q, A1, c1, rfl, hr1, hq1, ha1, hb1⟩
    have hs1 := hb1.size
    simp only [World.size_alloc] at hq1 ha1 hs1
    have e0 := (hb1.block w.heap.size (by simp only [World.size_alloc]; omega)).trans (heap_alloc2_old w _ _)
    have e1 := (hb1.block (w.heap.size + 1) (by simp only [World.size_alloc]; omega)).trans (heap_alloc2_new w _ _)
    have hx := actTake_any q A1 c1 bs 0 w1 hr1 ((HRo.out.below (below2 w _ _)).below hb1) (by have := rows_lt HRo.out; omega)
    rw [List.drop_zero, HR.out] at hx
    have Hx := Lib.hid hx
    have HE0 := Lib.hid e0
    have HE1 := Lib.hid e1
    have HB1 := Lib.hid (show Below w.heap.size w w1 from (below2 w _ _).trans (hb1.mono (by simp; omega)))
    clear hx e0 e1 hb1
    go_wp2_with fail
    refine Hx.out.mono ?_
    rintro e w2 ⟨rfl, hr2, hk2⟩
    have z0 := (hk2.block _ (by omega) (by show ¬ w.heap.size = q; omega)).trans HE0.out
    have z1 := (hk2.block _ (by omega) (by show ¬ w.heap.size + 1 = q; omega)).trans HE1.out
    have d0 : w2.cell? ⟨w.heap.size + 1, 0, none⟩ = some (.int .i64 0) := (cell_of_row _ _ 0 _ _ (0, 0) z1).trans rfl
    have d1 : w2.cell? ⟨w.heap.size + 1, 1, none⟩ = some (.int .i64 0) := (cell_of_row _ _ 1 _ _ (0, 0) z1).trans rfl
    have df : ∀ o, w2.frozen? ⟨w.heap.size + 1, o, none⟩ = false := fun o => frozen_of_row _ _ o _ _ z1
    have hz2 := lt_of_heap z1
    have Z0 := Lib.hid z0
    have Z1 := Lib.hid z1
    have HB2 := Lib.hid (show Below w.heap.size w w2 from HB1.out.trans (hk2.below (by omega) (fun j hj e => by have h1 : j = q := e; omega)))
    clear z0 z1 Hx
    go_wp2
    try rw [show (((0 : Nat) : Int) + (n : Int)) = ((n : Nat) : Int) by omega]
    refine leaves_cons (f := 37) (args := #[.pointer (some ⟨w.heap.size + 1, 0, none⟩)]) (by simp) (by simp [go_sem]) ?_
    refine (actCatch_fault (w.heap.size + 1) _ _ code n [] _ d0 d1 df).mono ?_
    rintro e u' w'' ⟨rfl, rfl, w5, hb5, rfl⟩
    have y0 := (hb5.block _ (by omega)).trans Z0.out
    have y1 := (hb5.block _ hz2).trans Z1.out
    have c0 := fun o => cell_of_row w5 _ o _ _ (0, 0) y0
    have c1 := fun o => cell_of_row w5 _ o _ _ (0, 0) y1
    simp [Leaves, settle, results, Tryz.results11, go_sem, c0, c1]
    exact RActPost.bad HC.out rfl (((HB2.out.trans (hb5.mono HB2.out.size)).setCell (by simp) _).setCell (by simp) _)
  | ok r n =>
    have HR := Lib.hid hR
    clear hR
    go_enter_defers Tryz.func11, Tryz.ntmps11
    go_wp2_with fail
    refine (new_any A c bs _ ((HB.out.alloc _).alloc _) hl).mono ?_
    rintro e w1 ⟨q, A1, c1, rfl, hr1, hq1, ha1, hb1⟩
    have hs1 := hb1.size
    simp only [World.size_alloc] at hq1 ha1 hs1
    have e0 := (hb1.block w.heap.size (by simp only [World.size_alloc]; omega)).trans (heap_alloc2_old w _ _)
    have e1 := (hb1.block (w.heap.size + 1) (by simp only [World.size_alloc]; omega)).trans (heap_alloc2_new w _ _)
    have hx := actTake_any q A1 c1 bs 0 w1 hr1 ((HRo.out.below (below2 w _ _)).below hb1) (by have := rows_lt HRo.out; omega)
    rw [List.drop_zero, HR.out] at hx
    have Hx := Lib.hid hx
    have HE0 := Lib.hid e0
    have HE1 := Lib.hid e1
    have HB1 := Lib.hid (show Below w.heap.size w w1 from (below2 w _ _).trans (hb1.mono (by simp; omega)))
    clear hx e0 e1 hb1
    go_wp2_with fail
    refine Hx.out.mono ?_
    rintro e w2 ⟨A2, c2, rfl, hown, hnew, hr2, hk2⟩
    have z0 := (hk2.block _ (by omega) (by show ¬ w.heap.size = q; omega)).trans HE0.out
    have z1 := (hk2.block _ (by omega) (by show ¬ w.heap.size + 1 = q; omega)).trans HE1.out
    have Z0 := Lib.hid z0
    have Z1 := Lib.hid z1
    have HB2 := Lib.hid (show Below w.heap.size w w2 from HB1.out.trans (hk2.below (by omega) (fun j hj e => by have h1 : j = q := e; omega)))
    have hz2 := lt_of_heap z1
    have hK2 := hk2.size
    clear z0 z1 Hx
    have hx := fun o => rend_any q A1 c1 bs (0 + n) (w2.alloc o) (hr2.alloc o)
    by_cases hE : bs.drop n = []
    · rw [Nat.zero_add, show endR (bs.drop n) = .ok () 0 by unfold endR; rw [if_pos hE]] at hx
      have Hx := Lib.hid hx
      have HC := Lib.hid (wholeR_ok HR.out hE)
      clear hx hE
      go_wp2_with fail
      refine (Hx.out _).mono ?_
      rintro e w3 ⟨rfl, hr3, hk3⟩
      have e2 := rd_new hk3 (by have := hr1.lt; omega)
      have y0 := (hk3.block _ (by simp; omega) (by show ¬ w.heap.size = q; omega)).trans ((heap_alloc_old w2 _ (by omega)).trans Z0.out)
      have y1 := (hk3.block _ (by simp; omega) (by show ¬ w.heap.size + 1 = q; omega)).trans ((heap_alloc_old w2 _ (by omega)).trans Z1.out)
      have c2' := fun o => cell_of_row w3 _ o _ _ (0, 0) e2
      have c0' := fun o => cell_of_row w3 _ o _ _ (0, 0) y0
      have c1' := fun o => cell_of_row w3 _ o _ _ (0, 0) y1
      have f0' : ∀ o, w3.frozen? ⟨w.heap.size, o, none⟩ = false := fun o => frozen_of_row _ _ o _ _ y0
      have f1' : ∀ o, w3.frozen? ⟨w.heap.size + 1, o, none⟩ = false := fun o => frozen_of_row _ _ o _ _ y1
      have HW := Lib.hid (hk3.own (hown.alloc _) (fun k e x => by rw [ownBlock_slice] at e; have h1 := hnew k e; have h2 : k = q := x; have := hr1.lt; omega))
      have HN := Lib.hid hnew
      have hsz3 := hk3.size
      simp only [World.size_alloc] at hsz3
      have Y0 := Lib.hid y0
      have Y1 := Lib.hid y1
      have HB3 := Lib.hid (show Below w.heap.size w w3 from (HB2.out.alloc (by omega) _).trans (hk3.below (by simp; omega) (fun j hj e => by have h1 : j = q := e; omega)))
      clear e2 y0 y1 Hx hown hnew
      go_wp2_with fail
      generalize hw4 : World.setCell _ _ _ = w4
      have X0 : w4.heap[w.heap.size]? = some (.cells (actC r A2 c2) 27 (0, 0)) := by
        rw [← hw4]
        exact (heap_setCell_other _ _ _ _ (by show w.heap.size ≠ w.heap.size + 1; omega)).trans ((heap_setCell_other _ _ _ _ (by show w.heap.size ≠ w.heap.size + 1; omega)).trans (act_all Y0.out))
      have X1 : w4.heap[w.heap.size + 1]? = some (.cells #[.int .i64 0, .int .i64 0] 34 (0, 0)) := by
        rw [← hw4]
        exact heap_setCell_same _ _ _ _ _ _ (heap_setCell_same _ _ _ _ _ _ ((act_other (by omega)).trans Y1.out))
      have K4 : Kp (fun k => w.heap.size ≤ k ∧ k ≤ w.heap.size + 1) w3 w4 := by
        rw [← hw4]
        iterate 16 refine Kp.setCell ?_ (Or.inl (by show w.heap.size ≤ _ ∧ _ ≤ w.heap.size + 1; simp only; omega)) _
        exact Kp.refl _ _
      have HK4 := Lib.hid K4
      have hsz4 := K4.size
      have hc0 : w4.cell? ⟨w.heap.size + 1, 0, none⟩ = some (.int .i64 0) := (cell_of_row _ _ 0 _ _ (0, 0) X1).trans rfl
      have hc1 : w4.cell? ⟨w.heap.size + 1, 1, none⟩ = some (.int .i64 0) := (cell_of_row _ _ 1 _ _ (0, 0) X1).trans rfl
      have hf4 : ∀ o, w4.frozen? ⟨w.heap.size + 1, o, none⟩ = false := fun o => frozen_of_row _ _ o _ _ X1
      have HX0 := Lib.hid X0
      have HX1 := Lib.hid X1
      clear hw4 X0 X1 K4 Y0 Y1 c0' c1' c2' f0' f1'
      refine leaves_cons (f := 37) (args := #[.pointer (some ⟨w.heap.size + 1, 0, none⟩)]) (by simp) (by simp [go_sem]) ?_
      refine (actCatch_none (w.heap.size + 1) _ _ _ hc0 hc1 hf4).mono ?_
      rintro e u' w'' ⟨rfl, rfl, w5, hb5, rfl⟩
      have y0 := (hb5.block _ (by omega)).trans HX0.out
      have y1 := (hb5.block _ (by omega)).trans HX1.out
      have c0' := fun o => cell_of_row w5 _ o _ _ (0, 0) y0
      have c1' := fun o => cell_of_row w5 _ o _ _ (0, 0) y1
      simp [Leaves, settle, results, Tryz.results11, go_sem, c0', c1']
      have K5 : Kp (fun k => w.heap.size ≤ k ∧ k ≤ w.heap.size + 1) w3 ((w5.setCell ⟨w.heap.size + 1, 0, none⟩ (.int .i64 0)).setCell ⟨w.heap.size + 1, 1, none⟩ (.int .i64 0)) :=
        Kp.setCell (Kp.setCell (HK4.out.same (Kp.of_below hb5 _)) (Or.inl ⟨by show w.heap.size ≤ w.heap.size + 1; omega, Nat.le_refl _⟩) _) (Or.inl ⟨by show w.heap.size ≤ w.heap.size + 1; omega, Nat.le_refl _⟩) _
      exact RActPost.good HC.out (K5.own HW.out (fun k e x => by rw [ownBlock_slice] at e; have := HN.out k e; have x' : w.heap.size ≤ k ∧ k ≤ w.heap.size + 1 := x; omega)) (fun k e => by have := HN.out k e; omega)
        (HB3.out.trans (K5.below HB3.out.size (fun j hj e => by have x' : w.heap.size ≤ j ∧ j ≤ w.heap.size + 1 := e; omega)))
    · rw [Nat.zero_add, show endR (bs.drop n) = .bad 3 0 by unfold endR; rw [if_neg hE]] at hx
      have Hx := Lib.hid hx
      have HC := Lib.hid (wholeR_long HR.out hE)
      clear hx hE
      go_wp2_with fail
      refine (Hx.out _).mono ?_
      rintro e w3 ⟨rfl, hr3, hk3⟩
      have y0 := (hk3.block _ (by simp; omega) (by show ¬ w.heap.size = q; omega)).trans ((heap_alloc_old w2 _ (by omega)).trans Z0.out)
      have y1 := (hk3.block _ (by simp; omega) (by show ¬ w.heap.size + 1 = q; omega)).trans ((heap_alloc_old w2 _ (by omega)).trans Z1.out)
      have d0 : w3.cell? ⟨w.heap.size + 1, 0, none⟩ = some (.int .i64 0) := (cell_of_row _ _ 0 _ _ (0, 0) y1).trans rfl
      have d1 : w3.cell? ⟨w.heap.size + 1, 1, none⟩ = some (.int .i64 0) := (cell_of_row _ _ 1 _ _ (0, 0) y1).trans rfl
      have df : ∀ o, w3.frozen? ⟨w.heap.size + 1, o, none⟩ = false := fun o => frozen_of_row _ _ o _ _ y1
      have hsz3 := hk3.size
      simp only [World.size_alloc] at hsz3
      have Y0 := Lib.hid y0
      have Y1 := Lib.hid y1
      have HB3 := Lib.hid (show Below w.heap.size w w3 from (HB2.out.alloc (by omega) _).trans (hk3.below (by simp; omega) (fun j hj e => by have h1 : j = q := e; omega)))
      clear y0 y1 Hx
      go_wp2
      refine leaves_cons (f := 37) (args := #[.pointer (some ⟨w.heap.size + 1, 0, none⟩)]) (by simp) (by simp [go_sem]) ?_
      refine (actCatch_fault (w.heap.size + 1) _ _ 3 n [] _ d0 d1 df).mono ?_
      rintro e u' w'' ⟨rfl, rfl, w5, hb5, rfl⟩
      have y0 := (hb5.block _ (by omega)).trans Y0.out
      have y1 := (hb5.block _ (by omega)).trans Y1.out
      have c0 := fun o => cell_of_row w5 _ o _ _ (0, 0) y0
      have c1 := fun o => cell_of_row w5 _ o _ _ (0, 0) y1
      simp [Leaves, settle, results, Tryz.results11, go_sem, c0, c1]
      exact RActPost.bad (code := 3) HC.out rfl (((HB3.out.trans (hb5.mono HB3.out.size)).setCell (by simp) _).setCell (by simp) _)

end Go.Proofs.YtaaeefndhmfceaaGreatDoor
