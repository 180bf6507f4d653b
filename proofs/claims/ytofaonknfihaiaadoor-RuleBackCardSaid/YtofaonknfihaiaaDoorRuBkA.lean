/- The walk of RuleBack. -/
import Derived.Test.YtofaonknfihaiaaDoorRuB
import Derived.Test.YtofaonknfihaiaaDoorSp5b
import Derived.Test.YtofaonknfihaiaaDoorRef4bm
namespace Go.Proofs.YtofaonknfihaiaaDoor
open Go.RowKit MM

theorem act_smallK {a : AC.Ac} (hb : AC.big a = false) : Lim a.make.list.length ∧ Lim a.key.size ∧ Lim a.s.size := by
  obtain ⟨h1, h2, h3⟩ := AC.big_not hb
  have := (big_not h3).1
  unfold Lim
  exact ⟨by omega, by omega, by omega⟩

set_option maxHeartbeats 8000000 in
set_option maxRecDepth 100000 in
theorem ruleBack_7 (r : RC.Rc) (A : Option Addr) (c : Nat) (key : ByteArray) (n : Int) (fx : Nat) (s : ByteArray) (mk : RC.Rc) (must : Bool) (L : Option Addr) (cl : Nat) (w : World) (hr : RecIn w r A c) (ha : ActIn w ⟨7, key, n, fx, s, mk, must⟩ L cl) (hR : RowsAt w) :
    Calls Tryd.prog 5 #[recV r A c, actV ⟨7, key, n, fx, s, mk, must⟩ L cl] w fun e w' => e = .returned (.bool true) ∧ Below w.heap.size w w' := by
  have HR := Lib.hid hR
  have HI := Lib.hid hr
  have HJ := Lib.hid ha
  clear hR hr ha
  go_enter Tryd.func5, Tryd.ntmps5
  go_wp2_with fail
  refine (speaks5_any _ (HR.out.below (below2 w _ _))).mono ?_
  rintro e w1 ⟨rfl, hb1⟩
  have hs1 := hb1.size
  simp only [World.size_alloc] at hs1
  have e0 := (hb1.block w.heap.size (by simp only [World.size_alloc]; omega)).trans (heap_alloc2_old w _ _)
  have e1 := (hb1.block (w.heap.size + 1) (by simp only [World.size_alloc]; omega)).trans (heap_alloc2_new w _ _)
  have c0 := fun o => cell_of_row w1 _ o _ _ (0, 0) e0
  have c1 := fun o => cell_of_row w1 _ o _ _ (0, 0) e1
  have HB1 := Lib.hid (show Below w.heap.size w w1 from (below2 w _ _).trans (hb1.mono (by simp only [World.size_alloc]; omega)))
  have E0 := Lib.hid e0
  have E1 := Lib.hid e1
  have HA1 := Lib.hid (acts_one 31 (HJ.out.keep HB1.out))
  clear hb1 e0 e1
  go_wp2_with fail
  refine (big5_any r A (some ⟨w1.heap.size, 0, none⟩) c 1 [⟨⟨7, key, n, fx, s, mk, must⟩, L, cl⟩] _ ((HI.out.its.below HB1.out).alloc _) HI.out.len HA1.out).mono ?_
  rintro e w2 ⟨rfl, hb2⟩
  have hs2 := hb2.size
  simp only [World.size_alloc] at hs2
  have F0 := Lib.hid ((hb2.block w.heap.size (by simp only [World.size_alloc]; omega)).trans ((heap_alloc_old _ _ (by omega)).trans E0.out))
  have F1 := Lib.hid ((hb2.block (w.heap.size + 1) (by simp only [World.size_alloc]; omega)).trans ((heap_alloc_old _ _ (by omega)).trans E1.out))
  have HB2 := Lib.hid (show Below w.heap.size w w2 from (HB1.out.trans ((below1 w1 _).mono (by omega))).trans (hb2.mono (by simp only [World.size_alloc]; omega)))
  clear hb2 E0 E1 HA1 c0 c1
  have c0 := fun o => cell_of_row w2 _ o _ _ (0, 0) F0.out
  have c1 := fun o => cell_of_row w2 _ o _ _ (0, 0) F1.out
  cases hbig : big5 r [⟨⟨7, key, n, fx, s, mk, must⟩, L, cl⟩]
  case true =>
    go_wp2_with fail
    go_ret
    exact ⟨rfl, HB2.out⟩
  have hb5 := big5_not hbig
  have HS := Lib.hid (act_smallK (hb5.2.2 ⟨⟨7, key, n, fx, s, mk, must⟩, L, cl⟩ (List.mem_cons_self ..)))
  have HM := Lib.hid (show Lim r.list.length by have := (big_not hb5.1).1; unfold Lim; omega)
  clear hbig hb5
  go_wp2_with fail
  refine (rcheck_any r A c _ HI.out.ok (HI.out.its.below HB2.out) HM.out).mono ?_
  rintro e w3 ⟨rfl, hb3⟩
  have G0 := Lib.hid ((hb3.block _ (lt_of_heap F0.out)).trans F0.out)
  have G1 := Lib.hid ((hb3.block _ (lt_of_heap F1.out)).trans F1.out)
  have HB3 := Lib.hid (HB2.out.trans (hb3.mono HB2.out.size))
  clear hb3 c0 c1
  have c1 := fun o => cell_of_row w3 _ o _ _ (0, 0) G1.out
  rcases Nat.eq_zero_or_pos (RC.chk r) with hE | hE
  case inr =>
    have hE' : ((RC.chk r : Int) != 0) = true := by simp; omega
    generalize RC.chk r = E at *
    go_wp2_with fail
    go_ret
    exact ⟨rfl, HB3.out⟩
  have HC := Lib.hid hE
  rw [hE]
  clear hE
  go_wp2_with fail
  refine (rcheck4_any ⟨7, key, n, fx, s, mk, must⟩ L cl _ HJ.out.ok (HJ.out.make.its.below HB3.out) HS.out.1 HS.out.2.1 HS.out.2.2).mono ?_
  rintro e w4 ⟨rfl, hb4⟩
  have I0 := Lib.hid ((hb4.block _ (lt_of_heap G0.out)).trans G0.out)
  have I1 := Lib.hid ((hb4.block _ (lt_of_heap G1.out)).trans G1.out)
  have HB4 := Lib.hid (HB3.out.trans (hb4.mono HB3.out.size))
  clear hb4 c1
  have c0 := fun o => cell_of_row w4 _ o _ _ (0, 0) I0.out
  have c1 := fun o => cell_of_row w4 _ o _ _ (0, 0) I1.out
  have z0 := lt_of_heap I0.out
  have z1 := lt_of_heap I1.out
  rcases Nat.eq_zero_or_pos (AC.chk ⟨7, key, n, fx, s, mk, must⟩) with hE | hE
  case inr =>
    have hE' : ((AC.chk ⟨7, key, n, fx, s, mk, must⟩ : Int) != 0) = true := by simp; omega
    generalize AC.chk ⟨7, key, n, fx, s, mk, must⟩ = E at *
    go_wp2_with fail
    go_ret
    exact ⟨rfl, HB4.out⟩
  have HCA := Lib.hid hE
  rw [hE]
  clear hE
  have HBk := Lib.hid (show BackOk r ⟨7, key, n, fx, s, mk, must⟩ ⟨7, key, wrap64 (-n), fx, s, mk, must⟩ from back_7 HI.out.ok HJ.out.ok.n HC.out HCA.out)
  have HJb := Lib.hid (show ActIn w ⟨7, key, wrap64 (-n), fx, s, mk, must⟩ L cl from ⟨⟨rfl, i64_w64 (-n), HJ.out.ok.x, HJ.out.ok.make⟩, HJ.out.make, HJ.out.key, HJ.out.s⟩)
  have HA2 := Lib.hid (show ∀ X, ActsIn ((w4.alloc X).alloc (.cells (actC2 ⟨7, key, n, fx, s, mk, must⟩ L cl ⟨7, key, wrap64 (-n), fx, s, mk, must⟩ L cl) 31)) (some ⟨w4.heap.size + 1, 0, none⟩) [⟨⟨7, key, n, fx, s, mk, must⟩, L, cl⟩, ⟨⟨7, key, wrap64 (-n), fx, s, mk, must⟩, L, cl⟩] from fun X => by
    have hbx : Below w.heap.size w (w4.alloc X) := HB4.out.trans ((below1 w4 X).mono HB4.out.size)
    have h := acts_two (w := w4.alloc X) 31 (HJ.out.keep hbx) (HJb.out.keep hbx)
    rw [World.size_alloc] at h
    exact h)
  go_wp2_with fail
  refine (row_any r true [⟨⟨7, key, n, fx, s, mk, must⟩, L, cl⟩, ⟨⟨7, key, wrap64 (-n), fx, s, mk, must⟩, L, cl⟩] A (some ⟨w4.heap.size + 1, 0, none⟩) c 2 _ HI.out.ok (HR.out.below (HB4.out.trans ((below2 w4 _ _).mono HB4.out.size))) (HI.out.its.below (HB4.out.trans ((below2 w4 _ _).mono HB4.out.size))) HM.out (HA2.out _) (by simp) (fun x hx => by
    simp at hx
    rcases hx with rfl | rfl
    · exact HS.out
    · exact HS.out)).mono ?_
  rintro e w5 ⟨q, t, A5, c5, ys, B5, cb5, rfl, hst, hyl, ho, hans, hits, hqk, hql, hyk, hnA, hnB, hb5⟩
  have hst' : RU.st r true [⟨7, key, n, fx, s, mk, must⟩, ⟨7, key, wrap64 (-n), fx, s, mk, must⟩] 2 = (q, t, ys.map (fun y => y.x)) := hst
  obtain ⟨ht, x0, x1, hx, hcase⟩ := HBk.out
  rw [hst'] at ht hx hcase
  have ht : t = true := ht
  have hx : ys.map (fun y => y.x) = [x0, x1] := hx
  have hcase : x0.code ≠ 0 ∨ (x1.code = 0 ∧ q = r) := hcase
  subst ht
  rcases ys with _ | ⟨⟨y0, A6, c6⟩, _ | ⟨⟨y1, A7, c7⟩, _ | ⟨y2, ys⟩⟩⟩
  · simp at hx
  · simp at hx
  rotate_left
  · simp at hx
  simp only [List.map_cons, List.map_nil, List.cons.injEq, and_true] at hx
  obtain ⟨rfl, rfl⟩ := hx
  obtain ⟨g, hg, hgl, hcell⟩ := own_cell hans (by simp)
  subst hg
  have j0 : w5.cell? ⟨g, 0, none⟩ = some (.int .i64 y0.code) := hcell _ _ (anCells_at [⟨y0, A6, c6⟩, ⟨y1, A7, c7⟩] 0 _ rfl 0 _ rfl)
  have k0 : w5.cell? ⟨g, 10, none⟩ = some (.int .i64 y1.code) := hcell _ _ (anCells_at [⟨y0, A6, c6⟩, ⟨y1, A7, c7⟩] 1 _ rfl 0 _ rfl)
  have hs5 := hb5.size
  simp only [World.size_alloc] at hs5
  have e0 := (hb5.block w.heap.size (by simp only [World.size_alloc]; omega)).trans ((heap_alloc_old _ _ (by simp only [World.size_alloc]; omega)).trans ((heap_alloc_old _ _ z0).trans I0.out))
  have d0 := fun o => cell_of_row w5 _ o _ _ (0, 0) e0
  have zz : w.heap.size < w5.heap.size := by omega
  have HB5 := Lib.hid (show Below w.heap.size w w5 from (HB4.out.trans ((below2 w4 _ _).mono HB4.out.size)).trans (hb5.mono (by have := HB4.out.size; simp only [World.size_alloc]; omega)))
  have HO5 := Lib.hid ho
  have HQ5 := Lib.hid hqk
  have HL5 := Lib.hid hql
  clear hyl hst hst' ho hans hits hqk hql hyk hnA hnB hb5 hcell c0 c1 e0 HA2
  rcases Nat.eq_zero_or_pos y0.code with hy | hy
  case inr =>
    have q0 : ((y0.code : Int) != 0) = true := by simp; omega
    clear hcase
    go_wp2_with fail
    go_ret
    exact ⟨rfl, HB5.out.alloc HB5.out.size _⟩
  rcases hcase with hc | ⟨hc, hq⟩
  · exact absurd hy hc
  subst hq
  rw [hy] at j0
  rw [hc] at k0
  clear hy hc
  go_wp2_with fail
  refine (recSame_any q q A5 A c5 c _ HI.out.ok HI.out.ok ((Its.own HO5.out).alloc _) ((HI.out.its.below HB5.out).alloc _) HM.out).mono ?_
  rintro e w6 ⟨rfl, hb6⟩
  rw [RC.same_refl']
  have HB6 := Lib.hid ((HB5.out.alloc HB5.out.size _).trans (hb6.mono (by have := HB5.out.size; simp only [World.size_alloc]; omega)))
  clear hb6 d0 j0 k0
  go_wp2_with fail
  go_ret
  exact ⟨rfl, HB6.out⟩

set_option maxHeartbeats 8000000 in
set_option maxRecDepth 100000 in
theorem ruleBack_8 (r : RC.Rc) (A : Option Addr) (c : Nat) (key : ByteArray) (n : Int) (fx : Nat) (s : ByteArray) (mk : RC.Rc) (must : Bool) (L : Option Addr) (cl : Nat) (w : World) (hm : (-9223372036854775808 : Int) < n) (hr : RecIn w r A c) (ha : ActIn w ⟨8, key, n, fx, s, mk, must⟩ L cl) (hR : RowsAt w) :
    Calls Tryd.prog 5 #[recV r A c, actV ⟨8, key, n, fx, s, mk, must⟩ L cl] w fun e w' => e = .returned (.bool true) ∧ Below w.heap.size w w' := by
  have HR := Lib.hid hR
  have HI := Lib.hid hr
  have HJ := Lib.hid ha
  clear hR hr ha
  go_enter Tryd.func5, Tryd.ntmps5
  go_wp2_with fail
  refine (speaks5_any _ (HR.out.below (below2 w _ _))).mono ?_
  rintro e w1 ⟨rfl, hb1⟩
  have hs1 := hb1.size
  simp only [World.size_alloc] at hs1
  have e0 := (hb1.block w.heap.size (by simp only [World.size_alloc]; omega)).trans (heap_alloc2_old w _ _)
  have e1 := (hb1.block (w.heap.size + 1) (by simp only [World.size_alloc]; omega)).trans (heap_alloc2_new w _ _)
  have c0 := fun o => cell_of_row w1 _ o _ _ (0, 0) e0
  have c1 := fun o => cell_of_row w1 _ o _ _ (0, 0) e1
  have HB1 := Lib.hid (show Below w.heap.size w w1 from (below2 w _ _).trans (hb1.mono (by simp only [World.size_alloc]; omega)))
  have E0 := Lib.hid e0
  have E1 := Lib.hid e1
  have HA1 := Lib.hid (acts_one 31 (HJ.out.keep HB1.out))
  clear hb1 e0 e1
  go_wp2_with fail
  refine (big5_any r A (some ⟨w1.heap.size, 0, none⟩) c 1 [⟨⟨8, key, n, fx, s, mk, must⟩, L, cl⟩] _ ((HI.out.its.below HB1.out).alloc _) HI.out.len HA1.out).mono ?_
  rintro e w2 ⟨rfl, hb2⟩
  have hs2 := hb2.size
  simp only [World.size_alloc] at hs2
  have F0 := Lib.hid ((hb2.block w.heap.size (by simp only [World.size_alloc]; omega)).trans ((heap_alloc_old _ _ (by omega)).trans E0.out))
  have F1 := Lib.hid ((hb2.block (w.heap.size + 1) (by simp only [World.size_alloc]; omega)).trans ((heap_alloc_old _ _ (by omega)).trans E1.out))
  have HB2 := Lib.hid (show Below w.heap.size w w2 from (HB1.out.trans ((below1 w1 _).mono (by omega))).trans (hb2.mono (by simp only [World.size_alloc]; omega)))
  clear hb2 E0 E1 HA1 c0 c1
  have c0 := fun o => cell_of_row w2 _ o _ _ (0, 0) F0.out
  have c1 := fun o => cell_of_row w2 _ o _ _ (0, 0) F1.out
  cases hbig : big5 r [⟨⟨8, key, n, fx, s, mk, must⟩, L, cl⟩]
  case true =>
    go_wp2_with fail
    go_ret
    exact ⟨rfl, HB2.out⟩
  have hb5 := big5_not hbig
  have HS := Lib.hid (act_smallK (hb5.2.2 ⟨⟨8, key, n, fx, s, mk, must⟩, L, cl⟩ (List.mem_cons_self ..)))
  have HM := Lib.hid (show Lim r.list.length by have := (big_not hb5.1).1; unfold Lim; omega)
  clear hbig hb5
  go_wp2_with fail
  refine (rcheck_any r A c _ HI.out.ok (HI.out.its.below HB2.out) HM.out).mono ?_
  rintro e w3 ⟨rfl, hb3⟩
  have G0 := Lib.hid ((hb3.block _ (lt_of_heap F0.out)).trans F0.out)
  have G1 := Lib.hid ((hb3.block _ (lt_of_heap F1.out)).trans F1.out)
  have HB3 := Lib.hid (HB2.out.trans (hb3.mono HB2.out.size))
  clear hb3 c0 c1
  have c1 := fun o => cell_of_row w3 _ o _ _ (0, 0) G1.out
  rcases Nat.eq_zero_or_pos (RC.chk r) with hE | hE
  case inr =>
    have hE' : ((RC.chk r : Int) != 0) = true := by simp; omega
    generalize RC.chk r = E at *
    go_wp2_with fail
    go_ret
    exact ⟨rfl, HB3.out⟩
  have HC := Lib.hid hE
  rw [hE]
  clear hE
  go_wp2_with fail
  refine (rcheck4_any ⟨8, key, n, fx, s, mk, must⟩ L cl _ HJ.out.ok (HJ.out.make.its.below HB3.out) HS.out.1 HS.out.2.1 HS.out.2.2).mono ?_
  rintro e w4 ⟨rfl, hb4⟩
  have I0 := Lib.hid ((hb4.block _ (lt_of_heap G0.out)).trans G0.out)
  have I1 := Lib.hid ((hb4.block _ (lt_of_heap G1.out)).trans G1.out)
  have HB4 := Lib.hid (HB3.out.trans (hb4.mono HB3.out.size))
  clear hb4 c1
  have c0 := fun o => cell_of_row w4 _ o _ _ (0, 0) I0.out
  have c1 := fun o => cell_of_row w4 _ o _ _ (0, 0) I1.out
  have z0 := lt_of_heap I0.out
  have z1 := lt_of_heap I1.out
  rcases Nat.eq_zero_or_pos (AC.chk ⟨8, key, n, fx, s, mk, must⟩) with hE | hE
  case inr =>
    have hE' : ((AC.chk ⟨8, key, n, fx, s, mk, must⟩ : Int) != 0) = true := by simp; omega
    generalize AC.chk ⟨8, key, n, fx, s, mk, must⟩ = E at *
    go_wp2_with fail
    go_ret
    exact ⟨rfl, HB4.out⟩
  have HCA := Lib.hid hE
  rw [hE]
  clear hE
  have HBk := Lib.hid (show BackOk r ⟨8, key, n, fx, s, mk, must⟩ ⟨8, key, wrap64 (-n), fx, s, mk, must⟩ from back_8 HI.out.ok HJ.out.ok.n hm HC.out HCA.out)
  have HJb := Lib.hid (show ActIn w ⟨8, key, wrap64 (-n), fx, s, mk, must⟩ L cl from ⟨⟨rfl, i64_w64 (-n), HJ.out.ok.x, HJ.out.ok.make⟩, HJ.out.make, HJ.out.key, HJ.out.s⟩)
  have HA2 := Lib.hid (show ∀ X, ActsIn ((w4.alloc X).alloc (.cells (actC2 ⟨8, key, n, fx, s, mk, must⟩ L cl ⟨8, key, wrap64 (-n), fx, s, mk, must⟩ L cl) 31)) (some ⟨w4.heap.size + 1, 0, none⟩) [⟨⟨8, key, n, fx, s, mk, must⟩, L, cl⟩, ⟨⟨8, key, wrap64 (-n), fx, s, mk, must⟩, L, cl⟩] from fun X => by
    have hbx : Below w.heap.size w (w4.alloc X) := HB4.out.trans ((below1 w4 X).mono HB4.out.size)
    have h := acts_two (w := w4.alloc X) 31 (HJ.out.keep hbx) (HJb.out.keep hbx)
    rw [World.size_alloc] at h
    exact h)
  go_wp2_with fail
  refine (row_any r true [⟨⟨8, key, n, fx, s, mk, must⟩, L, cl⟩, ⟨⟨8, key, wrap64 (-n), fx, s, mk, must⟩, L, cl⟩] A (some ⟨w4.heap.size + 1, 0, none⟩) c 2 _ HI.out.ok (HR.out.below (HB4.out.trans ((below2 w4 _ _).mono HB4.out.size))) (HI.out.its.below (HB4.out.trans ((below2 w4 _ _).mono HB4.out.size))) HM.out (HA2.out _) (by simp) (fun x hx => by
    simp at hx
    rcases hx with rfl | rfl
    · exact HS.out
    · exact HS.out)).mono ?_
  rintro e w5 ⟨q, t, A5, c5, ys, B5, cb5, rfl, hst, hyl, ho, hans, hits, hqk, hql, hyk, hnA, hnB, hb5⟩
  have hst' : RU.st r true [⟨8, key, n, fx, s, mk, must⟩, ⟨8, key, wrap64 (-n), fx, s, mk, must⟩] 2 = (q, t, ys.map (fun y => y.x)) := hst
  obtain ⟨ht, x0, x1, hx, hcase⟩ := HBk.out
  rw [hst'] at ht hx hcase
  have ht : t = true := ht
  have hx : ys.map (fun y => y.x) = [x0, x1] := hx
  have hcase : x0.code ≠ 0 ∨ (x1.code = 0 ∧ q = r) := hcase
  subst ht
  rcases ys with _ | ⟨⟨y0, A6, c6⟩, _ | ⟨⟨y1, A7, c7⟩, _ | ⟨y2, ys⟩⟩⟩
  · simp at hx
  · simp at hx
  rotate_left
  · simp at hx
  simp only [List.map_cons, List.map_nil, List.cons.injEq, and_true] at hx
  obtain ⟨rfl, rfl⟩ := hx
  obtain ⟨g, hg, hgl, hcell⟩ := own_cell hans (by simp)
  subst hg
  have j0 : w5.cell? ⟨g, 0, none⟩ = some (.int .i64 y0.code) := hcell _ _ (anCells_at [⟨y0, A6, c6⟩, ⟨y1, A7, c7⟩] 0 _ rfl 0 _ rfl)
  have k0 : w5.cell? ⟨g, 10, none⟩ = some (.int .i64 y1.code) := hcell _ _ (anCells_at [⟨y0, A6, c6⟩, ⟨y1, A7, c7⟩] 1 _ rfl 0 _ rfl)
  have hs5 := hb5.size
  simp only [World.size_alloc] at hs5
  have e0 := (hb5.block w.heap.size (by simp only [World.size_alloc]; omega)).trans ((heap_alloc_old _ _ (by simp only [World.size_alloc]; omega)).trans ((heap_alloc_old _ _ z0).trans I0.out))
  have d0 := fun o => cell_of_row w5 _ o _ _ (0, 0) e0
  have zz : w.heap.size < w5.heap.size := by omega
  have HB5 := Lib.hid (show Below w.heap.size w w5 from (HB4.out.trans ((below2 w4 _ _).mono HB4.out.size)).trans (hb5.mono (by have := HB4.out.size; simp only [World.size_alloc]; omega)))
  have HO5 := Lib.hid ho
  have HQ5 := Lib.hid hqk
  have HL5 := Lib.hid hql
  clear hyl hst hst' ho hans hits hqk hql hyk hnA hnB hb5 hcell c0 c1 e0 HA2
  rcases Nat.eq_zero_or_pos y0.code with hy | hy
  case inr =>
    have q0 : ((y0.code : Int) != 0) = true := by simp; omega
    clear hcase
    go_wp2_with fail
    go_ret
    exact ⟨rfl, HB5.out.alloc HB5.out.size _⟩
  rcases hcase with hc | ⟨hc, hq⟩
  · exact absurd hy hc
  subst hq
  rw [hy] at j0
  rw [hc] at k0
  clear hy hc
  go_wp2_with fail
  refine (recSame_any q q A5 A c5 c _ HI.out.ok HI.out.ok ((Its.own HO5.out).alloc _) ((HI.out.its.below HB5.out).alloc _) HM.out).mono ?_
  rintro e w6 ⟨rfl, hb6⟩
  rw [RC.same_refl']
  have HB6 := Lib.hid ((HB5.out.alloc HB5.out.size _).trans (hb6.mono (by have := HB5.out.size; simp only [World.size_alloc]; omega)))
  clear hb6 d0 j0 k0
  go_wp2_with fail
  go_ret
  exact ⟨rfl, HB6.out⟩

end Go.Proofs.YtofaonknfihaiaaDoor
