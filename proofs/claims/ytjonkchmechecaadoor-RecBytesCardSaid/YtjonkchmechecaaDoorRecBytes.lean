/- The walk of RecBytes. -/
import Derived.Test.YtjonkchmechecaaDoorRef3k
import Derived.Test.YtjonkchmechecaaDoorRef3g
import Derived.Test.YtjonkchmechecaaDoorOpn3
import Derived.Deep.RegionHeld3
namespace Go.Proofs.YtjonkchmechecaaDoor
open Go.RowKit MM

theorem read_bytes (r : RC.Rc) (hr : r.ok) (hc : RC.chk r = 0) : wholeR recR (bytesOf r) = .ok r (RC.recB r).length := by
  have h := recR_recB r [] hr hc
  rw [List.append_nil] at h
  unfold bytesOf
  rw [if_pos hc]
  exact wholeR_ok h (List.drop_length)

set_option maxHeartbeats 2000000 in
set_option maxRecDepth 100000 in
theorem recBytesL_any (r : RC.Rc) (A : Option Addr) (c : Nat) (w : World) (hr : RecIn w r A c) (hN : NamesAt w) :
    Calls Tryd.prog 4 #[recV r A c] w fun e w' => e = .returned (.bool true) ∧ Below w.heap.size w w' := by
  have HS := Lib.hid (fun w hN => speaks3_any w hN)
  have HG := Lib.hid (fun w hA => big3_any r A c w hA hr.len)
  have HC := Lib.hid (fun w hA hn => rcheck_any r A c w hr.ok hA hn)
  have HB := Lib.hid (fun w hA hn => recBytes_any r A c w hr.ok hA hn)
  have HY := Lib.hid (fun h w hA => rbytes3_any r A c w hr.ok h hA)
  have HD := Lib.hid (show RC.chk r = 0 → ∀ w A' c', Bts w A' (bytesOf r) → Lim (bytesOf r).length → Calls Tryd.prog 19 #[.slice A' (bytesOf r).length c'] w (RRecPost (.ok r (RC.recB r).length) w) from fun h w A' c' hb hl => by rw [← read_bytes r hr.ok h]; exact recRead_any A' c' (bytesOf r) w hb hl)
  have HQ := Lib.hid (show ∀ w A' c', Its w A' r.list → Its w A r.list → Lim r.list.length → Calls Tryd.prog 21 #[recV r A' c', recV r A c] w (fun e w' => e = .returned (.bool true) ∧ Below w.heap.size w w') from fun w A' c' hA' hA na => by rw [← RC.same_refl' r]; exact rsame3_any r r A' A c' c w hr.ok hr.ok hA' hA na na)
  have Hl := Lib.hid (show RC.chk r = 0 → (bytesOf r).length ≤ 2000 ∧ bytesOf r = RC.recB r from fun h => by unfold bytesOf; rw [if_pos h]; exact ⟨recB_len r hr.ok (RC.chk_may hr.ok h), rfl⟩)
  have Hl0 := Lib.hid (show RC.chk r ≠ 0 → bytesOf r = [] from fun h => by unfold bytesOf; rw [if_neg h])
  have HI := Lib.hid hr.its
  have Hn := Lib.hid (fun h => (big_not (r := r) h).1)
  have HN := Lib.hid hN
  clear hN hr
  generalize RC.big r = g at *
  generalize RC.chk r = E at *
  generalize bytesOf r = xs at *
  generalize RC.recB r = ys at *
  obtain ⟨k, n, l, h, x, cap, t, s⟩ := r
  go_enter Tryd.func4, Tryd.ntmps4
  go_wp2_with fail
  refine (HS.out _ (HN.out.below (below1 w _))).mono ?_
  rintro e w1 ⟨rfl, hb1⟩
  have e0 := (hb1.block w.heap.size (by simp)).trans (heap_alloc_new w _)
  have c0 := fun o => cell_of_row w1 _ o _ _ (0, 0) e0
  have HB1 := Lib.hid (show Below w.heap.size w w1 from (below1 w _).trans (hb1.mono (by simp)))
  have E0 := Lib.hid e0
  clear hb1 e0
  go_wp2_with fail
  refine (HG.out _ (HI.out.below HB1.out)).mono ?_
  rintro e w2 ⟨rfl, hb2⟩
  have E2 := Lib.hid ((hb2.block _ (lt_of_heap E0.out)).trans E0.out)
  have HB2 := Lib.hid (HB1.out.trans (hb2.mono HB1.out.size))
  clear hb2 c0 E0
  have c0 := fun o => cell_of_row w2 _ o _ _ (0, 0) E2.out
  cases g
  · have hn : s.length ≤ 100 := Hn.out (by trivial)
    have hlim : Lim s.length := by unfold Lim; omega
    go_wp2_with fail
    refine (HB.out _ (HI.out.below HB2.out) hlim).mono ?_
    rintro e w3 ⟨A3, c3, rfl, ho3, hn3, hb3⟩
    have E3 := Lib.hid ((hb3.block _ (lt_of_heap E2.out)).trans E2.out)
    have HB3 := Lib.hid (HB2.out.trans (hb3.mono HB2.out.size))
    clear hb3 c0
    have c0 := fun o => cell_of_row w3 _ o _ _ (0, 0) E3.out
    go_wp2_with fail
    refine (HC.out _ (HI.out.below HB3.out) hlim).mono ?_
    rintro e w4 ⟨rfl, hb4⟩
    have E4 := Lib.hid ((hb4.block _ (lt_of_heap E3.out)).trans E3.out)
    have HB4 := Lib.hid (HB3.out.trans (hb4.mono HB3.out.size))
    have Ho4 := Lib.hid (own_below ho3 hb4)
    clear hb4 c0 ho3
    have c0 := fun o => cell_of_row w4 _ o _ _ (0, 0) E4.out
    rcases Nat.eq_zero_or_pos E with hE | hE
    · subst hE
      obtain ⟨hx, hxy⟩ := Hl.out (by trivial)
      subst hxy
      go_wp2_with fail
      refine (HD.out (by trivial) _ A3 c3 (Bts.own Ho4.out) (by unfold Lim; omega)).mono ?_
      rintro e w5 ⟨A5, c5, rfl, ho5, hn5, hb5⟩
      have E5 := Lib.hid ((hb5.block _ (lt_of_heap E4.out)).trans E4.out)
      have HB5 := Lib.hid (HB4.out.trans (hb5.mono HB4.out.size))
      have Ho5 := Lib.hid (own_below Ho4.out hb5)
      have Hw5 := Lib.hid ho5
      clear hb5 c0 ho5
      have c0 := fun o => cell_of_row w5 _ o _ _ (0, 0) E5.out
      go_wp2_with fail
      generalize hwz : World.alloc (World.alloc _ _) _ = wz
      have ez0 : wz.heap[w.heap.size]? = some (.cells (recC k n l h x cap t (.slice A s.length c)) 25 (0, 0)) := by rw [← hwz]; exact (heap_alloc_old _ _ (by have := lt_of_heap E5.out; simp; omega)).trans ((heap_alloc_old _ _ (lt_of_heap E5.out)).trans E5.out)
      have ez1 : wz.heap[w5.heap.size]? = some (.cells (recC k n l h x cap t (.slice A5 s.length c5)) 25 (0, 0)) := by rw [← hwz]; exact heap_alloc2_old _ _ _
      have ez2 : wz.heap[w5.heap.size + 1]? = some (.cells #[.int .i64 0, .int .i64 0] 36 (0, 0)) := by rw [← hwz]; exact heap_alloc2_new _ _ _
      have hbz : Below w5.heap.size w5 wz := by rw [← hwz]; exact below2 w5 _ _
      have f0 : wz.cell? ⟨w.heap.size, 0, none⟩ = some (.int .i64 k) := (cell_of_row wz _ 0 _ _ (0, 0) ez0).trans rfl
      have f1 : wz.cell? ⟨w.heap.size, 1, none⟩ = some (.int .i64 n) := (cell_of_row wz _ 1 _ _ (0, 0) ez0).trans rfl
      have f2 : wz.cell? ⟨w.heap.size, 2, none⟩ = some (.int .i64 l) := (cell_of_row wz _ 2 _ _ (0, 0) ez0).trans rfl
      have f3 : wz.cell? ⟨w.heap.size, 3, none⟩ = some (.int .i64 h) := (cell_of_row wz _ 3 _ _ (0, 0) ez0).trans rfl
      have f4 : wz.cell? ⟨w.heap.size, 4, none⟩ = some (.float .f64 x) := (cell_of_row wz _ 4 _ _ (0, 0) ez0).trans rfl
      have f5 : wz.cell? ⟨w.heap.size, 5, none⟩ = some (.int .i64 cap) := (cell_of_row wz _ 5 _ _ (0, 0) ez0).trans rfl
      have f6 : wz.cell? ⟨w.heap.size, 6, none⟩ = some (.string t) := (cell_of_row wz _ 6 _ _ (0, 0) ez0).trans rfl
      have f7 : wz.cell? ⟨w.heap.size, 7, none⟩ = some (.slice A s.length c) := (cell_of_row wz _ 7 _ _ (0, 0) ez0).trans rfl
      have g0 : wz.cell? ⟨w5.heap.size, 0, none⟩ = some (.int .i64 k) := (cell_of_row wz _ 0 _ _ (0, 0) ez1).trans rfl
      have g1 : wz.cell? ⟨w5.heap.size, 1, none⟩ = some (.int .i64 n) := (cell_of_row wz _ 1 _ _ (0, 0) ez1).trans rfl
      have g2 : wz.cell? ⟨w5.heap.size, 2, none⟩ = some (.int .i64 l) := (cell_of_row wz _ 2 _ _ (0, 0) ez1).trans rfl
      have g3 : wz.cell? ⟨w5.heap.size, 3, none⟩ = some (.int .i64 h) := (cell_of_row wz _ 3 _ _ (0, 0) ez1).trans rfl
      have g4 : wz.cell? ⟨w5.heap.size, 4, none⟩ = some (.float .f64 x) := (cell_of_row wz _ 4 _ _ (0, 0) ez1).trans rfl
      have g5 : wz.cell? ⟨w5.heap.size, 5, none⟩ = some (.int .i64 cap) := (cell_of_row wz _ 5 _ _ (0, 0) ez1).trans rfl
      have g6 : wz.cell? ⟨w5.heap.size, 6, none⟩ = some (.string t) := (cell_of_row wz _ 6 _ _ (0, 0) ez1).trans rfl
      have g7 : wz.cell? ⟨w5.heap.size, 7, none⟩ = some (.slice A5 s.length c5) := (cell_of_row wz _ 7 _ _ (0, 0) ez1).trans rfl
      have u0 : wz.cell? ⟨w5.heap.size + 1, 0, none⟩ = some (.int .i64 0) := (cell_of_row wz _ 0 _ _ (0, 0) ez2).trans rfl
      have u1 : wz.cell? ⟨w5.heap.size + 1, 1, none⟩ = some (.int .i64 0) := (cell_of_row wz _ 1 _ _ (0, 0) ez2).trans rfl
      have Hoz := Lib.hid (own_below Ho5.out hbz)
      have Hwz := Lib.hid (own_below Hw5.out hbz)
      have HBz := Lib.hid (HB5.out.trans (hbz.mono HB5.out.size))
      have hId : Its wz.drew A s := HI.out.below (below_drew HBz.out)
      have kz := run_text (P := Tryd.prog) wz.drew 33 9 5 A3 c3 xs Tryd.underlying33 Tryd.underlying5 Tryd.underlying9 (show Bts wz.drew A3 xs from Bts.own Hoz.out)
      clear hwz ez0 ez1 ez2 hbz c0
      go_region_with (first
        | (go_at_call 20; refine (HY.out (by trivial) _ hId).mono ?_; rintro e w6 ⟨A6, c6, rfl, ho6, hn6, hb6⟩; have hB6 : Below wz.heap.size wz w6 := (below_a wz).trans hb6; have f0' := below_keep hB6 f0; have f1' := below_keep hB6 f1; have f2' := below_keep hB6 f2; have f3' := below_keep hB6 f3; have f4' := below_keep hB6 f4; have f5' := below_keep hB6 f5; have f6' := below_keep hB6 f6; have f7' := below_keep hB6 f7; have g0' := below_keep hB6 g0; have g1' := below_keep hB6 g1; have g2' := below_keep hB6 g2; have g3' := below_keep hB6 g3; have g4' := below_keep hB6 g4; have g5' := below_keep hB6 g5; have g6' := below_keep hB6 g6; have g7' := below_keep hB6 g7; have u0' := below_keep hB6 u0; have u1' := below_keep hB6 u1; have k6 := run_text (P := Tryd.prog) w6 33 9 5 A6 c6 xs Tryd.underlying33 Tryd.underlying5 Tryd.underlying9 (Bts.own ho6); have k3 := run_text (P := Tryd.prog) w6 33 9 5 A3 c3 xs Tryd.underlying33 Tryd.underlying5 Tryd.underlying9 ((Bts.own Hoz.out).below hB6); have hI6 := HI.out.below (HBz.out.trans (hB6.mono HBz.out.size)); have hX6 := Its.own (own_below Hwz.out hB6))
        | (go_at_call 21; refine (HQ.out _ A5 c5 hX6 hI6 hlim).mono ?_; rintro e w7 ⟨rfl, hb7⟩))
      all_goals
        go_wp2_with fail
        go_ret
        exact ⟨rfl, HBz.out.trans ((hB6.mono HBz.out.size).trans (hb7.mono (Nat.le_trans HBz.out.size hB6.size)))⟩
    · have hE' : ((E : Int) != 0) = true := by simp; omega
      have hx : xs = [] := Hl0.out (by omega)
      subst hx
      go_wp2_with fail
      go_ret
      exact ⟨rfl, HB4.out⟩
  · go_wp2_with fail
    go_ret
    exact ⟨rfl, HB2.out⟩

end Go.Proofs.YtjonkchmechecaaDoor
