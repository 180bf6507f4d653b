/- The walk of ActBytes. -/
import Derived.Test.YtaaeefndhmfceaaGreatDoorRef4i
import Derived.Test.YtaaeefndhmfceaaGreatDoorSp4
import Derived.Test.YtaaeefndhmfceaaGreatDoorBig4
import Derived.Test.YtaaeefndhmfceaaGreatDoorOpn4
import Derived.Deep.RegionHeld3
namespace Go.Proofs.YtaaeefndhmfceaaGreatDoor
open Go.RowKit MM

/-- What holds of an act that isn't too big. -/
theorem act_smallB {w : World} {a : AC.Ac} {A : Option Addr} {c : Nat} (_h : ActIn w a A c) (hb : AC.big a = false) : Lim a.make.list.length ∧ Lim a.key.size ∧ Lim a.s.size := by
  obtain ⟨h1, h2, h3⟩ := AC.big_not hb
  have := (big_not h3).1
  unfold Lim
  omega
theorem read_bytesA (a : AC.Ac) (ha : a.ok) (hc : AC.chk a = 0) : wholeR actR (bytesA a) = .ok a (AC.actB a).length := by
  have h := actR_actB a [] ha hc
  rw [List.append_nil] at h
  unfold bytesA
  rw [if_pos hc]
  exact wholeR_ok h (List.drop_length)

set_option maxHeartbeats 4000000 in
set_option maxRecDepth 100000 in
theorem actBytesL_any (a : AC.Ac) (A : Option Addr) (c : Nat) (w : World) (ha : ActIn w a A c) (hR : RowsAt w) :
    Calls Tryz.prog 3 #[actV a A c] w fun e w' => e = .returned (.bool true) ∧ Below w.heap.size w w' := by
  have HRo := Lib.hid hR
  have HS := Lib.hid (fun w hR => speaks4_any w hR)
  have HG := Lib.hid (fun w hA => big4_any a A c w hA ha.make.len)
  have HC := Lib.hid (fun (h : AC.big a = false) w hI => rcheck4_any a A c w ha.ok hI (act_smallB ha h).1 (act_smallB ha h).2.1 (act_smallB ha h).2.2)
  have HB := Lib.hid (fun (h : AC.big a = false) w hR hI => actBytes_any a A c w ha.ok hR hI (act_smallB ha h).1 (act_smallB ha h).2.1 (act_smallB ha h).2.2)
  have HY := Lib.hid (fun h w hI => rbytes4_any a A c w ha.ok h hI)
  have HD := Lib.hid (show AC.chk a = 0 → ∀ w A' c', Bts w A' (bytesA a) → Lim (bytesA a).length → RowsAt w → Calls Tryz.prog 11 #[.slice A' (bytesA a).length c'] w (RActPost (.ok a (AC.actB a).length) w) from fun h w A' c' hb hl hR => by rw [← read_bytesA a ha.ok h]; exact actRead_any A' c' (bytesA a) w hb hl hR)
  have HQ := Lib.hid (show AC.big a = false → ∀ w A' c', Its w A' a.make.list → Its w A a.make.list → Calls Tryz.prog 13 #[actV a A' c', actV a A c] w (fun e w' => e = .returned (.bool true) ∧ Below w.heap.size w w') from fun h w A' c' hA' hA => by rw [← AC.same_refl' a]; exact rsame4_any a a A' A c' c w ha.ok ha.ok hA' hA (act_smallB ha h).1 (act_smallB ha h).1)
  have Hl := Lib.hid (show AC.chk a = 0 → (bytesA a).length ≤ 2200 ∧ bytesA a = AC.actB a from fun h => by unfold bytesA; rw [if_pos h]; exact ⟨actB_len a ha.ok (AC.chk_may ha.ok h), rfl⟩)
  have Hl0 := Lib.hid (show AC.chk a ≠ 0 → bytesA a = [] from fun h => by unfold bytesA; rw [if_neg h])
  have HI := Lib.hid ha.make.its
  have B := Lib.hid (AB.new 27 w (actC a A c))
  clear hR ha
  generalize AC.big a = g at *
  generalize AC.chk a = E at *
  generalize bytesA a = xs at *
  generalize AC.actB a = ys at *
  obtain ⟨k, key, n, x, s, m, must⟩ := a
  go_enter Tryz.func3, Tryz.ntmps3
  go_wp2_with fail
  refine (HS.out _ (HRo.out.below B.out.bel)).mono ?_
  rintro e w1 ⟨rfl, hb1⟩
  have B1 := Lib.hid (B.out.next hb1)
  clear hb1 B
  have c0 := fun o => cell_of_row w1 _ o _ _ (0, 0) B1.out.box
  go_wp2_with fail
  refine (HG.out _ (HI.out.below B1.out.bel)).mono ?_
  rintro e w2 ⟨rfl, hb2⟩
  have B2 := Lib.hid (B1.out.next hb2)
  clear hb2 c0 B1
  have c0 := fun o => cell_of_row w2 _ o _ _ (0, 0) B2.out.box
  cases g
  · go_wp2_with fail
    refine (HB.out (by trivial) _ (HRo.out.below B2.out.bel) (HI.out.below B2.out.bel)).mono ?_
    rintro e w3 ⟨A3, c3, rfl, ho3, hn3, hb3⟩
    have B3 := Lib.hid (B2.out.next hb3)
    clear hb3 c0 B2
    have c0 := fun o => cell_of_row w3 _ o _ _ (0, 0) B3.out.box
    go_wp2_with fail
    refine (HC.out (by trivial) _ (HI.out.below B3.out.bel)).mono ?_
    rintro e w4 ⟨rfl, hb4⟩
    have B4 := Lib.hid (B3.out.next hb4)
    have Ho4 := Lib.hid (own_below ho3 hb4)
    clear hb4 c0 ho3 B3
    have c0 := fun o => cell_of_row w4 _ o _ _ (0, 0) B4.out.box
    rcases Nat.eq_zero_or_pos E with hE | hE
    · subst hE
      obtain ⟨hx, hxy⟩ := Hl.out (by trivial)
      subst hxy
      go_wp2_with fail
      refine (HD.out (by trivial) _ A3 c3 (Bts.own Ho4.out) (by unfold Lim; omega) (HRo.out.below B4.out.bel)).mono ?_
      rintro e w5 ⟨A5, c5, rfl, ho5, hn5, hb5⟩
      have B5 := Lib.hid (B4.out.next hb5)
      have Ho5 := Lib.hid (own_below Ho4.out hb5)
      have Hw5 := Lib.hid ho5
      clear hb5 c0 ho5 B4
      have c0 := fun o => cell_of_row w5 _ o _ _ (0, 0) B5.out.box
      go_wp2_with fail
      generalize hwz : World.alloc (World.alloc _ _) _ = wz
      have hbz : Below w5.heap.size w5 wz := by rw [← hwz]; exact below2 w5 _ _
      have Bz := Lib.hid (B5.out.next hbz)
      have ez1 : wz.heap[w5.heap.size]? = some (.cells (actC ⟨k, key, n, x, s, m, must⟩ A5 c5) 27 (0, 0)) := by rw [← hwz]; exact heap_alloc2_old _ _ _
      have ez2 : wz.heap[w5.heap.size + 1]? = some (.cells #[.int .i64 0, .int .i64 0] 34 (0, 0)) := by rw [← hwz]; exact heap_alloc2_new _ _ _
      have f0 : ∀ o, wz.cell? ⟨w.heap.size, o, none⟩ = (actC ⟨k, key, n, x, s, m, must⟩ A c)[o]? := fun o => cell_of_row wz _ o _ _ (0, 0) Bz.out.box
      have g0 : ∀ o, wz.cell? ⟨w5.heap.size, o, none⟩ = (actC ⟨k, key, n, x, s, m, must⟩ A5 c5)[o]? := fun o => cell_of_row wz _ o _ _ (0, 0) ez1
      have u0 : ∀ o, wz.cell? ⟨w5.heap.size + 1, o, none⟩ = (#[.int .i64 0, .int .i64 0] : Array Value)[o]? := fun o => cell_of_row wz _ o _ _ (0, 0) ez2
      have hlf := lt_of_heap Bz.out.box
      have hlg := lt_of_heap ez1
      have hlu := lt_of_heap ez2
      have Hoz := Lib.hid (own_below Ho5.out hbz)
      have Hwz := Lib.hid (own_below Hw5.out hbz)
      have hId : Its wz.drew A m.list := HI.out.below (below_drew Bz.out.bel)
      have kz := run_text (P := Tryz.prog) wz.drew 30 9 5 A3 c3 xs Tryz.underlying30 Tryz.underlying5 Tryz.underlying9 (show Bts wz.drew A3 xs from Bts.own Hoz.out)
      clear hwz ez1 ez2 hbz c0
      go_region_with (first
        | (go_at_call 12; refine (HY.out (by trivial) _ hId).mono ?_; rintro e w6 ⟨A6, c6, rfl, ho6, hn6, hb6⟩; have hB6 : Below wz.heap.size wz w6 := (below_a wz).trans hb6; have f0' : ∀ o, w6.cell? ⟨w.heap.size, o, none⟩ = _ := fun o => (hB6.cell (p := ⟨w.heap.size, o, none⟩) hlf).trans (f0 o); have g0' : ∀ o, w6.cell? ⟨w5.heap.size, o, none⟩ = _ := fun o => (hB6.cell (p := ⟨w5.heap.size, o, none⟩) hlg).trans (g0 o); have u0' : ∀ o, w6.cell? ⟨w5.heap.size + 1, o, none⟩ = _ := fun o => (hB6.cell (p := ⟨w5.heap.size + 1, o, none⟩) hlu).trans (u0 o); have k6 := run_text (P := Tryz.prog) w6 30 9 5 A6 c6 xs Tryz.underlying30 Tryz.underlying5 Tryz.underlying9 (Bts.own ho6); have k3 := run_text (P := Tryz.prog) w6 30 9 5 A3 c3 xs Tryz.underlying30 Tryz.underlying5 Tryz.underlying9 ((Bts.own Hoz.out).below hB6); have hI6 := HI.out.below (Bz.out.bel.trans (hB6.mono Bz.out.bel.size)); have hX6 := Its.own (own_below Hwz.out hB6))
        | (go_at_call 13; refine (HQ.out (by trivial) _ A5 c5 hX6 hI6).mono ?_; rintro e w7 ⟨rfl, hb7⟩))
      all_goals
        go_wp2_with fail
        go_ret
        exact ⟨rfl, Bz.out.bel.trans ((hB6.mono Bz.out.bel.size).trans (hb7.mono (Nat.le_trans Bz.out.bel.size hB6.size)))⟩
    · have hE' : ((E : Int) != 0) = true := by simp; omega
      have hx : xs = [] := Hl0.out (by omega)
      subst hx
      go_wp2_with fail
      go_ret
      exact ⟨rfl, B4.out.bel⟩
  · go_wp2_with fail
    go_ret
    exact ⟨rfl, B2.out.bel⟩

end Go.Proofs.YtaaeefndhmfceaaGreatDoor
