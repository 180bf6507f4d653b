/- The walk of RecReads. -/
import Derived.Test.YtafjginegipakaaDoorEyeS
import Derived.Test.YtafjginegipakaaDoorRef3g
import Derived.Test.YtafjginegipakaaDoorOpn3
import Derived.Test.YtafjginegipakaaDoorSp3
import Derived.Deep.RegionHeld3
import Derived.Deep.QuietTactic
import Derived.BigQuiet
namespace Go.Proofs.YtafjginegipakaaDoor
open Go.RowKit MM

theorem whole_pos {α : Type} {f : List UInt8 → Res α} {l : List UInt8} {e n : Nat} (hf : PosR (f l)) (h : wholeR f l = .bad e n) : 0 < e := by
  unfold wholeR at h
  cases hq : f l with
  | bad c k => rw [hq] at h; injection h with h1 h2; subst h1; exact hf c k hq
  | ok x k =>
    rw [hq] at h
    simp only at h
    split at h
    · cases h
    · injection h with h1 h2; omega
theorem whole_inv {α : Type} {f : List UInt8 → Res α} {l : List UInt8} {x : α} {n : Nat} (h : wholeR f l = .ok x n) : f l = .ok x n ∧ l.drop n = [] := by
  unfold wholeR at h
  cases hq : f l with
  | bad c k => rw [hq] at h; cases h
  | ok y k =>
    rw [hq] at h
    simp only at h
    split at h
    · rename_i hd
      injection h with h1 h2
      subst h1 h2
      exact ⟨rfl, hd⟩
    · cases h
theorem whole_rec {l : List UInt8} {x : RC.Rc} {n : Nat} (h : wholeR recR l = .ok x n) : x.ok ∧ bytesOf x = l ∧ x.list.length ≤ 32 := by
  obtain ⟨h1, h2⟩ := whole_inv h
  obtain ⟨h3, h4, h5, h6⟩ := recR_one h1
  refine ⟨h5, ?_, (RC.chk_may h5 h6).len⟩
  unfold bytesOf
  rw [if_pos h6, ← h3]
  have := List.take_append_drop n l
  rw [h2, List.append_nil] at this
  exact this

set_option maxHeartbeats 2000000 in
set_option maxRecDepth 100000 in
theorem recReads_any (A : Option Addr) (c : Nat) (xs : List UInt8) (w : World) (hb : Bts w A xs) (hcap : xs.length ≤ c) (hN : NamesAt w) :
    Calls Tryd.prog 3 #[.slice A xs.length c] w fun e w' => e = .returned (.bool true) ∧ Below w.heap.size w w' := by
  have HB := Lib.hid hb
  have HN := Lib.hid hN
  have HS := Lib.hid (fun w hN => speaks3_any w hN)
  clear hb hN
  by_cases hlen : 2000 < xs.length
  · have hd : decide ((2000 : Int) < (xs.length : Int)) = true := by simp; omega
    go_enter Tryd.func3, Tryd.ntmps3
    go_wp2_with fail
    refine (HS.out _ HN.out).mono ?_
    rintro e w1 ⟨rfl, hb1⟩
    go_wp2_with fail
    go_ret
    exact ⟨rfl, hb1⟩
  have hd : decide ((2000 : Int) < (xs.length : Int)) = false := by simp; omega
  have hlx : Lim xs.length := by unfold Lim; omega
  have HR := Lib.hid (fun w (hb : Bts w A xs) => recRead_any A c xs w hb hlx)
  have HQ := Lib.hid (fun w (hb : Bts w A xs) => rread3_any A c xs w hb hlx hcap)
  cases hW : wholeR recR xs with
  | bad code n =>
    have hp := whole_pos (PosR.rc xs) hW
    have h2 : ((code : Int) != 0) = true := by simp; omega
    rw [hW] at HR HQ
    clear hW
    go_enter Tryd.func3, Tryd.ntmps3
    go_wp2_with fail
    refine (HS.out _ HN.out).mono ?_
    rintro e w1 ⟨rfl, hb1⟩
    have HB1 := Lib.hid hb1
    clear hb1
    go_wp2_with fail
    refine (HR.out _ (HB.out.below HB1.out)).mono ?_
    rintro e w2 ⟨rfl, hb2⟩
    have HB2 := Lib.hid (HB1.out.trans (hb2.mono HB1.out.size))
    clear hb2
    go_wp2_with fail
    generalize hwz : World.alloc (World.alloc _ _) _ = wz
    have hbz : Below w2.heap.size w2 wz := by rw [← hwz]; exact below2 w2 _ _
    have EX := Lib.hid (show wz.heap[w2.heap.size]? = some (.cells zeroC 27 (0, 0)) by rw [← hwz]; exact heap_alloc2_old _ _ _)
    have EF := Lib.hid (show wz.heap[w2.heap.size + 1]? = some (.cells #[.int .i64 code, .int .i64 n] 30 (0, 0)) by rw [← hwz]; exact heap_alloc2_new _ _ _)
    have HBz := Lib.hid (HB2.out.trans (hbz.mono HB2.out.size))
    clear hwz hbz
    refine (HQ.out _ (HB.out.below HBz.out)).mono ?_
    rintro e w3 ⟨hb3, rfl⟩
    have HB3 := Lib.hid (HBz.out.trans (hb3.mono HBz.out.size))
    have EX3 := Lib.hid ((hb3.block _ (lt_of_heap EX.out)).trans EX.out)
    have EF3 := Lib.hid ((hb3.block _ (lt_of_heap EF.out)).trans EF.out)
    have z1 := lt_of_heap EX3.out
    have z2 := lt_of_heap EF3.out
    have cX := fun o => cell_of_row w3 _ o _ _ (0, 0) EX3.out
    have cF := fun o => cell_of_row w3 _ o _ _ (0, 0) EF3.out
    clear hb3 EX EF
    go_wp2_with fail
    refine (rsame3_any RC.zero RC.zero none none 0 0 _ RC.zero_ok RC.zero_ok (Its.nil _ _) (Its.nil _ _) (by unfold Lim; decide) (by unfold Lim; decide)).mono ?_
    rintro e w4 ⟨rfl, hb4⟩
    rw [RC.same_refl']
    have HB4 := Lib.hid (HB3.out.trans (((below1 w3 _).mono HB3.out.size).trans (hb4.mono (by have := HB3.out.size; simp; omega))))
    clear hb4 cX cF
    go_wp2_with fail
    go_quiet (fail)
    go_wp2_with fail
    go_ret
    first | exact ⟨rfl, HB4.out⟩ | exact ⟨rfl, below_drew HB4.out⟩ | exact ⟨rfl, below_drewN HB4.out _⟩
  | ok x n =>
    obtain ⟨hx, hy, hl⟩ := whole_rec hW
    have HX := Lib.hid hx
    rw [hW] at HR HQ
    have HT := Lib.hid (show ∀ w A', Its w A' x.list → ∀ c', Calls Tryd.prog 16 #[recV x A' c'] w (Fresh 5 xs w) from fun w A' h c' => by rw [← hy]; exact recBytes_any x A' c' w hx h (by unfold Lim; omega))
    clear hW hy hx
    go_enter Tryd.func3, Tryd.ntmps3
    go_wp2_with fail
    refine (HS.out _ HN.out).mono ?_
    rintro e w1 ⟨rfl, hb1⟩
    have HB1 := Lib.hid hb1
    clear hb1
    go_wp2_with fail
    refine (HR.out _ (HB.out.below HB1.out)).mono ?_
    rintro e w2 ⟨A2, c2, rfl, ho2, hn2, hb2⟩
    have HB2 := Lib.hid (HB1.out.trans (hb2.mono HB1.out.size))
    have HO2 := Lib.hid ho2
    clear hb2 ho2 hn2
    go_wp2_with fail
    generalize hwz : World.alloc (World.alloc _ _) _ = wz
    have hbz : Below w2.heap.size w2 wz := by rw [← hwz]; exact below2 w2 _ _
    have EX := Lib.hid (show wz.heap[w2.heap.size]? = some (.cells (recC x.kind x.num x.low x.high x.real x.cap x.text (.slice A2 x.list.length c2)) 27 (0, 0)) by rw [← hwz]; exact heap_alloc2_old _ _ _)
    have EF := Lib.hid (show wz.heap[w2.heap.size + 1]? = some (.cells #[.int .i64 0, .int .i64 0] 30 (0, 0)) by rw [← hwz]; exact heap_alloc2_new _ _ _)
    have HBz := Lib.hid (HB2.out.trans (hbz.mono HB2.out.size))
    have HOz := Lib.hid (own_below HO2.out hbz)
    clear hwz hbz
    refine (HQ.out _ (HB.out.below HBz.out)).mono ?_
    rintro e w3 ⟨hb3, A3, c3, rfl, ho3⟩
    have HB3 := Lib.hid (HBz.out.trans (hb3.mono HBz.out.size))
    have EX3 := Lib.hid ((hb3.block _ (lt_of_heap EX.out)).trans EX.out)
    have EF3 := Lib.hid ((hb3.block _ (lt_of_heap EF.out)).trans EF.out)
    have HO3 := Lib.hid (own_below HOz.out hb3)
    have HP3 := Lib.hid ho3
    have z1 := lt_of_heap EX3.out
    have z2 := lt_of_heap EF3.out
    have cX := fun o => cell_of_row w3 _ o _ _ (0, 0) EX3.out
    have cF := fun o => cell_of_row w3 _ o _ _ (0, 0) EF3.out
    clear hb3 EX EF ho3
    go_wp2_with fail
    refine (rsame3_any x x A2 A3 c2 c3 _ HX.out HX.out ((Its.own HO3.out).alloc _) ((Its.own HP3.out).alloc _) (by unfold Lim; omega) (by unfold Lim; omega)).mono ?_
    rintro e w4 ⟨rfl, hb4⟩
    rw [RC.same_refl']
    have hb34 : Below w3.heap.size w3 w4 := (below1 w3 _).trans (hb4.mono (by simp))
    have HB4 := Lib.hid (HB3.out.trans (hb34.mono HB3.out.size))
    have EX4 := (hb34.block _ (lt_of_heap EX3.out)).trans EX3.out
    have HI4 := Lib.hid (show Its w4.drew A2 x.list from (Its.own (own_below HO3.out hb34)).below (below_drew (Below.refl _ _)))
    have f0 : w4.cell? ⟨w2.heap.size, 0, none⟩ = some (.int .i64 x.kind) := (cell_of_row w4 _ 0 _ _ (0, 0) EX4).trans rfl
    have f1 : w4.cell? ⟨w2.heap.size, 1, none⟩ = some (.int .i64 x.num) := (cell_of_row w4 _ 1 _ _ (0, 0) EX4).trans rfl
    have f2 : w4.cell? ⟨w2.heap.size, 2, none⟩ = some (.int .i64 x.low) := (cell_of_row w4 _ 2 _ _ (0, 0) EX4).trans rfl
    have f3 : w4.cell? ⟨w2.heap.size, 3, none⟩ = some (.int .i64 x.high) := (cell_of_row w4 _ 3 _ _ (0, 0) EX4).trans rfl
    have f4 : w4.cell? ⟨w2.heap.size, 4, none⟩ = some (.float .f64 x.real) := (cell_of_row w4 _ 4 _ _ (0, 0) EX4).trans rfl
    have f5 : w4.cell? ⟨w2.heap.size, 5, none⟩ = some (.int .i64 x.cap) := (cell_of_row w4 _ 5 _ _ (0, 0) EX4).trans rfl
    have f6 : w4.cell? ⟨w2.heap.size, 6, none⟩ = some (.string x.text) := (cell_of_row w4 _ 6 _ _ (0, 0) EX4).trans rfl
    have f7 : w4.cell? ⟨w2.heap.size, 7, none⟩ = some (.slice A2 x.list.length c2) := (cell_of_row w4 _ 7 _ _ (0, 0) EX4).trans rfl
    have kz := run_text (P := Tryd.prog) w4.drew 22 9 5 A c xs Tryd.underlying22 Tryd.underlying5 Tryd.underlying9 (show Bts w4.drew A xs from HB.out.below (below_drew HB4.out))
    clear hb34 hb4 cX cF EX4 EX3 EF3
    go_wp2_with fail
    go_region_with (go_at_call 16; refine (HT.out _ A2 HI4.out c2).mono ?_; rintro e w6 ⟨A6, c6, rfl, ho6, hn6, hb6⟩; have hB6 : Below w4.heap.size w4 w6 := (below_a w4).trans hb6; have k6 := run_text (P := Tryd.prog) w6 22 9 5 A6 c6 xs Tryd.underlying22 Tryd.underlying5 Tryd.underlying9 (Bts.own ho6); have k3 := run_text (P := Tryd.prog) w6 22 9 5 A c xs Tryd.underlying22 Tryd.underlying5 Tryd.underlying9 (HB.out.below (HB4.out.trans (hB6.mono HB4.out.size))))
    all_goals
      go_wp2_with fail
      go_ret
      exact ⟨rfl, HB4.out.trans (hB6.mono HB4.out.size)⟩

end Go.Proofs.YtafjginegipakaaDoor
