/- Contracts of the document's own answers for layer 4: kinds; are two acts the same? -/
import Derived.Test.YtbkcmnmbcldjoaaGreatDoorAct4mP7a
import Derived.Test.YtbkcmnmbcldjoaaGreatDoorRef3gmP7a
namespace Go.Proofs.YtbkcmnmbcldjoaaGreatDoor
open Go.RowKit MM
theorem on_list (k : Int) (h : k.toNat < 22) (h0 : 0 ≤ k) (h1 : k < 22) : [Value.int .i64 0, .int .i64 0, .int .i64 0, .int .i64 0, .int .i64 0, .int .i64 1, .int .i64 1, .int .i64 2, .int .i64 3, .int .i64 3, .int .i64 4, .int .i64 4, .int .i64 4, .int .i64 5, .int .i64 6, .int .i64 7, .int .i64 7, .int .i64 7, .int .i64 8, .int .i64 8, .int .i64 8, .int .i64 9][k.toNat] = .int .i64 (rowAt k).on := by
  have : k = 0 ∨ k = 1 ∨ k = 2 ∨ k = 3 ∨ k = 4 ∨ k = 5 ∨ k = 6 ∨ k = 7 ∨ k = 8 ∨ k = 9 ∨ k = 10 ∨ k = 11 ∨ k = 12 ∨ k = 13 ∨ k = 14 ∨ k = 15 ∨ k = 16 ∨ k = 17 ∨ k = 18 ∨ k = 19 ∨ k = 20 ∨ k = 21 := by omega
  rcases this with rfl | rfl | rfl | rfl | rfl | rfl | rfl | rfl | rfl | rfl | rfl | rfl | rfl | rfl | rfl | rfl | rfl | rfl | rfl | rfl | rfl | rfl <;> rfl
theorem rowAt_out {k : Int} (h : ¬ (0 ≤ k ∧ k < 22)) : rowAt k = noRow := by unfold rowAt; rw [if_neg h]
set_option maxHeartbeats 1000000 in
set_option maxRecDepth 100000 in
theorem rOn_any (k : Int) (w : World) :
    Calls Tryz.prog 42 #[.int .i64 k] w fun e w' => e = .returned (.int .i64 (rowAt k).on) ∧ Below w.heap.size w w' := by
  have hcase : (0 ≤ k ∧ k < 22) ∨ k < 0 ∨ 22 ≤ k := by omega
  rcases hcase with ⟨k0, k1⟩ | k0 | k0
  · have Hv := Lib.hid (fun h => on_list k h k0 k1)
    have k2 : k ≤ 21 := by omega
    have k3 : ¬ (21 : Int) < k := by omega
    generalize rowAt k = r at *
    go_enter Tryz.func42, Tryz.ntmps42
    go_wp2_with fail
    go_ret
    exact ⟨by rw [← Hv.out (by omega)]; rfl, below1 w _⟩
  · have Hv := Lib.hid (rowAt_out (k := k) (by omega))
    go_enter Tryz.func42, Tryz.ntmps42
    go_wp2_with fail
    go_ret
    exact ⟨by rw [Hv.out]; rfl, below1 w _⟩
  · have Hv := Lib.hid (rowAt_out (k := k) (by omega))
    have k1 : ¬ k < 0 := by omega
    have k2 : (21 : Int) < k := by omega
    go_enter Tryz.func42, Tryz.ntmps42
    go_wp2_with fail
    go_ret
    exact ⟨by rw [Hv.out]; rfl, below1 w _⟩
def HPost (s : ByteArray) (c : UInt8) (w : World) (e : Ending) (w' : World) : Prop := e = .returned (.bool (decide (c ∈ s.data.toList))) ∧ Below w.heap.size w w'
theorem HPost.yes {s : ByteArray} {c : UInt8} {w w' : World} (j : Nat) (h : j < s.size) (e : s[j] = c) (hb : Below w.heap.size w w') : HPost s c w (.returned (.bool true)) w' := by
  refine ⟨?_, hb⟩
  have hm : s[j] ∈ s.data.toList := by
    have : s.data.toList[j]'(by simpa using h) = s[j] := rfl
    rw [← this]; exact List.getElem_mem _
  rw [e] at hm
  rw [decide_eq_true hm]
theorem HPost.no {s : ByteArray} {c : UInt8} {w w' : World} (h : c ∉ s.data.toList) (hb : Below w.heap.size w w') : HPost s c w (.returned (.bool false)) w' := by
  refine ⟨?_, hb⟩
  rw [decide_eq_false h]
end Go.Proofs.YtbkcmnmbcldjoaaGreatDoor
