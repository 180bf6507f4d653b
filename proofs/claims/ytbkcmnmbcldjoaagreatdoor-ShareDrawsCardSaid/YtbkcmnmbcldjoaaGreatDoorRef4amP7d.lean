/- Contracts of the document's own answers for layer 4: kinds; are two acts the same? -/
import Derived.Test.YtbkcmnmbcldjoaaGreatDoorAct4mP7d
import Derived.Test.YtbkcmnmbcldjoaaGreatDoorRef3gmP7d
namespace Go.Proofs.YtbkcmnmbcldjoaaGreatDoor
open Go.RowKit MM
theorem on_list (k : Int) (h : k.toNat < 22) (h0 : 0 ≤ k) (h1 : k < 22) : [Value.int .i64 0, .int .i64 0, .int .i64 0, .int .i64 0, .int .i64 0, .int .i64 1, .int .i64 1, .int .i64 2, .int .i64 3, .int .i64 3, .int .i64 4, .int .i64 4, .int .i64 4, .int .i64 5, .int .i64 6, .int .i64 7, .int .i64 7, .int .i64 7, .int .i64 8, .int .i64 8, .int .i64 8, .int .i64 9][k.toNat] = .int .i64 (rowAt k).on := by
  have : k = 0 ∨ k = 1 ∨ k = 2 ∨ k = 3 ∨ k = 4 ∨ k = 5 ∨ k = 6 ∨ k = 7 ∨ k = 8 ∨ k = 9 ∨ k = 10 ∨ k = 11 ∨ k = 12 ∨ k = 13 ∨ k = 14 ∨ k = 15 ∨ k = 16 ∨ k = 17 ∨ k = 18 ∨ k = 19 ∨ k = 20 ∨ k = 21 := by omega
  rcases this with rfl | rfl | rfl | rfl | rfl | rfl | rfl | rfl | rfl | rfl | rfl | rfl | rfl | rfl | rfl | rfl | rfl | rfl | rfl | rfl | rfl | rfl <;> rfl
theorem fields_list (k : Int) (h : k.toNat < 22) (h0 : 0 ≤ k) (h1 : k < 22) : [Value.string ⟨#[]⟩, .string ⟨#[109]⟩, .string ⟨#[]⟩, .string ⟨#[]⟩, .string ⟨#[]⟩, .string ⟨#[115]⟩, .string ⟨#[115]⟩, .string ⟨#[110]⟩, .string ⟨#[110]⟩, .string ⟨#[110]⟩, .string ⟨#[110]⟩, .string ⟨#[110]⟩, .string ⟨#[110]⟩, .string ⟨#[120]⟩, .string ⟨#[120]⟩, .string ⟨#[120]⟩, .string ⟨#[120]⟩, .string ⟨#[120]⟩, .string ⟨#[115]⟩, .string ⟨#[115]⟩, .string ⟨#[115]⟩, .string ⟨#[120, 115]⟩][k.toNat] = .string (rowAt k).flds := by
  have : k = 0 ∨ k = 1 ∨ k = 2 ∨ k = 3 ∨ k = 4 ∨ k = 5 ∨ k = 6 ∨ k = 7 ∨ k = 8 ∨ k = 9 ∨ k = 10 ∨ k = 11 ∨ k = 12 ∨ k = 13 ∨ k = 14 ∨ k = 15 ∨ k = 16 ∨ k = 17 ∨ k = 18 ∨ k = 19 ∨ k = 20 ∨ k = 21 := by omega
  rcases this with rfl | rfl | rfl | rfl | rfl | rfl | rfl | rfl | rfl | rfl | rfl | rfl | rfl | rfl | rfl | rfl | rfl | rfl | rfl | rfl | rfl | rfl <;> rfl
theorem rowAt_out {k : Int} (h : ¬ (0 ≤ k ∧ k < 22)) : rowAt k = noRow := by unfold rowAt; rw [if_neg h]
set_option maxHeartbeats 1000000 in
set_option maxRecDepth 100000 in
theorem rOn_any (k : Int) (w : World) :
    Calls Tryz.prog 42 #[.int .i64 k] w fun e w' => e = .returned (.int .i64 (rowAt k).on) ∧ Below w.heap.size w w' := by
  have hcase : (0 ≤ k ∧ k < 22) ∨ k < 0 ∨ 22 ≤ k := by omega
  rcases hcase with ⟨k0, k1⟩ | k0 | k0
  · have Hv := Lib.hid (fun h => on_list k h k0 k1)
    have k2 : k ≤ 21 := by omega
    have k3 : ¬ (21 : Int) < k := by omega
    generalize rowAt k = r at *
    go_enter Tryz.func42, Tryz.ntmps42
    go_wp2_with fail
    go_ret
    exact ⟨by rw [← Hv.out (by omega)]; rfl, below1 w _⟩
  · have Hv := Lib.hid (rowAt_out (k := k) (by omega))
    go_enter Tryz.func42, Tryz.ntmps42
    go_wp2_with fail
    go_ret
    exact ⟨by rw [Hv.out]; rfl, below1 w _⟩
  · have Hv := Lib.hid (rowAt_out (k := k) (by omega))
    have k1 : ¬ k < 0 := by omega
    have k2 : (21 : Int) < k := by omega
    go_enter Tryz.func42, Tryz.ntmps42
    go_wp2_with fail
    go_ret
    exact ⟨by rw [Hv.out]; rfl, below1 w _⟩
set_option maxHeartbeats 1000000 in
set_option maxRecDepth 100000 in
theorem rFields_any (k : Int) (w : World) :
    Calls Tryz.prog 97 #[.int .i64 k] w fun e w' => e = .returned (.string (rowAt k).flds) ∧ Below w.heap.size w w' := by
  have hcase : (0 ≤ k ∧ k < 22) ∨ k < 0 ∨ 22 ≤ k := by omega
  rcases hcase with ⟨k0, k1⟩ | k0 | k0
  · have Hv := Lib.hid (fun h => fields_list k h k0 k1)
    have k2 : k ≤ 21 := by omega
    have k3 : ¬ (21 : Int) < k := by omega
    generalize rowAt k = r at *
    go_enter Tryz.func97, Tryz.ntmps97
    go_wp2_with fail
    go_ret
    exact ⟨by rw [← Hv.out (by omega)]; rfl, below1 w _⟩
  · have Hv := Lib.hid (rowAt_out (k := k) (by omega))
    go_enter Tryz.func97, Tryz.ntmps97
    go_wp2_with fail
    go_ret
    exact ⟨by rw [Hv.out]; rfl, below1 w _⟩
  · have Hv := Lib.hid (rowAt_out (k := k) (by omega))
    have k1 : ¬ k < 0 := by omega
    have k2 : (21 : Int) < k := by omega
    go_enter Tryz.func97, Tryz.ntmps97
    go_wp2_with fail
    go_ret
    exact ⟨by rw [Hv.out]; rfl, below1 w _⟩
theorem fld_has (k : Int) (c : UInt8) : fld k c = decide (c ∈ (rowAt k).flds.data.toList) := by
  have key : ∀ l : List UInt8, decide (0 ≤ Lib.indexByte l c) = decide (c ∈ l) := by
    intro l
    induction l with
    | nil => rfl
    | cons b l ih =>
      rw [Bool.eq_iff_iff] at ih ⊢
      simp only [decide_eq_true_eq] at ih ⊢
      have hg := Lib.indexByte_ge l c
      unfold Lib.indexByte
      by_cases h : b = c
      · subst h; simp
      · rw [if_neg (by simpa using h)]
        have h' : c ≠ b := fun e => h e.symm
        rw [List.mem_cons]
        split
        · rename_i h2
          have h2 : Lib.indexByte l c = -1 := by simpa using h2
          constructor
          · intro x; omega
          · rintro (x | x)
            · exact absurd x h'
            · have := ih.2 x; omega
        · rename_i h2
          have h2 : ¬ Lib.indexByte l c = -1 := by simpa using h2
          constructor
          · intro x; exact .inr (ih.1 (by omega))
          · rintro (x | x)
            · exact absurd x h'
            · have := ih.2 x; omega
  exact key _
theorem take_snoc4 (s : ByteArray) (k : Nat) (h : k < s.size) : s.data.toList.take (k + 1) = s.data.toList.take k ++ [s[k]] := by
  rw [List.take_succ_eq_append_getElem (by simpa using h)]; rfl
def HPost (s : ByteArray) (c : UInt8) (w : World) (e : Ending) (w' : World) : Prop := e = .returned (.bool (decide (c ∈ s.data.toList))) ∧ Below w.heap.size w w'
theorem HPost.yes {s : ByteArray} {c : UInt8} {w w' : World} (j : Nat) (h : j < s.size) (e : s[j] = c) (hb : Below w.heap.size w w') : HPost s c w (.returned (.bool true)) w' := by
  refine ⟨?_, hb⟩
  have hm : s[j] ∈ s.data.toList := by
    have : s.data.toList[j]'(by simpa using h) = s[j] := rfl
    rw [← this]; exact List.getElem_mem _
  rw [e] at hm
  rw [decide_eq_true hm]
theorem HPost.no {s : ByteArray} {c : UInt8} {w w' : World} (h : c ∉ s.data.toList) (hb : Below w.heap.size w w') : HPost s c w (.returned (.bool false)) w' := by
  refine ⟨?_, hb⟩
  rw [decide_eq_false h]
set_option maxHeartbeats 1000000 in
set_option maxRecDepth 100000 in
theorem rHas_any (k : Int) (c : Nat) (hc : c < 256) (w : World) :
    Calls Tryz.prog 67 #[.int .i64 k, .int .u8 c] w fun e w' => e = .returned (.bool (fld k c.toUInt8)) ∧ Below w.heap.size w w' := by
  rw [fld_has]
  have HF := Lib.hid (rFields_any k w)
  have hsz : (rowAt k).flds.size ≤ 2 := by
    by_cases h : 0 ≤ k ∧ k < 22
    · exact at22 (fun k => (rowAt k).flds.size ≤ 2) (by decide +kernel) k h.1 h.2
    · rw [rowAt_out h]; exact Nat.zero_le _
  generalize (rowAt k).flds = s at *
  show Calls Tryz.prog 67 #[.int .i64 k, .int .u8 c] w (HPost s c.toUInt8 w)
  have hsz' : (s.size : Int) ≤ 2 := by omega
  go_enter Tryz.func67, Tryz.ntmps67
  go_wp2_with fail
  refine HF.out.mono ?_
  rintro e w1 ⟨rfl, hb⟩
  have HB := Lib.hid hb
  clear hb
  go_wp2_with fail
  go_loop [6] (fun t => ∃ j : Nat, j ≤ s.size ∧ t = .int .i64 j ∧ c.toUInt8 ∉ s.data.toList.take j) (fun t => s.size - (intOf t).toNat)
  case atStart => exact ⟨0, Nat.zero_le _, rfl, by simp⟩
  case round =>
    obtain ⟨j, hj, rfl, hn⟩ := hrel
    have HN := Lib.hid hn
    clear hn
    by_cases hlt : j < s.size
    · have hcc : c.toUInt8.toNat = c := PK.toUInt8_toNat hc
      by_cases he : s[j] = c.toUInt8
      · have q : ((s[j].toNat : Int) == (c : Int)) = true := by rw [he, hcc]; simp
        have HE := Lib.hid he
        clear he hcc
        go_wp2
        go_ret
        exact HPost.yes j hlt HE.out HB.out
      · have q : ((s[j].toNat : Int) == (c : Int)) = false := by
          simp only [beq_eq_false_iff_ne, ne_eq]
          intro x
          exact he (UInt8.toNat_inj.1 (by rw [hcc]; omega))
        have HE := Lib.hid he
        clear he hcc
        go_wp2
        go_round
        case rel =>
          refine ⟨j + 1, by omega, by go_num, ?_⟩
          rw [take_snoc4 s j hlt, List.mem_append]
          rintro (x | x)
          · exact HN.out x
          · exact HE.out (List.mem_singleton.1 x).symm
        case measure => simp [intOf]; omega
    · go_wp2
      go_ret
      refine HPost.no ?_ HB.out
      have := HN.out
      rwa [List.take_of_length_le (by rw [sz_list]; omega)] at this
theorem rHas_is (k : Int) (c : Nat) (b : Bool) (w : World) (hc : c < 256) (h : fld k c.toUInt8 = b) :
    Calls Tryz.prog 67 #[.int .i64 k, .int .u8 c] w fun e w' => e = .returned (.bool b) ∧ Below w.heap.size w w' := by
  subst h; exact rHas_any k c hc w
end Go.Proofs.YtbkcmnmbcldjoaaGreatDoor
