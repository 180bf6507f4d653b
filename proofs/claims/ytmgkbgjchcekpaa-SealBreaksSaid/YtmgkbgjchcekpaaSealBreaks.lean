/- The walk of SealBreaks. -/
import Derived.Test.YtmgkbgjchcekpaaDk12
import Derived.Test.YtmgkbgjchcekpaaSec7
namespace Go.Proofs.Ytmgkbgjchcekpaa
open Go.RowKit MM
set_option linter.unusedVariables false
set_option linter.unusedSimpArgs false

def s91 : List UInt8 := List.replicate 9 0 ++ 1 :: List.replicate 54 0
def brD : Nat → Dk
  | 0 => Dk.new 16
  | i + 1 => (brD i).put i s91
theorem brD_len : ∀ i, (brD i).now.length = 16
  | 0 => rfl
  | i + 1 => by show ((brD i).now.set i s91).length = 16; rw [List.length_set, brD_len i]
theorem brD_up : ∀ i, (brD i).down = false ∧ (brD i).left = 0
  | 0 => ⟨rfl, rfl⟩
  | i + 1 => brD_up i
theorem brD_pend : ∀ i, (brD i).pend.length = i
  | 0 => rfl
  | i + 1 => by show ((brD i).pend ++ [(i, s91)]).length = i + 1; rw [List.length_append, brD_pend i]; rfl
theorem brD_write (i : Nat) (h : i < 16) : (brD i).write (i : Int) s91 = (brD (i + 1), 0) := Dk.write_up (brD_up i).1 (brD_up i).2 (by rw [brD_len]; exact h)
/-- The disk ahead of the Wipe. -/
def brS (n k : Nat) : Dk := ({ (brD n) with good := (brD n).now, pend := [] } : Dk).brk (k : Int)
def brOk (n k : Nat) : Bool := (((brS n k).wipe 0 16).2 == (if k ≤ n then 14 else 0)) && (((brS n k).wipe 0 16).1.down == decide (k ≤ n))
set_option maxRecDepth 100000 in
theorem brAll : ((List.range 15).all fun n => (List.range 20).all fun k => brOk (n + 1) (k + 1)) = true := by decide +kernel

set_option maxHeartbeats 2000000 in
set_option maxRecDepth 100000 in
theorem sealBreaks_any (a0 a1 : Int) (w : World) (h0 : (Lit.int .u8 a0).wf = true) (h1 : (Lit.int .u8 a1).wf = true) :
    Calls Try.prog 11 #[.int .u8 a0, .int .u8 a1] w fun e w' => e = .returned (.bool true) ∧ Below w.heap.size w w' := by
  have b0 : 0 ≤ a0 ∧ a0 ≤ 255 := by simpa [Lit.wf, IntKind.min, IntKind.max, IntKind.signed, IntKind.bits] using h0
  have b1 : 0 ≤ a1 ∧ a1 ≤ 255 := by simpa [Lit.wf, IntKind.min, IntKind.max, IntKind.signed, IntKind.bits] using h1
  obtain ⟨n, hn⟩ : ∃ n : Nat, 1 + a0 % 15 = (n : Int) := ⟨(1 + a0 % 15).toNat, by omega⟩
  obtain ⟨k, hk⟩ : ∃ k : Nat, 1 + a1 % 20 = (k : Int) := ⟨(1 + a1 % 20).toNat, by omega⟩
  have HN := Lib.hid (show 1 ≤ n ∧ n ≤ 15 ∧ 1 ≤ k ∧ k ≤ 20 by omega)
  have HOk := Lib.hid (show brOk n k = true by
    have h := brAll
    rw [List.all_eq_true] at h
    have h2 := h (n - 1) (by rw [List.mem_range]; omega)
    rw [List.all_eq_true] at h2
    have h3 := h2 (k - 1) (by rw [List.mem_range]; omega)
    rw [show n - 1 + 1 = n by omega, show k - 1 + 1 = k by omega] at h3
    exact h3)
  clear h0 h1
  go_enter Try.func11, Try.ntmps11
  go_wp2_with fail
  refine (speaks18_any w).mono ?_
  rintro e w1 ⟨rfl, hb1⟩
  have HB1 := Lib.hid hb1
  clear hb1
  go_wp2_with fail
  refine (show Calls Try.prog 14 #[.int .i64 16] w1 _ from oNew 16 w1 (by omega) (by omega)).mono ?_
  rintro e w2 ⟨p, rfl, h2, hb2⟩
  have H2 := Lib.hid h2
  have HB2 := Lib.hid hb2
  clear h2 hb2 hn hk b0 b1
  go_wp2_with fail
  go_loopw [26] (fun t wr => ∃ i : Nat, t = .int .i64 i ∧ i ≤ n ∧ Own w1.heap.size wr p (brD i) ∧ Below w1.heap.size w1 wr) (fun t _ => n - (intOf t).toNat)
  case atStart => exact ⟨0, rfl, Nat.zero_le _, H2.out, HB2.out⟩
  case round =>
    obtain ⟨i, rfl, hi, h3, hb3⟩ := hrel
    have H3 := Lib.hid h3
    have HB3 := Lib.hid hb3
    clear h3 hb3 H2 HB2
    have hN := HN.out
    by_cases hlt : i < n
    · have hlt' : (i : Int) < (n : Int) := by omega
      go_wp2_with (first | (refine wpList_build_row rfl _ _ rfl (bc s91).toArray (by kernel_rfl) ?_))
      refine (oWrite w1.heap.size p (brD i) (i : Int) s91 wr rfl (by rw [brD_pend]; omega) H3.out).mono ?_
      rintro e w4 ⟨rfl, h4, hb4⟩
      rw [brD_write i (by omega)] at h4 ⊢
      have H4 := Lib.hid h4
      have HB4 := Lib.hid (HB3.out.trans hb4)
      clear h4 hb4
      go_wp2_with fail
      go_roundw
      case rel => exact ⟨i + 1, by go_num, by omega, H4.out, HB4.out⟩
      case measure => simp [intOf]; omega
    · obtain rfl : i = n := by omega
      go_wp2_with fail
      refine (oSync w1.heap.size p _ wr (by rw [brD_pend]; omega) H3.out).mono ?_
      rintro e w4 ⟨rfl, h4, hb4⟩
      rw [Dk.sync_up (brD_up i).1] at h4 ⊢
      have H4 := Lib.hid h4
      have HB4 := Lib.hid (HB3.out.trans hb4)
      clear h4 hb4
      go_wp2_with fail
      refine (oBreak w1.heap.size p _ (k : Int) w4 (by omega) H4.out).mono ?_
      rintro e w5 ⟨⟨v5, rfl⟩, h5, hb5⟩
      have H5 := Lib.hid (show Own w1.heap.size w5 p (brS i k) from h5)
      have HB5 := Lib.hid (HB4.out.trans hb5)
      clear h5 hb5
      go_wp2_with fail
      refine (show Calls Try.prog 34 #[.pointer (some ⟨p, 0, none⟩), .int .i64 0, .int .i64 16] w5 _ from wipe_any w1.heap.size p (brS i k) 0 16 w5 (by omega) (by show 0 ≤ 1000; omega) H5.out).mono ?_
      rintro e w6 ⟨rfl, h6, hb6⟩
      have H6 := Lib.hid h6
      have HB6 := Lib.hid (HB5.out.trans hb6)
      have hok := HOk.out
      unfold brOk at hok
      rw [Bool.and_eq_true, beq_iff_eq, beq_iff_eq] at hok
      rw [hok.1]
      have HDn := Lib.hid (dDown_any p _ _ w6 H6.out.1)
      rw [hok.2] at HDn
      clear h6 hb6 hok HOk
      by_cases hkn : k ≤ i
      · have hd : decide (k ≤ i) = true := decide_eq_true hkn
        have hd1 : decide ((k : Int) ≤ (i : Int)) = true := decide_eq_true (by omega)
        have hd2 : decide ((i : Int) < (k : Int)) = false := decide_eq_false (by omega)
        rw [hd] at HDn
        rw [if_pos hkn]
        have HK := Lib.hid hkn
        clear hkn hd
        go_wp2_with (first | (go_at_call 24; refine HDn.out.mono ?_; rintro e w' ⟨rfl, rfl⟩))
        go_ret
        exact ⟨by have := HK.out; show Ending.returned (.bool (!decide (i < k))) = _; rw [decide_eq_false (by omega)]; rfl, HB1.out.trans (HB6.out.mono HB1.out.size)⟩
      · have hd : decide (k ≤ i) = false := decide_eq_false hkn
        have hd1 : decide ((k : Int) ≤ (i : Int)) = false := decide_eq_false (by omega)
        have hd2 : decide ((i : Int) < (k : Int)) = true := decide_eq_true (by omega)
        rw [hd] at HDn
        rw [if_neg hkn]
        have HK := Lib.hid hkn
        clear hkn hd
        go_wp2_with (first | (go_at_call 24; refine HDn.out.mono ?_; rintro e w' ⟨rfl, rfl⟩))
        all_goals first
          | (exfalso; have := HK.out; omega)
          | (go_ret; exact ⟨by have := HK.out; show Ending.returned (.bool (!decide (k ≤ i))) = _; rw [decide_eq_false (by omega)]; rfl, HB1.out.trans (HB6.out.mono HB1.out.size)⟩)

end Go.Proofs.Ytmgkbgjchcekpaa
