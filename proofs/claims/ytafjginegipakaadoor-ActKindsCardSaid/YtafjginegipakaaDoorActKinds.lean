/- The walk of ActKinds. -/
import Derived.Test.YtafjginegipakaaDoorSp4
import Derived.Test.YtafjginegipakaaDoorRef4a
import Derived.Test.YtafjginegipakaaDoorOpn4
namespace Go.Proofs.YtafjginegipakaaDoor
open Go.RowKit MM

theorem names_list (k : Int) (h : k.toNat < 22) (h0 : 0 ≤ k) (h1 : k < 22) : [Value.string ⟨#[]⟩, .string ⟨#[110, 101, 119]⟩, .string ⟨#[100, 114, 111, 112]⟩, .string ⟨#[105, 115]⟩, .string ⟨#[108, 111, 111, 107]⟩, .string ⟨#[112, 117, 116]⟩, .string ⟨#[115, 119, 97, 112]⟩, .string ⟨#[97, 100, 100]⟩, .string ⟨#[112, 108, 117, 115]⟩, .string ⟨#[114, 101, 97, 99, 104]⟩, .string ⟨#[105, 110]⟩, .string ⟨#[111, 117, 116]⟩, .string ⟨#[101, 110, 111, 117, 103, 104]⟩, .string ⟨#[114, 97, 105, 115, 101]⟩, .string ⟨#[108, 111, 119, 101, 114]⟩, .string ⟨#[115, 104, 105, 102, 116]⟩, .string ⟨#[115, 99, 97, 108, 101]⟩, .string ⟨#[102, 105, 120]⟩, .string ⟨#[106, 111, 105, 110]⟩, .string ⟨#[108, 101, 97, 118, 101]⟩, .string ⟨#[104, 97, 115]⟩, .string ⟨#[111, 102, 102, 101, 114]⟩][k.toNat] = .string (rowAt k).name := by
  have : k = 0 ∨ k = 1 ∨ k = 2 ∨ k = 3 ∨ k = 4 ∨ k = 5 ∨ k = 6 ∨ k = 7 ∨ k = 8 ∨ k = 9 ∨ k = 10 ∨ k = 11 ∨ k = 12 ∨ k = 13 ∨ k = 14 ∨ k = 15 ∨ k = 16 ∨ k = 17 ∨ k = 18 ∨ k = 19 ∨ k = 20 ∨ k = 21 := by omega
  rcases this with rfl | rfl | rfl | rfl | rfl | rfl | rfl | rfl | rfl | rfl | rfl | rfl | rfl | rfl | rfl | rfl | rfl | rfl | rfl | rfl | rfl | rfl <;> rfl
theorem reads_no (k : Int) (h0 : 0 ≤ k) (h1 : k < 22) (h : ¬ (k = 3 ∨ k = 4 ∨ k = 9 ∨ k = 12 ∨ k = 20)) : (rowAt k).reads = false := by
  have := at22 (fun k => ¬ (k = 3 ∨ k = 4 ∨ k = 9 ∨ k = 12 ∨ k = 20) → (rowAt k).reads = false) (by decide +kernel) k h0 h1
  exact this h

set_option maxHeartbeats 4000000 in
set_option maxRecDepth 100000 in
theorem actKindsN (k : Int) (c : Nat) (w : World) (hc : c < 256) (hR : RowsAt w) :
    Calls Tryd.prog 4 #[.int .i64 k, .int .u8 c] w fun e w' => e = .returned (.bool true) ∧ Below w.heap.size w w' := by
  have HR := Lib.hid hR
  have HS := Lib.hid (fun w hR => speaks4_any w hR)
  clear hR
  have hcase : (k = 3 ∨ k = 4 ∨ k = 9 ∨ k = 12 ∨ k = 20) ∨ (0 ≤ k ∧ k < 22 ∧ ¬ (k = 3 ∨ k = 4 ∨ k = 9 ∨ k = 12 ∨ k = 20)) ∨ k < 0 ∨ 22 ≤ k := by omega
  rcases hcase with (rfl | rfl | rfl | rfl | rfl) | ⟨k0, k1, kn⟩ | k0 | k0
  · skip
    go_enter Tryd.func4, Tryd.ntmps4
    go_wp2_with fail
    refine (HS.out _ HR.out).mono ?_
    rintro e w0 ⟨rfl, hb0⟩
    have HB0 := Lib.hid hb0
    clear hb0
    go_wp2_with fail
    generalize hw1 : World.alloc _ _ = w1
    have HB1 := Lib.hid (show Below w.heap.size w w1 by rw [← hw1]; exact HB0.out.alloc HB0.out.size _)
    clear hw1
    refine (actName_any 3 _ (HR.out.below HB1.out)).mono ?_
    rw [show (rowAt 3).name = ⟨#[105, 115]⟩ from rfl]
    rintro e w2 ⟨rfl, hb2⟩
    have HB2 := Lib.hid (HB1.out.trans (hb2.mono HB1.out.size))
    clear hb2
    go_wp2_with fail
    refine (actOn_any 3 _ (HR.out.below HB2.out)).mono ?_
    rintro e w3 ⟨rfl, hb3⟩
    have HB3 := Lib.hid (HB2.out.trans (hb3.mono HB2.out.size))
    clear hb3
    go_wp2_with fail
    refine (rOn_any 3 _).mono ?_
    rintro e w4 ⟨rfl, hb4⟩
    have HB4 := Lib.hid (HB3.out.trans (hb4.mono HB3.out.size))
    clear hb4
    go_wp2_with fail
    refine (actReads_any 3 _ (HR.out.below HB4.out)).mono ?_
    rw [show (rowAt 3).reads = true from rfl]
    rintro e w5 ⟨rfl, hb5⟩
    have HB5 := Lib.hid (HB4.out.trans (hb5.mono HB4.out.size))
    clear hb5
    go_wp2_with fail
    refine (field_any 3 c _ (HR.out.below HB5.out)).mono ?_
    rintro e w6 ⟨rfl, hb6⟩
    have HB6 := Lib.hid (HB5.out.trans (hb6.mono HB5.out.size))
    clear hb6
    go_wp2_with fail
    refine (rHas_any 3 c hc _).mono ?_
    rintro e w7 ⟨rfl, hb7⟩
    have HB7 := Lib.hid (HB6.out.trans (hb7.mono HB6.out.size))
    clear hb7
    generalize fld 3 c.toUInt8 = bb
    go_wp2_with fail
    go_ret
    first | exact ⟨rfl, HB7.out⟩ | exact ⟨ret_bool (by simp), HB7.out⟩
  · skip
    go_enter Tryd.func4, Tryd.ntmps4
    go_wp2_with fail
    refine (HS.out _ HR.out).mono ?_
    rintro e w0 ⟨rfl, hb0⟩
    have HB0 := Lib.hid hb0
    clear hb0
    go_wp2_with fail
    generalize hw1 : World.alloc _ _ = w1
    have HB1 := Lib.hid (show Below w.heap.size w w1 by rw [← hw1]; exact HB0.out.alloc HB0.out.size _)
    clear hw1
    refine (actName_any 4 _ (HR.out.below HB1.out)).mono ?_
    rw [show (rowAt 4).name = ⟨#[108, 111, 111, 107]⟩ from rfl]
    rintro e w2 ⟨rfl, hb2⟩
    have HB2 := Lib.hid (HB1.out.trans (hb2.mono HB1.out.size))
    clear hb2
    go_wp2_with fail
    refine (actOn_any 4 _ (HR.out.below HB2.out)).mono ?_
    rintro e w3 ⟨rfl, hb3⟩
    have HB3 := Lib.hid (HB2.out.trans (hb3.mono HB2.out.size))
    clear hb3
    go_wp2_with fail
    refine (rOn_any 4 _).mono ?_
    rintro e w4 ⟨rfl, hb4⟩
    have HB4 := Lib.hid (HB3.out.trans (hb4.mono HB3.out.size))
    clear hb4
    go_wp2_with fail
    refine (actReads_any 4 _ (HR.out.below HB4.out)).mono ?_
    rw [show (rowAt 4).reads = true from rfl]
    rintro e w5 ⟨rfl, hb5⟩
    have HB5 := Lib.hid (HB4.out.trans (hb5.mono HB4.out.size))
    clear hb5
    go_wp2_with fail
    refine (field_any 4 c _ (HR.out.below HB5.out)).mono ?_
    rintro e w6 ⟨rfl, hb6⟩
    have HB6 := Lib.hid (HB5.out.trans (hb6.mono HB5.out.size))
    clear hb6
    go_wp2_with fail
    refine (rHas_any 4 c hc _).mono ?_
    rintro e w7 ⟨rfl, hb7⟩
    have HB7 := Lib.hid (HB6.out.trans (hb7.mono HB6.out.size))
    clear hb7
    generalize fld 4 c.toUInt8 = bb
    go_wp2_with fail
    go_ret
    first | exact ⟨rfl, HB7.out⟩ | exact ⟨ret_bool (by simp), HB7.out⟩
  · skip
    go_enter Tryd.func4, Tryd.ntmps4
    go_wp2_with fail
    refine (HS.out _ HR.out).mono ?_
    rintro e w0 ⟨rfl, hb0⟩
    have HB0 := Lib.hid hb0
    clear hb0
    go_wp2_with fail
    generalize hw1 : World.alloc _ _ = w1
    have HB1 := Lib.hid (show Below w.heap.size w w1 by rw [← hw1]; exact HB0.out.alloc HB0.out.size _)
    clear hw1
    refine (actName_any 9 _ (HR.out.below HB1.out)).mono ?_
    rw [show (rowAt 9).name = ⟨#[114, 101, 97, 99, 104]⟩ from rfl]
    rintro e w2 ⟨rfl, hb2⟩
    have HB2 := Lib.hid (HB1.out.trans (hb2.mono HB1.out.size))
    clear hb2
    go_wp2_with fail
    refine (actOn_any 9 _ (HR.out.below HB2.out)).mono ?_
    rintro e w3 ⟨rfl, hb3⟩
    have HB3 := Lib.hid (HB2.out.trans (hb3.mono HB2.out.size))
    clear hb3
    go_wp2_with fail
    refine (rOn_any 9 _).mono ?_
    rintro e w4 ⟨rfl, hb4⟩
    have HB4 := Lib.hid (HB3.out.trans (hb4.mono HB3.out.size))
    clear hb4
    go_wp2_with fail
    refine (actReads_any 9 _ (HR.out.below HB4.out)).mono ?_
    rw [show (rowAt 9).reads = true from rfl]
    rintro e w5 ⟨rfl, hb5⟩
    have HB5 := Lib.hid (HB4.out.trans (hb5.mono HB4.out.size))
    clear hb5
    go_wp2_with fail
    refine (field_any 9 c _ (HR.out.below HB5.out)).mono ?_
    rintro e w6 ⟨rfl, hb6⟩
    have HB6 := Lib.hid (HB5.out.trans (hb6.mono HB5.out.size))
    clear hb6
    go_wp2_with fail
    refine (rHas_any 9 c hc _).mono ?_
    rintro e w7 ⟨rfl, hb7⟩
    have HB7 := Lib.hid (HB6.out.trans (hb7.mono HB6.out.size))
    clear hb7
    generalize fld 9 c.toUInt8 = bb
    go_wp2_with fail
    go_ret
    first | exact ⟨rfl, HB7.out⟩ | exact ⟨ret_bool (by simp), HB7.out⟩
  · skip
    go_enter Tryd.func4, Tryd.ntmps4
    go_wp2_with fail
    refine (HS.out _ HR.out).mono ?_
    rintro e w0 ⟨rfl, hb0⟩
    have HB0 := Lib.hid hb0
    clear hb0
    go_wp2_with fail
    generalize hw1 : World.alloc _ _ = w1
    have HB1 := Lib.hid (show Below w.heap.size w w1 by rw [← hw1]; exact HB0.out.alloc HB0.out.size _)
    clear hw1
    refine (actName_any 12 _ (HR.out.below HB1.out)).mono ?_
    rw [show (rowAt 12).name = ⟨#[101, 110, 111, 117, 103, 104]⟩ from rfl]
    rintro e w2 ⟨rfl, hb2⟩
    have HB2 := Lib.hid (HB1.out.trans (hb2.mono HB1.out.size))
    clear hb2
    go_wp2_with fail
    refine (actOn_any 12 _ (HR.out.below HB2.out)).mono ?_
    rintro e w3 ⟨rfl, hb3⟩
    have HB3 := Lib.hid (HB2.out.trans (hb3.mono HB2.out.size))
    clear hb3
    go_wp2_with fail
    refine (rOn_any 12 _).mono ?_
    rintro e w4 ⟨rfl, hb4⟩
    have HB4 := Lib.hid (HB3.out.trans (hb4.mono HB3.out.size))
    clear hb4
    go_wp2_with fail
    refine (actReads_any 12 _ (HR.out.below HB4.out)).mono ?_
    rw [show (rowAt 12).reads = true from rfl]
    rintro e w5 ⟨rfl, hb5⟩
    have HB5 := Lib.hid (HB4.out.trans (hb5.mono HB4.out.size))
    clear hb5
    go_wp2_with fail
    refine (field_any 12 c _ (HR.out.below HB5.out)).mono ?_
    rintro e w6 ⟨rfl, hb6⟩
    have HB6 := Lib.hid (HB5.out.trans (hb6.mono HB5.out.size))
    clear hb6
    go_wp2_with fail
    refine (rHas_any 12 c hc _).mono ?_
    rintro e w7 ⟨rfl, hb7⟩
    have HB7 := Lib.hid (HB6.out.trans (hb7.mono HB6.out.size))
    clear hb7
    generalize fld 12 c.toUInt8 = bb
    go_wp2_with fail
    go_ret
    first | exact ⟨rfl, HB7.out⟩ | exact ⟨ret_bool (by simp), HB7.out⟩
  · skip
    go_enter Tryd.func4, Tryd.ntmps4
    go_wp2_with fail
    refine (HS.out _ HR.out).mono ?_
    rintro e w0 ⟨rfl, hb0⟩
    have HB0 := Lib.hid hb0
    clear hb0
    go_wp2_with fail
    generalize hw1 : World.alloc _ _ = w1
    have HB1 := Lib.hid (show Below w.heap.size w w1 by rw [← hw1]; exact HB0.out.alloc HB0.out.size _)
    clear hw1
    refine (actName_any 20 _ (HR.out.below HB1.out)).mono ?_
    rw [show (rowAt 20).name = ⟨#[104, 97, 115]⟩ from rfl]
    rintro e w2 ⟨rfl, hb2⟩
    have HB2 := Lib.hid (HB1.out.trans (hb2.mono HB1.out.size))
    clear hb2
    go_wp2_with fail
    refine (actOn_any 20 _ (HR.out.below HB2.out)).mono ?_
    rintro e w3 ⟨rfl, hb3⟩
    have HB3 := Lib.hid (HB2.out.trans (hb3.mono HB2.out.size))
    clear hb3
    go_wp2_with fail
    refine (rOn_any 20 _).mono ?_
    rintro e w4 ⟨rfl, hb4⟩
    have HB4 := Lib.hid (HB3.out.trans (hb4.mono HB3.out.size))
    clear hb4
    go_wp2_with fail
    refine (actReads_any 20 _ (HR.out.below HB4.out)).mono ?_
    rw [show (rowAt 20).reads = true from rfl]
    rintro e w5 ⟨rfl, hb5⟩
    have HB5 := Lib.hid (HB4.out.trans (hb5.mono HB4.out.size))
    clear hb5
    go_wp2_with fail
    refine (field_any 20 c _ (HR.out.below HB5.out)).mono ?_
    rintro e w6 ⟨rfl, hb6⟩
    have HB6 := Lib.hid (HB5.out.trans (hb6.mono HB5.out.size))
    clear hb6
    go_wp2_with fail
    refine (rHas_any 20 c hc _).mono ?_
    rintro e w7 ⟨rfl, hb7⟩
    have HB7 := Lib.hid (HB6.out.trans (hb7.mono HB6.out.size))
    clear hb7
    generalize fld 20 c.toUInt8 = bb
    go_wp2_with fail
    go_ret
    first | exact ⟨rfl, HB7.out⟩ | exact ⟨ret_bool (by simp), HB7.out⟩
  · have q3 : (k == 3) = false := by simp; omega
    have q4 : (k == 4) = false := by simp; omega
    have q9 : (k == 9) = false := by simp; omega
    have q12 : (k == 12) = false := by simp; omega
    have q20 : (k == 20) = false := by simp; omega
    have Hrd := Lib.hid (reads_no k k0 k1 kn)
    have Hv := Lib.hid (fun h => names_list k h k0 k1)
    clear kn
    go_enter Tryd.func4, Tryd.ntmps4
    go_wp2_with fail
    refine (HS.out _ HR.out).mono ?_
    rintro e w0 ⟨rfl, hb0⟩
    have HB0 := Lib.hid hb0
    clear hb0
    go_wp2_with fail
    rw [Hv.out (by omega)]
    generalize hw1 : World.alloc _ _ = w1
    have HB1 := Lib.hid (show Below w.heap.size w w1 by rw [← hw1]; exact HB0.out.alloc HB0.out.size _)
    clear hw1
    refine (actName_any k _ (HR.out.below HB1.out)).mono ?_
    rintro e w2 ⟨rfl, hb2⟩
    have HB2 := Lib.hid (HB1.out.trans (hb2.mono HB1.out.size))
    clear hb2
    go_wp2_with fail
    refine (actOn_any k _ (HR.out.below HB2.out)).mono ?_
    rintro e w3 ⟨rfl, hb3⟩
    have HB3 := Lib.hid (HB2.out.trans (hb3.mono HB2.out.size))
    clear hb3
    go_wp2_with fail
    refine (rOn_any k _).mono ?_
    rintro e w4 ⟨rfl, hb4⟩
    have HB4 := Lib.hid (HB3.out.trans (hb4.mono HB3.out.size))
    clear hb4
    go_wp2_with fail
    refine (actReads_any k _ (HR.out.below HB4.out)).mono ?_
    rw [Hrd.out]
    rintro e w5 ⟨rfl, hb5⟩
    have HB5 := Lib.hid (HB4.out.trans (hb5.mono HB4.out.size))
    clear hb5
    go_wp2_with fail
    refine (field_any k c _ (HR.out.below HB5.out)).mono ?_
    rintro e w6 ⟨rfl, hb6⟩
    have HB6 := Lib.hid (HB5.out.trans (hb6.mono HB5.out.size))
    clear hb6
    go_wp2_with fail
    refine (rHas_any k c hc _).mono ?_
    rintro e w7 ⟨rfl, hb7⟩
    have HB7 := Lib.hid (HB6.out.trans (hb7.mono HB6.out.size))
    clear hb7
    generalize fld k c.toUInt8 = bb
    go_wp2_with fail
    go_ret
    first | exact ⟨rfl, HB7.out⟩ | exact ⟨ret_bool (by simp), HB7.out⟩
  · skip
    have k1 : ¬ (0 : Int) ≤ k := by omega
    have q3 : (k == 3) = false := by simp; omega
    have q4 : (k == 4) = false := by simp; omega
    have q9 : (k == 9) = false := by simp; omega
    have q12 : (k == 12) = false := by simp; omega
    have q20 : (k == 20) = false := by simp; omega
    have Hz := Lib.hid (rowAt_out (k := k) (by omega))
    go_enter Tryd.func4, Tryd.ntmps4
    go_wp2_with fail
    refine (HS.out _ HR.out).mono ?_
    rintro e w0 ⟨rfl, hb0⟩
    have HB0 := Lib.hid hb0
    clear hb0
    go_wp2_with fail
    generalize hw1 : World.alloc _ _ = w1
    have HB1 := Lib.hid (show Below w.heap.size w w1 by rw [← hw1]; exact HB0.out.alloc HB0.out.size _)
    clear hw1
    refine (actName_any k _ (HR.out.below HB1.out)).mono ?_
    rw [show (rowAt k).name = ⟨#[]⟩ by rw [Hz.out]; rfl]
    rintro e w2 ⟨rfl, hb2⟩
    have HB2 := Lib.hid (HB1.out.trans (hb2.mono HB1.out.size))
    clear hb2
    go_wp2_with fail
    refine (actOn_any k _ (HR.out.below HB2.out)).mono ?_
    rintro e w3 ⟨rfl, hb3⟩
    have HB3 := Lib.hid (HB2.out.trans (hb3.mono HB2.out.size))
    clear hb3
    go_wp2_with fail
    refine (rOn_any k _).mono ?_
    rintro e w4 ⟨rfl, hb4⟩
    have HB4 := Lib.hid (HB3.out.trans (hb4.mono HB3.out.size))
    clear hb4
    go_wp2_with fail
    refine (actReads_any k _ (HR.out.below HB4.out)).mono ?_
    rw [show (rowAt k).reads = false by rw [Hz.out]; rfl]
    rintro e w5 ⟨rfl, hb5⟩
    have HB5 := Lib.hid (HB4.out.trans (hb5.mono HB4.out.size))
    clear hb5
    go_wp2_with fail
    refine (field_any k c _ (HR.out.below HB5.out)).mono ?_
    rintro e w6 ⟨rfl, hb6⟩
    have HB6 := Lib.hid (HB5.out.trans (hb6.mono HB5.out.size))
    clear hb6
    go_wp2_with fail
    refine (rHas_any k c hc _).mono ?_
    rintro e w7 ⟨rfl, hb7⟩
    have HB7 := Lib.hid (HB6.out.trans (hb7.mono HB6.out.size))
    clear hb7
    generalize fld k c.toUInt8 = bb
    go_wp2_with fail
    go_ret
    first | exact ⟨rfl, HB7.out⟩ | exact ⟨ret_bool (by simp), HB7.out⟩
  · skip
    have k1 : ¬ k < (22 : Int) := by omega
    have k2 : (0 : Int) ≤ k := by omega
    have q3 : (k == 3) = false := by simp; omega
    have q4 : (k == 4) = false := by simp; omega
    have q9 : (k == 9) = false := by simp; omega
    have q12 : (k == 12) = false := by simp; omega
    have q20 : (k == 20) = false := by simp; omega
    have Hz := Lib.hid (rowAt_out (k := k) (by omega))
    go_enter Tryd.func4, Tryd.ntmps4
    go_wp2_with fail
    refine (HS.out _ HR.out).mono ?_
    rintro e w0 ⟨rfl, hb0⟩
    have HB0 := Lib.hid hb0
    clear hb0
    go_wp2_with fail
    generalize hw1 : World.alloc _ _ = w1
    have HB1 := Lib.hid (show Below w.heap.size w w1 by rw [← hw1]; exact HB0.out.alloc HB0.out.size _)
    clear hw1
    refine (actName_any k _ (HR.out.below HB1.out)).mono ?_
    rw [show (rowAt k).name = ⟨#[]⟩ by rw [Hz.out]; rfl]
    rintro e w2 ⟨rfl, hb2⟩
    have HB2 := Lib.hid (HB1.out.trans (hb2.mono HB1.out.size))
    clear hb2
    go_wp2_with fail
    refine (actOn_any k _ (HR.out.below HB2.out)).mono ?_
    rintro e w3 ⟨rfl, hb3⟩
    have HB3 := Lib.hid (HB2.out.trans (hb3.mono HB2.out.size))
    clear hb3
    go_wp2_with fail
    refine (rOn_any k _).mono ?_
    rintro e w4 ⟨rfl, hb4⟩
    have HB4 := Lib.hid (HB3.out.trans (hb4.mono HB3.out.size))
    clear hb4
    go_wp2_with fail
    refine (actReads_any k _ (HR.out.below HB4.out)).mono ?_
    rw [show (rowAt k).reads = false by rw [Hz.out]; rfl]
    rintro e w5 ⟨rfl, hb5⟩
    have HB5 := Lib.hid (HB4.out.trans (hb5.mono HB4.out.size))
    clear hb5
    go_wp2_with fail
    refine (field_any k c _ (HR.out.below HB5.out)).mono ?_
    rintro e w6 ⟨rfl, hb6⟩
    have HB6 := Lib.hid (HB5.out.trans (hb6.mono HB5.out.size))
    clear hb6
    go_wp2_with fail
    refine (rHas_any k c hc _).mono ?_
    rintro e w7 ⟨rfl, hb7⟩
    have HB7 := Lib.hid (HB6.out.trans (hb7.mono HB6.out.size))
    clear hb7
    generalize fld k c.toUInt8 = bb
    go_wp2_with fail
    go_ret
    first | exact ⟨rfl, HB7.out⟩ | exact ⟨ret_bool (by simp), HB7.out⟩

theorem actKinds_any (k c : Int) (w : World) (_hk : (Lit.int .i64 k).wf = true) (hc : (Lit.int .u8 c).wf = true) (hR : RowsAt w) :
    Calls Tryd.prog 4 #[.int .i64 k, .int .u8 c] w fun e w' => e = .returned (.bool true) ∧ Below w.heap.size w w' := by
  have h : 0 ≤ c ∧ c < 256 := by
    simp only [Lit.wf, Bool.and_eq_true, decide_eq_true_eq] at hc
    have e1 : IntKind.u8.min = 0 := rfl
    have e2 : IntKind.u8.max = 255 := rfl
    rw [e1, e2] at hc
    omega
  obtain ⟨j, rfl⟩ : ∃ j : Nat, c = (j : Int) := ⟨c.toNat, by omega⟩
  exact actKindsN k j w (by omega) hR

end Go.Proofs.YtafjginegipakaaDoor
