/- The walk of PackOne: what is read of bytes, written again, is these bytes. -/
import Derived.Test.YtmfjacehompmmaaForms
import Derived.Test.YtmfjacehompmmaaPackOrders
import Derived.Deep.RegionWith
namespace Go.Proofs.Ytmfjacehompmmaa
open Go.RowKit MM

theorem Bts.below {w w' : World} {A : Option Addr} {xs : List UInt8} (h : Bts w A xs) (hb : Below w.heap.size w w') : Bts w' A xs :=
  h.keep fun _ _ hl => hb.block _ hl
theorem below_drew {B : Nat} {a w : World} (h : Below B a w) : Below B a w.drew := ⟨h.os, h.tape, h.output, h.size, h.block⟩
theorem conv_bts {w : World} {A : Option Addr} {c : Nat} {xs : List UInt8} {sa : ByteArray} (h : Bts w A xs) (hs : sa = ⟨xs.toArray⟩) :
    (convert 26 9 (.slice A xs.length c)).run Try.prog w = .ok (.string sa) w := by
  subst hs
  exact run_text (P := Try.prog) w 26 9 5 A c xs Try.underlying26 Try.underlying5 Try.underlying9 h

set_option maxHeartbeats 1000000 in
set_option maxRecDepth 100000 in
theorem packOne_any (A : Option Addr) (c : Nat) (xs : List UInt8) (s : ByteArray) (w : World) (hb : Bts w A xs) (_hs : s.size ≤ maxLen) :
    Calls Try.prog 5 #[.slice A xs.length c, .string s] w fun e w' => e = .returned (.bool true) ∧ Below w.heap.size w w' := by
  have HB := Lib.hid hb
  clear hb
  by_cases hlen : 2000 < xs.length
  · have hd : decide ((2000 : Int) < (xs.length : Int)) = true := by simp; omega
    go_enter Try.func5, Try.ntmps5
    go_wp2_with (go_at_call 12; refine (speaks_any _).mono ?_; rintro e w1 ⟨rfl, hb1⟩)
    go_ret
    exact ⟨rfl, hb1⟩
  have hd : decide ((2000 : Int) < (xs.length : Int)) = false := by simp; omega
  by_cases hlen2 : 100 < s.size
  · have hd2 : decide ((100 : Int) < (s.size : Int)) = true := by simp; omega
    go_enter Try.func5, Try.ntmps5
    go_wp2_with (go_at_call 12; refine (speaks_any _).mono ?_; rintro e w1 ⟨rfl, hb1⟩)
    go_ret
    exact ⟨rfl, hb1⟩
  have hd2 : decide ((100 : Int) < (s.size : Int)) = false := by simp; omega
  have hlx : Lim xs.length := by unfold Lim; omega
  have hls : Lim s.size := by unfold Lim; omega
  have hm : (Lit.int .i64 2000).wf = true := by decide
  go_enter Try.func5, Try.ntmps5
  go_wp2_with (go_at_call 12; refine (speaks_any _).mono ?_; rintro e w1 ⟨rfl, hb1⟩)
  refine (read_any A c xs s 2000 _ (HB.out.below hb1) hlx hls hm).mono ?_
  cases hR : partsR 2000 s.data.toList xs with
  | bad code n =>
    rintro e w2 ⟨rfl, hb2⟩
    by_cases hc : code = 0
    · subst hc
      exact absurd hR (partsR_code _ _ _ _)
    have hc' : ¬ (code : Int) = 0 := by omega
    go_wp2
    go_ret
    exact ⟨rfl, hb1.trans ((hb2.alloc hb2.size _).mono hb1.size)⟩
  | ok ps n =>
    rintro e w2 ⟨A2, c2, rfl, ho2, hn2, hb2⟩
    obtain ⟨h1, h2, h3, h4⟩ := partsR_one _ _ _ _ _ hR
    have Hk := Lib.hid (show ps.length = s.size from h2)
    clear h2 hR
    have H3 := Lib.hid h3
    have Ho := Lib.hid ho2
    clear h3 ho2
    go_wp2_with fail
    obtain ⟨w2', hw2⟩ : ∃ w2', w2' = w2.alloc (.cells #[.int .i64 0, .int .i64 0] 30) := ⟨_, rfl⟩
    rw [← hw2]
    have hbb : Below w1.heap.size w1 w2' := by rw [hw2]; exact hb2.alloc hb2.size _
    have ho2 := own_below Ho.out (w' := w2') (by rw [hw2]; exact (Below.refl _ w2).alloc (Nat.le_refl _) _)
    have Hw := Lib.hid hw2
    clear hw2
    obtain ⟨sa, hsa⟩ : ∃ sa : ByteArray, sa = ⟨xs.toArray⟩ := ⟨_, rfl⟩
    have hbd : Below w1.heap.size w1 w2'.drew := below_drew hbb
    have hP := write_any A2 c2 ps w2'.drew (fun q hq => (H3.out q hq).1) (Pts.own (own_drew ho2)) (by rw [Hk.out]; exact hls) (by rw [h1]; exact hlx)
    rw [h1] at hP
    have hB2 := HB.out.below (hb1.trans (hbd.mono hb1.size))
    have hcv1 := conv_bts (c := c) hB2 hsa
    have HB2 := Lib.hid hB2
    have HP := Lib.hid hP
    have Hsa := Lib.hid hsa
    clear ho2 hsa hB2 hP
    go_region_with (go_at_call 14; refine (HP.out).mono ?_; rintro e w3 ⟨A3, c3, rfl, ho3, hn3, hb3⟩; have hcv := conv_own ho3 rfl Hsa.out; have hcv2 := conv_bts (c := c) (HB2.out.below (hb3)) Hsa.out; clear ho3)
    all_goals (go_wp2; go_ret)
    all_goals
      exact ⟨rfl, hb1.trans ((hbd.mono hb1.size).trans (hb3.mono (Nat.le_trans hb1.size hbd.size)))⟩

end Go.Proofs.Ytmfjacehompmmaa
