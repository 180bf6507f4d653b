/- Contracts of package pack's writer. -/
import Derived.Test.YtmfjacehompmmaaFlo
import Derived.Test.YtmfjacehompmmaaMem
import Derived.Test.YtmfjacehompmmaaPlain02
namespace Go.Proofs.Ytmfjacehompmmaa
open Go.RowKit MM

theorem byte_info : (Try.prog.info? 5).map (fun i => (i.zero, i.size, i.bytes)) = some (some (.int .u8 0), 1, 1) := by kernel_rfl
theorem bc_of (k : Nat) (h : k < 256) : [Value.int .u8 (k : Int)] = bc [k.toUInt8] := by
  simp only [bc, List.map_cons, List.map_nil, PK.toUInt8_toNat h]
theorem or128 (m : Nat) : bits .or .u8 ((m : Int) % 256) 128 = ((m % 128 + 128 : Nat) : Int) := by
  have h : ((m : Int) % 256) = ((m % 256 : Nat) : Int) := by omega
  have e : ∀ x, x < 256 → x ||| 128 = x % 128 + 128 := by decide +kernel
  rw [h, show (128 : Int) = ((128 : Nat) : Int) from rfl, u8_or_nat _ _ (Nat.mod_lt _ (by omega)) (by omega), e _ (Nat.mod_lt _ (by omega))]
  congr 2
  omega

set_option maxHeartbeats 400000 in
set_option maxRecDepth 100000 in
theorem flag_any (p : Nat) (A : Option Addr) (c : Nat) (xs : List UInt8) (b : Bool) (w : World) (hw : Wr 5 w p A c xs) (hl : Lim (xs.length + 1)) :
    Calls Try.prog 26 #[.pointer (some ⟨p, 0, none⟩), .bool b] w (WPost 5 p A (xs ++ PK.flagB b) w) := by
  obtain ⟨i0, hi0, hz0, hz1, hz2⟩ := info_parts byte_info
  have hc := hw.cell
  have hf := hw.free
  have ho := hw.own
  cases b
  all_goals
    go_enter Try.func26, Try.ntmps26
    go_wp2_with (first
      | (at_builtin
         refine wpList_append_at rfl (.tmp 10) (.tmp 12) _ _ rfl 5 i0 _ 1 1 Try.underlying26 hi0 hz0 hz1 hz2 rfl A xs.length c (bc xs) rfl (ho.alloc _) _ 1 _ rfl (src_one Try.underlying26 _ _ rfl) hl.len hl.fits ?_
         intro A1 c1 w1 ho1 hg1 hat1
         obtain ⟨hk1, hc1, hf1, hb1⟩ := hw.mid hg1 hat1
         clear hc hf))
    go_end0
    first
      | (obtain ⟨h1, h2⟩ := hw.stored (ys := PK.flagB false) hk1 ho1 (by simp [PK.flagB]) rfl hb1
         exact ⟨rfl, A1, c1, h1, h2⟩)
      | (obtain ⟨h1, h2⟩ := hw.stored (ys := PK.flagB true) hk1 ho1 (by simp [PK.flagB]) rfl hb1
         exact ⟨rfl, A1, c1, h1, h2⟩)

set_option maxHeartbeats 400000 in
set_option maxRecDepth 100000 in
theorem wu_any (p : Nat) (A : Option Addr) (c : Nat) (xs : List UInt8) (n : Nat) (w : World) (hw : Wr 5 w p A c xs) (hl : Lim (xs.length + (PK.digits n).length)) :
    Calls Try.prog 22 #[.pointer (some ⟨p, 0, none⟩), .int .u64 n] w (WPost 5 p A (xs ++ PK.digits n) w) := by
  obtain ⟨i0, hi0, hz0, hz1, hz2⟩ := info_parts byte_info
  go_enter Try.func22, Try.ntmps22
  go_wp2_with fail
  go_loopw [1] (fun t wr => ∃ (m : Nat) (ys : List UInt8) (A1 : Option Addr) (c1 : Nat), t = .int .u64 m ∧ m ≤ n ∧ xs ++ PK.digits n = ys ++ PK.digits m ∧ Wr 5 wr p A1 c1 ys ∧ WS p A A1 w wr) (fun t _ => (intOf t).toNat)
  case atStart => exact ⟨n, xs, A, c, rfl, Nat.le_refl _, rfl, hw, WS.refl _ _ _⟩
  case round =>
    obtain ⟨m, ys, A1, c1, rfl, hm, hd, hw1, hs1⟩ := hrel
    have Hd := Lib.hid hd
    have hly : xs.length + (PK.digits n).length = ys.length + (PK.digits m).length := by have := congrArg List.length hd; simpa using this
    have hp := PK.digits_pos m
    have hl1 : Lim (ys.length + 1) := hl.le (by omega)
    clear hd hly hp
    have hc := hw1.cell
    have hf := hw1.free
    have ho := hw1.own
    by_cases hlt : m < 128
    · go_wp2_with (first
      | (at_builtin
         refine wpList_append_at rfl (.tmp 24) (.tmp 27) _ _ rfl 5 i0 _ 1 1 Try.underlying26 hi0 hz0 hz1 hz2 rfl A1 ys.length c1 (bc ys) rfl (ho.alloc _) _ 1 _ rfl (src_one Try.underlying26 _ _ rfl) hl1.len hl1.fits ?_
         intro A2 c2 w1 ho1 hg1 hat1
         obtain ⟨hk2, hc2, hf2, hb2⟩ := hw1.mid hg1 hat1
         clear hc hf))
      go_end0
      obtain ⟨h1, h2⟩ := hw1.stored (ys := [m.toUInt8]) hk2 ho1 (by simp) (by rw [bc_of m (by omega)]) hb2
      exact ⟨rfl, A2, c2, by rw [Hd.out, PK.digits_small hlt]; exact h1, hs1.trans h2⟩
    · go_wp2_with (first
      | (at_builtin
         refine wpList_append_at rfl (.tmp 10) (.tmp 14) _ _ rfl 5 i0 _ 1 1 Try.underlying26 hi0 hz0 hz1 hz2 rfl A1 ys.length c1 (bc ys) rfl (ho.alloc _) _ 1 _ rfl (src_one Try.underlying26 _ _ rfl) hl1.len hl1.fits ?_
         intro A2 c2 w1 ho1 hg1 hat1
         obtain ⟨hk2, hc2, hf2, hb2⟩ := hw1.mid hg1 hat1
         clear hc hf))
      go_roundw
      case rel =>
        obtain ⟨h1, h2⟩ := hw1.stored (ys := [(m % 128 + 128).toUInt8]) hk2 ho1 (by simp) (by rw [or128, bc_of _ (by omega)]) hb2
        exact ⟨m / 128, _, A2, c2, by go_num, by omega, by rw [Hd.out, PK.digits_big hlt]; simp, h1, hs1.trans h2⟩
      case measure => simp [intOf]; omega

theorem zig_bits (n : Int) (h1 : -9223372036854775808 ≤ n) (h2 : n ≤ 9223372036854775807) : bits BinOp.xor IntKind.u64 (IntKind.u64.wrap (IntKind.u64.wrap n * 2)) (IntKind.u64.wrap (n / 9223372036854775808)) = ((PK.zig n : Nat) : Int) := by
  rw [IntKind.wrap_u64, IntKind.wrap_u64, IntKind.wrap_u64]
  by_cases hn : n < 0
  · have e1 : (n % 18446744073709551616 * 2) % 18446744073709551616 = ((2 * n + 18446744073709551616).toNat : Int) := by omega
    have e2 : n / 9223372036854775808 % 18446744073709551616 = ((18446744073709551615 : Nat) : Int) := by omega
    rw [e1, e2, u64_xor_nat _ _ (by omega) (by omega), Nat.xor_comm]
    have := MF.all_xor (2 * n + 18446744073709551616).toNat (by omega)
    rw [show IntKind.u64.max = ((18446744073709551615 : Nat) : Int) by decide, u64_xor_nat _ _ (by omega) (by omega)] at this
    rw [this]
    unfold PK.zig
    rw [if_pos hn]
    omega
  · have e1 : (n % 18446744073709551616 * 2) % 18446744073709551616 = ((2 * n).toNat : Int) := by omega
    have e2 : n / 9223372036854775808 % 18446744073709551616 = ((0 : Nat) : Int) := by omega
    rw [e1, e2, u64_xor_nat _ _ (by omega) (by omega), Nat.xor_zero]
    unfold PK.zig
    rw [if_neg hn]
    omega

set_option maxHeartbeats 400000 in
set_option maxRecDepth 100000 in
theorem wi_any (p : Nat) (A : Option Addr) (c : Nat) (xs : List UInt8) (n : Int) (w : World) (hw : Wr 5 w p A c xs) (hn : (Lit.int .i64 n).wf = true) (hl : Lim (xs.length + (PK.digits (PK.zig n)).length)) :
    Calls Try.prog 23 #[.pointer (some ⟨p, 0, none⟩), .int .i64 n] w (WPost 5 p A (xs ++ PK.digits (PK.zig n)) w) := by
  have Hz := Lib.hid (show _ from (by
    have hx : -9223372036854775808 ≤ n ∧ n ≤ 9223372036854775807 := by simpa [Lit.wf, IntKind.min, IntKind.max, IntKind.signed, IntKind.bits] using hn
    exact zig_bits n hx.1 hx.2))
  go_enter Try.func23, Try.ntmps23
  go_wp2_with fail
  rw [Hz.out]
  refine (wu_any p A c xs (PK.zig n) _ hw hl).mono ?_
  rintro e w1 ⟨rfl, A1, c1, hw1, hs1⟩
  go_wp2
  go_end0
  exact ⟨rfl, A1, c1, hw1, hs1⟩

theorem wrap_size (n : Nat) (h : Lim n) : IntKind.u64.wrap (n : Int) = (n : Int) := by
  unfold Lim at h; rw [IntKind.wrap_u64]; omega
theorem size_list (s : ByteArray) : s.data.toList.length = s.size := by rw [Array.length_toList]; rfl
theorem bc_string (s : ByteArray) : byteCells s = bc s.data.toList := rfl

set_option maxHeartbeats 400000 in
set_option maxRecDepth 100000 in
theorem ws_any (p : Nat) (A : Option Addr) (c : Nat) (xs : List UInt8) (s : ByteArray) (w : World) (hw : Wr 5 w p A c xs) (hl : Lim (xs.length + (PK.textB s.data.toList).length)) :
    Calls Try.prog 25 #[.pointer (some ⟨p, 0, none⟩), .string s] w (WPost 5 p A (xs ++ PK.textB s.data.toList) w) := by
  obtain ⟨i0, hi0, hz0, hz1, hz2⟩ := info_parts byte_info
  have ht : PK.textB s.data.toList = PK.digits s.size ++ s.data.toList := by unfold PK.textB; rw [size_list]
  rw [ht] at hl ⊢
  have hl' : Lim (xs.length + ((PK.digits s.size).length + s.size)) := by rw [List.length_append, size_list] at hl; exact hl
  have Hs := Lib.hid (wrap_size s.size (hl'.le (by omega)))
  have hl1 : Lim (xs.length + (PK.digits s.size).length) := hl'.le (by omega)
  have hl2 : Lim ((xs ++ PK.digits s.size).length + s.size) := hl'.le (by rw [List.length_append]; omega)
  clear ht hl hl'
  generalize hy : xs ++ (PK.digits s.size ++ s.data.toList) = ys
  have Hy := Lib.hid hy
  clear hy
  go_enter Try.func25, Try.ntmps25
  go_wp2_with fail
  rw [Hs.out]
  refine (wu_any p A c xs s.size _ hw hl1).mono ?_
  rintro e w1 ⟨rfl, A1, c1, hw1, hs1⟩
  generalize hq : xs ++ PK.digits s.size = qs at *
  have Hq := Lib.hid hq
  clear hq
  have hc := hw1.cell
  have hf := hw1.free
  have ho := hw1.own
  go_wp2_with (first
      | (at_builtin
         refine wpList_append_at rfl (.tmp 13) (.tmp 14) _ _ rfl 5 i0 _ 1 1 Try.underlying26 hi0 hz0 hz1 hz2 rfl A1 qs.length c1 (bc qs) rfl ho _ s.size _ rfl (Src.ofString _ Try.underlying9 s) hl2.len hl2.fits ?_
         intro A2 c2 w2 ho2 hg2 hat2
         obtain ⟨hk2, hc2, hf2, hb2⟩ := hw1.mid0 hg2 hat2
         clear hc hf))
  go_end0
  obtain ⟨h1, h2⟩ := hw1.stored (ys := s.data.toList) hk2 ho2 (by rw [List.length_append, size_list]) (by rw [bc_string]) hb2
  exact ⟨rfl, A2, c2, by rw [← Hy.out, ← List.append_assoc, Hq.out]; exact h1, hs1.trans h2⟩

set_option maxHeartbeats 400000 in
set_option maxRecDepth 100000 in
theorem wlen_any (p : Nat) (A : Option Addr) (c : Nat) (xs : List UInt8) (w : World) (hw : Wr 5 w p A c xs) :
    Calls Try.prog 28 #[.pointer (some ⟨p, 0, none⟩)] w fun e w' => e = .returned (.int .i64 xs.length) ∧ w = w' := by
  have hc := hw.cell
  go_enter Try.func28, Try.ntmps28
  go_wp2
  go_ret
  exact ⟨rfl, rfl⟩

end Go.Proofs.Ytmfjacehompmmaa
