/- Contracts of package pack's writer. -/
import Derived.Test.YtaaeefndhmfceaaDoorFlo
import Derived.Test.YtaaeefndhmfceaaDoorMem
import Derived.Test.YtaaeefndhmfceaaDoorPlain02
import Derived.Deep.RegionLaw
import Derived.Lib.SliceRun
namespace Go.Proofs.YtaaeefndhmfceaaDoor
open Go.RowKit MM

theorem byte_info : (Tryd.prog.info? 5).map (fun i => (i.zero, i.size, i.bytes)) = some (some (.int .u8 0), 1, 1) := by kernel_rfl
theorem bc_of (k : Nat) (h : k < 256) : [Value.int .u8 (k : Int)] = bc [k.toUInt8] := by
  simp only [bc, List.map_cons, List.map_nil, PK.toUInt8_toNat h]
theorem or128 (m : Nat) : bits .or .u8 ((m : Int) % 256) 128 = ((m % 128 + 128 : Nat) : Int) := by
  have h : ((m : Int) % 256) = ((m % 256 : Nat) : Int) := by omega
  have e : ∀ x, x < 256 → x ||| 128 = x % 128 + 128 := by decide +kernel
  rw [h, show (128 : Int) = ((128 : Nat) : Int) from rfl, u8_or_nat _ _ (Nat.mod_lt _ (by omega)) (by omega), e _ (Nat.mod_lt _ (by omega))]
  congr 2
  omega

set_option maxHeartbeats 400000 in
set_option maxRecDepth 100000 in
theorem flag_any (p : Nat) (A : Option Addr) (c : Nat) (xs : List UInt8) (b : Bool) (w : World) (hw : Wr 5 w p A c xs) (hl : Lim (xs.length + 1)) :
    Calls Tryd.prog 108 #[.pointer (some ⟨p, 0, none⟩), .bool b] w (WPost 5 p A (xs ++ PK.flagB b) w) := by
  obtain ⟨i0, hi0, hz0, hz1, hz2⟩ := info_parts byte_info
  have hc := hw.cell
  have hf := hw.free
  have ho := hw.own
  cases b
  all_goals
    go_enter Tryd.func108, Tryd.ntmps108
    go_wp2_with (first
      | (at_builtin
         refine wpList_append_at rfl (.tmp 10) (.tmp 12) _ _ rfl 5 i0 _ 1 1 Tryd.underlying55 hi0 hz0 hz1 hz2 rfl A xs.length c (bc xs) rfl (ho.alloc _) _ 1 _ rfl (src_one Tryd.underlying55 _ _ rfl) hl.len hl.fits ?_
         intro A1 c1 w1 ho1 hg1 hat1
         obtain ⟨hk1, hc1, hf1, hb1⟩ := hw.mid hg1 hat1
         clear hc hf))
    go_end0
    first
      | (obtain ⟨h1, h2⟩ := hw.stored (ys := PK.flagB false) hk1 ho1 (by simp [PK.flagB]) rfl hb1
         exact ⟨rfl, A1, c1, h1, h2⟩)
      | (obtain ⟨h1, h2⟩ := hw.stored (ys := PK.flagB true) hk1 ho1 (by simp [PK.flagB]) rfl hb1
         exact ⟨rfl, A1, c1, h1, h2⟩)

set_option maxHeartbeats 400000 in
set_option maxRecDepth 100000 in
theorem wu_any (p : Nat) (A : Option Addr) (c : Nat) (xs : List UInt8) (n : Nat) (w : World) (hw : Wr 5 w p A c xs) (hl : Lim (xs.length + (PK.digits n).length)) :
    Calls Tryd.prog 107 #[.pointer (some ⟨p, 0, none⟩), .int .u64 n] w (WPost 5 p A (xs ++ PK.digits n) w) := by
  obtain ⟨i0, hi0, hz0, hz1, hz2⟩ := info_parts byte_info
  go_enter Tryd.func107, Tryd.ntmps107
  go_wp2_with fail
  go_loopw [1] (fun t wr => ∃ (m : Nat) (ys : List UInt8) (A1 : Option Addr) (c1 : Nat), t = .int .u64 m ∧ m ≤ n ∧ xs ++ PK.digits n = ys ++ PK.digits m ∧ Wr 5 wr p A1 c1 ys ∧ WS p A A1 w wr) (fun t _ => (intOf t).toNat)
  case atStart => exact ⟨n, xs, A, c, rfl, Nat.le_refl _, rfl, hw, WS.refl _ _ _⟩
  case round =>
    obtain ⟨m, ys, A1, c1, rfl, hm, hd, hw1, hs1⟩ := hrel
    have Hd := Lib.hid hd
    have hly : xs.length + (PK.digits n).length = ys.length + (PK.digits m).length := by have := congrArg List.length hd; simpa using this
    have hp := PK.digits_pos m
    have hl1 : Lim (ys.length + 1) := hl.le (by omega)
    clear hd hly hp
    have hc := hw1.cell
    have hf := hw1.free
    have ho := hw1.own
    by_cases hlt : m < 128
    · go_wp2_with (first
      | (at_builtin
         refine wpList_append_at rfl (.tmp 24) (.tmp 27) _ _ rfl 5 i0 _ 1 1 Tryd.underlying55 hi0 hz0 hz1 hz2 rfl A1 ys.length c1 (bc ys) rfl (ho.alloc _) _ 1 _ rfl (src_one Tryd.underlying55 _ _ rfl) hl1.len hl1.fits ?_
         intro A2 c2 w1 ho1 hg1 hat1
         obtain ⟨hk2, hc2, hf2, hb2⟩ := hw1.mid hg1 hat1
         clear hc hf))
      go_end0
      obtain ⟨h1, h2⟩ := hw1.stored (ys := [m.toUInt8]) hk2 ho1 (by simp) (by rw [bc_of m (by omega)]) hb2
      exact ⟨rfl, A2, c2, by rw [Hd.out, PK.digits_small hlt]; exact h1, hs1.trans h2⟩
    · go_wp2_with (first
      | (at_builtin
         refine wpList_append_at rfl (.tmp 10) (.tmp 14) _ _ rfl 5 i0 _ 1 1 Tryd.underlying55 hi0 hz0 hz1 hz2 rfl A1 ys.length c1 (bc ys) rfl (ho.alloc _) _ 1 _ rfl (src_one Tryd.underlying55 _ _ rfl) hl1.len hl1.fits ?_
         intro A2 c2 w1 ho1 hg1 hat1
         obtain ⟨hk2, hc2, hf2, hb2⟩ := hw1.mid hg1 hat1
         clear hc hf))
      go_roundw
      case rel =>
        obtain ⟨h1, h2⟩ := hw1.stored (ys := [(m % 128 + 128).toUInt8]) hk2 ho1 (by simp) (by rw [or128, bc_of _ (by omega)]) hb2
        exact ⟨m / 128, _, A2, c2, by go_num, by omega, by rw [Hd.out, PK.digits_big hlt]; simp, h1, hs1.trans h2⟩
      case measure => simp [intOf]; omega

theorem zig_bits (n : Int) (h1 : -9223372036854775808 ≤ n) (h2 : n ≤ 9223372036854775807) : bits BinOp.xor IntKind.u64 (IntKind.u64.wrap (IntKind.u64.wrap n * 2)) (IntKind.u64.wrap (n / 9223372036854775808)) = ((PK.zig n : Nat) : Int) := by
  rw [IntKind.wrap_u64, IntKind.wrap_u64, IntKind.wrap_u64]
  by_cases hn : n < 0
  · have e1 : (n % 18446744073709551616 * 2) % 18446744073709551616 = ((2 * n + 18446744073709551616).toNat : Int) := by omega
    have e2 : n / 9223372036854775808 % 18446744073709551616 = ((18446744073709551615 : Nat) : Int) := by omega
    rw [e1, e2, u64_xor_nat _ _ (by omega) (by omega), Nat.xor_comm]
    have := MF.all_xor (2 * n + 18446744073709551616).toNat (by omega)
    rw [show IntKind.u64.max = ((18446744073709551615 : Nat) : Int) by decide, u64_xor_nat _ _ (by omega) (by omega)] at this
    rw [this]
    unfold PK.zig
    rw [if_pos hn]
    omega
  · have e1 : (n % 18446744073709551616 * 2) % 18446744073709551616 = ((2 * n).toNat : Int) := by omega
    have e2 : n / 9223372036854775808 % 18446744073709551616 = ((0 : Nat) : Int) := by omega
    rw [e1, e2, u64_xor_nat _ _ (by omega) (by omega), Nat.xor_zero]
    unfold PK.zig
    rw [if_neg hn]
    omega

set_option maxHeartbeats 400000 in
set_option maxRecDepth 100000 in
theorem wi_any (p : Nat) (A : Option Addr) (c : Nat) (xs : List UInt8) (n : Int) (w : World) (hw : Wr 5 w p A c xs) (hn : (Lit.int .i64 n).wf = true) (hl : Lim (xs.length + (PK.digits (PK.zig n)).length)) :
    Calls Tryd.prog 111 #[.pointer (some ⟨p, 0, none⟩), .int .i64 n] w (WPost 5 p A (xs ++ PK.digits (PK.zig n)) w) := by
  have Hz := Lib.hid (show _ from (by
    have hx : -9223372036854775808 ≤ n ∧ n ≤ 9223372036854775807 := by simpa [Lit.wf, IntKind.min, IntKind.max, IntKind.signed, IntKind.bits] using hn
    exact zig_bits n hx.1 hx.2))
  go_enter Tryd.func111, Tryd.ntmps111
  go_wp2_with fail
  rw [Hz.out]
  refine (wu_any p A c xs (PK.zig n) _ hw hl).mono ?_
  rintro e w1 ⟨rfl, A1, c1, hw1, hs1⟩
  go_wp2
  go_end0
  exact ⟨rfl, A1, c1, hw1, hs1⟩

theorem wrap_size (n : Nat) (h : Lim n) : IntKind.u64.wrap (n : Int) = (n : Int) := by
  unfold Lim at h; rw [IntKind.wrap_u64]; omega
theorem size_list (s : ByteArray) : s.data.toList.length = s.size := by rw [Array.length_toList]; rfl
theorem bc_string (s : ByteArray) : byteCells s = bc s.data.toList := rfl

set_option maxHeartbeats 400000 in
set_option maxRecDepth 100000 in
theorem ws_any (p : Nat) (A : Option Addr) (c : Nat) (xs : List UInt8) (s : ByteArray) (w : World) (hw : Wr 5 w p A c xs) (hl : Lim (xs.length + (PK.textB s.data.toList).length)) :
    Calls Tryd.prog 109 #[.pointer (some ⟨p, 0, none⟩), .string s] w (WPost 5 p A (xs ++ PK.textB s.data.toList) w) := by
  obtain ⟨i0, hi0, hz0, hz1, hz2⟩ := info_parts byte_info
  have ht : PK.textB s.data.toList = PK.digits s.size ++ s.data.toList := by unfold PK.textB; rw [size_list]
  rw [ht] at hl ⊢
  have hl' : Lim (xs.length + ((PK.digits s.size).length + s.size)) := by rw [List.length_append, size_list] at hl; exact hl
  have Hs := Lib.hid (wrap_size s.size (hl'.le (by omega)))
  have hl1 : Lim (xs.length + (PK.digits s.size).length) := hl'.le (by omega)
  have hl2 : Lim ((xs ++ PK.digits s.size).length + s.size) := hl'.le (by rw [List.length_append]; omega)
  clear ht hl hl'
  generalize hy : xs ++ (PK.digits s.size ++ s.data.toList) = ys
  have Hy := Lib.hid hy
  clear hy
  go_enter Tryd.func109, Tryd.ntmps109
  go_wp2_with fail
  rw [Hs.out]
  refine (wu_any p A c xs s.size _ hw hl1).mono ?_
  rintro e w1 ⟨rfl, A1, c1, hw1, hs1⟩
  generalize hq : xs ++ PK.digits s.size = qs at *
  have Hq := Lib.hid hq
  clear hq
  have hc := hw1.cell
  have hf := hw1.free
  have ho := hw1.own
  go_wp2_with (first
      | (at_builtin
         refine wpList_append_at rfl (.tmp 13) (.tmp 14) _ _ rfl 5 i0 _ 1 1 Tryd.underlying55 hi0 hz0 hz1 hz2 rfl A1 qs.length c1 (bc qs) rfl ho _ s.size _ rfl (Src.ofString _ Tryd.underlying9 s) hl2.len hl2.fits ?_
         intro A2 c2 w2 ho2 hg2 hat2
         obtain ⟨hk2, hc2, hf2, hb2⟩ := hw1.mid0 hg2 hat2
         clear hc hf))
  go_end0
  obtain ⟨h1, h2⟩ := hw1.stored (ys := s.data.toList) hk2 ho2 (by rw [List.length_append, size_list]) (by rw [bc_string]) hb2
  exact ⟨rfl, A2, c2, by rw [← Hy.out, ← List.append_assoc, Hq.out]; exact h1, hs1.trans h2⟩

end Go.Proofs.YtaaeefndhmfceaaDoor
/- Contract of the writer's floating numbers. -/
namespace Go.Proofs.YtaaeefndhmfceaaDoor
open Go.RowKit MM

theorem shr_byte (k i : Nat) (h : i < 8) : IntKind.u8.wrap ((k : Int) / 2 ^ (8 * (7 - (i : Int))).toNat) = ((k / 256 ^ (7 - i) % 256 : Nat) : Int) := by
  have e : (8 * (7 - (i : Int))).toNat = 8 * (7 - i) := by omega
  have e2 : (2 : Int) ^ (8 * (7 - i)) = ((256 ^ (7 - i) : Nat) : Int) := by
    rw [show (256 : Nat) = 2 ^ 8 from rfl, ← Nat.pow_mul]; simp
  rw [e, e2, IntKind.wrap_u8]
  omega

set_option maxHeartbeats 1000000 in
set_option maxRecDepth 100000 in
theorem wf_any (p : Nat) (A : Option Addr) (c : Nat) (xs : List UInt8) (x : Nat) (w : World) (hx : MF.W64 x) (hw : Wr 5 w p A c xs) (hl : Lim (xs.length + 8)) :
    Calls Tryd.prog 112 #[.pointer (some ⟨p, 0, none⟩), .float .f64 x] w (WPost 5 p A (xs ++ PK.placeB (MF.key x)) w) := by
  obtain ⟨i0, hi0, hz0, hz1, hz2⟩ := info_parts byte_info
  go_enter Tryd.func112, Tryd.ntmps112
  go_wp2_with (go_at_call 98; refine (key_any x _ hx).mono ?_; rintro e w' ⟨rfl, rfl⟩)
  generalize MF.key x = k
  go_loopw [5, 8] (fun _ t wr => ∃ (i : Nat) (A1 : Option Addr) (c1 : Nat), t = .int .i64 i ∧ i ≤ 8 ∧ Wr 5 wr p A1 c1 (xs ++ (PK.placeB k).take i) ∧ WS p A A1 w wr) (fun _ t _ => 8 - (intOf t).toNat)
  case atStart => exact ⟨0, A, c, rfl, by omega, by simpa using hw, WS.refl _ _ _⟩
  case round =>
    obtain ⟨i, A1, c1, rfl, hi, hw1, hs1⟩ := hrel
    by_cases hlt : i < 8
    · have hl1 : Lim ((xs ++ (PK.placeB k).take i).length + 1) := hl.le (by rw [List.length_append, List.length_take, PK.placeB_length]; omega)
      have hnx : xs ++ (PK.placeB k).take (i + 1) = (xs ++ (PK.placeB k).take i) ++ [(k / 256 ^ (7 - i) % 256).toUInt8] := by
        rw [List.take_succ_eq_append_getElem (by rw [PK.placeB_length]; exact hlt), ← List.append_assoc]; simp [PK.placeB]
      generalize xs ++ (PK.placeB k).take i = ys at *
      have Hn := Lib.hid hnx
      clear hnx
      have hc := hw1.cell
      have hf := hw1.free
      have ho := hw1.own
      have W1 : IntKind.i64.wrap (7 - (i : Int)) = 7 - (i : Int) := IntWalk.i64_in _ (by omega)
      have W2 : IntKind.i64.wrap (8 * (7 - (i : Int))) = 8 * (7 - (i : Int)) := IntWalk.i64_in _ (by omega)
      have h0 : (0 : Int) ≤ 8 * (7 - (i : Int)) := by omega
      have h7 : (i : Int) ≤ 7 := by omega
      have hpl := hw1.lt
      have hpn : ¬ p = wr.heap.size := by omega
      go_wp2
      go_region_law ((refine step_append_at rfl (.tmp 15) (.tmp 22) _ _ rfl 5 i0 _ 1 1 Tryd.underlying55 hi0 hz0 hz1 hz2 rfl A1 ys.length c1 (bc ys) (by simp [Act.eval]) (own_drew (ho.alloc _)) _ 1 _ (by simp [Act.eval]) (src_one_drew Tryd.underlying55 _ _ rfl) hl1.len hl1.fits ?_); intro A2 c2 w2 ho2 hg2 hat2; obtain ⟨hk2, hc2, hf2, hb2⟩ := hw1.midD hg2 hat2; clear hc hf)
      all_goals
        go_wp2
        go_roundw
        case rel =>
          obtain ⟨h1, h2⟩ := hw1.stored (ys := [(k / 256 ^ (7 - i) % 256).toUInt8]) hk2 ho2 (by simp) (by rw [shr_byte k i hlt, bc_of _ (Nat.mod_lt _ (by omega))]) hb2
          exact ⟨i + 1, A2, c2, by go_num, by omega, by rw [Hn.out]; exact h1, hs1.trans h2⟩
        case measure => simp [intOf]; omega
    · go_wp2
      go_end0
      exact ⟨rfl, A1, c1, by rw [List.take_of_length_le (by rw [PK.placeB_length]; omega)] at hw1; exact hw1, hs1⟩

end Go.Proofs.YtaaeefndhmfceaaDoor
/- Contracts: a slice of bytes cloned; what a writer hands out. -/
namespace Go.Proofs.YtaaeefndhmfceaaDoor
open Go.RowKit MM

set_option maxHeartbeats 1000000 in
set_option maxRecDepth 100000 in
theorem clone_any (A : Option Addr) (c : Nat) (xs : List UInt8) (w : World) (hb : Bts w A xs) (hl : Lim xs.length) :
    Calls Tryd.prog 113 #[.slice A xs.length c] w (Fresh 5 xs w) := by
  obtain ⟨i0, hi0, hz0, hz1, hz2⟩ := info_parts byte_info
  have hnil := fun n w => Lib.run_eql_slice_nil (P := Tryd.prog) w 55 5 A n c 0 0 Tryd.underlying55
  cases A with
  | none =>
    have hx : xs = [] := hb
    subst hx
    go_enter Tryd.func113, Tryd.ntmps113
    go_wp2
    go_ret
    exact ⟨none, 0, rfl, World.ownsRow_nil _ _ _ _, (fun k h => by cases h), Below.refl _ _⟩
  | some ad =>
    go_enter Tryd.func113, Tryd.ntmps113
    go_wp2_with (first
      | (at_builtin
         refine wpList_append_at rfl (.tmp 5) (.tmp 6) _ _ rfl 5 i0 _ 1 1 Tryd.underlying55 hi0 hz0 hz1 hz2 rfl (some ⟨w.heap.size, 0, none⟩) 0 0 [] rfl (World.ownsRow_lit w #[] 0 (Nat.zero_le _) (by unfold maxLen; omega) rfl) _ xs.length _ rfl ((hb.alloc _).src Tryd.underlying55 (fun e => by cases e)) (Lim.len (by simpa using hl)) (Lim.fits (by simpa using hl)) ?_
         intro A2 c2 w2 ho2 hg2 hat2))
    go_ret
    rw [Nat.zero_add, List.nil_append] at ho2
    have hbw : Below w.heap.size w w2 := ((Below.refl w.heap.size w).alloc (Nat.le_refl _) _).grown hg2 (by simp) (fun k e => by injection e with e; simp at e; omega)
    refine ⟨A2, c2, rfl, ho2, fun k e => ?_, hbw⟩
    rcases hat2 with h | h
    · rw [h] at e; injection e with e; simp at e; omega
    · rw [h] at e; injection e with e; simp at e; omega

set_option maxHeartbeats 1000000 in
set_option maxRecDepth 100000 in
theorem bytes_any (p : Nat) (A : Option Addr) (c : Nat) (xs : List UInt8) (w : World) (hw : Wr 5 w p A c xs) (hl : Lim xs.length) :
    Calls Tryd.prog 63 #[.pointer (some ⟨p, 0, none⟩)] w (Fresh 5 xs w) := by
  have hc := hw.cell
  have hb := Bts.own hw.own
  have HB := Lib.hid hb
  clear hb
  go_enter Tryd.func63, Tryd.ntmps63
  go_wp2_with fail
  refine (clone_any A c xs _ HB.out hl).mono ?_
  rintro e w1 ⟨A1, c1, rfl, ho1, hk1, hb1⟩
  go_wp2
  go_ret
  exact ⟨A1, c1, rfl, ho1, hk1, hb1⟩

end Go.Proofs.YtaaeefndhmfceaaDoor
/- Parts as bytes: the document's, in plain words; the writer's part. -/
namespace PK
open Go

/-- A part: its kind, and what it may have. -/
structure Pt where
  k : Nat
  u : Nat
  i : Int
  f : Nat
  s : ByteArray
  b : Bool

/-- Each of its numbers is one of its kind. -/
structure Pt.ok (p : Pt) : Prop where
  k : p.k < 256
  u : MF.W64 p.u
  i : (Lit.int .i64 p.i).wf = true
  f : MF.W64 p.f

def Pt.cells (p : Pt) : Array Value := #[.int .u8 p.k, .int .u64 p.u, .int .i64 p.i, .float .f64 p.f, .string p.s, .bool p.b]

/-- A part as bytes. -/
def partB (p : Pt) : List UInt8 :=
  if p.k = 117 then digits p.u else if p.k = 105 then digits (zig p.i) else if p.k = 102 then placeB (MF.key p.f) else if p.k = 115 then textB p.s.data.toList else if p.k = 98 then flagB p.b else []
def partsB : List Pt → List UInt8
  | [] => []
  | p :: l => partB p ++ partsB l
theorem partsB_append (a b : List Pt) : partsB (a ++ b) = partsB a ++ partsB b := by
  induction a with
  | nil => rfl
  | cons p l ih => simp [partsB, ih]
theorem partsB_take (l : List Pt) (i : Nat) (h : i < l.length) : partsB (l.take (i + 1)) = partsB (l.take i) ++ partB l[i] := by
  rw [List.take_succ_eq_append_getElem h, partsB_append]; simp [partsB]
theorem partsB_le (l : List Pt) (i : Nat) : (partsB (l.take i)).length ≤ (partsB l).length := by
  have := congrArg List.length (partsB_append (l.take i) (l.drop i))
  rw [List.take_append_drop, List.length_append] at this
  omega
end PK
namespace Go.Proofs.YtaaeefndhmfceaaDoor
open Go.RowKit MM

/-- A slice of parts that reads as a list. -/
def Pts (w : World) (A : Option Addr) (ps : List PK.Pt) : Prop :=
  ps = [] ∨ ∃ b off, A = some ⟨b, off, none⟩ ∧ b < w.heap.size ∧ ∀ i q, ps[i]? = some q → ∀ j v, q.cells[j]? = some v → w.cell? ⟨b, off + i * 6 + j, none⟩ = some v

end Go.Proofs.YtaaeefndhmfceaaDoor
