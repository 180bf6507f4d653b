/- Contract of the writer's floating numbers. -/
import Derived.Test.YtmfjacehompmmaaWrite
import Derived.Deep.RegionLaw
namespace Go.Proofs.Ytmfjacehompmmaa
open Go.RowKit MM

theorem shr_byte (k i : Nat) (h : i < 8) : IntKind.u8.wrap ((k : Int) / 2 ^ (8 * (7 - (i : Int))).toNat) = ((k / 256 ^ (7 - i) % 256 : Nat) : Int) := by
  have e : (8 * (7 - (i : Int))).toNat = 8 * (7 - i) := by omega
  have e2 : (2 : Int) ^ (8 * (7 - i)) = ((256 ^ (7 - i) : Nat) : Int) := by
    rw [show (256 : Nat) = 2 ^ 8 from rfl, ← Nat.pow_mul]; simp
  rw [e, e2, IntKind.wrap_u8]
  omega

set_option maxHeartbeats 1000000 in
set_option maxRecDepth 100000 in
theorem wf_any (p : Nat) (A : Option Addr) (c : Nat) (xs : List UInt8) (x : Nat) (w : World) (hx : MF.W64 x) (hw : Wr 5 w p A c xs) (hl : Lim (xs.length + 8)) :
    Calls Try.prog 24 #[.pointer (some ⟨p, 0, none⟩), .float .f64 x] w (WPost 5 p A (xs ++ PK.placeB (MF.key x)) w) := by
  obtain ⟨i0, hi0, hz0, hz1, hz2⟩ := info_parts byte_info
  go_enter Try.func24, Try.ntmps24
  go_wp2_with (go_at_call 42; refine (key_any x _ hx).mono ?_; rintro e w' ⟨rfl, rfl⟩)
  generalize MF.key x = k
  go_loopw [5, 8] (fun _ t wr => ∃ (i : Nat) (A1 : Option Addr) (c1 : Nat), t = .int .i64 i ∧ i ≤ 8 ∧ Wr 5 wr p A1 c1 (xs ++ (PK.placeB k).take i) ∧ WS p A A1 w wr) (fun _ t _ => 8 - (intOf t).toNat)
  case atStart => exact ⟨0, A, c, rfl, by omega, by simpa using hw, WS.refl _ _ _⟩
  case round =>
    obtain ⟨i, A1, c1, rfl, hi, hw1, hs1⟩ := hrel
    by_cases hlt : i < 8
    · have hl1 : Lim ((xs ++ (PK.placeB k).take i).length + 1) := hl.le (by rw [List.length_append, List.length_take, PK.placeB_length]; omega)
      have hnx : xs ++ (PK.placeB k).take (i + 1) = (xs ++ (PK.placeB k).take i) ++ [(k / 256 ^ (7 - i) % 256).toUInt8] := by
        rw [List.take_succ_eq_append_getElem (by rw [PK.placeB_length]; exact hlt), ← List.append_assoc]; simp [PK.placeB]
      generalize xs ++ (PK.placeB k).take i = ys at *
      have Hn := Lib.hid hnx
      clear hnx
      have hc := hw1.cell
      have hf := hw1.free
      have ho := hw1.own
      have W1 : IntKind.i64.wrap (7 - (i : Int)) = 7 - (i : Int) := IntWalk.i64_in _ (by omega)
      have W2 : IntKind.i64.wrap (8 * (7 - (i : Int))) = 8 * (7 - (i : Int)) := IntWalk.i64_in _ (by omega)
      have h0 : (0 : Int) ≤ 8 * (7 - (i : Int)) := by omega
      have h7 : (i : Int) ≤ 7 := by omega
      have hpl := hw1.lt
      have hpn : ¬ p = wr.heap.size := by omega
      go_wp2
      go_region_law ((refine step_append_at rfl (.tmp 15) (.tmp 22) _ _ rfl 5 i0 _ 1 1 Try.underlying26 hi0 hz0 hz1 hz2 rfl A1 ys.length c1 (bc ys) (by simp [Act.eval]) (own_drew (ho.alloc _)) _ 1 _ (by simp [Act.eval]) (src_one_drew Try.underlying26 _ _ rfl) hl1.len hl1.fits ?_); intro A2 c2 w2 ho2 hg2 hat2; obtain ⟨hk2, hc2, hf2, hb2⟩ := hw1.midD hg2 hat2; clear hc hf)
      all_goals
        go_wp2
        go_roundw
        case rel =>
          obtain ⟨h1, h2⟩ := hw1.stored (ys := [(k / 256 ^ (7 - i) % 256).toUInt8]) hk2 ho2 (by simp) (by rw [shr_byte k i hlt, bc_of _ (Nat.mod_lt _ (by omega))]) hb2
          exact ⟨i + 1, A2, c2, by go_num, by omega, by rw [Hn.out]; exact h1, hs1.trans h2⟩
        case measure => simp [intOf]; omega
    · go_wp2
      go_end0
      exact ⟨rfl, A1, c1, by rw [List.take_of_length_le (by rw [PK.placeB_length]; omega)] at hw1; exact hw1, hs1⟩

end Go.Proofs.Ytmfjacehompmmaa
