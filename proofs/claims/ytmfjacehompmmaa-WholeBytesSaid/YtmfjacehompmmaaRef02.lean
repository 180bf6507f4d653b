/- Contracts of the document's own answers for layer 2: numbers that are read. -/
import Derived.Test.YtmfjacehompmmaaOpen2
namespace Go.Proofs.Ytmfjacehompmmaa
open Go.RowKit MM

theorem ref_bits (i n b : Nat) (hn : n < 128 ^ i) (hi : i ≤ 9) (hb : b < 256) (h9 : i = 9 → b ≤ 1) :
    IntKind.u64.wrap ((n : Int) + IntKind.u64.wrap (((b % 128 : Nat) : Int) * ((128 ^ i : Nat) : Int))) = ((n + b % 128 * 128 ^ i : Nat) : Int) := by
  have hx : b % 128 * 128 ^ i ≤ 9223372036854775808 := by
    by_cases h : i = 9
    · have := h9 h
      subst h
      have : b % 128 ≤ 1 := by omega
      have h2 : (128 : Nat) ^ 9 = 9223372036854775808 := by decide
      rw [h2]
      omega
    · have h1 : b % 128 ≤ 127 := by omega
      have h2 : (128 : Nat) ^ i ≤ 128 ^ 8 := Nat.pow_le_pow_right (by omega) (by omega)
      have h4 : b % 128 * 128 ^ i ≤ 127 * 128 ^ 8 := Nat.mul_le_mul h1 h2
      have h5 : (128 : Nat) ^ 8 = 72057594037927936 := by decide
      rw [h5] at h4
      omega
  have hn' : n < 9223372036854775808 := by
    have h2 : (128 : Nat) ^ i ≤ 128 ^ 9 := Nat.pow_le_pow_right (by omega) hi
    have h3 : (128 : Nat) ^ 9 = 9223372036854775808 := by decide
    omega
  rw [← Int.natCast_mul]
  generalize b % 128 * 128 ^ i = y at *
  rw [IntKind.wrap_u64, IntKind.wrap_u64]
  omega

/-- What num answers. -/
def RNum (xs : List UInt8) (w : World) (e : Ending) (w' : World) : Prop :=
  e = .returned (.tuple #[.int .u64 ((PK.numL 0 0 xs).1 : Nat), .int .i64 ((PK.numL 0 0 xs).2.1 : Nat), .int .i64 ((PK.numL 0 0 xs).2.2 : Nat)]) ∧ w = w'
theorem RNum.mk {xs : List UInt8} {w : World} {a b c : Nat} {x y z : Int} (h : PK.numL 0 0 xs = (a, b, c)) (hx : x = (a : Int)) (hy : y = (b : Int)) (hz : z = (c : Int)) :
    RNum xs w (.returned (.tuple #[.int .u64 x, .int .i64 y, .int .i64 z])) w := by
  subst hx hy hz
  exact ⟨by rw [h], rfl⟩

set_option maxHeartbeats 1000000 in
set_option maxRecDepth 100000 in
theorem rnum_any (A : Option Addr) (c : Nat) (xs : List UInt8) (w : World) (hb : Bts w A xs) (hl : Lim xs.length) :
    Calls Try.prog 66 #[.slice A xs.length c] w fun e w' => RNum xs w e w' := by
  have hl' : (xs.length : Int) ≤ 4294967296 := by unfold Lim at hl; omega
  have HB := Lib.hid hb
  clear hb
  go_enter Try.func66, Try.ntmps66
  go_wp2_with fail
  go_loop [5, 6, 7] (fun tn tw ti => ∃ i n : Nat, tn = .int .u64 n ∧ tw = .int .u64 ((128 ^ i : Nat) : Int) ∧ ti = .int .i64 i ∧ i ≤ 9 ∧ i ≤ xs.length ∧ n < 128 ^ i ∧ PK.numL 0 0 xs = PK.numL i n (xs.drop i)) (fun _ _ ti => xs.length - (intOf ti).toNat)
  case atStart => exact ⟨0, 0, rfl, rfl, rfl, by omega, by omega, by simp, rfl⟩
  case round =>
    obtain ⟨i, n, rfl, rfl, rfl, hi, hil, hn, hr⟩ := hrel
    by_cases hlt : i < xs.length
    · have hx : xs ≠ [] := fun e => by subst e; simp at hlt
      rw [List.drop_eq_getElem_cons hlt] at hr
      have hr : PK.numL 0 0 xs = if i = 9 ∧ 1 < (xs[i]).toNat then (0, i + 1, 1) else if (xs[i]).toNat < 128 then if (xs[i]).toNat = 0 ∧ 0 < i then (0, i + 1, 4) else (n + (xs[i]).toNat * 128 ^ i, i + 1, 0) else PK.numL (i + 1) (n + (xs[i]).toNat % 128 * 128 ^ i) (xs.drop (i + 1)) := hr
      obtain ⟨b, off, rfl, hcell⟩ : ∃ b off, A = some ⟨b, off, none⟩ ∧ w.cell? ⟨b, off + i, none⟩ = some (.int .u8 (xs[i]).toNat) := by
        have hB := HB.out
        cases A with
        | none => exact absurd hB hx
        | some ad =>
          have h1 := hB i _ (bc_get xs i hlt)
          obtain ⟨b, off, spot⟩ := ad
          have h0 := hB 0 _ (bc_get xs 0 (by omega))
          have hspot : spot = none := by simpa [Addr.add] using World.cell?_spot h0
          subst hspot
          rw [MM.add_plain] at h1
          exact ⟨b, off, rfl, h1⟩
      have hcv := (xs[i]).toNat_lt
      generalize (xs[i]).toNat = bv at *
      have Hn := Lib.hid hn
      have hx1 : (i : Int) < (xs.length : Int) := by omega
      by_cases c9 : i = 9 ∧ 1 < bv
      · rw [if_pos c9] at hr
        obtain ⟨rfl, h1⟩ := c9
        have h1' : decide ((1 : Int) < (bv : Int)) = true := by simp; omega
        have Hr := Lib.hid hr
        clear hr hn
        go_wp2
        go_ret3
        exact RNum.mk Hr.out rfl rfl rfl
      · rw [if_neg c9] at hr
        have hbits := ref_bits i n bv hn hi (by omega) (by omega)
        by_cases hc : bv < 128
        · rw [if_pos hc] at hr
          by_cases hz : bv = 0 ∧ 0 < i
          · rw [if_pos hz] at hr
            have Hr := Lib.hid hr
            have Hb := Lib.hid hbits
            clear hr hn hbits
            obtain ⟨rfl, hi0⟩ := hz
            have h9 : i = 9 → False ∨ True := fun _ => .inr trivial
            by_cases i9 : i = 9
            · subst i9
              go_wp2
              go_ret3
              exact RNum.mk Hr.out rfl rfl rfl
            · go_wp2
              go_ret3
              exact RNum.mk Hr.out rfl (by omega) rfl
          · rw [if_neg hz] at hr
            rw [show bv % 128 = bv by omega] at hbits
            have hm : ((bv : Int) % 128) = bv := by omega
            have Hr := Lib.hid hr
            have Hb := Lib.hid hbits
            clear hr hn hbits
            by_cases i9 : i = 9
            · subst i9
              obtain rfl : bv = 1 := by omega
              go_wp2
              go_ret3
              exact RNum.mk Hr.out Hb.out rfl rfl
            · by_cases hb0 : bv = 0
              · subst hb0
                obtain rfl : i = 0 := by omega
                rw [Nat.add_zero] at hcell
                obtain rfl : n = 0 := by have := Hn.out; simpa using this
                go_wp2
                go_ret3
                exact RNum.mk Hr.out (by first | exact Hb.out | rfl | decide) (by first | rfl | omega) rfl
              · go_wp2
                go_ret3
                exact RNum.mk Hr.out Hb.out (by omega) rfl
        · rw [if_neg hc] at hr
          have i9 : ¬ i = 9 := by omega
          have Hlt := Lib.hid (step_lt i n bv hn)
          have Hr := Lib.hid hr
          have Hb := Lib.hid hbits
          have Hw := Lib.hid (show IntKind.u64.wrap (((128 ^ i : Nat) : Int) * 128) = ((128 ^ (i + 1) : Nat) : Int) from by
            have h2 : (128 : Nat) ^ i ≤ 128 ^ 8 := Nat.pow_le_pow_right (by omega) (by omega)
            have h5 : (128 : Nat) ^ 8 = 72057594037927936 := by decide
            rw [h5] at h2
            rw [Nat.pow_succ, IntKind.wrap_u64]
            omega)
          clear hr hn hbits
          go_wp2
          go_round
          case rel => exact ⟨i + 1, _, congrArg (Value.int .u64) Hb.out, congrArg (Value.int .u64) Hw.out, by go_num, by omega, by omega, Hlt.out, Hr.out⟩
          case measure => simp [intOf]; omega
    · have hie : i = xs.length := by omega
      subst hie
      rw [List.drop_length] at hr
      have Hr := Lib.hid hr
      clear hr hn
      go_wp2
      go_ret3
      exact RNum.mk Hr.out rfl rfl rfl

end Go.Proofs.Ytmfjacehompmmaa
