/- Contracts of package pack's reader. -/
import Derived.Test.YtmfjacehompmmaaPart
import Derived.Deep.QuietTactic
import Derived.BigQuiet
namespace Go.Proofs.Ytmfjacehompmmaa
open Go.RowKit MM

set_option maxHeartbeats 400000 in
theorem left_any (p : Nat) (A : Option Addr) (c : Nat) (bs : List UInt8) (at_ : Nat) (w : World) (hr : Rd 5 w p A c bs at_) :
    Calls Try.prog 60 #[.pointer (some ⟨p, 0, none⟩)] w fun e w' => e = .returned (.int .i64 ((bs.length - at_ : Nat) : Int)) ∧ ∃ n, w' = w.drewN n := by
  have hc0 := hr.cell0
  have hc1 := hr.cell1
  have hle := hr.le
  have hb : (bs.length : Int) ≤ 4294967296 := by have := hr.lim; unfold Lim at this; omega
  have W1 : IntKind.i64.wrap ((bs.length : Int) - (at_ : Int)) = ((bs.length - at_ : Nat) : Int) := (IntWalk.i64_in _ (by omega)).trans (by omega)
  go_enter Try.func60, Try.ntmps60
  go_wp2
  go_quiet (fail)
  go_wp2
  go_ret
  exact ⟨rfl, _, rfl⟩

set_option maxHeartbeats 400000 in
theorem fail_any (p : Nat) (A : Option Addr) (c : Nat) (bs : List UInt8) (at_ : Nat) (code : Nat) (w : World) (hr : Rd 5 w p A c bs at_) :
    Calls Try.prog 49 #[.pointer (some ⟨p, 0, none⟩), .int .i64 code] w fun e w' => e = thr 30 code at_ ∧ w = w' := by
  have hc1 := hr.cell1
  go_enter Try.func49, Try.ntmps49
  go_wp2
  exact ⟨rfl, rfl, rfl⟩

/-- The next byte, in plain words. -/
def nextR (l : List UInt8) : Res UInt8 :=
  match l with
  | [] => .bad 2 0
  | c :: _ => .ok c 1

abbrev encB (c : UInt8) : Value := .int .u8 c.toNat

set_option maxHeartbeats 1000000 in
theorem next_any (p : Nat) (A : Option Addr) (c : Nat) (bs : List UInt8) (at_ : Nat) (w : World) (hr : Rd 5 w p A c bs at_) :
    Calls Try.prog 69 #[.pointer (some ⟨p, 0, none⟩)] w (RPost 5 30 p A c bs at_ encB (nextR (bs.drop at_)) w) := by
  have hc0 := hr.cell0
  have hc1 := hr.cell1
  have hf1 := hr.free1
  have hle := hr.le
  have hpl := hr.lt
  by_cases hlt : at_ < bs.length
  · have hn : nextR (bs.drop at_) = .ok bs[at_] 1 := by rw [List.drop_eq_getElem_cons hlt]; rfl
    rw [hn]
    clear hn
    obtain ⟨g, rfl, hg⟩ := hr.next hlt
    have hz : (((bs.length - at_ : Nat) : Int) == 0) = false := by simp; omega
    have hb : (at_ : Int) < (bs.length : Int) := by omega
    have hb2 : (at_ : Int) + 1 ≤ 4294967296 := by have := hr.lim; unfold Lim at this; omega
    generalize hcv : bs[at_] = cv at *
    have Hcv := Lib.hid hcv
    clear hcv
    go_enter Try.func69, Try.ntmps69
    go_wp2_with (go_at_call 60; refine (left_any p _ c bs at_ _ hr).mono ?_; rintro e w1 ⟨rfl, n, rfl⟩)
    go_quiet (fail)
    go_wp2
    go_ret
    refine ⟨rfl, ?_, ?_⟩
    · have := (hr.drewN (n + nq)).step (at_ + 1) (by omega)
      simpa using this
    · exact Kp.setCell (S := fun k => k = p) ((Kp.refl _ w).drewN _) (.inl rfl) _
  · have hn : nextR (bs.drop at_) = .bad 2 0 := by rw [List.drop_eq_nil_of_le (by omega)]; rfl
    rw [hn]
    clear hn
    have hz : (((bs.length - at_ : Nat) : Int) == 0) = true := by simp; omega
    go_enter Try.func69, Try.ntmps69
    go_wp2_with (first
      | (go_at_call 60; refine (left_any p _ c bs at_ _ hr).mono ?_; rintro e w1 ⟨rfl, n, rfl⟩)
      | (go_at_call 49; refine (fail_any p A c bs at_ 2 _ (hr.drewN n)).mono ?_; rintro e w1 ⟨rfl, rfl⟩))
    exact ⟨rfl, rfl, hr.drewN n, (Kp.refl _ w).drewN n⟩

theorem pow128 (i : Nat) : (128 : Nat) ^ i = 2 ^ (7 * i) := by rw [show (128 : Nat) = 2 ^ 7 from rfl, ← Nat.pow_mul]
theorem step_lt (i n b : Nat) (h : n < 128 ^ i) : n + b % 128 * 128 ^ i < 128 ^ (i + 1) := by
  have h1 : b % 128 < 128 := Nat.mod_lt _ (by omega)
  rw [Nat.pow_succ]
  generalize 128 ^ i = q at *
  have : b % 128 * q ≤ 127 * q := Nat.mul_le_mul_right _ (by omega)
  omega
theorem step_bits (i n b : Nat) (hn : n < 128 ^ i) (hi : i ≤ 9) (hb : b < 256) (h9 : i = 9 → b ≤ 1) :
    bits BinOp.or IntKind.u64 (n : Int) (IntKind.u64.wrap (IntKind.u64.wrap (bits BinOp.andNot IntKind.u8 (b : Int) 128) * 2 ^ (7 * i))) = ((n + b % 128 * 128 ^ i : Nat) : Int) := by
  have e1 : bits BinOp.andNot IntKind.u8 (b : Int) 128 = ((b % 128 : Nat) : Int) := by
    rw [show (128 : Int) = ((128 : Nat) : Int) from rfl, u8_andNot_nat b 128 hb (by omega)]
    rw [show 255 - 128 = 127 from rfl, nat_mask7]
  have hx : b % 128 * 128 ^ i < 18446744073709551616 := by
    by_cases h : i = 9
    · have := h9 h
      subst h
      have : b % 128 ≤ 1 := by omega
      calc b % 128 * 128 ^ 9 ≤ 1 * 128 ^ 9 := Nat.mul_le_mul_right _ this
        _ < _ := by decide
    · have h1 : b % 128 ≤ 127 := by omega
      have h2 : (128 : Nat) ^ i ≤ 128 ^ 8 := Nat.pow_le_pow_right (by omega) (by omega)
      calc b % 128 * 128 ^ i ≤ 127 * 128 ^ 8 := Nat.mul_le_mul h1 h2
        _ < _ := by decide
  have hn' : n < 18446744073709551616 := by
    have h2 : (128 : Nat) ^ i ≤ 128 ^ 9 := Nat.pow_le_pow_right (by omega) hi
    have h3 : (128 : Nat) ^ 9 < 18446744073709551616 := by decide
    omega
  have e2 : IntKind.u64.wrap ((b % 128 : Nat) : Int) = ((b % 128 : Nat) : Int) := by
    rw [IntKind.wrap_u64]; omega
  have e3 : ((b % 128 : Nat) : Int) * 2 ^ (7 * i) = ((b % 128 * 128 ^ i : Nat) : Int) := by
    rw [pow128]; simp
  rw [e1, e2, e3]
  generalize hy : b % 128 * 128 ^ i = y at *
  have e4 : IntKind.u64.wrap (y : Int) = (y : Int) := by rw [IntKind.wrap_u64]; omega
  rw [e4, u64_or_nat n y hn' hx, Nat.or_comm, nat_join (7 * i) y n (by rw [← hy, pow128]; exact Nat.mul_mod_left _ _) (by rw [← pow128]; exact hn), Nat.add_comm]

/-- A number, in plain words. -/
def numR (l : List UInt8) : Res Nat :=
  match PK.numL 0 0 l with
  | (n, k, 0) => .ok n k
  | (_, k, e) => .bad e k
theorem numR_bad {l : List UInt8} {e k n : Nat} (h : PK.numL 0 0 l = (n, k, e + 1)) : numR l = .bad (e + 1) k := by unfold numR; rw [h]; rfl
theorem numR_ok {l : List UInt8} {k n : Nat} (h : PK.numL 0 0 l = (n, k, 0)) : numR l = .ok n k := by unfold numR; rw [h]; rfl
abbrev encU (n : Nat) : Value := .int .u64 n

set_option maxHeartbeats 1000000 in
set_option maxRecDepth 100000 in
theorem ru_any (p : Nat) (A : Option Addr) (c : Nat) (bs : List UInt8) (at_ : Nat) (w : World) (hr : Rd 5 w p A c bs at_) :
    Calls Try.prog 56 #[.pointer (some ⟨p, 0, none⟩)] w (RPost 5 30 p A c bs at_ encU (numR (bs.drop at_)) w) := by
  go_enter Try.func56, Try.ntmps56
  go_wp2_with fail
  go_loopw [3, 6] (fun tn ti wr => ∃ i n : Nat, tn = .int .u64 n ∧ ti = .int .i64 i ∧ i ≤ 9 ∧ n < 128 ^ i ∧ PK.numL 0 0 (bs.drop at_) = PK.numL i n (bs.drop (at_ + i)) ∧ Rd 5 wr p A c bs (at_ + i) ∧ Kp (fun k => k = p) w wr) (fun _ ti _ => 10 - (intOf ti).toNat)
  case atStart => exact ⟨0, 0, rfl, rfl, by omega, by simp, rfl, hr, Kp.refl _ _⟩
  case round =>
    obtain ⟨i, n, rfl, rfl, hi, hn, hd, hr1, hk1⟩ := hrel
    have Hd := Lib.hid hd
    have Hn := Lib.hid hn
    clear hd hn
    cases hl : bs.drop (at_ + i) with
    | nil =>
      have hx := next_any p A c bs (at_ + i) wr hr1
      rw [hl] at hx Hd
      have Hx := Lib.hid hx
      clear hx hl
      go_wp2_with (go_at_call 69; refine Hx.out.mono ?_; rintro e w1 ⟨rfl, hr2, hk2⟩)
      exact ⟨rfl, RPost.mkBad (numR_bad (e := 1) Hd.out) rfl (by omega) rfl hr2 (hk1.same hk2)⟩
    | cons cv l =>
      have hx := next_any p A c bs (at_ + i) wr hr1
      rw [hl] at hx Hd
      have hx : Calls Try.prog 69 #[.pointer (some ⟨p, 0, none⟩)] wr (fun e w' => e = .returned (.int .u8 cv.toNat) ∧ Rd 5 w' p A c bs (at_ + i + 1) ∧ Kp (fun k => k = p) wr w') := hx
      have hcv : cv.toNat < 256 := cv.toNat_lt
      have hd : PK.numL 0 0 (bs.drop at_) = if i = 9 ∧ 1 < cv.toNat then (0, i + 1, 1) else if cv.toNat < 128 then if cv.toNat = 0 ∧ 0 < i then (0, i + 1, 4) else (n + cv.toNat * 128 ^ i, i + 1, 0) else PK.numL (i + 1) (n + cv.toNat % 128 * 128 ^ i) l := Hd.out
      have hl2 : bs.drop (at_ + i + 1) = l := by rw [← List.drop_drop, hl]; rfl
      have Hl := Lib.hid hl2
      clear hl Hd hl2
      generalize cv.toNat = b at *
      have Hx := Lib.hid hx
      have W1 : IntKind.i64.wrap (7 * (i : Int)) = 7 * (i : Int) := IntWalk.i64_in _ (by omega)
      have h70 : (0 : Int) ≤ 7 * (i : Int) := by omega
      clear hx
      by_cases c9 : i = 9 ∧ 1 < b
      · rw [if_pos c9] at hd
        obtain ⟨rfl, h1⟩ := c9
        have Hd := Lib.hid hd
        clear hd
        have h1' : decide ((1 : Int) < (b : Int)) = true := by simp; omega
        go_wp2_with (first
          | (go_at_call 69; refine Hx.out.mono ?_; rintro e w1 ⟨rfl, hr2, hk2⟩; clear Hx)
          | (go_at_call 49; refine (fail_any p A c bs (at_ + 9 + 1) 1 _ hr2).mono ?_; rintro e w2 ⟨rfl, rfl⟩))
        exact ⟨rfl, RPost.mkBad (numR_bad (e := 0) Hd.out) rfl (by omega) (by omega) hr2 (hk1.same hk2)⟩
      · rw [if_neg c9] at hd
        by_cases c128 : b < 128
        · rw [if_pos c128] at hd
          have hbm : b % 128 = b := Nat.mod_eq_of_lt c128
          have HB := Lib.hid (step_bits i n b Hn.out hi hcv (fun h => by omega))
          rw [hbm] at HB
          clear hbm
          by_cases c0 : b = 0 ∧ 0 < i
          · rw [if_pos c0] at hd
            obtain ⟨rfl, h0⟩ := c0
            have Hd := Lib.hid hd
            have h0' : decide ((0 : Int) < (i : Int)) = true := by simp; omega
            have h01 : decide ((1 : Int) < ((0 : Nat) : Int)) = false := by simp
            clear hd c9
            by_cases h9 : i = 9
            · subst h9
              go_wp2_with (first
                | (go_at_call 69; refine Hx.out.mono ?_; rintro e w1 ⟨rfl, hr2, hk2⟩; clear Hx)
                | (go_at_call 49; refine (fail_any p A c bs (at_ + 9 + 1) 4 _ hr2).mono ?_; rintro e w2 ⟨rfl, rfl⟩))
              exact ⟨rfl, RPost.mkBad (numR_bad (e := 3) Hd.out) rfl (by omega) (by omega) hr2 (hk1.same hk2)⟩
            · have hi9 : ((i : Int) == 9) = false := by simp; omega
              clear h9
              go_wp2_with (first
                | (go_at_call 69; refine Hx.out.mono ?_; rintro e w1 ⟨rfl, hr2, hk2⟩; clear Hx)
                | (go_at_call 49; refine (fail_any p A c bs (at_ + i + 1) 4 _ hr2).mono ?_; rintro e w2 ⟨rfl, rfl⟩))
              exact ⟨rfl, RPost.mkBad (numR_bad (e := 3) Hd.out) rfl (by omega) (by omega) hr2 (hk1.same hk2)⟩
          · rw [if_neg c0] at hd
            have Hd := Lib.hid hd
            have HC := Lib.hid c0
            have H9 := Lib.hid c9
            clear hd c9 c0
            by_cases h9 : i = 9
            · subst h9
              have hb1 : b ≤ 1 := by have := H9.out; omega
              have hb0 : ((b : Int) == 0) = false := by have := HC.out; simp; omega
              have h01 : decide ((1 : Int) < (b : Int)) = false := by simp; omega
              go_wp2_with (first
                | (go_at_call 69; refine Hx.out.mono ?_; rintro e w1 ⟨rfl, hr2, hk2⟩; clear Hx))
              go_ret
              exact RPost.mkOk (numR_ok Hd.out) (by show Value.int .u64 _ = Value.int .u64 _; rw [← HB.out] <;> rfl) (by omega) hr2 (hk1.same hk2)
            · have hi9 : ((i : Int) == 9) = false := by simp; omega
              by_cases hb : b = 0
              · subst hb
                have hi0 : i = 0 := by have := HC.out; omega
                subst hi0
                go_wp2_with (first
                  | (go_at_call 69; refine Hx.out.mono ?_; rintro e w1 ⟨rfl, hr2, hk2⟩; clear Hx))
                go_ret
                exact RPost.mkOk (numR_ok Hd.out) (by show Value.int .u64 _ = Value.int .u64 _; rw [← HB.out] <;> rfl) (by omega) hr2 (hk1.same hk2)
              · have hb0 : ((b : Int) == 0) = false := by simp; omega
                clear hb h9
                go_wp2_with (first
                  | (go_at_call 69; refine Hx.out.mono ?_; rintro e w1 ⟨rfl, hr2, hk2⟩; clear Hx))
                go_ret
                exact RPost.mkOk (numR_ok Hd.out) (by show Value.int .u64 _ = Value.int .u64 _; rw [← HB.out] <;> rfl) (by omega) hr2 (hk1.same hk2)
        · rw [if_neg c128] at hd
          have Hd := Lib.hid hd
          clear hd
          have hi8 : i ≤ 8 := by omega
          have hi9 : ((i : Int) == 9) = false := by simp; omega
          have HB := Lib.hid (step_bits i n b Hn.out hi hcv (fun h => by omega))
          have HL := Lib.hid (step_lt i n b Hn.out)
          clear c9
          go_wp2_with (first
            | (go_at_call 69; refine Hx.out.mono ?_; rintro e w1 ⟨rfl, hr2, hk2⟩; clear Hx))
          go_roundw
          case rel => exact ⟨i + 1, n + b % 128 * 128 ^ i, by rw [HB.out], by go_num, by omega, HL.out, by rw [Hd.out, ← Hl.out]; rfl, hr2, hk1.same hk2⟩
          case measure => simp [intOf]; omega

end Go.Proofs.Ytmfjacehompmmaa
