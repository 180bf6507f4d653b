/- Contracts of package pack's reader. -/
import Derived.Test.YtaaeefndhmfceaaGreatDoorPkW
import Derived.Deep.QuietTactic
import Derived.BigQuiet
namespace Go.Proofs.YtaaeefndhmfceaaGreatDoor
open Go.RowKit MM

set_option maxHeartbeats 400000 in
theorem left_any (p : Nat) (A : Option Addr) (c : Nat) (bs : List UInt8) (at_ : Nat) (w : World) (hr : Rd 5 w p A c bs at_) :
    Calls Tryz.prog 81 #[.pointer (some ⟨p, 0, none⟩)] w fun e w' => e = .returned (.int .i64 ((bs.length - at_ : Nat) : Int)) ∧ ∃ n, w' = w.drewN n := by
  have hc0 := hr.cell0
  have hc1 := hr.cell1
  have hle := hr.le
  have hb : (bs.length : Int) ≤ 4294967296 := by have := hr.lim; unfold Lim at this; omega
  have W1 : IntKind.i64.wrap ((bs.length : Int) - (at_ : Int)) = ((bs.length - at_ : Nat) : Int) := (IntWalk.i64_in _ (by omega)).trans (by omega)
  go_enter Tryz.func81, Tryz.ntmps81
  go_wp2
  go_quiet (fail)
  go_wp2
  go_ret
  exact ⟨rfl, _, rfl⟩

set_option maxHeartbeats 400000 in
theorem fail_any (p : Nat) (A : Option Addr) (c : Nat) (bs : List UInt8) (at_ : Nat) (code : Nat) (w : World) (hr : Rd 5 w p A c bs at_) :
    Calls Tryz.prog 80 #[.pointer (some ⟨p, 0, none⟩), .int .i64 code] w fun e w' => e = thr 34 code at_ ∧ w = w' := by
  have hc1 := hr.cell1
  go_enter Tryz.func80, Tryz.ntmps80
  go_wp2
  exact ⟨rfl, rfl, rfl⟩

/-- The next byte, in plain words. -/
def nextR (l : List UInt8) : Res UInt8 :=
  match l with
  | [] => .bad 2 0
  | c :: _ => .ok c 1

abbrev encB (c : UInt8) : Value := .int .u8 c.toNat

set_option maxHeartbeats 1000000 in
theorem next_any (p : Nat) (A : Option Addr) (c : Nat) (bs : List UInt8) (at_ : Nat) (w : World) (hr : Rd 5 w p A c bs at_) :
    Calls Tryz.prog 137 #[.pointer (some ⟨p, 0, none⟩)] w (RPost 5 34 p A c bs at_ encB (nextR (bs.drop at_)) w) := by
  have hc0 := hr.cell0
  have hc1 := hr.cell1
  have hf1 := hr.free1
  have hle := hr.le
  have hpl := hr.lt
  by_cases hlt : at_ < bs.length
  · have hn : nextR (bs.drop at_) = .ok bs[at_] 1 := by rw [List.drop_eq_getElem_cons hlt]; rfl
    rw [hn]
    clear hn
    obtain ⟨g, rfl, hg⟩ := hr.next hlt
    have hz : (((bs.length - at_ : Nat) : Int) == 0) = false := by simp; omega
    have hb : (at_ : Int) < (bs.length : Int) := by omega
    have hb2 : (at_ : Int) + 1 ≤ 4294967296 := by have := hr.lim; unfold Lim at this; omega
    generalize hcv : bs[at_] = cv at *
    have Hcv := Lib.hid hcv
    clear hcv
    go_enter Tryz.func137, Tryz.ntmps137
    go_wp2_with (go_at_call 81; refine (left_any p _ c bs at_ _ hr).mono ?_; rintro e w1 ⟨rfl, n, rfl⟩)
    go_quiet (fail)
    go_wp2
    go_ret
    refine ⟨rfl, ?_, ?_⟩
    · have := (hr.drewN (n + nq)).step (at_ + 1) (by omega)
      simpa using this
    · exact Kp.setCell (S := fun k => k = p) ((Kp.refl _ w).drewN _) (.inl rfl) _
  · have hn : nextR (bs.drop at_) = .bad 2 0 := by rw [List.drop_eq_nil_of_le (by omega)]; rfl
    rw [hn]
    clear hn
    have hz : (((bs.length - at_ : Nat) : Int) == 0) = true := by simp; omega
    go_enter Tryz.func137, Tryz.ntmps137
    go_wp2_with (first
      | (go_at_call 81; refine (left_any p _ c bs at_ _ hr).mono ?_; rintro e w1 ⟨rfl, n, rfl⟩)
      | (go_at_call 80; refine (fail_any p A c bs at_ 2 _ (hr.drewN n)).mono ?_; rintro e w1 ⟨rfl, rfl⟩))
    exact ⟨rfl, rfl, hr.drewN n, (Kp.refl _ w).drewN n⟩

theorem pow128 (i : Nat) : (128 : Nat) ^ i = 2 ^ (7 * i) := by rw [show (128 : Nat) = 2 ^ 7 from rfl, ← Nat.pow_mul]
theorem step_lt (i n b : Nat) (h : n < 128 ^ i) : n + b % 128 * 128 ^ i < 128 ^ (i + 1) := by
  have h1 : b % 128 < 128 := Nat.mod_lt _ (by omega)
  rw [Nat.pow_succ]
  generalize 128 ^ i = q at *
  have : b % 128 * q ≤ 127 * q := Nat.mul_le_mul_right _ (by omega)
  omega
theorem step_bits (i n b : Nat) (hn : n < 128 ^ i) (hi : i ≤ 9) (hb : b < 256) (h9 : i = 9 → b ≤ 1) :
    bits BinOp.or IntKind.u64 (n : Int) (IntKind.u64.wrap (IntKind.u64.wrap (bits BinOp.andNot IntKind.u8 (b : Int) 128) * 2 ^ (7 * i))) = ((n + b % 128 * 128 ^ i : Nat) : Int) := by
  have e1 : bits BinOp.andNot IntKind.u8 (b : Int) 128 = ((b % 128 : Nat) : Int) := by
    rw [show (128 : Int) = ((128 : Nat) : Int) from rfl, u8_andNot_nat b 128 hb (by omega)]
    rw [show 255 - 128 = 127 from rfl, nat_mask7]
  have hx : b % 128 * 128 ^ i < 18446744073709551616 := by
    by_cases h : i = 9
    · have := h9 h
      subst h
      have : b % 128 ≤ 1 := by omega
      calc b % 128 * 128 ^ 9 ≤ 1 * 128 ^ 9 := Nat.mul_le_mul_right _ this
        _ < _ := by decide
    · have h1 : b % 128 ≤ 127 := by omega
      have h2 : (128 : Nat) ^ i ≤ 128 ^ 8 := Nat.pow_le_pow_right (by omega) (by omega)
      calc b % 128 * 128 ^ i ≤ 127 * 128 ^ 8 := Nat.mul_le_mul h1 h2
        _ < _ := by decide
  have hn' : n < 18446744073709551616 := by
    have h2 : (128 : Nat) ^ i ≤ 128 ^ 9 := Nat.pow_le_pow_right (by omega) hi
    have h3 : (128 : Nat) ^ 9 < 18446744073709551616 := by decide
    omega
  have e2 : IntKind.u64.wrap ((b % 128 : Nat) : Int) = ((b % 128 : Nat) : Int) := by
    rw [IntKind.wrap_u64]; omega
  have e3 : ((b % 128 : Nat) : Int) * 2 ^ (7 * i) = ((b % 128 * 128 ^ i : Nat) : Int) := by
    rw [pow128]; simp
  rw [e1, e2, e3]
  generalize hy : b % 128 * 128 ^ i = y at *
  have e4 : IntKind.u64.wrap (y : Int) = (y : Int) := by rw [IntKind.wrap_u64]; omega
  rw [e4, u64_or_nat n y hn' hx, Nat.or_comm, nat_join (7 * i) y n (by rw [← hy, pow128]; exact Nat.mul_mod_left _ _) (by rw [← pow128]; exact hn), Nat.add_comm]

/-- A number, in plain words. -/
def numR (l : List UInt8) : Res Nat :=
  match PK.numL 0 0 l with
  | (n, k, 0) => .ok n k
  | (_, k, e) => .bad e k
theorem numR_bad {l : List UInt8} {e k n : Nat} (h : PK.numL 0 0 l = (n, k, e + 1)) : numR l = .bad (e + 1) k := by unfold numR; rw [h]; rfl
theorem numR_ok {l : List UInt8} {k n : Nat} (h : PK.numL 0 0 l = (n, k, 0)) : numR l = .ok n k := by unfold numR; rw [h]; rfl
abbrev encU (n : Nat) : Value := .int .u64 n

set_option maxHeartbeats 1000000 in
set_option maxRecDepth 100000 in
theorem ru_any (p : Nat) (A : Option Addr) (c : Nat) (bs : List UInt8) (at_ : Nat) (w : World) (hr : Rd 5 w p A c bs at_) :
    Calls Tryz.prog 138 #[.pointer (some ⟨p, 0, none⟩)] w (RPost 5 34 p A c bs at_ encU (numR (bs.drop at_)) w) := by
  go_enter Tryz.func138, Tryz.ntmps138
  go_wp2_with fail
  go_loopw [3, 6] (fun tn ti wr => ∃ i n : Nat, tn = .int .u64 n ∧ ti = .int .i64 i ∧ i ≤ 9 ∧ n < 128 ^ i ∧ PK.numL 0 0 (bs.drop at_) = PK.numL i n (bs.drop (at_ + i)) ∧ Rd 5 wr p A c bs (at_ + i) ∧ Kp (fun k => k = p) w wr) (fun _ ti _ => 10 - (intOf ti).toNat)
  case atStart => exact ⟨0, 0, rfl, rfl, by omega, by simp, rfl, hr, Kp.refl _ _⟩
  case round =>
    obtain ⟨i, n, rfl, rfl, hi, hn, hd, hr1, hk1⟩ := hrel
    have Hd := Lib.hid hd
    have Hn := Lib.hid hn
    clear hd hn
    cases hl : bs.drop (at_ + i) with
    | nil =>
      have hx := next_any p A c bs (at_ + i) wr hr1
      rw [hl] at hx Hd
      have Hx := Lib.hid hx
      clear hx hl
      go_wp2_with (go_at_call 137; refine Hx.out.mono ?_; rintro e w1 ⟨rfl, hr2, hk2⟩)
      exact ⟨rfl, RPost.mkBad (numR_bad (e := 1) Hd.out) rfl (by omega) rfl hr2 (hk1.same hk2)⟩
    | cons cv l =>
      have hx := next_any p A c bs (at_ + i) wr hr1
      rw [hl] at hx Hd
      have hx : Calls Tryz.prog 137 #[.pointer (some ⟨p, 0, none⟩)] wr (fun e w' => e = .returned (.int .u8 cv.toNat) ∧ Rd 5 w' p A c bs (at_ + i + 1) ∧ Kp (fun k => k = p) wr w') := hx
      have hcv : cv.toNat < 256 := cv.toNat_lt
      have hd : PK.numL 0 0 (bs.drop at_) = if i = 9 ∧ 1 < cv.toNat then (0, i + 1, 1) else if cv.toNat < 128 then if cv.toNat = 0 ∧ 0 < i then (0, i + 1, 4) else (n + cv.toNat * 128 ^ i, i + 1, 0) else PK.numL (i + 1) (n + cv.toNat % 128 * 128 ^ i) l := Hd.out
      have hl2 : bs.drop (at_ + i + 1) = l := by rw [← List.drop_drop, hl]; rfl
      have Hl := Lib.hid hl2
      clear hl Hd hl2
      generalize cv.toNat = b at *
      have Hx := Lib.hid hx
      have W1 : IntKind.i64.wrap (7 * (i : Int)) = 7 * (i : Int) := IntWalk.i64_in _ (by omega)
      have h70 : (0 : Int) ≤ 7 * (i : Int) := by omega
      clear hx
      by_cases c9 : i = 9 ∧ 1 < b
      · rw [if_pos c9] at hd
        obtain ⟨rfl, h1⟩ := c9
        have Hd := Lib.hid hd
        clear hd
        have h1' : decide ((1 : Int) < (b : Int)) = true := by simp; omega
        go_wp2_with (first
          | (go_at_call 137; refine Hx.out.mono ?_; rintro e w1 ⟨rfl, hr2, hk2⟩; clear Hx)
          | (go_at_call 80; refine (fail_any p A c bs (at_ + 9 + 1) 1 _ hr2).mono ?_; rintro e w2 ⟨rfl, rfl⟩))
        exact ⟨rfl, RPost.mkBad (numR_bad (e := 0) Hd.out) rfl (by omega) (by omega) hr2 (hk1.same hk2)⟩
      · rw [if_neg c9] at hd
        by_cases c128 : b < 128
        · rw [if_pos c128] at hd
          have hbm : b % 128 = b := Nat.mod_eq_of_lt c128
          have HB := Lib.hid (step_bits i n b Hn.out hi hcv (fun h => by omega))
          rw [hbm] at HB
          clear hbm
          by_cases c0 : b = 0 ∧ 0 < i
          · rw [if_pos c0] at hd
            obtain ⟨rfl, h0⟩ := c0
            have Hd := Lib.hid hd
            have h0' : decide ((0 : Int) < (i : Int)) = true := by simp; omega
            have h01 : decide ((1 : Int) < ((0 : Nat) : Int)) = false := by simp
            clear hd c9
            by_cases h9 : i = 9
            · subst h9
              go_wp2_with (first
                | (go_at_call 137; refine Hx.out.mono ?_; rintro e w1 ⟨rfl, hr2, hk2⟩; clear Hx)
                | (go_at_call 80; refine (fail_any p A c bs (at_ + 9 + 1) 4 _ hr2).mono ?_; rintro e w2 ⟨rfl, rfl⟩))
              exact ⟨rfl, RPost.mkBad (numR_bad (e := 3) Hd.out) rfl (by omega) (by omega) hr2 (hk1.same hk2)⟩
            · have hi9 : ((i : Int) == 9) = false := by simp; omega
              clear h9
              go_wp2_with (first
                | (go_at_call 137; refine Hx.out.mono ?_; rintro e w1 ⟨rfl, hr2, hk2⟩; clear Hx)
                | (go_at_call 80; refine (fail_any p A c bs (at_ + i + 1) 4 _ hr2).mono ?_; rintro e w2 ⟨rfl, rfl⟩))
              exact ⟨rfl, RPost.mkBad (numR_bad (e := 3) Hd.out) rfl (by omega) (by omega) hr2 (hk1.same hk2)⟩
          · rw [if_neg c0] at hd
            have Hd := Lib.hid hd
            have HC := Lib.hid c0
            have H9 := Lib.hid c9
            clear hd c9 c0
            by_cases h9 : i = 9
            · subst h9
              have hb1 : b ≤ 1 := by have := H9.out; omega
              have hb0 : ((b : Int) == 0) = false := by have := HC.out; simp; omega
              have h01 : decide ((1 : Int) < (b : Int)) = false := by simp; omega
              go_wp2_with (first
                | (go_at_call 137; refine Hx.out.mono ?_; rintro e w1 ⟨rfl, hr2, hk2⟩; clear Hx))
              go_ret
              exact RPost.mkOk (numR_ok Hd.out) (by show Value.int .u64 _ = Value.int .u64 _; rw [← HB.out] <;> rfl) (by omega) hr2 (hk1.same hk2)
            · have hi9 : ((i : Int) == 9) = false := by simp; omega
              by_cases hb : b = 0
              · subst hb
                have hi0 : i = 0 := by have := HC.out; omega
                subst hi0
                go_wp2_with (first
                  | (go_at_call 137; refine Hx.out.mono ?_; rintro e w1 ⟨rfl, hr2, hk2⟩; clear Hx))
                go_ret
                exact RPost.mkOk (numR_ok Hd.out) (by show Value.int .u64 _ = Value.int .u64 _; rw [← HB.out] <;> rfl) (by omega) hr2 (hk1.same hk2)
              · have hb0 : ((b : Int) == 0) = false := by simp; omega
                clear hb h9
                go_wp2_with (first
                  | (go_at_call 137; refine Hx.out.mono ?_; rintro e w1 ⟨rfl, hr2, hk2⟩; clear Hx))
                go_ret
                exact RPost.mkOk (numR_ok Hd.out) (by show Value.int .u64 _ = Value.int .u64 _; rw [← HB.out] <;> rfl) (by omega) hr2 (hk1.same hk2)
        · rw [if_neg c128] at hd
          have Hd := Lib.hid hd
          clear hd
          have hi8 : i ≤ 8 := by omega
          have hi9 : ((i : Int) == 9) = false := by simp; omega
          have HB := Lib.hid (step_bits i n b Hn.out hi hcv (fun h => by omega))
          have HL := Lib.hid (step_lt i n b Hn.out)
          clear c9
          go_wp2_with (first
            | (go_at_call 137; refine Hx.out.mono ?_; rintro e w1 ⟨rfl, hr2, hk2⟩; clear Hx))
          go_roundw
          case rel => exact ⟨i + 1, n + b % 128 * 128 ^ i, by rw [HB.out], by go_num, by omega, HL.out, by rw [Hd.out, ← Hl.out]; rfl, hr2, hk1.same hk2⟩
          case measure => simp [intOf]; omega

end Go.Proofs.YtaaeefndhmfceaaGreatDoor
/- Contracts of package pack's reader, part by part. -/
namespace Go.Proofs.YtaaeefndhmfceaaGreatDoor
open Go.RowKit MM

/-- Is a number above the greatest that may be? -/
def tooB (n : Nat) (m : Int) : Bool := decide (m.toNat < n)

set_option maxHeartbeats 400000 in
theorem above_calls (n : Nat) (m : Int) (w : World) (hm : (Lit.int .i64 m).wf = true) :
    Calls Tryz.prog 139 #[.int .u64 n, .int .i64 m] w fun e w' => e = .returned (.bool (tooB n m)) ∧ w = w' := by
  have hx : -9223372036854775808 ≤ m ∧ m ≤ 9223372036854775807 := by simpa [Lit.wf, IntKind.min, IntKind.max, IntKind.signed, IntKind.bits] using hm
  by_cases h0 : 0 ≤ m
  · have H := Lib.hid (show decide (IntKind.u64.wrap m < (n : Int)) = tooB n m by unfold tooB; rw [IntKind.wrap_u64, Bool.eq_iff_iff]; simp; omega)
    clear hx hm
    go_enter Tryz.func139, Tryz.ntmps139
    go_wp2
    go_ret
    exact ⟨ret_bool H.out, rfl⟩
  · have H := Lib.hid (show decide (0 < n) = tooB n m by unfold tooB; rw [Bool.eq_iff_iff]; simp; omega)
    clear hx hm
    go_enter Tryz.func139, Tryz.ntmps139
    go_wp2
    go_ret
    exact ⟨ret_bool H.out, rfl⟩

theorem numR_w {l : List UInt8} {n k : Nat} (h : numR l = .ok n k) : MF.W64 n := by
  unfold numR at h
  split at h
  · rename_i x y e
    injection h with h1 h2
    subst h1
    exact PK.numL_lt l 0 0 _ _ (by omega) (by decide) e
  · cases h
theorem zag_bits (n : Nat) (hn : MF.W64 n) : wrap64 (bits BinOp.xor IntKind.u64 ((n : Int) / 2) (IntKind.u64.wrap (-bits BinOp.and IntKind.u64 (n : Int) 1))) = PK.zag n := by
  unfold MF.W64 at hn
  have e1 : bits BinOp.and IntKind.u64 (n : Int) 1 = ((n % 2 : Nat) : Int) := by
    rw [show (1 : Int) = ((1 : Nat) : Int) from rfl, u64_and_nat n 1 hn (by omega), nat_mask1]
  have e2 : (n : Int) / 2 = ((n / 2 : Nat) : Int) := by omega
  rw [e1, e2, IntKind.wrap_u64]
  unfold PK.zag
  by_cases h : n % 2 = 1
  · rw [if_pos h, show (-((n % 2 : Nat) : Int)) % 18446744073709551616 = ((18446744073709551615 : Nat) : Int) by omega, u64_xor_nat _ _ (by omega) (by omega), Nat.xor_comm]
    have := MF.all_xor (n / 2) (by omega)
    rw [show IntKind.u64.max = ((18446744073709551615 : Nat) : Int) by decide, u64_xor_nat _ _ (by omega) (by omega)] at this
    rw [this]
    unfold wrap64
    omega
  · rw [if_neg h, show (-((n % 2 : Nat) : Int)) % 18446744073709551616 = ((0 : Nat) : Int) by omega, u64_xor_nat _ _ (by omega) (by omega), Nat.xor_zero]
    unfold wrap64
    omega
theorem val_i64 {z : Int} {n : Nat} (h : z = PK.zag n) : Value.int .i64 z = (fun n => Value.int .i64 (PK.zag n)) n := by rw [h]

set_option maxHeartbeats 1000000 in
set_option maxRecDepth 100000 in
theorem ri_any (p : Nat) (A : Option Addr) (c : Nat) (bs : List UInt8) (at_ : Nat) (w : World) (hr : Rd 5 w p A c bs at_) :
    Calls Tryz.prog 140 #[.pointer (some ⟨p, 0, none⟩)] w (RPost 5 34 p A c bs at_ (fun n => .int .i64 (PK.zag n)) (numR (bs.drop at_)) w) := by
  have hx := ru_any p A c bs at_ w hr
  cases hR : numR (bs.drop at_) with
  | ok n k =>
    rw [hR] at hx
    have Hx := Lib.hid hx
    have HZ := Lib.hid (zag_bits n (numR_w hR))
    clear hx hR
    go_enter Tryz.func140, Tryz.ntmps140
    go_wp2_with (go_at_call 138; refine Hx.out.mono ?_; rintro e w1 ⟨rfl, hr2, hk2⟩; clear Hx)
    go_ret
    exact RPost.mkOk rfl (val_i64 HZ.out) rfl hr2 hk2
  | bad code k =>
    rw [hR] at hx
    have Hx := Lib.hid hx
    clear hx hR
    go_enter Tryz.func140, Tryz.ntmps140
    go_wp2_with (go_at_call 138; refine Hx.out.mono ?_; rintro e w1 ⟨rfl, hr2, hk2⟩; clear Hx)
    exact ⟨rfl, RPost.mkBad rfl rfl (by omega) rfl hr2 hk2⟩

/-- Yes or no, in plain words. -/
def flagR (l : List UInt8) : Res Bool :=
  match l with
  | [] => .bad 2 0
  | c :: _ => if 1 < c.toNat then .bad 4 1 else .ok (c.toNat == 1) 1

set_option maxHeartbeats 1000000 in
set_option maxRecDepth 100000 in
theorem rflag_any (p : Nat) (A : Option Addr) (c : Nat) (bs : List UInt8) (at_ : Nat) (w : World) (hr : Rd 5 w p A c bs at_) :
    Calls Tryz.prog 77 #[.pointer (some ⟨p, 0, none⟩)] w (RPost 5 34 p A c bs at_ Value.bool (flagR (bs.drop at_)) w) := by
  have hx := next_any p A c bs at_ w hr
  cases hl : bs.drop at_ with
  | nil =>
    rw [hl] at hx
    have Hx := Lib.hid hx
    clear hx hl
    go_enter Tryz.func77, Tryz.ntmps77
    go_wp2_with (go_at_call 137; refine Hx.out.mono ?_; rintro e w1 ⟨rfl, hr2, hk2⟩; clear Hx)
    exact ⟨rfl, RPost.mkBad (n := 0) rfl rfl (by omega) rfl hr2 hk2⟩
  | cons cv l =>
    rw [hl] at hx
    have hx : Calls Tryz.prog 137 #[.pointer (some ⟨p, 0, none⟩)] w (fun e w' => e = .returned (.int .u8 cv.toNat) ∧ Rd 5 w' p A c bs (at_ + 1) ∧ Kp (fun k => k = p) w w') := hx
    have hF : flagR (cv :: l) = if 1 < cv.toNat then .bad 4 1 else .ok (cv.toNat == 1) 1 := rfl
    have HF := Lib.hid hF
    clear hF
    generalize cv.toNat = b at *
    have Hx := Lib.hid hx
    clear hx hl
    by_cases h1 : 1 < b
    · have HR := Lib.hid (HF.out.trans (if_pos h1))
      generalize flagR (cv :: l) = r at *
      go_enter Tryz.func77, Tryz.ntmps77
      go_wp2_with (first
        | (go_at_call 137; refine Hx.out.mono ?_; rintro e w1 ⟨rfl, hr2, hk2⟩; clear Hx)
        | (go_at_call 80; refine (fail_any p A c bs (at_ + 1) 4 _ hr2).mono ?_; rintro e w2 ⟨rfl, rfl⟩))
      exact ⟨rfl, RPost.mkBad HR.out rfl (by omega) rfl hr2 hk2⟩
    · have HR := Lib.hid (HF.out.trans (if_neg h1))
      generalize flagR (cv :: l) = r at *
      go_enter Tryz.func77, Tryz.ntmps77
      go_wp2_with (first
        | (go_at_call 137; refine Hx.out.mono ?_; rintro e w1 ⟨rfl, hr2, hk2⟩; clear Hx))
      go_ret
      exact RPost.mkOk HR.out (congrArg Value.bool (by rw [Bool.eq_iff_iff]; simp; omega)) rfl hr2 hk2

/-- A number that is at most that, in plain words. -/
def uptoR (m : Int) (l : List UInt8) : Res Nat :=
  match numR l with
  | .bad e k => .bad e k
  | .ok n k => if tooB n m then .bad 1 k else .ok n k

set_option maxHeartbeats 1000000 in
set_option maxRecDepth 100000 in
theorem rupto_any (p : Nat) (A : Option Addr) (c : Nat) (bs : List UInt8) (at_ : Nat) (m : Int) (w : World) (hm : (Lit.int .i64 m).wf = true) (hr : Rd 5 w p A c bs at_) :
    Calls Tryz.prog 136 #[.pointer (some ⟨p, 0, none⟩), .int .i64 m] w (RPost 5 34 p A c bs at_ (fun n : Nat => .int .i64 n) (uptoR m (bs.drop at_)) w) := by
  have hx := ru_any p A c bs at_ w hr
  have hU : uptoR m (bs.drop at_) = match numR (bs.drop at_) with | .bad e k => .bad e k | .ok n k => if tooB n m then .bad 1 k else .ok n k := rfl
  cases hR : numR (bs.drop at_) with
  | bad code k =>
    rw [hR] at hx hU
    have Hx := Lib.hid hx
    have HU := Lib.hid hU
    clear hx hR hU
    go_enter Tryz.func136, Tryz.ntmps136
    go_wp2_with (go_at_call 138; refine Hx.out.mono ?_; rintro e w1 ⟨rfl, hr2, hk2⟩; clear Hx)
    exact ⟨rfl, RPost.mkBad HU.out rfl (by omega) rfl hr2 hk2⟩
  | ok n k =>
    rw [hR] at hx hU
    have Hx := Lib.hid hx
    have hw := numR_w hR
    cases ht : tooB n m
    · have HU := Lib.hid (hU.trans (by show (if tooB n m = true then Res.bad 1 k else Res.ok n k) = Res.ok n k; rw [ht]; rfl))
      have HV := Lib.hid (show wrap64 (n : Int) = (n : Int) by
        have hx : -9223372036854775808 ≤ m ∧ m ≤ 9223372036854775807 := by simpa [Lit.wf, IntKind.min, IntKind.max, IntKind.signed, IntKind.bits] using hm
        unfold tooB at ht
        simp at ht
        unfold wrap64
        omega)
      clear hx hR hU hw
      go_enter Tryz.func136, Tryz.ntmps136
      go_wp2_with (first
        | (go_at_call 138; refine Hx.out.mono ?_; rintro e w1 ⟨rfl, hr2, hk2⟩; clear Hx)
        | (go_at_call 139; refine (above_calls n m _ hm).mono ?_; rintro e w2 ⟨rfl, rfl⟩))
      go_ret
      exact RPost.mkOk HU.out (by show Value.int .i64 (wrap64 (n : Int)) = Value.int .i64 (n : Int); rw [HV.out]) rfl hr2 hk2
    · have HU := Lib.hid (hU.trans (by show (if tooB n m = true then Res.bad 1 k else Res.ok n k) = Res.bad 1 k; rw [ht]; rfl))
      clear hx hR hU hw
      go_enter Tryz.func136, Tryz.ntmps136
      go_wp2_with (first
        | (go_at_call 138; refine Hx.out.mono ?_; rintro e w1 ⟨rfl, hr2, hk2⟩; clear Hx)
        | (go_at_call 139; refine (above_calls n m _ hm).mono ?_; rintro e w2 ⟨rfl, rfl⟩)
        | (go_at_call 80; refine (fail_any p A c bs (at_ + k) 1 _ hr2).mono ?_; rintro e w2 ⟨rfl, rfl⟩))
      exact ⟨rfl, RPost.mkBad HU.out rfl (by omega) rfl hr2 hk2⟩

/-- All was read, in plain words. -/
def endR (l : List UInt8) : Res Unit := if l = [] then .ok () 0 else .bad 3 0

set_option maxHeartbeats 1000000 in
set_option maxRecDepth 100000 in
theorem rend_any (p : Nat) (A : Option Addr) (c : Nat) (bs : List UInt8) (at_ : Nat) (w : World) (hr : Rd 5 w p A c bs at_) :
    Calls Tryz.prog 41 #[.pointer (some ⟨p, 0, none⟩)] w (RPost 5 34 p A c bs at_ (fun _ => .tuple #[]) (endR (bs.drop at_)) w) := by
  have hle := hr.le
  by_cases h : at_ < bs.length
  · have HE := Lib.hid (show endR (bs.drop at_) = .bad 3 0 by unfold endR; rw [if_neg (by intro e; have := congrArg List.length e; simp at this; omega)])
    have h0 : decide ((0 : Int) < ((bs.length - at_ : Nat) : Int)) = true := by simp; omega
    have h0' : (0 : Int) < ((bs.length - at_ : Nat) : Int) := by omega
    go_enter Tryz.func41, Tryz.ntmps41
    go_wp2_with (first
      | (go_at_call 81; refine (left_any p _ c bs at_ _ hr).mono ?_; rintro e w1 ⟨rfl, n, rfl⟩)
      | (go_at_call 80; refine (fail_any p A c bs at_ 3 _ (hr.drewN n)).mono ?_; rintro e w1 ⟨rfl, rfl⟩))
    exact ⟨rfl, RPost.mkBad (n := 0) HE.out rfl (by omega) rfl (hr.drewN n) ((Kp.refl _ w).drewN n)⟩
  · have HE := Lib.hid (show endR (bs.drop at_) = .ok () 0 by unfold endR; rw [if_pos (List.drop_eq_nil_of_le (by omega))])
    have hz : bs.length - at_ = 0 := by omega
    go_enter Tryz.func41, Tryz.ntmps41
    go_wp2_with (first
      | (go_at_call 81; refine (left_any p _ c bs at_ _ hr).mono ?_; rintro e w1 ⟨rfl, n, rfl⟩))
    go_end0
    exact RPost.mkOk (n := 0) HE.out rfl rfl (hr.drewN n) ((Kp.refl _ w).drewN n)

end Go.Proofs.YtaaeefndhmfceaaGreatDoor
/- Contracts of package pack's reader: floating numbers and texts. -/
namespace Go.Proofs.YtaaeefndhmfceaaGreatDoor
open Go.RowKit MM

/-- A floating number, in plain words. -/
def floR (l : List UInt8) : Res Nat :=
  if l.length < 8 then .bad 2 l.length
  else if MF.proper (MF.bk (PK.placeN (l.take 8))) then .ok (MF.bk (PK.placeN (l.take 8))) 8 else .bad 4 8

theorem floR_short {l : List UInt8} (h : l.length < 8) : floR l = .bad 2 l.length := by unfold floR; rw [if_pos h]
theorem floR_ok {l : List UInt8} (h : ¬ l.length < 8) (hp : MF.proper (MF.bk (PK.placeN (l.take 8))) = true) : floR l = .ok (MF.bk (PK.placeN (l.take 8))) 8 := by unfold floR; rw [if_neg h, if_pos hp]
theorem floR_form {l : List UInt8} (h : ¬ l.length < 8) (hp : MF.proper (MF.bk (PK.placeN (l.take 8))) = false) : floR l = .bad 4 8 := by unfold floR; rw [if_neg h, if_neg (by rw [hp]; simp)]

theorem place_bits (k b i : Nat) (hk : k < 256 ^ i) (hi : i < 8) (hb : b < 256) : bits BinOp.or IntKind.u64 (IntKind.u64.wrap ((k : Int) * 256)) (b : Int) = ((k * 256 + b : Nat) : Int) := by
  have h1 : (256 : Nat) ^ i ≤ 256 ^ 7 := Nat.pow_le_pow_right (by omega) (by omega)
  have h2 : (256 : Nat) ^ 7 = 72057594037927936 := by decide
  rw [h2] at h1
  have e1 : IntKind.u64.wrap ((k : Int) * 256) = ((k * 256 : Nat) : Int) := by rw [IntKind.wrap_u64]; omega
  rw [e1, u64_or_nat _ _ (by omega) (by omega), nat_join 8 (k * 256) b (by omega) (by omega)]

set_option maxHeartbeats 1000000 in
set_option maxRecDepth 100000 in
theorem rf_any (p : Nat) (A : Option Addr) (c : Nat) (bs : List UInt8) (at_ : Nat) (w : World) (hr : Rd 5 w p A c bs at_) :
    Calls Tryz.prog 141 #[.pointer (some ⟨p, 0, none⟩)] w (RPost 5 34 p A c bs at_ (fun x : Nat => .float .f64 x) (floR (bs.drop at_)) w) := by
  generalize hrest : bs.drop at_ = l
  have Hl := Lib.hid hrest
  clear hrest
  go_enter Tryz.func141, Tryz.ntmps141
  go_wp2_with fail
  go_loopw [3, 6] (fun tk ti wr => ∃ i : Nat, tk = .int .u64 (PK.placeN (l.take i) : Nat) ∧ ti = .int .i64 i ∧ i ≤ 8 ∧ i ≤ l.length ∧ Rd 5 wr p A c bs (at_ + i) ∧ Kp (fun k => k = p) w wr) (fun _ ti _ => 8 - (intOf ti).toNat)
  case atStart => exact ⟨0, by simp [PK.placeN], rfl, by omega, by omega, hr, Kp.refl _ _⟩
  case round =>
    obtain ⟨i, rfl, rfl, hi, hil, hr1, hk1⟩ := hrel
    have hx := next_any p A c bs (at_ + i) wr hr1
    rw [← List.drop_drop, Hl.out] at hx
    by_cases h8 : i < 8
    · by_cases hlt : i < l.length
      · rw [List.drop_eq_getElem_cons hlt] at hx
        have hx : Calls Tryz.prog 137 #[.pointer (some ⟨p, 0, none⟩)] wr (fun e w' => e = .returned (.int .u8 (l[i]).toNat) ∧ Rd 5 w' p A c bs (at_ + i + 1) ∧ Kp (fun k => k = p) wr w') := hx
        have HB := Lib.hid (place_bits (PK.placeN (l.take i)) (l[i]).toNat i (by have := PK.placeN_lt (l.take i); rwa [List.length_take, Nat.min_eq_left hil] at this) h8 (l[i]).toNat_lt)
        have HS := Lib.hid (show PK.placeN (l.take (i + 1)) = PK.placeN (l.take i) * 256 + (l[i]).toNat by rw [List.take_succ_eq_append_getElem hlt, PK.placeN_snoc])
        have hbl := (l[i]).toNat_lt
        generalize (l[i]).toNat = b at *
        generalize PK.placeN (l.take i) = k at *
        have Hx := Lib.hid hx
        clear hx
        go_wp2_with (go_at_call 137; refine Hx.out.mono ?_; rintro e w1 ⟨rfl, hr2, hk2⟩; clear Hx)
        go_roundw
        case rel => exact ⟨i + 1, by rw [HS.out, ← HB.out], by go_num, by omega, by omega, hr2, hk1.same hk2⟩
        case measure => simp [intOf]; omega
      · rw [List.drop_eq_nil_of_le (by omega)] at hx
        have Hx := Lib.hid hx
        have HR := Lib.hid (floR_short (l := l) (by omega))
        have hie : l.length = i := by omega
        generalize PK.placeN (l.take i) = k at *
        clear hx
        go_wp2_with (go_at_call 137; refine Hx.out.mono ?_; rintro e w1 ⟨rfl, hr2, hk2⟩; clear Hx)
        exact ⟨rfl, RPost.mkBad HR.out rfl (by omega) (by omega) hr2 (hk1.same hk2)⟩
    · have hi8 : i = 8 := by omega
      subst hi8
      clear hx
      have hw : MF.W64 (PK.placeN (l.take 8)) := by
        have := PK.placeN_lt (l.take 8)
        rw [List.length_take, Nat.min_eq_left hil] at this
        unfold MF.W64
        exact Nat.lt_of_lt_of_le this (by decide)
      cases hp : MF.proper (MF.bk (PK.placeN (l.take 8)))
      · have HR := Lib.hid (floR_form (by omega) hp)
        have HP := Lib.hid hp
        generalize PK.placeN (l.take 8) = k at *
        clear hp
        go_wp2_with (first
          | (go_at_call 165; refine (back_any k _ hw).mono ?_; rw [HP.out, if_neg (by simp)]; rintro e w' ⟨rfl, rfl⟩)
          | (go_at_call 80; refine (fail_any p A c bs (at_ + 8) 4 _ hr1).mono ?_; rintro e w2 ⟨rfl, rfl⟩))
        exact ⟨rfl, RPost.mkBad HR.out rfl (by omega) rfl hr1 hk1⟩
      · have HR := Lib.hid (floR_ok (by omega) hp)
        have HP := Lib.hid hp
        generalize PK.placeN (l.take 8) = k at *
        clear hp
        go_wp2_with (first
          | (go_at_call 165; refine (back_any k _ hw).mono ?_; rw [HP.out, if_pos rfl]; rintro e w' ⟨rfl, rfl⟩))
        go_ret
        exact RPost.mkOk HR.out rfl rfl hr1 hk1

theorem numR_len {l : List UInt8} {n k : Nat} (h : numR l = .ok n k) : 0 < k ∧ k ≤ l.length := by
  unfold numR at h
  split at h
  · rename_i x y e
    injection h with h1 h2
    subst h1 h2
    have h1 := PK.numL_len l 0 0 _ _ _ e
    have h2 := PK.numL_pos l 0 0 _ _ e
    omega
  · cases h

/-- A text of at most so many bytes, in plain words. -/
def txtR (m : Int) (l : List UInt8) : Res (List UInt8) :=
  match numR l with
  | .bad e k => .bad e k
  | .ok n k => if tooB n m then .bad 3 k else if l.length - k < n then .bad 2 k else .ok ((l.drop k).take n) (k + n)

set_option maxHeartbeats 1000000 in
set_option maxRecDepth 100000 in
theorem rs_any (p : Nat) (A : Option Addr) (c : Nat) (bs : List UInt8) (at_ : Nat) (m : Int) (w : World) (hm : (Lit.int .i64 m).wf = true) (hr : Rd 5 w p A c bs at_) :
    Calls Tryz.prog 78 #[.pointer (some ⟨p, 0, none⟩), .int .i64 m] w (RPost 5 34 p A c bs at_ (fun s : List UInt8 => .string ⟨s.toArray⟩) (txtR m (bs.drop at_)) w) := by
  have hx := ru_any p A c bs at_ w hr
  generalize hrest : bs.drop at_ = l at *
  have hll : l.length = bs.length - at_ := by rw [← hrest, List.length_drop]
  have hU : txtR m l = match numR l with | .bad e k => .bad e k | .ok n k => if tooB n m then .bad 3 k else if l.length - k < n then .bad 2 k else .ok ((l.drop k).take n) (k + n) := rfl
  cases hR : numR l with
  | bad code k =>
    rw [hR] at hx hU
    have Hx := Lib.hid hx
    have HU := Lib.hid hU
    clear hx hR hU hrest hll
    go_enter Tryz.func78, Tryz.ntmps78
    go_wp2_with (go_at_call 138; refine Hx.out.mono ?_; rintro e w1 ⟨rfl, hr2, hk2⟩; clear Hx)
    exact ⟨rfl, RPost.mkBad HU.out rfl (by omega) rfl hr2 hk2⟩
  | ok n k =>
    rw [hR] at hx hU
    have Hx := Lib.hid hx
    have hw := numR_w hR
    have hU : txtR m l = if tooB n m = true then .bad 3 k else if l.length - k < n then .bad 2 k else .ok ((l.drop k).take n) (k + n) := hU
    cases ht : tooB n m
    · rw [ht, if_neg (by simp)] at hU
      by_cases hs : l.length - k < n
      · rw [if_pos hs] at hU
        have HU := Lib.hid hU
        have ht2 : tooB n ((bs.length - (at_ + k) : Nat) : Int) = true := by unfold tooB; simp; omega
        have hlw : (Lit.int .i64 ((bs.length - (at_ + k) : Nat) : Int)).wf = true := by
          have := hr.lim
          unfold Lim at this
          simp [Lit.wf, IntKind.min, IntKind.max, IntKind.signed, IntKind.bits]
          omega
        clear hx hR hU hw hrest hll hs
        go_enter Tryz.func78, Tryz.ntmps78
        go_wp2_with (first
          | (go_at_call 138; refine Hx.out.mono ?_; rintro e w1 ⟨rfl, hr2, hk2⟩; clear Hx)
          | (go_at_call 139; refine (above_calls n _ _ (by assumption)).mono ?_; rintro e w2 ⟨rfl, rfl⟩)
          | (go_at_call 81; refine (left_any p A c bs (at_ + k) _ hr2).mono ?_; rintro e w1 ⟨rfl, nq, rfl⟩)
          | (go_at_call 80; refine (fail_any p A c bs (at_ + k) 2 _ (hr2.drewN nq)).mono ?_; rintro e w2 ⟨rfl, rfl⟩))
        exact ⟨rfl, RPost.mkBad HU.out rfl (by omega) rfl (hr2.drewN nq) (hk2.drewN nq)⟩
      · rw [if_neg hs] at hU
        have HU := Lib.hid hU
        have ht2 : tooB n ((bs.length - (at_ + k) : Nat) : Int) = false := by unfold tooB; simp; omega
        have hlw : (Lit.int .i64 ((bs.length - (at_ + k) : Nat) : Int)).wf = true := by
          have := hr.lim
          unfold Lim at this
          simp [Lit.wf, IntKind.min, IntKind.max, IntKind.signed, IntKind.bits]
          omega
        have hk := numR_len hR
        have hlim : (bs.length : Int) ≤ 4294967296 := by have := hr.lim; unfold Lim at this; omega
        have hle := hr.le
        have hn32 : (at_ : Int) + (k : Int) + (n : Int) ≤ (bs.length : Int) := by omega
        have hb3 : at_ + k + n ≤ bs.length := by omega
        have HT := Lib.hid (show (l.drop k).take n = (bs.drop (at_ + k)).take n by rw [← hrest, List.drop_drop])
        obtain ⟨g, rfl⟩ : ∃ g, A = some ⟨g, 0, none⟩ := by
          obtain ⟨g, hg, _⟩ := hr.next (by have := hk.1; omega)
          exact ⟨g, hg⟩
        have hroom := own_room hr.own
        have hk1 := hk.1
        clear hx hR hU hw hrest hll hs hk
        go_enter Tryz.func78, Tryz.ntmps78
        go_wp2_with (first
          | (go_at_call 138; refine Hx.out.mono ?_; rintro e w1 ⟨rfl, hr2, hk2⟩; clear Hx)
          | (go_at_call 139; refine (above_calls n _ _ (by assumption)).mono ?_; rintro e w2 ⟨rfl, rfl⟩)
          | (go_at_call 81; refine (left_any p _ c bs (at_ + k) _ hr2).mono ?_; rintro e w1 ⟨rfl, nq, rfl⟩; have hc1 := hr2.cell1; have hc0 := hr2.cell0; have hf1 := hr2.free1))
        have hr3 := (hr2.drewN nq).step (at_ + k + n) hb3
        have hk3 := (hk2.drewN nq).same (Rd.kp_step (w1.drewN nq) p (.int .i64 ((at_ + k + n : Nat) : Int)))
        rw [show (((at_ + k + n : Nat) : Int)) = (at_ : Int) + (k : Int) + (n : Int) by omega] at hr3 hk3
        clear hc1 hc0 hf1
        generalize (w1.drewN nq).setCell ⟨p, 1, none⟩ (.int .i64 ((at_ : Int) + (k : Int) + (n : Int))) = W2 at *
        have hc1 : W2.cell? ⟨p, 1, none⟩ = some (.int .i64 ((at_ : Int) + (k : Int) + (n : Int))) := by rw [hr3.cell1]; simp
        have hc0 := hr3.cell0
        have hB := Bts.own hr3.own
        have hcut := hB.cut (at_ + k) n c hb3 hroom
        have hlo : (0 : Int) ≤ (at_ : Int) + (k : Int) := by omega
        have hcap : (at_ : Int) + (k : Int) + (n : Int) ≤ (c : Int) := by omega
        by_cases hcc : c = at_ + k
        · have hn0 : n = 0 := by omega
          subst hcc hn0
          have hcv := fun q => run_text (P := Tryz.prog) (W2.drewN q) 30 9 5 (some ⟨g, 0, none⟩) 0 [] Tryz.underlying30 Tryz.underlying5 Tryz.underlying9 (Bts.nil _)
          rw [List.length_nil] at hcv
          clear hcut hB
          go_quiet (fail)
          go_wp2
          go_ret
          exact RPost.mkOk HU.out (by show Value.string _ = Value.string _; rw [List.take_zero]) (by omega) (hr3.drewN _) (hk3.drewN _)
        · have hA : cutA (some ⟨g, 0, none⟩) (at_ + k) c = some ⟨g, at_ + k, none⟩ := by unfold cutA; rw [if_neg hcc]; simp [add_plain]
          rw [hA] at hcut
          have hcv := fun q => run_text (P := Tryz.prog) (W2.drewN q) 30 9 5 _ (c - (at_ + k)) _ Tryz.underlying30 Tryz.underlying5 Tryz.underlying9 (hcut.drewN q)
          rw [show ((bs.drop (at_ + k)).take n).length = n by rw [List.length_take, List.length_drop]; omega] at hcv
          have HA := Lib.hid hA
          have HCUT := Lib.hid hcut
          clear hA hcut hB
          go_quiet (fail)
          go_wp2
          go_ret
          exact RPost.mkOk HU.out (by show Value.string _ = Value.string _; rw [HT.out] <;> rfl) (by omega) (hr3.drewN _) (hk3.drewN _)
    · rw [ht, if_pos rfl] at hU
      have HU := Lib.hid hU
      clear hx hR hU hw hrest hll
      go_enter Tryz.func78, Tryz.ntmps78
      go_wp2_with (first
        | (go_at_call 138; refine Hx.out.mono ?_; rintro e w1 ⟨rfl, hr2, hk2⟩; clear Hx)
        | (go_at_call 139; refine (above_calls n m _ hm).mono ?_; rintro e w2 ⟨rfl, rfl⟩)
        | (go_at_call 80; refine (fail_any p A c bs (at_ + k) 3 _ hr2).mono ?_; rintro e w2 ⟨rfl, rfl⟩))
      exact ⟨rfl, RPost.mkBad HU.out rfl (by omega) rfl hr2 hk2⟩

end Go.Proofs.YtaaeefndhmfceaaGreatDoor
/- Contracts: a new reader; a part that is read. -/
namespace Go.Proofs.YtaaeefndhmfceaaGreatDoor
open Go.RowKit MM

/-- A new reader. -/
def NewPost (E : TypeId) (bs : List UInt8) (w : World) (e : Ending) (w' : World) : Prop :=
  ∃ q A c, e = .returned (.pointer (some ⟨q, 0, none⟩)) ∧ Rd E w' q A c bs 0 ∧ w.heap.size ≤ q ∧ (∀ k, ob A = some k → w.heap.size ≤ k) ∧ Below w.heap.size w w'

set_option maxHeartbeats 1000000 in
set_option maxRecDepth 100000 in
theorem new_any (A : Option Addr) (c : Nat) (bs : List UInt8) (w : World) (hb : Bts w A bs) (hl : Lim bs.length) :
    Calls Tryz.prog 39 #[.slice A bs.length c] w (NewPost 5 bs w) := by
  have HB := Lib.hid hb
  clear hb
  go_enter Tryz.func39, Tryz.ntmps39
  go_wp2_with fail
  refine (clone_any A c bs _ HB.out hl).mono ?_
  rintro e w1 ⟨A1, c1, rfl, ho1, hk1, hb1⟩
  go_wp2
  go_ret
  exact ⟨w1.heap.size, A1, c1, rfl, Rd.new ho1 hl, hb1.size, hk1, hb1.alloc hb1.size _⟩

/-- A part of a kind, in plain words. -/
def Res.map {α β : Type} (f : α → β) : Res α → Res β
  | .ok x n => .ok (f x) n
  | .bad e n => .bad e n
def PK.zeroPt (k : Nat) : PK.Pt := ⟨k, 0, 0, 0, ⟨#[]⟩, false⟩
def partR (k : Nat) (m : Int) (l : List UInt8) : Res PK.Pt :=
  if k = 117 then Res.map (fun n => { PK.zeroPt 117 with u := n }) (numR l)
  else if k = 105 then Res.map (fun n => { PK.zeroPt 105 with i := PK.zag n }) (numR l)
  else if k = 102 then Res.map (fun x => { PK.zeroPt 102 with f := x }) (floR l)
  else if k = 115 then Res.map (fun s => { PK.zeroPt 115 with s := ⟨s.toArray⟩ }) (txtR m l)
  else if k = 98 then Res.map (fun b => { PK.zeroPt 98 with b := b }) (flagR l)
  else .bad 5 0

end Go.Proofs.YtaaeefndhmfceaaGreatDoor
