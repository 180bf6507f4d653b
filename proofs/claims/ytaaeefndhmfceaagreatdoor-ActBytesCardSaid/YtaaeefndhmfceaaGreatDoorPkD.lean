/- Contracts of the document's own answers for layer 2: numbers that are read. -/
import Derived.Test.YtaaeefndhmfceaaGreatDoorPkO
import Derived.Test.YtaaeefndhmfceaaGreatDoorPkF
import Derived.Deep.OwnRows
import Derived.Lib.ConvBytes
import Derived.Deep.RegionLaw
namespace Go.Proofs.YtaaeefndhmfceaaGreatDoor
open Go.RowKit MM

theorem ref_bits (i n b : Nat) (hn : n < 128 ^ i) (hi : i ≤ 9) (hb : b < 256) (h9 : i = 9 → b ≤ 1) :
    IntKind.u64.wrap ((n : Int) + IntKind.u64.wrap (((b % 128 : Nat) : Int) * ((128 ^ i : Nat) : Int))) = ((n + b % 128 * 128 ^ i : Nat) : Int) := by
  have hx : b % 128 * 128 ^ i ≤ 9223372036854775808 := by
    by_cases h : i = 9
    · have := h9 h
      subst h
      have : b % 128 ≤ 1 := by omega
      have h2 : (128 : Nat) ^ 9 = 9223372036854775808 := by decide
      rw [h2]
      omega
    · have h1 : b % 128 ≤ 127 := by omega
      have h2 : (128 : Nat) ^ i ≤ 128 ^ 8 := Nat.pow_le_pow_right (by omega) (by omega)
      have h4 : b % 128 * 128 ^ i ≤ 127 * 128 ^ 8 := Nat.mul_le_mul h1 h2
      have h5 : (128 : Nat) ^ 8 = 72057594037927936 := by decide
      rw [h5] at h4
      omega
  have hn' : n < 9223372036854775808 := by
    have h2 : (128 : Nat) ^ i ≤ 128 ^ 9 := Nat.pow_le_pow_right (by omega) hi
    have h3 : (128 : Nat) ^ 9 = 9223372036854775808 := by decide
    omega
  rw [← Int.natCast_mul]
  generalize b % 128 * 128 ^ i = y at *
  rw [IntKind.wrap_u64, IntKind.wrap_u64]
  omega

/-- What num answers. -/
def RNum (xs : List UInt8) (w : World) (e : Ending) (w' : World) : Prop :=
  e = .returned (.tuple #[.int .u64 ((PK.numL 0 0 xs).1 : Nat), .int .i64 ((PK.numL 0 0 xs).2.1 : Nat), .int .i64 ((PK.numL 0 0 xs).2.2 : Nat)]) ∧ w = w'
theorem RNum.mk {xs : List UInt8} {w : World} {a b c : Nat} {x y z : Int} (h : PK.numL 0 0 xs = (a, b, c)) (hx : x = (a : Int)) (hy : y = (b : Int)) (hz : z = (c : Int)) :
    RNum xs w (.returned (.tuple #[.int .u64 x, .int .i64 y, .int .i64 z])) w := by
  subst hx hy hz
  exact ⟨by rw [h], rfl⟩

set_option maxHeartbeats 1000000 in
set_option maxRecDepth 100000 in
theorem rnum_any (A : Option Addr) (c : Nat) (xs : List UInt8) (w : World) (hb : Bts w A xs) (hl : Lim xs.length) :
    Calls Tryz.prog 169 #[.slice A xs.length c] w fun e w' => RNum xs w e w' := by
  have hl' : (xs.length : Int) ≤ 4294967296 := by unfold Lim at hl; omega
  have HB := Lib.hid hb
  clear hb
  go_enter Tryz.func169, Tryz.ntmps169
  go_wp2_with fail
  go_loop [5, 6, 7] (fun tn tw ti => ∃ i n : Nat, tn = .int .u64 n ∧ tw = .int .u64 ((128 ^ i : Nat) : Int) ∧ ti = .int .i64 i ∧ i ≤ 9 ∧ i ≤ xs.length ∧ n < 128 ^ i ∧ PK.numL 0 0 xs = PK.numL i n (xs.drop i)) (fun _ _ ti => xs.length - (intOf ti).toNat)
  case atStart => exact ⟨0, 0, rfl, rfl, rfl, by omega, by omega, by simp, rfl⟩
  case round =>
    obtain ⟨i, n, rfl, rfl, rfl, hi, hil, hn, hr⟩ := hrel
    by_cases hlt : i < xs.length
    · have hx : xs ≠ [] := fun e => by subst e; simp at hlt
      rw [List.drop_eq_getElem_cons hlt] at hr
      have hr : PK.numL 0 0 xs = if i = 9 ∧ 1 < (xs[i]).toNat then (0, i + 1, 1) else if (xs[i]).toNat < 128 then if (xs[i]).toNat = 0 ∧ 0 < i then (0, i + 1, 4) else (n + (xs[i]).toNat * 128 ^ i, i + 1, 0) else PK.numL (i + 1) (n + (xs[i]).toNat % 128 * 128 ^ i) (xs.drop (i + 1)) := hr
      obtain ⟨b, off, rfl, hcell⟩ : ∃ b off, A = some ⟨b, off, none⟩ ∧ w.cell? ⟨b, off + i, none⟩ = some (.int .u8 (xs[i]).toNat) := by
        have hB := HB.out
        cases A with
        | none => exact absurd hB hx
        | some ad =>
          have h1 := hB i _ (bc_get xs i hlt)
          obtain ⟨b, off, spot⟩ := ad
          have h0 := hB 0 _ (bc_get xs 0 (by omega))
          have hspot : spot = none := by simpa [Addr.add] using World.cell?_spot h0
          subst hspot
          rw [MM.add_plain] at h1
          exact ⟨b, off, rfl, h1⟩
      have hcv := (xs[i]).toNat_lt
      generalize (xs[i]).toNat = bv at *
      have Hn := Lib.hid hn
      have hx1 : (i : Int) < (xs.length : Int) := by omega
      by_cases c9 : i = 9 ∧ 1 < bv
      · rw [if_pos c9] at hr
        obtain ⟨rfl, h1⟩ := c9
        have h1' : decide ((1 : Int) < (bv : Int)) = true := by simp; omega
        have Hr := Lib.hid hr
        clear hr hn
        go_wp2
        go_ret3
        exact RNum.mk Hr.out rfl rfl rfl
      · rw [if_neg c9] at hr
        have hbits := ref_bits i n bv hn hi (by omega) (by omega)
        by_cases hc : bv < 128
        · rw [if_pos hc] at hr
          by_cases hz : bv = 0 ∧ 0 < i
          · rw [if_pos hz] at hr
            have Hr := Lib.hid hr
            have Hb := Lib.hid hbits
            clear hr hn hbits
            obtain ⟨rfl, hi0⟩ := hz
            have h9 : i = 9 → False ∨ True := fun _ => .inr trivial
            by_cases i9 : i = 9
            · subst i9
              go_wp2
              go_ret3
              exact RNum.mk Hr.out rfl rfl rfl
            · go_wp2
              go_ret3
              exact RNum.mk Hr.out rfl (by omega) rfl
          · rw [if_neg hz] at hr
            rw [show bv % 128 = bv by omega] at hbits
            have hm : ((bv : Int) % 128) = bv := by omega
            have Hr := Lib.hid hr
            have Hb := Lib.hid hbits
            clear hr hn hbits
            by_cases i9 : i = 9
            · subst i9
              obtain rfl : bv = 1 := by omega
              go_wp2
              go_ret3
              exact RNum.mk Hr.out Hb.out rfl rfl
            · by_cases hb0 : bv = 0
              · subst hb0
                obtain rfl : i = 0 := by omega
                rw [Nat.add_zero] at hcell
                obtain rfl : n = 0 := by have := Hn.out; simpa using this
                go_wp2
                go_ret3
                exact RNum.mk Hr.out (by first | exact Hb.out | rfl | decide) (by first | rfl | omega) rfl
              · go_wp2
                go_ret3
                exact RNum.mk Hr.out Hb.out (by omega) rfl
        · rw [if_neg hc] at hr
          have i9 : ¬ i = 9 := by omega
          have Hlt := Lib.hid (step_lt i n bv hn)
          have Hr := Lib.hid hr
          have Hb := Lib.hid hbits
          have Hw := Lib.hid (show IntKind.u64.wrap (((128 ^ i : Nat) : Int) * 128) = ((128 ^ (i + 1) : Nat) : Int) from by
            have h2 : (128 : Nat) ^ i ≤ 128 ^ 8 := Nat.pow_le_pow_right (by omega) (by omega)
            have h5 : (128 : Nat) ^ 8 = 72057594037927936 := by decide
            rw [h5] at h2
            rw [Nat.pow_succ, IntKind.wrap_u64]
            omega)
          clear hr hn hbits
          go_wp2
          go_round
          case rel => exact ⟨i + 1, _, congrArg (Value.int .u64) Hb.out, congrArg (Value.int .u64) Hw.out, by go_num, by omega, by omega, Hlt.out, Hr.out⟩
          case measure => simp [intOf]; omega
    · have hie : i = xs.length := by omega
      subst hie
      rw [List.drop_length] at hr
      have Hr := Lib.hid hr
      clear hr hn
      go_wp2
      go_ret3
      exact RNum.mk Hr.out rfl rfl rfl

end Go.Proofs.YtaaeefndhmfceaaGreatDoor
/- Contracts of the document's own answers for layer 2: places, signs, numbers as bytes. -/
namespace Go.Proofs.YtaaeefndhmfceaaGreatDoor
open Go.RowKit MM

set_option maxHeartbeats 400000 in
set_option maxRecDepth 100000 in
theorem rzag_any (n : Nat) (w : World) (hn : MF.W64 n) :
    Calls Tryz.prog 170 #[.int .u64 n] w fun e w' => e = .returned (.int .i64 (PK.zag n)) ∧ w = w' := by
  have Hn := Lib.hid hn
  clear hn
  by_cases h : n % 2 = 1
  · have h' : (n : Int) % 2 = 1 := by omega
    go_enter Tryz.func170, Tryz.ntmps170
    go_wp2
    go_ret
    refine ⟨ret_int ?_, rfl⟩
    have := Hn.out
    unfold MF.W64 at this
    unfold PK.zag
    rw [if_pos h]
    simp only [wrap64, IntKind.wrap_u64] at *
    omega
  · have h' : ¬ (n : Int) % 2 = 1 := by omega
    go_enter Tryz.func170, Tryz.ntmps170
    go_wp2
    go_ret
    refine ⟨ret_int ?_, rfl⟩
    have := Hn.out
    unfold MF.W64 at this
    unfold PK.zag
    rw [if_neg h]
    simp only [wrap64, IntKind.wrap_u64] at *
    omega

set_option maxHeartbeats 400000 in
set_option maxRecDepth 100000 in
theorem rzig_any (n : Int) (w : World) (hn : (Lit.int .i64 n).wf = true) :
    Calls Tryz.prog 144 #[.int .i64 n] w fun e w' => e = .returned (.int .u64 (PK.zig n)) ∧ w = w' := by
  have Hn := Lib.hid (wf_i64 hn)
  clear hn
  by_cases h : n < 0
  · go_enter Tryz.func144, Tryz.ntmps144
    go_wp2
    go_ret
    refine ⟨ret_int ?_, rfl⟩
    have := Hn.out
    unfold PK.zig
    rw [if_pos h]
    simp only [wrap64, IntKind.wrap_u64] at *
    omega
  · go_enter Tryz.func144, Tryz.ntmps144
    go_wp2
    go_ret
    refine ⟨ret_int ?_, rfl⟩
    have := Hn.out
    unfold PK.zig
    rw [if_neg (by omega)]
    simp only [IntKind.wrap_u64] at *
    omega

theorem proper_low {b : Nat} (h : b < 9223372036854775808) : MF.proper b = (decide (b ≤ 9218868437227405312) || b == 9221120237041090561) := by
  have hr : MF.rung b = b := Nat.mod_eq_of_lt h
  unfold MF.proper MF.canon MF.nan
  rw [hr]
  by_cases h1 : 9218868437227405312 < b
  · rw [decide_eq_true h1, decide_eq_false (by omega)]
    simp
  · rw [decide_eq_false h1, decide_eq_true (by omega)]
    simp
theorem proper_high {b : Nat} (h : b < 9223372036854775808) : MF.proper (b + 9223372036854775808) = decide (b ≤ 9218868437227405312) := by
  have hr : MF.rung (b + 9223372036854775808) = b := by unfold MF.rung; omega
  unfold MF.proper MF.canon MF.nan
  rw [hr]
  by_cases h1 : 9218868437227405312 < b
  · rw [decide_eq_true h1, decide_eq_false (by omega)]
    simp only [if_true]
    rw [Bool.eq_iff_iff]
    simp
  · rw [decide_eq_false h1, decide_eq_true (by omega)]
    simp

set_option maxHeartbeats 400000 in
set_option maxRecDepth 100000 in
theorem rnumber_any (k : Nat) (w : World) (hk : MF.W64 k) :
    Calls Tryz.prog 168 #[.int .u64 k] w fun e w' => e = .returned (.bool (MF.proper (MF.bk k))) ∧ w = w' := by
  unfold MF.W64 at hk
  by_cases h : k < 9223372036854775808
  · have h' : ¬ (9223372036854775808 : Int) ≤ (k : Int) := by omega
    go_enter Tryz.func168, Tryz.ntmps168
    go_wp2
    go_ret
    refine ⟨ret_bool ?_, rfl⟩
    have e : MF.bk k = (9223372036854775807 - k) + 9223372036854775808 := by unfold MF.bk; rw [if_pos h]; omega
    rw [e, proper_high (by omega), Bool.eq_iff_iff]
    simp only [decide_eq_true_eq]
    omega
  · have h' : (9223372036854775808 : Int) ≤ (k : Int) := by omega
    have e : MF.bk k = k - 9223372036854775808 := by unfold MF.bk; rw [if_neg h]
    have e2 : MF.proper (MF.bk k) = (decide ((k : Int) ≤ 18442240474082181120) || decide ((k : Int) = 18444492273895866369)) := by
      rw [e, proper_low (by omega), Bool.eq_iff_iff]
      simp only [Bool.or_eq_true, decide_eq_true_eq, beq_iff_eq]
      omega
    rw [e2]
    clear e e2
    by_cases h1 : (k : Int) ≤ 18442240474082181120
    · rw [decide_eq_true h1, Bool.true_or]
      have h2 : (k : Int) - 9223372036854775808 ≤ 9218868437227405312 := by omega
      go_enter Tryz.func168, Tryz.ntmps168
      go_wp2
      go_ret
      exact ⟨rfl, rfl⟩
    · rw [decide_eq_false h1, Bool.false_or]
      have h2 : ¬ (k : Int) - 9223372036854775808 ≤ 9218868437227405312 := by omega
      by_cases h3 : (k : Int) = 18444492273895866369
      · rw [decide_eq_true h3]
        go_enter Tryz.func168, Tryz.ntmps168
        go_wp2
        go_ret
        exact ⟨ret_bool (by first | rfl | (simp; done) | (simp; omega)), rfl⟩
      · rw [decide_eq_false h3]
        go_enter Tryz.func168, Tryz.ntmps168
        go_wp2
        go_ret
        exact ⟨ret_bool (by simp; omega), rfl⟩

/-- New bytes, to be read alone. -/
def FreshB (xs : List UInt8) (w : World) (e : Ending) (w' : World) : Prop :=
  ∃ A c, e = .returned (.slice A xs.length c) ∧ Bts w' A xs ∧ (A = none → c = 0) ∧ Below w.heap.size w w'

theorem FreshB.of_own {E : TypeId} {w w2 : World} {A : Option Addr} {n c : Nat} {zs : List Value} {xs : List UInt8} (ho : w2.ownsRow 0 E 1 (.slice A n c) n zs) (hn : n = xs.length) (hz : zs = bc xs) (hb : Below w.heap.size w w2) :
    FreshB xs w (.returned (.slice A n c)) w2 := by
  subst hn hz
  exact ⟨A, c, rfl, Bts.own ho, fun e => by subst e; exact own_cap ho, hb⟩
theorem Fresh.of_own {E : TypeId} {w w2 : World} {A : Option Addr} {n c : Nat} {zs : List Value} {xs : List UInt8} (ho : w2.ownsRow 0 E 1 (.slice A n c) n zs) (hn : n = xs.length) (hz : zs = bc xs) (hk : ∀ k, ob A = some k → w.heap.size ≤ k) (hb : Below w.heap.size w w2) :
    Fresh E xs w (.returned (.slice A n c)) w2 := by
  subst hn hz
  exact ⟨A, c, rfl, ho, hk, hb⟩
theorem Fresh.toB {E : TypeId} {w w2 : World} {xs : List UInt8} {e : Ending} (h : Fresh E xs w e w2) : FreshB xs w e w2 := by
  obtain ⟨A, c, rfl, ho, hk, hb⟩ := h
  exact FreshB.of_own ho rfl rfl hb
theorem bts_new (w : World) (t : TypeId) (xs : List UInt8) : Bts (w.alloc (.cells (bc xs).toArray t)) (some ⟨w.heap.size, 0, none⟩) xs := by
  intro j v hv
  rw [MM.add_plain, Nat.zero_add]
  refine (cell_of_row _ _ j _ t (0, 0) (heap_alloc_new w _)).trans ?_
  simpa using hv

set_option maxHeartbeats 1000000 in
set_option maxRecDepth 100000 in
theorem rdigits_any : ∀ (n : Nat) (w : World), MF.W64 n →
    Calls Tryz.prog 143 #[.int .u64 n] w (Fresh 5 (PK.digits n) w) := by
  obtain ⟨i0, hi0, hz0, hz1, hz2⟩ := info_parts byte_info
  intro n
  induction n using Nat.strongRecOn with
  | ind n ih =>
    intro w hn
    by_cases h : n < 128
    · clear hn
      go_enter Tryz.func143, Tryz.ntmps143
      go_wp2
      go_ret
      have ho := World.ownsRow_lit (base := 0) (e := 5) (size := 1) w #[.int .u8 (n : Int)] 1 (Nat.zero_le _) (by unfold maxLen; omega) rfl
      exact Fresh.of_own ho (by rw [PK.digits_small h]; rfl) (by rw [PK.digits_small h, ← bc_of n (by omega)]) (fun k e => by have e : some w.heap.size = some k := e; injection e with e; omega) ((Below.refl _ w).alloc (Nat.le_refl _) _)
    · have hl := PK.digits_length hn
      have hlim : Lim (1 + (PK.digits (n / 128)).length) := by
        rw [PK.digits_big h, List.length_cons] at hl
        unfold Lim; omega
      have hP := ih (n / 128) (by omega) (w.alloc (.cells #[.int .u8 ((n % 128 + 128 : Nat) : Int)] 5)) (by unfold MF.W64 at *; omega)
      have HP := Lib.hid hP
      have Hn := Lib.hid hn
      clear hP hn ih hl
      have ho := World.ownsRow_lit (base := 0) (e := 5) (size := 1) w #[.int .u8 ((n % 128 + 128 : Nat) : Int)] 1 (Nat.zero_le _) (by unfold maxLen; omega) rfl
      have Ho := Lib.hid ho
      clear ho
      go_enter Tryz.func143, Tryz.ntmps143
      go_wp2_with fail
      rw [show IntKind.u64.wrap ((n : Int) / 128) = ((n / 128 : Nat) : Int) from by rw [IntKind.wrap_u64]; have := Hn.out; unfold MF.W64 at this; omega, show ((n : Int) % 128 + 128) = ((n % 128 + 128 : Nat) : Int) from by omega]
      refine HP.out.mono ?_
      rintro e w1 ⟨A1, c1, rfl, hB1, hn1, hb⟩
      have hc : A1 = none → c1 = 0 := fun e => by subst e; exact own_cap hB1
      have hB := Bts.own hB1
      go_wp2_with (first
      | (at_builtin
         refine wpList_append_at rfl (.tmp 12) (.tmp 15) _ _ rfl 5 i0 _ 1 1 Tryz.underlying30 hi0 hz0 hz1 hz2 rfl _ 1 1 _ rfl (own_below Ho.out hb) _ _ _ rfl (hB.src Tryz.underlying30 hc) hlim.len hlim.fits ?_
         intro A2 c2 w2 ho2 hg2 hat2))
      go_ret
      have hk : Kp (fun _ => False) w w2 := (((Kp.refl _ w).alloc _).trans (Kp.of_below hb (fun _ => False)) (fun _ _ x => x)).grown hg2 (fun k e => .inr (by have e : some w.heap.size = some k := e; injection e with e; omega))
      refine Fresh.of_own ho2 (by rw [PK.digits_big h, List.length_cons]; omega) (by rw [PK.digits_big h, show ((n % 128 + 128).toUInt8 :: PK.digits (n / 128)) = [(n % 128 + 128).toUInt8] ++ PK.digits (n / 128) from rfl, bc_append, ← bc_of _ (by omega)]) ?_ (hk.below (Nat.le_refl _) (fun _ _ x => x))
      intro k e
      rcases hat2 with h2 | h2
      · rw [h2] at e; have e : some w.heap.size = some k := e; injection e with e; omega
      · rw [h2] at e; injection e with e; have := hb.size; have h3 := (Below.refl w.heap.size w).alloc (Nat.le_refl _) (.cells #[.int .u8 ((n % 128 + 128 : Nat) : Int)] 5); have := h3.size; omega

theorem place_cells (k : Nat) : ∀ x, x < 8 → (bc (PK.placeB k))[x]? = some (.int .u8 ((k / 256 ^ (7 - x) % 256 : Nat) : Int)) := by
  intro x hx
  rw [bc_get _ x (by rw [PK.placeB_length]; exact hx)]
  simp only [PK.placeB, List.getElem_map, List.getElem_range]
  rw [PK.toUInt8_toNat (Nat.mod_lt _ (by omega))]

set_option maxHeartbeats 1000000 in
set_option maxRecDepth 100000 in
theorem rplace_any (k : Nat) (w : World) (hk : MF.W64 k) :
    Calls Tryz.prog 145 #[.int .u64 k] w (FreshB (PK.placeB k) w) := by
  have hmk : ∀ w : World, (Instr.makeSlice 30 (.int .i64 8) (.int .i64 8)).run Tryz.prog w = .ok (.slice (some ⟨w.heap.size, 0, none⟩) 8 8) (w.alloc (.cells (madeCells #[.int .u8 0] 8) 5)) := run_make_row' (P := Tryz.prog) 30 5 (.int .u8 0) 1 Tryz.underlying30 byte_info rfl .i64 .i64 8 (by omega) (by omega)
  have Hk := Lib.hid hk
  clear hk
  go_enter Tryz.func145, Tryz.ntmps145
  go_wp2_with fail
  go_loopw [0, 4] (fun tk ti wr => ∃ j : Nat, j ≤ 8 ∧ tk = .int .u64 ((k / 256 ^ (8 - j) : Nat) : Int) ∧ ti = .int .i64 ((j : Int) - 1) ∧ (∀ x, x < 8 → wr.cell? ⟨w.heap.size, x, none⟩ = some (.int .u8 ((if x < j then 0 else k / 256 ^ (7 - x) % 256 : Nat) : Int))) ∧ (∀ x, wr.frozen? ⟨w.heap.size, x, none⟩ = false) ∧ Below w.heap.size w wr) (fun _ ti _ => (intOf ti + 1).toNat)
  case atStart =>
    refine ⟨8, Nat.le_refl _, ?_, rfl, ?_, ?_, (Below.refl _ w).alloc (Nat.le_refl _) _⟩
    · simp
    · intro x hx
      rw [if_pos hx]
      refine (cell_of_row _ _ x _ _ (0, 0) (heap_alloc_new w _)).trans ?_
      obtain rfl | rfl | rfl | rfl | rfl | rfl | rfl | rfl : x = 0 ∨ x = 1 ∨ x = 2 ∨ x = 3 ∨ x = 4 ∨ x = 5 ∨ x = 6 ∨ x = 7 := by omega
      all_goals kernel_rfl
    · exact fun x => frozen_of_row _ _ x _ _ (heap_alloc_new w _)
  case round =>
    obtain ⟨j, hj, rfl, rfl, hcells, hfr, hb⟩ := hrel
    cases j with
    | zero =>
      go_wp2
      go_ret
      refine ⟨some ⟨w.heap.size, 0, none⟩, 8, by rw [PK.placeB_length]; rfl, ?_, by simp, hb⟩
      intro x v hv
      have hx : x < 8 := by
        have := (List.getElem?_eq_some_iff.1 hv).1
        rwa [bc_length, PK.placeB_length] at this
      rw [place_cells k x hx] at hv
      injection hv with hv
      subst hv
      rw [MM.add_plain, Nat.zero_add]
      exact hcells x hx
    | succ i =>
      have hi : ((i + 1 : Nat) : Int) - 1 = (i : Int) := by omega
      rw [hi]
      have hc := hcells i (by omega)
      have hf := hfr i
      have Hc := Lib.hid hcells
      have Hf := Lib.hid hfr
      clear hcells hfr
      have hq : k / 256 ^ (8 - (i + 1)) / 256 = k / 256 ^ (8 - i) := by
        rw [Nat.div_div_eq_div_mul, ← Nat.pow_succ]
        congr 2
        omega
      have hq7 : 8 - (i + 1) = 7 - i := by omega
      rw [hq7] at hq ⊢
      have Hq := Lib.hid hq
      clear hq hq7
      have hkb : (k / 256 ^ (7 - i) : Nat) ≤ k := Nat.div_le_self _ _
      have Hkb := Lib.hid hkb
      clear hkb
      generalize hy : k / 256 ^ (7 - i) = y at *
      have Hy := Lib.hid hy
      clear hy
      have h7 : (i : Int) ≤ 7 := by omega
      go_wp2
      go_roundw
      case rel =>
        have hkb := Hkb.out
        have hkl := Hk.out
        unfold MF.W64 at hkl
        refine ⟨i, by omega, congrArg (Value.int .u64) ?_, ?_, ?_, ?_, ?_⟩
        · rw [← Hq.out]
          first | omega | (rw [IntKind.wrap_u64]; omega)
        · first | rfl | (apply congrArg (Value.int .i64); omega)
        · intro x hx
          by_cases hxi : x = i
          · subst hxi
            rw [if_neg (by omega), Hy.out]
            refine (World.cell?_setCell_same _ _ _ hc).trans ?_
            apply congrArg some
            apply congrArg (Value.int .u8)
            first | omega | (rw [IntKind.wrap_u8]; omega)
          · refine (World.cell?_setCell_other _ _ _ _ (fun e => hxi (by injection e with _ e; exact e.symm))).trans ?_
            rw [Hc.out x hx]
            by_cases hlt : x < i
            · rw [if_pos hlt, if_pos (by omega)]
            · rw [if_neg hlt, if_neg (by omega)]
        · exact fun x => (World.frozen?_setCell _ _ _ _).trans (Hf.out x)
        · exact hb.setCell (Nat.le_refl _) _
      case measure => simp [intOf]

end Go.Proofs.YtaaeefndhmfceaaGreatDoor
/- Contracts of the document's own answers for layer 2: parts as bytes. -/
namespace PK
open Go

/-- A part of the document's: a floating number by its place. -/
structure Rp where
  k : Nat
  u : Nat
  i : Int
  p : Nat
  s : ByteArray
  b : Bool
structure Rp.ok (q : Rp) : Prop where
  k : q.k < 256
  u : MF.W64 q.u
  i : (Lit.int .i64 q.i).wf = true
  p : MF.W64 q.p
def Rp.cells (q : Rp) : Array Value := #[.int .u8 q.k, .int .u64 q.u, .int .i64 q.i, .int .u64 q.p, .string q.s, .bool q.b]
/-- It as bytes. -/
def refB (q : Rp) : List UInt8 :=
  if q.k = 117 then digits q.u else if q.k = 105 then digits (zig q.i) else if q.k = 102 then placeB q.p else if q.k = 115 then textB q.s.data.toList else if q.k = 98 then flagB q.b else []
def refsB : List Rp → List UInt8
  | [] => []
  | q :: l => refB q ++ refsB l
theorem refsB_append (a b : List Rp) : refsB (a ++ b) = refsB a ++ refsB b := by
  induction a with
  | nil => rfl
  | cons p l ih => simp [refsB, ih]
theorem refsB_take (l : List Rp) (i : Nat) (h : i < l.length) : refsB (l.take (i + 1)) = refsB (l.take i) ++ refB l[i] := by
  rw [List.take_succ_eq_append_getElem h, refsB_append]; simp [refsB]
theorem refsB_le (l : List Rp) (i : Nat) : (refsB (l.take i)).length ≤ (refsB l).length := by
  have := congrArg List.length (refsB_append (l.take i) (l.drop i))
  rw [List.take_append_drop, List.length_append] at this
  omega
/-- A part as the document's, without what its kind doesn't have. -/
def plainP (q : Pt) : Rp := ⟨q.k, if q.k = 117 then q.u else 0, if q.k = 105 then q.i else 0, if q.k = 102 then MF.key q.f else 0, if q.k = 115 then q.s else ⟨#[]⟩, if q.k = 98 then q.b else false⟩
theorem refB_plain (q : Pt) : refB (plainP q) = partB q := by
  unfold refB plainP partB
  by_cases h1 : q.k = 117
  · simp [h1]
  by_cases h2 : q.k = 105
  · simp [h2]
  by_cases h3 : q.k = 102
  · simp [h3]
  by_cases h4 : q.k = 115
  · simp [h4]
  by_cases h5 : q.k = 98
  · simp [h5]
  simp [h1, h2, h3, h4, h5]
theorem refsB_plain (l : List Pt) : refsB (l.map plainP) = partsB l := by
  induction l with
  | nil => rfl
  | cons q l ih => simp [refsB, partsB, ih, refB_plain]
end PK
namespace Go.Proofs.YtaaeefndhmfceaaGreatDoor
open Go.RowKit MM

theorem below_bw (w : World) (e : TypeId) (s : ByteArray) : Below w.heap.size w (Lib.bytesWorld w e s) :=
  ⟨rfl, rfl, rfl, by rw [Lib.bytesWorld_size]; omega, fun j hj => Lib.bytesWorld_at_old w e s j hj⟩
theorem bw_keep {w : World} {e : TypeId} {s : ByteArray} {a : Addr} {v : Value} (h : w.cell? a = some v) : (Lib.bytesWorld w e s).cell? a = some v :=
  (Lib.bytesWorld_old w e s a (World.block_lt_of_cell? w a h)).trans h
theorem below_keep {w w' : World} {a : Addr} {v : Value} (hb : Below w.heap.size w w') (h : w.cell? a = some v) : w'.cell? a = some v :=
  (hb.cell (World.block_lt_of_cell? w a h)).trans h
theorem bts_bw (w : World) (e : TypeId) (s : ByteArray) : Bts (Lib.bytesWorld w e s) (some ⟨w.heap.size, 0, none⟩) s.data.toList := by
  intro j v hv
  have hj : j < s.data.toList.length := by
    have := (List.getElem?_eq_some_iff.1 hv).1
    rwa [bc_length] at this
  rw [bc_get _ j hj] at hv
  injection hv with hv
  subst hv
  rw [MM.add_plain, Nat.zero_add, Lib.bytesWorld_cell w e s j (by rwa [sz_list] at hj)]
  rw [List.getD_eq_getElem?_getD, List.getElem?_eq_getElem hj]
  rfl
theorem src_bw {tx e' : TypeId} (hk : Tryz.prog.underlying tx = some (.slice e')) (w : World) (e : TypeId) (s : ByteArray) (c : Nat) : Src Tryz.prog 1 tx (.slice (some ⟨w.heap.size, 0, none⟩) s.size c) s.size (bc s.data.toList) (Lib.bytesWorld w e s) :=
  (bts_bw w e s).src (c := c) hk (by simp)

theorem src_bw2 {tx e' : TypeId} (hk : Tryz.prog.underlying tx = some (.slice e')) (w : World) (e : TypeId) (s : ByteArray) (c : Nat) {w1 : World} (hb : Below (Lib.bytesWorld w e s).heap.size (Lib.bytesWorld w e s) w1) : Src Tryz.prog 1 tx (.slice (some ⟨w.heap.size, 0, none⟩) s.size c) s.size (bc s.data.toList) w1 :=
  ((bts_bw w e s).below hb).src (c := c) hk (by simp)

set_option maxHeartbeats 400000 in
set_option maxRecDepth 100000 in
theorem rone_text (u : Nat) (i : Int) (p : Nat) (s : ByteArray) (b : Bool) (w : World) (hl : Lim (PK.textB s.data.toList).length) :
    Calls Tryz.prog 82 #[.agg #[.int .u8 115, .int .u64 u, .int .i64 i, .int .u64 p, .string s, .bool b]] w (FreshB (PK.textB s.data.toList) w) := by
  obtain ⟨i0, hi0, hz0, hz1, hz2⟩ := info_parts byte_info
  have hcvs : ∀ w : World, (convert 9 30 (.string s)).run Tryz.prog w = .ok (.slice (some ⟨w.heap.size, 0, none⟩) s.size (grownCap w s.size 0 5)) (Lib.bytesWorld w 5 s) :=
    fun w => Lib.run_convert_string_bytes w 9 30 5 s Tryz.underlying9 Tryz.underlying30 Tryz.underlying5
  have hlt : (PK.textB s.data.toList).length = (PK.digits s.size).length + s.size := by unfold PK.textB; rw [List.length_append]; rfl
  have hw : MF.W64 s.size := by unfold MF.W64; unfold Lim at hl; omega
  have hlim : Lim ((PK.digits s.size).length + s.size) := by rw [← hlt]; exact hl
  have hs32 : (s.size : Int) < 4294967296 := by unfold Lim at hlim; omega
  have Hw := Lib.hid hw
  have hwr : IntKind.u64.wrap (s.size : Int) = (s.size : Int) := by rw [IntKind.wrap_u64]; unfold MF.W64 at hw; omega
  clear hl hlt hw
  go_enter Tryz.func82, Tryz.ntmps82
  go_wp2
  obtain ⟨w0, hw0⟩ : ∃ w0, w0 = w.alloc (.cells #[.int .u8 115, .int .u64 u, .int .i64 i, .int .u64 p, .string s, .bool b] 115) := ⟨_, rfl⟩
  rw [← hw0]
  have hc4 : w0.cell? ⟨w.heap.size, 4, none⟩ = some (.string s) := by rw [hw0]; exact (cell_of_row _ _ 4 _ _ (0, 0) (heap_alloc_new w _)).trans rfl
  have hbw : Below w.heap.size w w0 := by rw [hw0]; exact (Below.refl _ w).alloc (Nat.le_refl _) _
  have hsz : w0.heap.size = w.heap.size + 1 := by rw [hw0]; simp
  have hlt0 : w.heap.size < w0.heap.size := by omega
  clear hw0
  have hc4d : w0.drew.cell? ⟨w.heap.size, 4, none⟩ = some (.string s) := hc4
  have hc4b := bw_keep (e := 5) (s := s) hc4d
  go_region_law (first
      | (refine step_append_at rfl (.tmp 29) (.tmp 32) _ _ rfl 5 i0 _ 1 1 Tryz.underlying30 hi0 hz0 hz1 hz2 rfl A1 (PK.digits s.size).length c1 (bc (PK.digits s.size)) (by simp [Act.eval]) (own_below ho1 (below_bw _ _ _)) _ s.size _ (by simp [Act.eval]) (src_bw Tryz.underlying30 _ _ _ (grownCap w1 s.size 0 5)) hlim.len hlim.fits ?_; intro A2 c2 w2 ho2 hg2 hat2)
      | (refine step_append_at rfl (.tmp 29) (.tmp 32) _ _ rfl 5 i0 _ 1 1 Tryz.underlying30 hi0 hz0 hz1 hz2 rfl A1 (PK.digits s.size).length c1 (bc (PK.digits s.size)) (by simp [Act.eval]) (ho1) _ s.size _ (by simp [Act.eval]) (src_bw2 Tryz.underlying30 _ _ _ (grownCap w0.drew s.size 0 5) hb1) hlim.len hlim.fits ?_; intro A2 c2 w2 ho2 hg2 hat2)
      | (go_simp; go_at_call 143; refine (rdigits_any s.size _ Hw.out).mono ?_; rintro e w1 ⟨A1, c1, rfl, ho1, hn1, hb1⟩; have hc41 : w1.cell? ⟨w.heap.size, 4, none⟩ = some (.string s) := below_keep hb1 (by assumption)))
  all_goals
    have hkd : Kp (fun _ => False) w w0.drew := (Kp.of_below hbw _).drew
    have hsd : w.heap.size ≤ w0.drew.heap.size := hkd.size
    have hkb : Kp (fun _ => False) w (Lib.bytesWorld w0.drew 5 s) := hkd.trans (Kp.of_below (below_bw w0.drew 5 s) (fun _ => False)) (fun _ _ x => x)
    have hsb : w.heap.size ≤ (Lib.bytesWorld w0.drew 5 s).heap.size := hkb.size
    have hlen : (PK.digits s.size).length + s.size = (PK.textB s.data.toList).length := by unfold PK.textB; rw [List.length_append]; rfl
    have hbc : bc (PK.digits s.size) ++ bc s.data.toList = bc (PK.textB s.data.toList) := by unfold PK.textB; rw [bc_append]; rfl
    have hk2 : Kp (fun _ => False) w w2 := by
      first
        | exact ((hkd.trans (Kp.of_below hb1 (fun _ => False)) (fun _ _ x => x)).trans (Kp.of_below (below_bw w1 5 s) (fun _ => False)) (fun _ _ x => x)).grown hg2 (fun k e => .inr (Nat.le_trans hsd (hn1 k e)))
        | exact (hkb.trans (Kp.of_below hb1 (fun _ => False)) (fun _ _ x => x)).grown hg2 (fun k e => .inr (Nat.le_trans hsb (hn1 k e)))
    clear hc4 hc4d hc4b hc41 hcvs hwr
    go_wp2
    go_ret
    exact FreshB.of_own ho2 hlen hbc (hk2.below (Nat.le_refl _) (fun _ _ x => x))

end Go.Proofs.YtaaeefndhmfceaaGreatDoor
/- Contracts of the document's own answers for layer 2: One, Write. -/
namespace Go.Proofs.YtaaeefndhmfceaaGreatDoor
open Go.RowKit MM

theorem FreshB.eqv {xs ys : List UInt8} {w : World} {e : Ending} {w' : World} (h : FreshB xs w e w') (he : xs = ys) : FreshB ys w e w' := he ▸ h
theorem FreshB.behind {xs : List UInt8} {w w0 : World} {e : Ending} {w' : World} (h : FreshB xs w0 e w') (hb : Below w.heap.size w w0) : FreshB xs w e w' := by
  obtain ⟨A, c, rfl, hB, hc, hb'⟩ := h
  exact ⟨A, c, rfl, hB, hc, hb.trans (hb'.mono hb.size)⟩

theorem rdigits_B (n : Nat) (w : World) (hn : MF.W64 n) : Calls Tryz.prog 143 #[.int .u64 n] w (FreshB (PK.digits n) w) :=
  (rdigits_any n w hn).mono fun _ _ h => Fresh.toB h

set_option maxHeartbeats 1000000 in
set_option maxRecDepth 100000 in
theorem rone_any (q : PK.Rp) (w : World) (hq : q.ok) (hl : Lim (PK.refB q).length) :
    Calls Tryz.prog 82 #[.agg q.cells] w (FreshB (PK.refB q) w) := by
  obtain ⟨k, u, i, p, s, b⟩ := q
  have hu : MF.W64 u := hq.u
  have hi : (Lit.int .i64 i).wf = true := hq.i
  have hp : MF.W64 p := hq.p
  have hk : k < 256 := hq.k
  have hzz := (PK.zag_zig i (wf_i64 hi)).2
  have Hu := Lib.hid hu
  have Hi := Lib.hid hi
  have Hp := Lib.hid hp
  have Hz := Lib.hid hzz
  clear hq hu hi hp hzz
  by_cases h4 : k = 115
  · subst h4
    exact rone_text u i p s b w hl
  have Hl := Lib.hid hl
  clear hl
  show Calls Tryz.prog 82 #[.agg #[.int .u8 k, .int .u64 u, .int .i64 i, .int .u64 p, .string s, .bool b]] w _
  by_cases h1 : k = 117
  · subst h1
    go_enter Tryz.func82, Tryz.ntmps82
    go_wp2_with (go_at_call 143; refine (rdigits_B u _ Hu.out).mono ?_; rintro e w1 ⟨A1, c1, rfl, hB, hc, hb⟩)
    go_ret
    exact (show FreshB (PK.digits u) _ _ _ from ⟨A1, c1, rfl, hB, hc, hb⟩).behind ((Below.refl _ w).alloc (Nat.le_refl _) _)
  by_cases h2 : k = 105
  · subst h2
    go_enter Tryz.func82, Tryz.ntmps82
    go_wp2_with (first
      | (go_at_call 144; refine (rzig_any i _ Hi.out).mono ?_; rintro e w1 ⟨rfl, rfl⟩)
      | (go_at_call 143; refine (rdigits_B (PK.zig i) _ Hz.out).mono ?_; rintro e w1 ⟨A1, c1, rfl, hB, hc, hb⟩))
    go_ret
    exact (show FreshB (PK.digits (PK.zig i)) _ _ _ from ⟨A1, c1, rfl, hB, hc, hb⟩).behind ((Below.refl _ w).alloc (Nat.le_refl _) _)
  by_cases h3 : k = 102
  · subst h3
    go_enter Tryz.func82, Tryz.ntmps82
    go_wp2_with (go_at_call 145; refine (rplace_any p _ Hp.out).mono ?_; rintro e w1 ⟨A1, c1, rfl, hB, hc, hb⟩)
    go_ret
    exact (show FreshB (PK.placeB p) _ _ _ from ⟨A1, c1, rfl, hB, hc, hb⟩).behind ((Below.refl _ w).alloc (Nat.le_refl _) _)
  by_cases h5 : k = 98
  · subst h5
    have hbn : ∀ (n : Nat) (w0 : World), n = w0.heap.size → Below w.heap.size w w0 → ∀ x : Bool, FreshB (PK.flagB x) w (.returned (.slice (some ⟨n, 0, none⟩) 1 1)) (w0.alloc (.cells #[.int .u8 (if x then 1 else 0)] 5)) := by
      rintro n w0 rfl h0 x
      have ho := World.ownsRow_lit (base := 0) (e := 5) (size := 1) w0 #[.int .u8 (if x then 1 else 0)] 1 (Nat.zero_le _) (by unfold maxLen; omega) rfl
      exact FreshB.of_own (xs := PK.flagB x) ho rfl (by cases x <;> rfl) (h0.alloc h0.size _)
    have Hb := Lib.hid hbn
    clear hbn
    cases b
    · go_enter Tryz.func82, Tryz.ntmps82
      go_wp2
      go_ret
      exact Hb.out (w.heap.size + 1) _ (by simp) ((Below.refl _ w).alloc (Nat.le_refl _) _) false
    · go_enter Tryz.func82, Tryz.ntmps82
      go_wp2
      go_ret
      exact Hb.out (w.heap.size + 1) _ (by simp) ((Below.refl _ w).alloc (Nat.le_refl _) _) true
  · have h1' : ¬ (k : Int) = 117 := by omega
    have h2' : ¬ (k : Int) = 105 := by omega
    have h3' : ¬ (k : Int) = 102 := by omega
    have h4' : ¬ (k : Int) = 115 := by omega
    have h5' : ¬ (k : Int) = 98 := by omega
    have he : PK.refB ⟨k, u, i, p, s, b⟩ = [] := by
      unfold PK.refB
      rw [if_neg h1, if_neg h2, if_neg h3, if_neg h4, if_neg h5]
    have He := Lib.hid he
    clear he
    go_enter Tryz.func82, Tryz.ntmps82
    go_wp2
    go_ret
    rw [He.out]
    exact ⟨_, 0, rfl, Bts.nil _, by simp, (((Below.refl _ w).alloc (Nat.le_refl _) _).alloc (by simp) _)⟩

/-- A slice of the document's parts that reads as a list. -/
def Rps (w : World) (A : Option Addr) (qs : List PK.Rp) : Prop :=
  qs = [] ∨ ∃ b off, A = some ⟨b, off, none⟩ ∧ b < w.heap.size ∧ ∀ i q, qs[i]? = some q → ∀ j v, q.cells[j]? = some v → w.cell? ⟨b, off + i * 6 + j, none⟩ = some v
theorem Rps.below {w w' : World} {A : Option Addr} {qs : List PK.Rp} (h : Rps w A qs) (hb : Below w.heap.size w w') : Rps w' A qs := by
  rcases h with h | ⟨b, off, h1, h2, h3⟩
  · exact .inl h
  · exact .inr ⟨b, off, h1, Nat.lt_of_lt_of_le h2 hb.size, fun i q hq j v hv => (hb.cell (p := ⟨b, off + i * 6 + j, none⟩) h2).trans (h3 i q hq j v hv)⟩
theorem Pts.below {w w' : World} {A : Option Addr} {qs : List PK.Pt} (h : Pts w A qs) (hb : Below w.heap.size w w') : Pts w' A qs := by
  rcases h with h | ⟨b, off, h1, h2, h3⟩
  · exact .inl h
  · exact .inr ⟨b, off, h1, Nat.lt_of_lt_of_le h2 hb.size, fun i q hq j v hv => (hb.cell (p := ⟨b, off + i * 6 + j, none⟩) h2).trans (h3 i q hq j v hv)⟩

set_option maxHeartbeats 1000000 in
set_option maxRecDepth 100000 in
theorem rwrite_any (A : Option Addr) (c : Nat) (qs : List PK.Rp) (w : World) (hq : ∀ q ∈ qs, q.ok) (hp : Rps w A qs) (hn : Lim qs.length) (hl : Lim (PK.refsB qs).length) :
    Calls Tryz.prog 42 #[.slice A qs.length c] w (Fresh 5 (PK.refsB qs) w) := by
  obtain ⟨i0, hi0, hz0, hz1, hz2⟩ := info_parts byte_info
  have hn' : (qs.length : Int) ≤ 4294967296 := by unfold Lim at hn; omega
  go_enter Tryz.func42, Tryz.ntmps42
  go_wp2_with fail
  go_loopw [3, 4] (fun to t wr => ∃ (i : Nat) (A1 : Option Addr) (c1 : Nat), to = .slice A1 (PK.refsB (qs.take i)).length c1 ∧ t = .int .i64 i ∧ i ≤ qs.length ∧ wr.ownsRow 0 5 1 (.slice A1 (PK.refsB (qs.take i)).length c1) (PK.refsB (qs.take i)).length (bc (PK.refsB (qs.take i))) ∧ Below w.heap.size w wr ∧ (∀ k, ob A1 = some k → w.heap.size ≤ k)) (fun _ t _ => qs.length - (intOf t).toNat)
  case atStart =>
    have ho := World.ownsRow_lit (base := 0) (e := 5) (size := 1) w #[] 0 (Nat.zero_le _) (Nat.zero_le _) rfl
    exact ⟨0, some ⟨w.heap.size, 0, none⟩, 0, rfl, rfl, Nat.zero_le _, ho, (Below.refl _ w).alloc (Nat.le_refl _) _, fun k e => by have e : some w.heap.size = some k := e; injection e with e; omega⟩
  case round =>
    obtain ⟨i, A1, c1, rfl, rfl, hi, ho1, hb1, ha1⟩ := hrel
    by_cases hlt : i < qs.length
    · rcases hp with rfl | ⟨b, off, rfl, hbl, hcell⟩
      · simp at hlt
      have hcs := hcell i qs[i] (List.getElem?_eq_getElem hlt)
      have hok := hq qs[i] (List.getElem_mem _)
      have htk : PK.refsB (qs.take (i + 1)) = PK.refsB (qs.take i) ++ PK.refB qs[i] := PK.refsB_take qs i hlt
      generalize qs[i] = q at *
      have Htk := Lib.hid htk
      clear htk hcell
      obtain ⟨qk, qu, qi, qf, qs', qb⟩ := q
      have c0 : wr.cell? ⟨b, off + i * 6, none⟩ = some (.int .u8 qk) := (hb1.cell (p := ⟨b, off + i * 6, none⟩) hbl).trans (hcs 0 _ rfl)
      have c1' : wr.cell? ⟨b, off + i * 6 + 1, none⟩ = some (.int .u64 qu) := (hb1.cell (p := ⟨b, off + i * 6 + 1, none⟩) hbl).trans (hcs 1 _ rfl)
      have c2 : wr.cell? ⟨b, off + i * 6 + 2, none⟩ = some (.int .i64 qi) := (hb1.cell (p := ⟨b, off + i * 6 + 2, none⟩) hbl).trans (hcs 2 _ rfl)
      have c3 : wr.cell? ⟨b, off + i * 6 + 3, none⟩ = some (.int .u64 qf) := (hb1.cell (p := ⟨b, off + i * 6 + 3, none⟩) hbl).trans (hcs 3 _ rfl)
      have c4 : wr.cell? ⟨b, off + i * 6 + 4, none⟩ = some (.string qs') := (hb1.cell (p := ⟨b, off + i * 6 + 4, none⟩) hbl).trans (hcs 4 _ rfl)
      have c5 : wr.cell? ⟨b, off + i * 6 + 5, none⟩ = some (.bool qb) := (hb1.cell (p := ⟨b, off + i * 6 + 5, none⟩) hbl).trans (hcs 5 _ rfl)
      clear hcs
      have hlen := PK.refsB_le qs (i + 1)
      rw [Htk.out, List.length_append] at hlen
      have hl1 := hl.le hlen
      have hl2 : Lim (PK.refB ⟨qk, qu, qi, qf, qs', qb⟩).length := hl1.le (by omega)
      clear hlen
      have Ho1 := Lib.hid ho1
      clear ho1
      go_wp2_with fail
      refine (rone_any ⟨qk, qu, qi, qf, qs', qb⟩ _ hok hl2).mono ?_
      rintro e w1 ⟨A2, c2', rfl, hB2, hc2, hb2⟩
      go_wp2_with (first
      | (at_builtin
         refine wpList_append_at rfl (.tmp 12) (.tmp 17) _ _ rfl 5 i0 _ 1 1 Tryz.underlying30 hi0 hz0 hz1 hz2 rfl _ _ c1 _ rfl (own_below Ho1.out hb2) _ _ _ rfl (hB2.src Tryz.underlying30 hc2) hl1.len hl1.fits ?_
         intro A3 c3' w3 ho3 hg3 hat3))
      go_roundw
      case rel =>
        have hk : Kp (fun _ => False) w w3 := ((Kp.of_below hb1 (fun _ => False)).trans (Kp.of_below hb2 (fun _ => False)) (fun _ _ x => x)).grown hg3 (fun k e => .inr (ha1 k e))
        refine ⟨i + 1, A3, c3', ?_, by go_num, by omega, ?_, hk.below (Nat.le_refl _) (fun _ _ x => x), ?_⟩
        · rw [Htk.out, List.length_append]
        · rw [Htk.out, List.length_append, bc_append]
          exact ho3
        · intro k e
          rcases hat3 with h3 | h3
          · rw [h3] at e; exact ha1 k e
          · rw [h3] at e; injection e with e; have := hb1.size; have := hb2.size; omega
      case measure => simp [intOf]; omega
    · have hi' : i = qs.length := by omega
      subst hi'
      rw [List.take_length] at ho1 ⊢
      go_wp2
      go_ret
      exact ⟨A1, c1, rfl, ho1, ha1, hb1⟩

end Go.Proofs.YtaaeefndhmfceaaGreatDoor
