/- Contracts of the document's own answers for layer 2: places, signs, numbers as bytes. -/
import Derived.Test.YtmfjacehompmmaaRef02
import Derived.Test.YtmfjacehompmmaaForms
import Derived.Test.YtmfjacehompmmaaPackOne
import Derived.Deep.OwnRows
namespace Go.Proofs.Ytmfjacehompmmaa
open Go.RowKit MM

set_option maxHeartbeats 400000 in
set_option maxRecDepth 100000 in
theorem rzag_any (n : Nat) (w : World) (hn : MF.W64 n) :
    Calls Try.prog 67 #[.int .u64 n] w fun e w' => e = .returned (.int .i64 (PK.zag n)) ∧ w = w' := by
  have Hn := Lib.hid hn
  clear hn
  by_cases h : n % 2 = 1
  · have h' : (n : Int) % 2 = 1 := by omega
    go_enter Try.func67, Try.ntmps67
    go_wp2
    go_ret
    refine ⟨ret_int ?_, rfl⟩
    have := Hn.out
    unfold MF.W64 at this
    unfold PK.zag
    rw [if_pos h]
    simp only [wrap64, IntKind.wrap_u64] at *
    omega
  · have h' : ¬ (n : Int) % 2 = 1 := by omega
    go_enter Try.func67, Try.ntmps67
    go_wp2
    go_ret
    refine ⟨ret_int ?_, rfl⟩
    have := Hn.out
    unfold MF.W64 at this
    unfold PK.zag
    rw [if_neg h]
    simp only [wrap64, IntKind.wrap_u64] at *
    omega

set_option maxHeartbeats 400000 in
set_option maxRecDepth 100000 in
theorem rzig_any (n : Int) (w : World) (hn : (Lit.int .i64 n).wf = true) :
    Calls Try.prog 62 #[.int .i64 n] w fun e w' => e = .returned (.int .u64 (PK.zig n)) ∧ w = w' := by
  have Hn := Lib.hid (wf_i64 hn)
  clear hn
  by_cases h : n < 0
  · go_enter Try.func62, Try.ntmps62
    go_wp2
    go_ret
    refine ⟨ret_int ?_, rfl⟩
    have := Hn.out
    unfold PK.zig
    rw [if_pos h]
    simp only [wrap64, IntKind.wrap_u64] at *
    omega
  · go_enter Try.func62, Try.ntmps62
    go_wp2
    go_ret
    refine ⟨ret_int ?_, rfl⟩
    have := Hn.out
    unfold PK.zig
    rw [if_neg (by omega)]
    simp only [IntKind.wrap_u64] at *
    omega

theorem proper_low {b : Nat} (h : b < 9223372036854775808) : MF.proper b = (decide (b ≤ 9218868437227405312) || b == 9221120237041090561) := by
  have hr : MF.rung b = b := Nat.mod_eq_of_lt h
  unfold MF.proper MF.canon MF.nan
  rw [hr]
  by_cases h1 : 9218868437227405312 < b
  · rw [decide_eq_true h1, decide_eq_false (by omega)]
    simp
  · rw [decide_eq_false h1, decide_eq_true (by omega)]
    simp
theorem proper_high {b : Nat} (h : b < 9223372036854775808) : MF.proper (b + 9223372036854775808) = decide (b ≤ 9218868437227405312) := by
  have hr : MF.rung (b + 9223372036854775808) = b := by unfold MF.rung; omega
  unfold MF.proper MF.canon MF.nan
  rw [hr]
  by_cases h1 : 9218868437227405312 < b
  · rw [decide_eq_true h1, decide_eq_false (by omega)]
    simp only [if_true]
    rw [Bool.eq_iff_iff]
    simp
  · rw [decide_eq_false h1, decide_eq_true (by omega)]
    simp

set_option maxHeartbeats 400000 in
set_option maxRecDepth 100000 in
theorem rnumber_any (k : Nat) (w : World) (hk : MF.W64 k) :
    Calls Try.prog 65 #[.int .u64 k] w fun e w' => e = .returned (.bool (MF.proper (MF.bk k))) ∧ w = w' := by
  unfold MF.W64 at hk
  by_cases h : k < 9223372036854775808
  · have h' : ¬ (9223372036854775808 : Int) ≤ (k : Int) := by omega
    go_enter Try.func65, Try.ntmps65
    go_wp2
    go_ret
    refine ⟨ret_bool ?_, rfl⟩
    have e : MF.bk k = (9223372036854775807 - k) + 9223372036854775808 := by unfold MF.bk; rw [if_pos h]; omega
    rw [e, proper_high (by omega), Bool.eq_iff_iff]
    simp only [decide_eq_true_eq]
    omega
  · have h' : (9223372036854775808 : Int) ≤ (k : Int) := by omega
    have e : MF.bk k = k - 9223372036854775808 := by unfold MF.bk; rw [if_neg h]
    have e2 : MF.proper (MF.bk k) = (decide ((k : Int) ≤ 18442240474082181120) || decide ((k : Int) = 18444492273895866369)) := by
      rw [e, proper_low (by omega), Bool.eq_iff_iff]
      simp only [Bool.or_eq_true, decide_eq_true_eq, beq_iff_eq]
      omega
    rw [e2]
    clear e e2
    by_cases h1 : (k : Int) ≤ 18442240474082181120
    · rw [decide_eq_true h1, Bool.true_or]
      have h2 : (k : Int) - 9223372036854775808 ≤ 9218868437227405312 := by omega
      go_enter Try.func65, Try.ntmps65
      go_wp2
      go_ret
      exact ⟨rfl, rfl⟩
    · rw [decide_eq_false h1, Bool.false_or]
      have h2 : ¬ (k : Int) - 9223372036854775808 ≤ 9218868437227405312 := by omega
      by_cases h3 : (k : Int) = 18444492273895866369
      · rw [decide_eq_true h3]
        go_enter Try.func65, Try.ntmps65
        go_wp2
        go_ret
        exact ⟨ret_bool (by first | rfl | (simp; done) | (simp; omega)), rfl⟩
      · rw [decide_eq_false h3]
        go_enter Try.func65, Try.ntmps65
        go_wp2
        go_ret
        exact ⟨ret_bool (by simp; omega), rfl⟩

/-- New bytes, to be read alone. -/
def FreshB (xs : List UInt8) (w : World) (e : Ending) (w' : World) : Prop :=
  ∃ A c, e = .returned (.slice A xs.length c) ∧ Bts w' A xs ∧ (A = none → c = 0) ∧ Below w.heap.size w w'

theorem FreshB.of_own {E : TypeId} {w w2 : World} {A : Option Addr} {n c : Nat} {zs : List Value} {xs : List UInt8} (ho : w2.ownsRow 0 E 1 (.slice A n c) n zs) (hn : n = xs.length) (hz : zs = bc xs) (hb : Below w.heap.size w w2) :
    FreshB xs w (.returned (.slice A n c)) w2 := by
  subst hn hz
  exact ⟨A, c, rfl, Bts.own ho, fun e => by subst e; exact own_cap ho, hb⟩
theorem Fresh.of_own {E : TypeId} {w w2 : World} {A : Option Addr} {n c : Nat} {zs : List Value} {xs : List UInt8} (ho : w2.ownsRow 0 E 1 (.slice A n c) n zs) (hn : n = xs.length) (hz : zs = bc xs) (hk : ∀ k, ob A = some k → w.heap.size ≤ k) (hb : Below w.heap.size w w2) :
    Fresh E xs w (.returned (.slice A n c)) w2 := by
  subst hn hz
  exact ⟨A, c, rfl, ho, hk, hb⟩
theorem Fresh.toB {E : TypeId} {w w2 : World} {xs : List UInt8} {e : Ending} (h : Fresh E xs w e w2) : FreshB xs w e w2 := by
  obtain ⟨A, c, rfl, ho, hk, hb⟩ := h
  exact FreshB.of_own ho rfl rfl hb
theorem bts_new (w : World) (t : TypeId) (xs : List UInt8) : Bts (w.alloc (.cells (bc xs).toArray t)) (some ⟨w.heap.size, 0, none⟩) xs := by
  intro j v hv
  rw [MM.add_plain, Nat.zero_add]
  refine (cell_of_row _ _ j _ t (0, 0) (heap_alloc_new w _)).trans ?_
  simpa using hv

set_option maxHeartbeats 1000000 in
set_option maxRecDepth 100000 in
theorem rdigits_any : ∀ (n : Nat) (w : World), MF.W64 n →
    Calls Try.prog 61 #[.int .u64 n] w (Fresh 5 (PK.digits n) w) := by
  obtain ⟨i0, hi0, hz0, hz1, hz2⟩ := info_parts byte_info
  intro n
  induction n using Nat.strongRecOn with
  | ind n ih =>
    intro w hn
    by_cases h : n < 128
    · clear hn
      go_enter Try.func61, Try.ntmps61
      go_wp2
      go_ret
      have ho := World.ownsRow_lit (base := 0) (e := 5) (size := 1) w #[.int .u8 (n : Int)] 1 (Nat.zero_le _) (by unfold maxLen; omega) rfl
      exact Fresh.of_own ho (by rw [PK.digits_small h]; rfl) (by rw [PK.digits_small h, ← bc_of n (by omega)]) (fun k e => by have e : some w.heap.size = some k := e; injection e with e; omega) ((Below.refl _ w).alloc (Nat.le_refl _) _)
    · have hl := PK.digits_length hn
      have hlim : Lim (1 + (PK.digits (n / 128)).length) := by
        rw [PK.digits_big h, List.length_cons] at hl
        unfold Lim; omega
      have hP := ih (n / 128) (by omega) (w.alloc (.cells #[.int .u8 ((n % 128 + 128 : Nat) : Int)] 5)) (by unfold MF.W64 at *; omega)
      have HP := Lib.hid hP
      have Hn := Lib.hid hn
      clear hP hn ih hl
      have ho := World.ownsRow_lit (base := 0) (e := 5) (size := 1) w #[.int .u8 ((n % 128 + 128 : Nat) : Int)] 1 (Nat.zero_le _) (by unfold maxLen; omega) rfl
      have Ho := Lib.hid ho
      clear ho
      go_enter Try.func61, Try.ntmps61
      go_wp2_with fail
      rw [show IntKind.u64.wrap ((n : Int) / 128) = ((n / 128 : Nat) : Int) from by rw [IntKind.wrap_u64]; have := Hn.out; unfold MF.W64 at this; omega, show ((n : Int) % 128 + 128) = ((n % 128 + 128 : Nat) : Int) from by omega]
      refine HP.out.mono ?_
      rintro e w1 ⟨A1, c1, rfl, hB1, hn1, hb⟩
      have hc : A1 = none → c1 = 0 := fun e => by subst e; exact own_cap hB1
      have hB := Bts.own hB1
      go_wp2_with (first
      | (at_builtin
         refine wpList_append_at rfl (.tmp 12) (.tmp 15) _ _ rfl 5 i0 _ 1 1 Try.underlying26 hi0 hz0 hz1 hz2 rfl _ 1 1 _ rfl (own_below Ho.out hb) _ _ _ rfl (hB.src Try.underlying26 hc) hlim.len hlim.fits ?_
         intro A2 c2 w2 ho2 hg2 hat2))
      go_ret
      have hk : Kp (fun _ => False) w w2 := (((Kp.refl _ w).alloc _).trans (Kp.of_below hb (fun _ => False)) (fun _ _ x => x)).grown hg2 (fun k e => .inr (by have e : some w.heap.size = some k := e; injection e with e; omega))
      refine Fresh.of_own ho2 (by rw [PK.digits_big h, List.length_cons]; omega) (by rw [PK.digits_big h, show ((n % 128 + 128).toUInt8 :: PK.digits (n / 128)) = [(n % 128 + 128).toUInt8] ++ PK.digits (n / 128) from rfl, bc_append, ← bc_of _ (by omega)]) ?_ (hk.below (Nat.le_refl _) (fun _ _ x => x))
      intro k e
      rcases hat2 with h2 | h2
      · rw [h2] at e; have e : some w.heap.size = some k := e; injection e with e; omega
      · rw [h2] at e; injection e with e; have := hb.size; have h3 := (Below.refl w.heap.size w).alloc (Nat.le_refl _) (.cells #[.int .u8 ((n % 128 + 128 : Nat) : Int)] 5); have := h3.size; omega

theorem place_cells (k : Nat) : ∀ x, x < 8 → (bc (PK.placeB k))[x]? = some (.int .u8 ((k / 256 ^ (7 - x) % 256 : Nat) : Int)) := by
  intro x hx
  rw [bc_get _ x (by rw [PK.placeB_length]; exact hx)]
  simp only [PK.placeB, List.getElem_map, List.getElem_range]
  rw [PK.toUInt8_toNat (Nat.mod_lt _ (by omega))]

set_option maxHeartbeats 1000000 in
set_option maxRecDepth 100000 in
theorem rplace_any (k : Nat) (w : World) (hk : MF.W64 k) :
    Calls Try.prog 63 #[.int .u64 k] w (FreshB (PK.placeB k) w) := by
  have hmk : ∀ w : World, (Instr.makeSlice 26 (.int .i64 8) (.int .i64 8)).run Try.prog w = .ok (.slice (some ⟨w.heap.size, 0, none⟩) 8 8) (w.alloc (.cells (madeCells #[.int .u8 0] 8) 5)) := run_make_row' (P := Try.prog) 26 5 (.int .u8 0) 1 Try.underlying26 byte_info rfl .i64 .i64 8 (by omega) (by omega)
  have Hk := Lib.hid hk
  clear hk
  go_enter Try.func63, Try.ntmps63
  go_wp2_with fail
  go_loopw [0, 4] (fun tk ti wr => ∃ j : Nat, j ≤ 8 ∧ tk = .int .u64 ((k / 256 ^ (8 - j) : Nat) : Int) ∧ ti = .int .i64 ((j : Int) - 1) ∧ (∀ x, x < 8 → wr.cell? ⟨w.heap.size, x, none⟩ = some (.int .u8 ((if x < j then 0 else k / 256 ^ (7 - x) % 256 : Nat) : Int))) ∧ (∀ x, wr.frozen? ⟨w.heap.size, x, none⟩ = false) ∧ Below w.heap.size w wr) (fun _ ti _ => (intOf ti + 1).toNat)
  case atStart =>
    refine ⟨8, Nat.le_refl _, ?_, rfl, ?_, ?_, (Below.refl _ w).alloc (Nat.le_refl _) _⟩
    · simp
    · intro x hx
      rw [if_pos hx]
      refine (cell_of_row _ _ x _ _ (0, 0) (heap_alloc_new w _)).trans ?_
      obtain rfl | rfl | rfl | rfl | rfl | rfl | rfl | rfl : x = 0 ∨ x = 1 ∨ x = 2 ∨ x = 3 ∨ x = 4 ∨ x = 5 ∨ x = 6 ∨ x = 7 := by omega
      all_goals kernel_rfl
    · exact fun x => frozen_of_row _ _ x _ _ (heap_alloc_new w _)
  case round =>
    obtain ⟨j, hj, rfl, rfl, hcells, hfr, hb⟩ := hrel
    cases j with
    | zero =>
      go_wp2
      go_ret
      refine ⟨some ⟨w.heap.size, 0, none⟩, 8, by rw [PK.placeB_length]; rfl, ?_, by simp, hb⟩
      intro x v hv
      have hx : x < 8 := by
        have := (List.getElem?_eq_some_iff.1 hv).1
        rwa [bc_length, PK.placeB_length] at this
      rw [place_cells k x hx] at hv
      injection hv with hv
      subst hv
      rw [MM.add_plain, Nat.zero_add]
      exact hcells x hx
    | succ i =>
      have hi : ((i + 1 : Nat) : Int) - 1 = (i : Int) := by omega
      rw [hi]
      have hc := hcells i (by omega)
      have hf := hfr i
      have Hc := Lib.hid hcells
      have Hf := Lib.hid hfr
      clear hcells hfr
      have hq : k / 256 ^ (8 - (i + 1)) / 256 = k / 256 ^ (8 - i) := by
        rw [Nat.div_div_eq_div_mul, ← Nat.pow_succ]
        congr 2
        omega
      have hq7 : 8 - (i + 1) = 7 - i := by omega
      rw [hq7] at hq ⊢
      have Hq := Lib.hid hq
      clear hq hq7
      have hkb : (k / 256 ^ (7 - i) : Nat) ≤ k := Nat.div_le_self _ _
      have Hkb := Lib.hid hkb
      clear hkb
      generalize hy : k / 256 ^ (7 - i) = y at *
      have Hy := Lib.hid hy
      clear hy
      have h7 : (i : Int) ≤ 7 := by omega
      go_wp2
      go_roundw
      case rel =>
        have hkb := Hkb.out
        have hkl := Hk.out
        unfold MF.W64 at hkl
        refine ⟨i, by omega, congrArg (Value.int .u64) ?_, ?_, ?_, ?_, ?_⟩
        · rw [← Hq.out]
          first | omega | (rw [IntKind.wrap_u64]; omega)
        · first | rfl | (apply congrArg (Value.int .i64); omega)
        · intro x hx
          by_cases hxi : x = i
          · subst hxi
            rw [if_neg (by omega), Hy.out]
            refine (World.cell?_setCell_same _ _ _ hc).trans ?_
            apply congrArg some
            apply congrArg (Value.int .u8)
            first | omega | (rw [IntKind.wrap_u8]; omega)
          · refine (World.cell?_setCell_other _ _ _ _ (fun e => hxi (by injection e with _ e; exact e.symm))).trans ?_
            rw [Hc.out x hx]
            by_cases hlt : x < i
            · rw [if_pos hlt, if_pos (by omega)]
            · rw [if_neg hlt, if_neg (by omega)]
        · exact fun x => (World.frozen?_setCell _ _ _ _).trans (Hf.out x)
        · exact hb.setCell (Nat.le_refl _) _
      case measure => simp [intOf]

end Go.Proofs.Ytmfjacehompmmaa
