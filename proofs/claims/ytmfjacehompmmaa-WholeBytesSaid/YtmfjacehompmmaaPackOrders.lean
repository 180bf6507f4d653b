/- The walk of PackOrders: floating numbers are in the order of their bytes. -/
import Derived.Test.YtmfjacehompmmaaSpeak2
namespace Go.Proofs.Ytmfjacehompmmaa
open Go.RowKit MM

/-- Rows of bytes of one length are in the order of the numbers that they are. -/
theorem bytesLess_place : ∀ (a b : List UInt8), a.length = b.length → Op.bytesLess a b = decide (PK.placeN a < PK.placeN b)
  | [], [], _ => rfl
  | [], _ :: _, h => by simp at h
  | _ :: _, [], h => by simp at h
  | x :: a, y :: b, h => by
    have hl : a.length = b.length := by simpa using h
    have ih := bytesLess_place a b hl
    rw [PK.placeN_cons, PK.placeN_cons, hl]
    have ha := PK.placeN_lt a
    have hb := PK.placeN_lt b
    rw [hl] at ha
    show (decide (x < y) || (x == y && Op.bytesLess a b)) = _
    rw [ih]
    generalize 256 ^ b.length = q at *
    generalize PK.placeN a = m at *
    generalize PK.placeN b = n at *
    have hx : x < y ↔ x.toNat < y.toNat := UInt8.lt_iff_toNat_lt
    rcases Nat.lt_trichotomy x.toNat y.toNat with h1 | h1 | h1
    · have h2 : (x.toNat + 1) * q ≤ y.toNat * q := Nat.mul_le_mul_right _ h1
      rw [Nat.add_mul, Nat.one_mul] at h2
      rw [decide_eq_true (hx.2 h1), Bool.true_or, eq_comm, decide_eq_true_eq]
      omega
    · have : x = y := UInt8.toNat_inj.1 h1
      subst this
      rw [Bool.eq_iff_iff]
      simp
    · have h2 : (y.toNat + 1) * q ≤ x.toNat * q := Nat.mul_le_mul_right _ h1
      rw [Nat.add_mul, Nat.one_mul] at h2
      have hne : ¬ x = y := fun e => by subst e; omega
      have hnl : ¬ x < y := fun e => by have := hx.1 e; omega
      rw [Bool.eq_iff_iff]
      simp [hne, hnl]
      omega

theorem list_of (l : List UInt8) : (ByteArray.mk l.toArray).toList = l := by rw [ByteArray.toList_eq]

/-- One floating number, written. -/
theorem writeF_one (x : Nat) (hx : MF.W64 x) (w : World) : Calls Try.prog 14 #[.slice (some ⟨w.heap.size, 0, none⟩) 1 1] (w.alloc (.cells #[.int .u8 102, .int .u64 0, .int .i64 0, .float .f64 x, .string ⟨#[]⟩, .bool false] 45)) fun e w' =>
    ∃ A c, e = .returned (.slice A 8 c) ∧ w'.ownsRow 0 5 1 (.slice A (PK.placeB (MF.key x)).length c) (PK.placeB (MF.key x)).length (bc (PK.placeB (MF.key x))) ∧ Below w.heap.size w w' := by
  have hB : PK.partsB [⟨102, 0, 0, x, ⟨#[]⟩, false⟩] = PK.placeB (MF.key x) := by show PK.placeB (MF.key x) ++ [] = _; rw [List.append_nil]
  refine (write_any (some ⟨w.heap.size, 0, none⟩) 1 [⟨102, 0, 0, x, ⟨#[]⟩, false⟩] _ ?_ (Pts.new w _ [⟨102, 0, 0, x, ⟨#[]⟩, false⟩] (by show 1 ≤ maxLen; unfold maxLen; omega)) (by show 1 < 4294967296; omega) (by rw [hB, PK.placeB_length]; show 8 < 4294967296; omega)).mono ?_
  · intro q hq
    simp only [List.mem_singleton] at hq
    subst hq
    exact ⟨by show 102 < 256; omega, by show 0 < 18446744073709551616; omega, by show (Lit.int .i64 0).wf = true; decide, hx⟩
  · rw [hB]
    rintro e w' ⟨A, c, rfl, ho, _, hb⟩
    exact ⟨A, c, by rw [PK.placeB_length], ho, ((Below.refl _ w).alloc (Nat.le_refl _) _).trans (hb.mono (by simp))⟩
theorem conv_own {w : World} {A : Option Addr} {c n : Nat} {xs : List UInt8} {sa : ByteArray} (h : w.ownsRow 0 5 1 (.slice A xs.length c) xs.length (bc xs)) (hn : xs.length = n) (hs : sa = ⟨xs.toArray⟩) :
    (convert 26 9 (.slice A n c)).run Try.prog w = .ok (.string sa) w := by
  subst hn hs
  exact run_text (P := Try.prog) w 26 9 5 A c xs Try.underlying26 Try.underlying5 Try.underlying9 (Bts.own h)

set_option maxHeartbeats 1000000 in
set_option maxRecDepth 100000 in
theorem packOrders_any (a b : Nat) (w : World) (ha : MF.W64 a) (hb : MF.W64 b) :
    Calls Try.prog 6 #[.float .f64 a, .float .f64 b] w fun e w' => e = .returned (.bool true) ∧ Below w.heap.size w w' := by
  obtain ⟨sa, hsa⟩ : ∃ sa : ByteArray, sa = ⟨(PK.placeB (MF.key a)).toArray⟩ := ⟨_, rfl⟩
  obtain ⟨sb, hsb⟩ : ∃ sb : ByteArray, sb = ⟨(PK.placeB (MF.key b)).toArray⟩ := ⟨_, rfl⟩
  have za : ((sa.size : Nat) : Int) = 8 := by rw [hsa]; show (((PK.placeB (MF.key a)).toArray.size : Nat) : Int) = 8; rw [List.size_toArray, PK.placeB_length]; rfl
  have zb : ((sb.size : Nat) : Int) = 8 := by rw [hsb]; show (((PK.placeB (MF.key b)).toArray.size : Nat) : Int) = 8; rw [List.size_toArray, PK.placeB_length]; rfl
  have hlt : Op.bytesLess sa.toList sb.toList = MF.less a b := by
    rw [hsa, hsb, list_of, list_of, bytesLess_place _ _ (by rw [PK.placeB_length, PK.placeB_length]), PK.placeN_placeB _ (MF.key_lt ha), PK.placeN_placeB _ (MF.key_lt hb)]
    rfl
  have heq : (sa.toList == sb.toList) = MF.same a b := by
    rw [hsa, hsb, list_of, list_of]
    unfold MF.same
    rw [Bool.eq_iff_iff, beq_iff_eq, decide_eq_true_eq]
    refine ⟨fun h => ?_, fun h => by rw [h]⟩
    have := congrArg PK.placeN h
    rwa [PK.placeN_placeB _ (MF.key_lt ha), PK.placeN_placeB _ (MF.key_lt hb)] at this
  have Hsa := Lib.hid hsa
  have Hsb := Lib.hid hsb
  clear hsa hsb
  cases l : MF.less a b
  all_goals
    cases s : MF.same a b
    all_goals
      go_enter Try.func6, Try.ntmps6
      go_wp2_with (first | (go_at_call 12; refine (speaks_any _).mono ?_; rintro e w1 ⟨rfl, hb1⟩))
      refine (writeF_one a ha _).mono ?_
      rintro e w2 ⟨A2, c2, rfl, ho2, hb2⟩
      have hcv := conv_own ho2 (PK.placeB_length _) Hsa.out
      clear ho2
      go_wp2_with fail
      refine (writeF_one b hb _).mono ?_
      rintro e w3 ⟨A3, c3, rfl, ho3, hb3⟩
      clear hcv
      have hcv := conv_own ho3 (PK.placeB_length _) Hsb.out
      clear ho3
      go_wp2_with (first
        | (go_at_call 20; refine (less_any _ _ _ (by assumption) (by assumption)).mono ?_; rintro e w' ⟨rfl, rfl⟩)
        | (go_at_call 21; refine (same_any _ _ _ (by assumption) (by assumption)).mono ?_; rintro e w' ⟨rfl, rfl⟩))
      go_ret
      exact ⟨rfl, hb1.trans ((hb2.mono hb1.size).trans (hb3.mono (Nat.le_trans hb1.size hb2.size)))⟩

end Go.Proofs.Ytmfjacehompmmaa
