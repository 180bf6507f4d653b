/- What a Wipe does to a disk that doesn't go down: plain facts. -/
import Derived.Test.YtmgkbgjchcekpaaDk12
namespace Go.Proofs.Ytmgkbgjchcekpaa
open Go.RowKit MM
set_option linter.unusedVariables false
set_option linter.unusedSimpArgs false

/-- Sectors of which so many, from one on, are blank. -/
def wz (l : List (List UInt8)) (a : Nat) : Nat → List (List UInt8)
  | 0 => l
  | k + 1 => (wz l a k).set (a + k) zs
/-- How many of them weren't. -/
def wcnt (l : List (List UInt8)) (a : Nat) : Nat → Nat
  | 0 => 0
  | k + 1 => wcnt l a k + if l[a + k]? = some zs then 0 else 1
theorem wz_len (l : List (List UInt8)) (a : Nat) : ∀ k, (wz l a k).length = l.length
  | 0 => rfl
  | k + 1 => by rw [wz, List.length_set, wz_len l a k]
theorem wz_at (l : List (List UInt8)) (a : Nat) : ∀ (k j : Nat), j < l.length → (wz l a k)[j]? = if a ≤ j ∧ j < a + k then some zs else l[j]?
  | 0, j, hj => by rw [if_neg (by omega)]; rfl
  | k + 1, j, hj => by
    rw [wz]
    by_cases h : j = a + k
    · subst h
      rw [List.getElem?_set_self (by rw [wz_len]; exact hj), if_pos (by omega)]
    · rw [List.getElem?_set_ne (fun e => h e.symm), wz_at l a k j hj]
      by_cases h2 : a ≤ j ∧ j < a + k
      · rw [if_pos h2, if_pos (by omega)]
      · rw [if_neg h2, if_neg (by omega)]
theorem set_same {l : List (List UInt8)} {j : Nat} {s : List UInt8} (h : l[j]? = some s) : l.set j s = l := by
  apply List.ext_getElem?
  intro i
  by_cases e : j = i
  · subst e
    rw [List.getElem?_set_self (List.getElem?_eq_some_iff.1 h).1, h]
  · rw [List.getElem?_set_ne e]
/-- How a disk stands behind so many sectors were wiped. -/
structure WAt (d : Dk) (a k m : Nat) (r : Dk × Bool × Nat) : Prop where
  err : r.2.2 = 0
  down : r.1.down = false
  left : r.1.left = 0
  now : r.1.now = wz d.now a k
  good : r.1.good = d.good
  writes : r.1.writes = ((m + wcnt d.now a k : Nat) : Int)
  some_ : r.2.1 = true ∨ r.1 = d
theorem wcnt_le (l : List (List UInt8)) (a : Nat) : ∀ k, wcnt l a k ≤ k
  | 0 => Nat.le_refl _
  | k + 1 => by
    have := wcnt_le l a k
    rw [wcnt]
    split <;> omega
theorem wipe_step {d : Dk} {a k m : Nat} (hm : m ≤ 1000) (hlim : d.now.length ≤ 4096) (ha : a + k < d.now.length) (h : WAt d a k m (d.wipeN a k)) : WAt d a (k + 1) m (d.wipeN a (k + 1)) := by
  have hx : wrap64 ((a : Int) + (k : Int)) = ((a + k : Nat) : Int) := by unfold wrap64; omega
  have hlen : (d.wipeN a k).1.now.length = d.now.length := by rw [h.now, wz_len]
  have he : (d.wipeN a k).1.err ((a + k : Nat) : Int) = 0 := by
    unfold Dk.err
    rw [if_neg (by rw [h.down]; decide), if_neg (by rw [hlen]; omega)]
  have hrd : (d.wipeN a k).1.readS ((a + k : Nat) : Int) = d.now.getD (a + k) zs := by
    unfold Dk.readS
    rw [if_pos he, Int.toNat_natCast, h.now, List.getD_eq_getElem?_getD, wz_at _ _ _ _ ha, if_neg (by omega), List.getD_eq_getElem?_getD]
  have hg : d.now[a + k]? = some (d.now.getD (a + k) zs) := by rw [List.getD_eq_getElem?_getD, List.getElem?_eq_getElem ha]; rfl
  have hst : d.wipeN a (k + 1) = (((d.wipeN a k).1.wipe1 ((a + k : Nat) : Int)).1, (d.wipeN a k).2.1 || ((d.wipeN a k).1.wipe1 ((a + k : Nat) : Int)).2.1, ((d.wipeN a k).1.wipe1 ((a + k : Nat) : Int)).2.2) := by
    rw [Dk.wipeN, if_pos h.err, hx]
  by_cases hz : d.now.getD (a + k) zs = zs
  · have hw : (d.wipeN a k).1.wipe1 ((a + k : Nat) : Int) = ((d.wipeN a k).1, false, 0) := by
      unfold Dk.wipe1
      rw [if_neg (by rw [hrd]; exact fun x => x.2 hz), he]
    rw [hst, hw]
    rw [hz] at hg
    refine ⟨rfl, h.down, h.left, ?_, h.good, ?_, ?_⟩
    · rw [wz, set_same]
      · exact h.now
      · rw [wz_at _ _ _ _ ha, if_neg (by omega), hg]
    · rw [wcnt, if_pos hg, Nat.add_zero]; exact h.writes
    · rcases h.some_ with x | x
      · exact .inl (by rw [x]; rfl)
      · exact .inr x
  · have hw : (d.wipeN a k).1.wipe1 ((a + k : Nat) : Int) = ((d.wipeN a k).1.put (a + k) zs, true, 0) := by
      unfold Dk.wipe1
      rw [if_pos ⟨he, by rw [hrd]; exact hz⟩, Dk.write_up h.down h.left (by rw [hlen]; exact ha)]
      rfl
    rw [hst, hw]
    refine ⟨rfl, h.down, h.left, ?_, h.good, ?_, .inl (by rw [Bool.or_true])⟩
    · show (d.wipeN a k).1.now.set (a + k) zs = _
      rw [h.now, wz]
    · show wrap64 ((d.wipeN a k).1.writes + 1) = _
      rw [h.writes, wcnt, if_neg (by rw [hg]; intro x; injection x with x; exact hz x)]
      have := wcnt_le d.now a k
      have h2 : k ≤ 4096 := by omega
      unfold wrap64
      omega
theorem wipe_all {d : Dk} {a m : Nat} (h1 : d.down = false) (h2 : d.left = 0) (hm : m ≤ 1000) (hw : d.writes = (m : Int)) (hlim : d.now.length ≤ 4096) : ∀ k, a + k ≤ d.now.length → WAt d a k m (d.wipeN a k)
  | 0, _ => ⟨rfl, h1, h2, rfl, rfl, by show d.writes = _; rw [hw]; rfl, .inr rfl⟩
  | k + 1, h => wipe_step hm hlim (by omega) (wipe_all h1 h2 hm hw hlim k (by omega))
/-- A Wipe of sectors that are there. -/
theorem wipe_in {d : Dk} {a n m : Nat} (h1 : d.down = false) (h2 : d.left = 0) (h3 : d.good = d.now) (h4 : d.pend = []) (hm : m ≤ 1000) (hw : d.writes = (m : Int)) (hlim : d.now.length ≤ 4096) (hn : a + n ≤ d.now.length) :
    ∃ D : Dk, d.wipe a n = (D, 0) ∧ D.now = wz d.now a n ∧ D.good = wz d.now a n ∧ D.pend = [] ∧ D.writes = ((m + wcnt d.now a n : Nat) : Int) := by
  have h := wipe_all (a := a) h1 h2 hm hw hlim n hn
  unfold Dk.wipe
  rw [Int.toNat_natCast, if_pos h.err]
  rcases h.some_ with x | x
  · rw [if_pos x, Dk.sync_up h.down]
    exact ⟨_, rfl, h.now, h.now, rfl, h.writes⟩
  · by_cases hs : (d.wipeN a n).2.1 = true
    · rw [if_pos hs, Dk.sync_up h.down]
      exact ⟨_, rfl, h.now, h.now, rfl, h.writes⟩
    · rw [if_neg hs]
      refine ⟨_, rfl, h.now, ?_, by rw [x]; exact h4, h.writes⟩
      rw [← h.now, x]; exact h3
/-- One of sectors that aren't. -/
theorem wipe_out {d : Dk} {a n : Int} {m : Nat} (h1 : d.down = false) (h2 : d.left = 0) (hm : m ≤ 1000) (hw : d.writes = (m : Int)) (hlim : d.now.length ≤ 4096) (hn : 0 < n) (hn2 : n ≤ 1000) (ha1 : -9223372036854775808 ≤ a) (ha2 : a ≤ 9223372036854775807) (ho : a < 0 ∨ (d.now.length : Int) - n < a) : (d.wipe a n).2 = 1 := by
  have key : ∀ k : Nat, (d.wipeN a k).2.2 = 1 → k ≤ n.toNat → (d.wipe a n).2 = 1 := by
    intro k hk hkn
    have hs := Dk.wipeN_stop d a (k := k) (by rw [hk]; decide) (n.toNat - k)
    rw [show k + (n.toNat - k) = n.toNat by omega] at hs
    unfold Dk.wipe
    rw [hs, if_neg (by rw [hk]; decide), hk]
  by_cases hin : 0 ≤ a ∧ a < d.now.length
  · obtain ⟨a', rfl⟩ : ∃ a' : Nat, a = (a' : Int) := ⟨a.toNat, by omega⟩
    have h := wipe_all (a := a') h1 h2 hm hw hlim (d.now.length - a') (by omega)
    refine key (d.now.length - a' + 1) ?_ (by omega)
    have hx : wrap64 ((a' : Int) + ((d.now.length - a' : Nat) : Int)) = ((d.now.length : Nat) : Int) := by unfold wrap64; omega
    rw [Dk.wipeN, if_pos h.err, hx]
    have he : (d.wipeN a' (d.now.length - a')).1.err ((d.now.length : Nat) : Int) = 1 := by
      unfold Dk.err
      rw [if_neg (by rw [h.down]; decide), if_pos (by rw [h.now, wz_len]; omega)]
    show ((d.wipeN a' (d.now.length - a')).1.wipe1 ((d.now.length : Nat) : Int)).2.2 = 1
    unfold Dk.wipe1
    rw [if_neg (by rw [he]; omega), he]
  · refine key 1 ?_ (by omega)
    have hx : wrap64 (a + ((0 : Nat) : Int)) = a := by unfold wrap64; omega
    have he : d.err a = 1 := by
      unfold Dk.err
      rw [if_neg (by rw [h1]; decide), if_pos (by omega)]
    show (if (0 : Nat) = 0 then _ else _ : Dk × Bool × Nat).2.2 = 1
    rw [if_pos rfl]
    show (d.wipe1 (wrap64 (a + ((0 : Nat) : Int)))).2.2 = 1
    rw [hx]
    unfold Dk.wipe1
    rw [if_neg (by rw [he]; omega), he]

/-- The sectors that SealWipes writes. -/
def fx (x : UInt8) : List UInt8 := List.replicate 5 0 ++ x :: List.replicate 58 0
def fL (xs : List UInt8) (i : Nat) : List UInt8 := match xs[i]? with | some x => fx x | none => zs
def fillD (xs : List UInt8) : Nat → Dk
  | 0 => Dk.new 16
  | i + 1 => match xs[i]? with | some x => if x = 0 then fillD xs i else (fillD xs i).put i (fx x) | none => fillD xs i
theorem fx_zs : fx 0 = zs := rfl
theorem fillD_up (xs : List UInt8) : ∀ i, i ≤ 100 → (fillD xs i).down = false ∧ (fillD xs i).left = 0 ∧ (fillD xs i).now.length = 16 ∧ (fillD xs i).pend.length ≤ i ∧ ∃ m : Nat, (fillD xs i).writes = (m : Int) ∧ m ≤ i
  | 0, _ => ⟨rfl, rfl, rfl, Nat.le_refl _, 0, rfl, Nat.le_refl _⟩
  | i + 1, hi => by
    obtain ⟨h1, h2, h3, h4, m, h5, h6⟩ := fillD_up xs i (by omega)
    unfold fillD
    cases xs[i]? with
    | none => exact ⟨h1, h2, h3, Nat.le_succ_of_le h4, m, h5, by omega⟩
    | some x =>
      simp only
      split
      · exact ⟨h1, h2, h3, Nat.le_succ_of_le h4, m, h5, by omega⟩
      · refine ⟨h1, h2, ?_, ?_, m + 1, ?_, by omega⟩
        · show ((fillD xs i).now.set i (fx x)).length = 16
          rw [List.length_set, h3]
        · show ((fillD xs i).pend ++ [(i, fx x)]).length ≤ i + 1
          rw [List.length_append]
          simp only [List.length_cons, List.length_nil]
          omega
        · show wrap64 ((fillD xs i).writes + 1) = _
          rw [h5]
          unfold wrap64
          omega
theorem fillD_now (xs : List UInt8) (hx : xs.length ≤ 16) : ∀ i, i ≤ xs.length → ∀ j, j < 16 → (fillD xs i).now[j]? = some (if j < i then fL xs j else zs)
  | 0, _, j, hj => by
    rw [if_neg (by omega)]
    show (List.replicate 16 zs)[j]? = _
    rw [List.getElem?_replicate, if_pos hj]
  | i + 1, hi, j, hj => by
    have ih := fillD_now xs hx i (by omega) j hj
    have hl := (fillD_up xs i (by omega)).2.2.1
    have hxi : xs[i]? = some xs[i] := List.getElem?_eq_getElem (by omega)
    have hf : fL xs i = fx xs[i] := by unfold fL; rw [hxi]
    unfold fillD
    rw [hxi]
    simp only
    split
    · rename_i h0
      rw [ih]
      by_cases hj2 : j = i
      · subst hj2
        rw [if_neg (by omega), if_pos (by omega), hf, h0, fx_zs]
      · by_cases hlt : j < i
        · rw [if_pos hlt, if_pos (by omega)]
        · rw [if_neg hlt, if_neg (by omega)]
    · show ((fillD xs i).now.set i (fx xs[i]))[j]? = _
      by_cases hj2 : i = j
      · subst hj2
        rw [List.getElem?_set_self (by omega), if_pos (by omega), hf]
      · rw [List.getElem?_set_ne hj2, ih]
        by_cases hlt : j < i
        · rw [if_pos hlt, if_pos (by omega)]
        · rw [if_neg hlt, if_neg (by omega)]
theorem fillD_all (xs : List UInt8) (hx : xs.length ≤ 16) (j : Nat) (hj : j < 16) : (fillD xs xs.length).now[j]? = some (fL xs j) := by
  rw [fillD_now xs hx xs.length (Nat.le_refl _) j hj]
  by_cases h : j < xs.length
  · rw [if_pos h]
  · rw [if_neg h]
    unfold fL
    rw [List.getElem?_eq_none (by omega)]
theorem fx_len (x : UInt8) : (fx x).length = 64 := rfl
theorem fL_len (xs : List UInt8) (j : Nat) : (fL xs j).length = 64 := by
  unfold fL
  split
  · exact fx_len _
  · rfl
/-- How many of the first so many were blank and are in. -/
theorem wcnt_min (l : List (List UInt8)) (a n i : Nat) : wcnt l a (min (i + 1 - a) n) = wcnt l a (min (i - a) n) + if (a ≤ i ∧ i < a + n) ∧ l[i]? ≠ some zs then 1 else 0 := by
  by_cases h : a ≤ i ∧ i < a + n
  · have e1 : min (i + 1 - a) n = (i - a) + 1 := by omega
    have e2 : min (i - a) n = i - a := by omega
    rw [e1, e2, wcnt, show a + (i - a) = i by omega]
    by_cases hz : l[i]? = some zs
    · rw [if_pos hz, if_neg (fun x => x.2 hz)]
    · rw [if_neg hz, if_pos ⟨h, hz⟩]
  · rw [if_neg (fun x => h x.1), Nat.add_zero]
    congr 1
    omega

end Go.Proofs.Ytmgkbgjchcekpaa
