/- Rows of bytes in order, and numbers in order. No program, but for the library's sort. -/
import Derived.Test.YtmfjacehompmmaaPackOrders
import Derived.Test.YtmfjacehompmmaaForms
import Derived.Test.YtmfjacehompmmaaSort
import Derived.Sort.OwnSorted
namespace Go.Proofs.Ytmfjacehompmmaa
open Go.RowKit MM Go.Sort

def keyB (x : Nat) : List UInt8 := PK.placeB (MF.key x)
theorem keyB_length (x : Nat) : (keyB x).length = 8 := PK.placeB_length _
/-- The number of a row of bytes. -/
def numB (b : List UInt8) : Nat := MF.bk (PK.placeN b)
theorem placeN_keyB {x : Nat} (h : MF.W64 x) : PK.placeN (keyB x) = MF.key x := PK.placeN_placeB _ (MF.key_lt h)
theorem numB_keyB {x : Nat} (h : MF.W64 x) : numB (keyB x) = MF.canon x := by unfold numB; rw [placeN_keyB h, MF.bk_key h]
theorem key_numB {x : Nat} (h : MF.W64 x) : MF.key (numB (keyB x)) = PK.placeN (keyB x) := by rw [numB_keyB h, MF.key_canon, placeN_keyB h]

theorem lt_of_place : ∀ (a b : List UInt8), a.length = b.length → PK.placeN a < PK.placeN b → a < b
  | [], [], _, h => by simp [PK.placeN] at h
  | [], _ :: _, h, _ => by simp at h
  | _ :: _, [], h, _ => by simp at h
  | x :: a, y :: b, h, hp => by
    have hl : a.length = b.length := by simpa using h
    rw [PK.placeN_cons, PK.placeN_cons, hl] at hp
    have ha := PK.placeN_lt a
    have hb := PK.placeN_lt b
    rw [hl] at ha
    rw [List.cons_lt_cons_iff]
    rcases Nat.lt_trichotomy x.toNat y.toNat with h1 | h1 | h1
    · exact .inl (UInt8.lt_iff_toNat_lt.2 h1)
    · have e : x = y := UInt8.toNat_inj.1 h1
      subst e
      exact .inr ⟨rfl, lt_of_place a b hl (by omega)⟩
    · exfalso
      have h2 : (y.toNat + 1) * 256 ^ b.length ≤ x.toNat * 256 ^ b.length := Nat.mul_le_mul_right _ h1
      rw [Nat.add_mul, Nat.one_mul] at h2
      omega
theorem place_of_le {a b : List UInt8} (hl : a.length = b.length) (h : a ≤ b) : PK.placeN a ≤ PK.placeN b := by
  rcases Nat.lt_or_ge (PK.placeN b) (PK.placeN a) with x | x
  · exact absurd (lt_of_place b a hl.symm x) (List.not_lt.2 h)
  · exact x

/-- The rows of bytes of numbers, in order. -/
def sortB (xs : List Nat) : List (List UInt8) := (xs.map keyB).mergeSort fun x y => decide (x ≤ y)
theorem sortB_perm (xs : List Nat) : (sortB xs).Perm (xs.map keyB) := List.mergeSort_perm _ _
theorem sortB_length (xs : List Nat) : (sortB xs).length = xs.length := by rw [(sortB_perm xs).length_eq, List.length_map]
theorem sortB_mem {xs : List Nat} {b : List UInt8} : b ∈ sortB xs ↔ ∃ x ∈ xs, keyB x = b := by
  rw [(sortB_perm xs).mem_iff, List.mem_map]
theorem sortB_pair (xs : List Nat) : (sortB xs).Pairwise fun x y => x ≤ y := by
  have := List.pairwise_mergeSort (le := fun x y : List UInt8 => decide (x ≤ y)) (by
    intro a b c h1 h2
    simp only [decide_eq_true_eq] at *
    exact List.le_trans h1 h2) (by
    intro a b
    rw [Bool.or_eq_true, decide_eq_true_eq, decide_eq_true_eq]
    exact List.le_total a b) (xs.map keyB)
  refine this.imp ?_
  intro a b h
  exact of_decide_eq_true h
theorem sortB_le {xs : List Nat} {i j : Nat} (h : i < j) (hj : j < (sortB xs).length) : PK.placeN ((sortB xs)[i]) ≤ PK.placeN ((sortB xs)[j]) := by
  have hp := List.pairwise_iff_getElem.1 (sortB_pair xs) i j (by omega) hj h
  obtain ⟨x, _, ex⟩ := sortB_mem.1 (List.getElem_mem (l := sortB xs) (n := i) (by omega))
  obtain ⟨y, _, ey⟩ := sortB_mem.1 (List.getElem_mem (l := sortB xs) (n := j) hj)
  exact place_of_le (by rw [← ex, ← ey, keyB_length, keyB_length]) hp
theorem sortB_le' {xs : List Nat} {i j : Nat} (h : i ≤ j) (hj : j < (sortB xs).length) : PK.placeN ((sortB xs)[i]) ≤ PK.placeN ((sortB xs)[j]) := by
  rcases Nat.lt_or_ge i j with x | x
  · exact sortB_le x hj
  · obtain rfl : i = j := by omega
    exact Nat.le_refl _

/-- The numbers in order. -/
def outs (xs : List Nat) : List Nat := (sortB xs).map numB
theorem outs_length (xs : List Nat) : (outs xs).length = xs.length := by unfold outs; rw [List.length_map, sortB_length]
theorem outs_key {xs : List Nat} (hw : ∀ x ∈ xs, MF.W64 x) {i : Nat} (hi : i < (outs xs).length) : MF.W64 ((outs xs)[i]) ∧ MF.key ((outs xs)[i]) = PK.placeN ((sortB xs)[i]'(by unfold outs at hi; simpa using hi)) ∧ ∃ x ∈ xs, MF.key ((outs xs)[i]) = MF.key x := by
  have hi' : i < (sortB xs).length := by unfold outs at hi; simpa using hi
  obtain ⟨x, hx, ex⟩ := sortB_mem.1 (List.getElem_mem (l := sortB xs) (n := i) hi')
  have e : (outs xs)[i] = numB ((sortB xs)[i]) := by simp [outs]
  rw [e, ← ex]
  refine ⟨by rw [numB_keyB (hw x hx)]; exact MF.w_canon (hw x hx), key_numB (hw x hx), x, hx, ?_⟩
  rw [numB_keyB (hw x hx), MF.key_canon]
theorem outs_sorted {xs : List Nat} (hw : ∀ x ∈ xs, MF.W64 x) {i j : Nat} (h : i ≤ j) (hj : j < (outs xs).length) : MF.key ((outs xs)[i]) ≤ MF.key ((outs xs)[j]) := by
  rw [(outs_key hw (by omega)).2.1, (outs_key hw hj).2.1]
  exact sortB_le' h _
theorem outs_all {xs : List Nat} (hw : ∀ x ∈ xs, MF.W64 x) {x : Nat} (hx : x ∈ xs) : ∃ i, ∃ hi : i < (outs xs).length, MF.key ((outs xs)[i]) = MF.key x := by
  have hm : keyB x ∈ sortB xs := sortB_mem.2 ⟨x, hx, rfl⟩
  obtain ⟨i, hi, e⟩ := List.mem_iff_getElem.1 hm
  have hi' : i < (outs xs).length := by rw [outs_length]; rw [sortB_length] at hi; exact hi
  refine ⟨i, hi', ?_⟩
  rw [(outs_key hw hi').2.1, e, placeN_keyB (hw x hx)]

/-- A number that is the least of some, by its place. -/
structure IsLow (xs : List Nat) (i : Nat) (m : Nat) : Prop where
  w : MF.W64 m
  mem : ∃ x ∈ xs, MF.key m = MF.key x
  le : ∀ x ∈ xs.take i, MF.key m ≤ MF.key x
structure IsHigh (xs : List Nat) (i : Nat) (m : Nat) : Prop where
  w : MF.W64 m
  mem : ∃ x ∈ xs, MF.key m = MF.key x
  le : ∀ x ∈ xs.take i, MF.key x ≤ MF.key m
theorem IsLow.step {xs : List Nat} {i m : Nat} (h : IsLow xs i m) (hi : i < xs.length) (hw : ∀ x ∈ xs, MF.W64 x) : IsLow xs (i + 1) (MF.mn m xs[i]) := by
  have hk := MF.key_mn m xs[i]
  obtain ⟨x, hx, ex⟩ := h.mem
  refine ⟨MF.w_mn h.w (hw _ (List.getElem_mem _)), ?_, ?_⟩
  · rcases Nat.le_total (MF.key m) (MF.key xs[i]) with y | y
    · exact ⟨x, hx, by rw [hk, Nat.min_eq_left y, ex]⟩
    · exact ⟨xs[i], List.getElem_mem _, by rw [hk, Nat.min_eq_right y]⟩
  · intro y hy
    rw [List.take_succ_eq_append_getElem hi, List.mem_append, List.mem_singleton] at hy
    rw [hk]
    rcases hy with hy | rfl
    · have := h.le y hy; omega
    · exact Nat.min_le_right _ _
theorem IsHigh.step {xs : List Nat} {i m : Nat} (h : IsHigh xs i m) (hi : i < xs.length) (hw : ∀ x ∈ xs, MF.W64 x) : IsHigh xs (i + 1) (MF.mx m xs[i]) := by
  have hk := MF.key_mx m xs[i]
  obtain ⟨x, hx, ex⟩ := h.mem
  refine ⟨MF.w_mx h.w (hw _ (List.getElem_mem _)), ?_, ?_⟩
  · rcases Nat.le_total (MF.key m) (MF.key xs[i]) with y | y
    · exact ⟨xs[i], List.getElem_mem _, by rw [hk, Nat.max_eq_right y]⟩
    · exact ⟨x, hx, by rw [hk, Nat.max_eq_left y, ex]⟩
  · intro y hy
    rw [List.take_succ_eq_append_getElem hi, List.mem_append, List.mem_singleton] at hy
    rw [hk]
    rcases hy with hy | rfl
    · have := h.le y hy; omega
    · exact Nat.le_max_right _ _
theorem low_same {xs : List Nat} {m : Nat} (hw : ∀ x ∈ xs, MF.W64 x) (h : IsLow xs xs.length m) (h0 : 0 < (outs xs).length) : MF.same ((outs xs)[0]) m = true := by
  apply MF.same_of
  obtain ⟨x, hx, ex⟩ := h.mem
  obtain ⟨i, hi, ei⟩ := outs_all hw hx
  have h1 := outs_sorted hw (Nat.zero_le i) hi
  obtain ⟨y, hy, ey⟩ := (outs_key hw h0).2.2
  have h2 := h.le y (by rw [List.take_length]; exact hy)
  omega
theorem high_same {xs : List Nat} {m : Nat} (hw : ∀ x ∈ xs, MF.W64 x) (h : IsHigh xs xs.length m) (h0 : (outs xs).length - 1 < (outs xs).length) : MF.same ((outs xs)[(outs xs).length - 1]) m = true := by
  apply MF.same_of
  obtain ⟨x, hx, ex⟩ := h.mem
  obtain ⟨i, hi, ei⟩ := outs_all hw hx
  have h1 := outs_sorted hw (show i ≤ (outs xs).length - 1 by omega) h0
  obtain ⟨y, hy, ey⟩ := (outs_key hw h0).2.2
  have h2 := h.le y (by rw [List.take_length]; exact hy)
  omega
theorem read_keyB {x : Nat} (h : MF.W64 x) : partsR 0 [102] (keyB x) = .ok [⟨102, 0, 0, numB (keyB x), ⟨#[]⟩, false⟩] 8 := by
  have w0 : MF.W64 0 := by unfold MF.W64; omega
  have hf : PK.fine 0 [⟨102, 0, 0, x, ⟨#[]⟩, false⟩] := by
    intro q hq
    simp only [List.mem_singleton] at hq
    subst hq
    exact ⟨⟨by show 102 < 256; omega, w0, rfl, h⟩, rfl, Int.le_refl _, by show 0 < 18446744073709551616; omega⟩
  have := partsR_partsB [⟨102, 0, 0, x, ⟨#[]⟩, false⟩] 0 [] hf
  have hB : PK.partsB [⟨102, 0, 0, x, ⟨#[]⟩, false⟩] = keyB x := by show PK.placeB (MF.key x) ++ [] = _; rw [List.append_nil]; rfl
  rw [List.append_nil, if_pos rfl, hB, keyB_length] at this
  rw [numB_keyB h]
  exact this

theorem sort_own (A : Option Addr) (c : Nat) (ss : List (List UInt8)) (n : Nat) (w : World) (ho : w.ownsRow 0 9 1 (.slice A n c) n (ss.map encStr)) (hn : n = ss.length) (h0 : 0 < ss.length) (hl : Lim ss.length) :
    Calls Try.prog 34 #[.slice A n c] w fun e w' => e = .returned (.tuple #[]) ∧ w'.ownsRow 0 9 1 (.slice A n c) n ((ss.mergeSort fun x y => decide (x ≤ y)).map encStr) ∧ w.grownBy w' (ob A) := by
  subst hn
  rcases ho.2 with ⟨_, h1⟩ | ⟨g, cap, cur, hv, hbase, hb, h1, h2, h3, h4⟩
  · omega
  · injection hv with hA _ hc
    subst hA hc
    rw [Nat.mul_one] at h4
    have hH := holds_of_block hb h4
    refine (Try.slices_Sort_string g 0 c ss w hH (Array.getElem?_eq_some_iff.1 hb).1 (by unfold Lim at hl; omega)).mono ?_
    rintro e w' ⟨rfl, nn, os, rfl⟩
    exact ⟨rfl, ownsRow_sorted (by rw [List.length_mergeSort]) hbase hb h1 h2 h3, grownBy_sorted _⟩

end Go.Proofs.Ytmfjacehompmmaa
