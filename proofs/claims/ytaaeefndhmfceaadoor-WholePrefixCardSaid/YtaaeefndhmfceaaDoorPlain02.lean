/- Plain mathematics of layer 2: numbers and texts as bytes. No program. -/
namespace PK

/-- A number as bytes: seven bits each, the lowest first. -/
def digits (n : Nat) : List UInt8 := if h : n < 128 then [n.toUInt8] else (n % 128 + 128).toUInt8 :: digits (n / 128)
termination_by n
decreasing_by omega

theorem digits_small {n : Nat} (h : n < 128) : digits n = [n.toUInt8] := by rw [digits, dif_pos h]
theorem digits_big {n : Nat} (h : ¬ n < 128) : digits n = (n % 128 + 128).toUInt8 :: digits (n / 128) := by rw [digits, dif_neg h]
theorem digits_pos (n : Nat) : 0 < (digits n).length := by
  rw [digits]; split <;> simp
theorem digits_length_le : ∀ (k n : Nat), n < 128 ^ (k + 1) → (digits n).length ≤ k + 1
  | 0, n, h => by rw [digits_small (by simpa using h)]; simp
  | k + 1, n, h => by
    by_cases hn : n < 128
    · rw [digits_small hn]; simp
    · rw [digits_big hn]
      have : n / 128 < 128 ^ (k + 1) := by
        apply Nat.div_lt_of_lt_mul
        rw [Nat.pow_succ] at h; omega
      have := digits_length_le k (n / 128) this
      simp; omega
theorem digits_length {n : Nat} (h : n < 18446744073709551616) : (digits n).length ≤ 10 :=
  digits_length_le 9 n (Nat.lt_of_lt_of_le h (by decide))

/-- A number that may be below nought, as one that isn't. -/
def zig (n : Int) : Nat := if n < 0 then ((-(n + 1)) * 2 + 1).toNat else (n * 2).toNat

/-- A place as eight bytes, the highest first. -/
def placeB (k : Nat) : List UInt8 := (List.range 8).map fun i => (k / 256 ^ (7 - i) % 256).toUInt8
theorem placeB_length (k : Nat) : (placeB k).length = 8 := by simp [placeB]

/-- A text as bytes: how many, and these. -/
def textB (s : List UInt8) : List UInt8 := digits s.length ++ s
def flagB (b : Bool) : List UInt8 := [if b then 1 else 0]

theorem toUInt8_toNat {a : Nat} (h : a < 256) : (a.toUInt8).toNat = a := by
  simp [Nat.toUInt8, UInt8.toNat_ofNat']
  omega

/-- The number that bytes begin with, from the i-th byte of it on: n is what the bytes ahead of that told. An error, or how many bytes it has. -/
def numL (i n : Nat) : List UInt8 → Nat × Nat × Nat
  | [] => (0, i, 2)
  | c :: l =>
    if i = 9 ∧ 1 < c.toNat then (0, i + 1, 1)
    else if c.toNat < 128 then if c.toNat = 0 ∧ 0 < i then (0, i + 1, 4) else (n + c.toNat * 128 ^ i, i + 1, 0)
    else numL (i + 1) (n + c.toNat % 128 * 128 ^ i) l

/-- And back: a number that may be below nought. -/
def zag (n : Nat) : Int := if n % 2 = 1 then -((n / 2 : Nat) : Int) - 1 else ((n / 2 : Nat) : Int)

theorem numL_lt : ∀ (l : List UInt8) (i n m k : Nat), i ≤ 9 → n < 128 ^ i → numL i n l = (m, k, 0) → m < 18446744073709551616
  | [], i, n, m, k, _, _, h => by simp [numL] at h
  | c :: l, i, n, m, k, hi, hn, h => by
    unfold numL at h
    by_cases h1 : i = 9 ∧ 1 < c.toNat
    · rw [if_pos h1] at h; simp at h
    · rw [if_neg h1] at h
      by_cases h2 : c.toNat < 128
      · rw [if_pos h2] at h
        by_cases h3 : c.toNat = 0 ∧ 0 < i
        · rw [if_pos h3] at h; simp at h
        · rw [if_neg h3] at h
          simp only [Prod.mk.injEq] at h
          obtain ⟨rfl, _, _⟩ := h
          by_cases h9 : i = 9
          · subst h9
            have : c.toNat ≤ 1 := by omega
            have h4 : c.toNat * 128 ^ 9 ≤ 1 * 128 ^ 9 := Nat.mul_le_mul_right _ this
            have h5 : (128 : Nat) ^ 9 = 9223372036854775808 := by decide
            rw [h5] at hn h4 ⊢
            omega
          · have h2' : (128 : Nat) ^ i ≤ 128 ^ 8 := Nat.pow_le_pow_right (by omega) (by omega)
            have h4 : c.toNat * 128 ^ i ≤ 127 * 128 ^ 8 := Nat.mul_le_mul (by omega) h2'
            have h5 : (128 : Nat) ^ 8 = 72057594037927936 := by decide
            rw [h5] at h4 h2'
            omega
      · rw [if_neg h2] at h
        have hi8 : i ≤ 8 := by omega
        refine numL_lt l (i + 1) _ m k (by omega) ?_ h
        have h1 : c.toNat % 128 < 128 := Nat.mod_lt _ (by omega)
        rw [Nat.pow_succ]
        generalize 128 ^ i = q at *
        have : c.toNat % 128 * q ≤ 127 * q := Nat.mul_le_mul_right _ (by omega)
        omega

/-- The place that bytes are, the highest first. -/
def placeN (l : List UInt8) : Nat := l.foldl (fun k c => k * 256 + c.toNat) 0
theorem placeN_snoc (l : List UInt8) (c : UInt8) : placeN (l ++ [c]) = placeN l * 256 + c.toNat := by simp [placeN]
theorem fold_lt : ∀ (l : List UInt8) (k j : Nat), k < 256 ^ j → l.foldl (fun k c => k * 256 + c.toNat) k < 256 ^ (j + l.length)
  | [], k, j, h => h
  | c :: l, k, j, h => by
    have := fold_lt l (k * 256 + c.toNat) (j + 1) (by
      have := c.toNat_lt
      rw [Nat.pow_succ]
      generalize 256 ^ j = q at *
      omega)
    rw [List.foldl_cons, List.length_cons, show j + (l.length + 1) = j + 1 + l.length by omega]
    exact this
theorem placeN_lt (l : List UInt8) : placeN l < 256 ^ l.length := by
  have := fold_lt l 0 0 (by decide)
  rw [Nat.zero_add] at this
  exact this

theorem numL_len : ∀ (l : List UInt8) (i n m k e : Nat), numL i n l = (m, k, e) → k ≤ i + l.length
  | [], i, n, m, k, e, h => by simp [numL] at h; simp; omega
  | c :: l, i, n, m, k, e, h => by
    unfold numL at h
    rw [List.length_cons]
    by_cases h1 : i = 9 ∧ 1 < c.toNat
    · rw [if_pos h1] at h; simp at h; omega
    · rw [if_neg h1] at h
      by_cases h2 : c.toNat < 128
      · rw [if_pos h2] at h
        split at h <;> (simp only [Prod.mk.injEq] at h; omega)
      · rw [if_neg h2] at h
        have := numL_len l (i + 1) _ m k e h
        omega

theorem numL_pos : ∀ (l : List UInt8) (i n m k : Nat), numL i n l = (m, k, 0) → i < k
  | [], i, n, m, k, h => by simp [numL] at h
  | c :: l, i, n, m, k, h => by
    unfold numL at h
    by_cases h1 : i = 9 ∧ 1 < c.toNat
    · rw [if_pos h1] at h; simp at h
    · rw [if_neg h1] at h
      by_cases h2 : c.toNat < 128
      · rw [if_pos h2] at h
        split at h <;> (simp only [Prod.mk.injEq] at h; omega)
      · rw [if_neg h2] at h
        have := numL_pos l (i + 1) _ m k h
        omega

theorem placeN_append (a b : List UInt8) : placeN (a ++ b) = placeN a * 256 ^ b.length + placeN b := by
  have key : ∀ (l : List UInt8) (k : Nat), l.foldl (fun k c => k * 256 + c.toNat) k = k * 256 ^ l.length + placeN l := by
    intro l
    induction l with
    | nil => intro k; simp [placeN]
    | cons c l ih =>
      intro k
      have h0 := ih c.toNat
      unfold placeN
      rw [List.foldl_cons, List.foldl_cons, ih, Nat.zero_mul, Nat.zero_add, h0, List.length_cons, Nat.pow_succ, Nat.add_mul, Nat.mul_assoc, Nat.mul_comm 256, Nat.add_assoc]
  unfold placeN
  rw [List.foldl_append, key]
  rfl
theorem placeN_cons (c : UInt8) (l : List UInt8) : placeN (c :: l) = c.toNat * 256 ^ l.length + placeN l := by
  have := placeN_append [c] l
  rw [show [c] ++ l = c :: l from rfl] at this
  rw [this]
  simp [placeN]
theorem placeN_placeB (k : Nat) (h : k < 18446744073709551616) : placeN (placeB k) = k := by
  have e : ∀ x : Nat, ((x % 256).toUInt8).toNat = x % 256 := fun x => toUInt8_toNat (Nat.mod_lt _ (by omega))
  unfold placeB placeN
  simp only [show List.range 8 = [0, 1, 2, 3, 4, 5, 6, 7] from rfl, List.map_cons, List.map_nil, List.foldl_cons, List.foldl_nil, e]
  simp only [show (256 : Nat) ^ (7 - 0) = 72057594037927936 from by decide, show (256 : Nat) ^ (7 - 1) = 281474976710656 from by decide, show (256 : Nat) ^ (7 - 2) = 1099511627776 from by decide, show (256 : Nat) ^ (7 - 3) = 4294967296 from by decide, show (256 : Nat) ^ (7 - 4) = 16777216 from by decide, show (256 : Nat) ^ (7 - 5) = 65536 from by decide, show (256 : Nat) ^ (7 - 6) = 256 from by decide, show (256 : Nat) ^ (7 - 7) = 1 from by decide]
  omega
theorem placeB_placeN (l : List UInt8) (h : l.length = 8) : placeB (placeN l) = l := by
  match l, h with
  | [a, b, c, d, e, f, g, i], _ =>
    have ha := a.toNat_lt
    have hb := b.toNat_lt
    have hc := c.toNat_lt
    have hd := d.toNat_lt
    have he := e.toNat_lt
    have hf := f.toNat_lt
    have hg := g.toNat_lt
    have hi := i.toNat_lt
    have u : ∀ (x : UInt8) (n : Nat), n = x.toNat → n.toUInt8 = x := by
      intro x n hn
      subst hn
      simp [Nat.toUInt8]
    unfold placeB placeN
    simp only [show List.range 8 = [0, 1, 2, 3, 4, 5, 6, 7] from rfl, List.map_cons, List.map_nil, List.foldl_cons, List.foldl_nil]
    simp only [show (256 : Nat) ^ (7 - 0) = 72057594037927936 from by decide, show (256 : Nat) ^ (7 - 1) = 281474976710656 from by decide, show (256 : Nat) ^ (7 - 2) = 1099511627776 from by decide, show (256 : Nat) ^ (7 - 3) = 4294967296 from by decide, show (256 : Nat) ^ (7 - 4) = 16777216 from by decide, show (256 : Nat) ^ (7 - 5) = 65536 from by decide, show (256 : Nat) ^ (7 - 6) = 256 from by decide, show (256 : Nat) ^ (7 - 7) = 1 from by decide]
    rw [u a _ (by omega), u b _ (by omega), u c _ (by omega), u d _ (by omega), u e _ (by omega), u f _ (by omega), u g _ (by omega), u i _ (by omega)]
end PK
