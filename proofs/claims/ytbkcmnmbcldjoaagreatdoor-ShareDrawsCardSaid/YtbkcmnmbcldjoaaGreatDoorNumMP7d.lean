/- Plain mathematics of float64 words: their order by rungs, sums and products whichever is first. No condition beyond those that each theorem names. -/
import Derived.Test.YtbkcmnmbcldjoaaGreatDoorChecked
import Ieee.Arith
import Derived.Laws.FloatBits
import Derived.WalkKit
import Derived.WalkLawsBesides
import Derived.WalkSpells
import Derived.Lib.Hide
import Derived.Deep.RegionWith
namespace MF
/-- A word's rung, its sign, whether it is no number, its value in order. -/
def rung (x : Nat) : Nat := x % 9223372036854775808
def neg (x : Nat) : Bool := x / 9223372036854775808 % 2 == 1
def nan (x : Nat) : Bool := decide (9218868437227405312 < rung x)
def val (x : Nat) : Int := if neg x then -(rung x : Int) else (rung x : Int)
/-- What a finite rung stands for, in units of the least place. -/
def mg (r : Nat) : Nat := if r < 4503599627370496 then r else (4503599627370496 + r % 4503599627370496) * 2 ^ (r / 4503599627370496 - 1)
theorem mg_lt_succ (r : Nat) : mg r < mg (r + 1) := by
  unfold mg
  by_cases h1 : r + 1 < 4503599627370496
  · rw [if_pos (by omega), if_pos h1]; omega
  · by_cases h2 : r < 4503599627370496
    · have : r = 4503599627370495 := by omega
      subst this
      decide
    · rw [if_neg h2, if_neg h1]
      by_cases h3 : (r + 1) % 4503599627370496 = 0
      · have e1 : r % 4503599627370496 = 4503599627370495 := by omega
        have e2 : (r + 1) / 4503599627370496 - 1 = (r / 4503599627370496 - 1) + 1 := by omega
        rw [h3, e1, e2, Nat.pow_succ]
        have := Nat.two_pow_pos (r / 4503599627370496 - 1)
        generalize 2 ^ (r / 4503599627370496 - 1) = p at *
        omega
      · have e1 : (r + 1) % 4503599627370496 = r % 4503599627370496 + 1 := by omega
        have e2 : (r + 1) / 4503599627370496 = r / 4503599627370496 := by omega
        rw [e1, e2]
        have := Nat.two_pow_pos (r / 4503599627370496 - 1)
        exact Nat.mul_lt_mul_of_pos_right (by omega) this
theorem mg_mono {a b : Nat} (h : a < b) : mg a < mg b := by
  induction b with
  | zero => omega
  | succ n ih =>
    by_cases e : a = n
    · subst e; exact mg_lt_succ a
    · exact Nat.lt_trans (ih (by omega)) (mg_lt_succ n)
theorem mg_lt_iff (a b : Nat) : mg a < mg b ↔ a < b := by
  constructor
  · intro h
    by_cases e : a < b
    · exact e
    · by_cases e2 : a = b
      · subst e2; omega
      · have := mg_mono (a := b) (b := a) (by omega); omega
  · exact mg_mono
def sg (s : Bool) (m : Nat) : Int := if s then -(m : Int) else (m : Int)
theorem signed_eq (s : Bool) (m u : Nat) : Ieee.signed s m u = sg s (m * 2 ^ u) := by
  unfold Ieee.signed sg
  rw [Nat.shiftLeft_eq]
theorem sg_mul (s : Bool) (m p : Nat) : sg s m * (p : Int) = sg s (m * p) := by
  unfold sg
  cases s
  · simp
  · simp [Int.neg_mul]
theorem compare_mul (a b : Int) (p : Nat) (h : 0 < p) : compare (a * (p : Int)) (b * (p : Int)) = compare a b := by
  have hp : (0 : Int) < (p : Int) := by omega
  rcases Int.lt_trichotomy a b with h1 | h1 | h1
  · have := Int.mul_lt_mul_of_pos_right h1 hp
    rw [Int.compare_eq_lt.2 h1, Int.compare_eq_lt.2 this]
  · subst h1; simp
  · have := Int.mul_lt_mul_of_pos_right h1 hp
    rw [Int.compare_eq_gt.2 h1, Int.compare_eq_gt.2 this]
/-- Two numbers compared, whatever base is taken. -/
theorem compare_base (s t : Bool) (m n : Nat) (i j L : Int) (hi : L ≤ i) (hj : L ≤ j) :
    compare (Ieee.signed s m (i - min i j).toNat) (Ieee.signed t n (j - min i j).toNat) = compare (sg s (m * 2 ^ (i - L).toNat)) (sg t (n * 2 ^ (j - L).toNat)) := by
  rw [signed_eq, signed_eq]
  have hp := Nat.two_pow_pos (min i j - L).toNat
  rw [← compare_mul _ _ _ hp, sg_mul, sg_mul, Nat.mul_assoc, Nat.mul_assoc, ← Nat.pow_add, ← Nat.pow_add]
  have e1 : (i - min i j).toNat + (min i j - L).toNat = (i - L).toNat := by omega
  have e2 : (j - min i j).toNat + (min i j - L).toNat = (j - L).toNat := by omega
  rw [e1, e2]
theorem leastPlace : Ieee.double.leastPlace = -1074 := by decide
theorem binade : Ieee.double.binade = 4503599627370496 := by decide
theorem infRung : Ieee.double.infRung = 9218868437227405312 := by decide
theorem signWeight : Ieee.double.signWeight = 9223372036854775808 := by decide
theorem read_inf (x : Nat) (h : rung x = 9218868437227405312) : Ieee.double.read x = .infinity (neg x) := by
  unfold rung at h
  simp only [Ieee.Format.read, binade, infRung, signWeight, h]
  rfl
theorem read_nan (x : Nat) (h : 9218868437227405312 < rung x) : Ieee.double.read x = .nan (neg x) (rung x - 9218868437227405312) := by
  unfold rung at h
  simp only [Ieee.Format.read, binade, infRung, signWeight, leastPlace]
  rw [if_neg (by omega), if_neg (by omega), if_neg (by omega)]
  rfl
theorem read_num (x : Nat) (h : rung x < 9218868437227405312) : ∃ m p, Ieee.double.read x = .number (neg x) m p ∧ -1074 ≤ p ∧ m * 2 ^ (p - (-1074)).toNat = mg (rung x) ∧ (m = 0 ↔ rung x = 0) := by
  unfold rung at h
  simp only [Ieee.Format.read, binade, infRung, signWeight, leastPlace]
  by_cases h1 : x % 9223372036854775808 < 4503599627370496
  · rw [if_pos h1]
    refine ⟨_, _, rfl, by omega, ?_, ?_⟩
    · unfold mg rung; rw [if_pos h1]; simp
    · unfold rung; rfl
  · rw [if_neg h1, if_pos h]
    refine ⟨_, _, rfl, by omega, ?_, ?_⟩
    · unfold mg rung; rw [if_neg h1]
      congr 2
      omega
    · unfold rung; omega
theorem order_nan_left (x y : Nat) (h : nan x = true) : Ieee.double.order x y = none := by
  unfold nan at h
  unfold Ieee.Format.order
  rw [read_nan x (by simpa using h)]
  rfl
theorem order_nan_right (x y : Nat) (h : nan y = true) : Ieee.double.order x y = none := by
  unfold nan at h
  unfold Ieee.Format.order
  rw [read_nan y (by simpa using h)]
  cases Ieee.double.read x <;> rfl
theorem compare_sg (s t : Bool) (a b : Nat) : compare (sg s (mg a)) (sg t (mg b)) = compare (sg s a) (sg t b) := by
  have h1 := mg_lt_iff a b
  have h2 := mg_lt_iff b a
  have z : mg 0 = 0 := by decide
  have h3 := mg_lt_iff 0 a
  have h4 := mg_lt_iff 0 b
  rw [z] at h3 h4
  generalize mg a = x at *
  generalize mg b = y at *
  have key : ∀ u v u' v' : Int, (u < v ↔ u' < v') → (v < u ↔ v' < u') → compare u v = compare u' v' := by
    intro u v u' v' g1 g2
    rcases Int.lt_trichotomy u v with h | h | h
    · rw [Int.compare_eq_lt.2 h, Int.compare_eq_lt.2 (g1.1 h)]
    · have e : u' = v' := by omega
      subst h; subst e; simp
    · rw [Int.compare_eq_gt.2 h, Int.compare_eq_gt.2 (g2.1 h)]
  apply key
  · cases s <;> cases t <;> simp only [sg, if_true, if_false, Bool.false_eq_true] <;> omega
  · cases s <;> cases t <;> simp only [sg, if_true, if_false, Bool.false_eq_true] <;> omega
theorem val_eq (x : Nat) : val x = sg (neg x) (rung x) := rfl
/-- ONE ORDER: two words that are numbers stand to each other as their values. -/
theorem order_num (x y : Nat) (hx : nan x = false) (hy : nan y = false) : Ieee.double.order x y = some (compare (val x) (val y)) := by
  unfold nan at hx hy
  simp only [decide_eq_false_iff_not, Nat.not_lt] at hx hy
  unfold Ieee.Format.order
  rw [val_eq, val_eq]
  by_cases ix : rung x = 9218868437227405312
  · rw [read_inf x ix]
    by_cases iy : rung y = 9218868437227405312
    · rw [read_inf y iy, ix, iy]
      cases neg x <;> cases neg y <;> simp [Ieee.Datum.order, sg, compare, compareOfLessAndEq]
    · obtain ⟨m, p, e, _, _, _⟩ := read_num y (by omega)
      rw [e, ix]
      simp only [Ieee.Datum.order]
      congr 1
      cases neg x <;> cases neg y <;> simp only [sg, if_true, if_false, Bool.false_eq_true]
      · exact (Int.compare_eq_gt.2 (by omega)).symm
      · exact (Int.compare_eq_gt.2 (by omega)).symm
      · exact (Int.compare_eq_lt.2 (by omega)).symm
      · exact (Int.compare_eq_lt.2 (by omega)).symm
  · obtain ⟨m, p, e, hp, hm, _⟩ := read_num x (by omega)
    rw [e]
    by_cases iy : rung y = 9218868437227405312
    · rw [read_inf y iy, iy]
      simp only [Ieee.Datum.order]
      congr 1
      cases neg x <;> cases neg y <;> simp only [sg, if_true, if_false, Bool.false_eq_true]
      · exact (Int.compare_eq_lt.2 (by omega)).symm
      · exact (Int.compare_eq_gt.2 (by omega)).symm
      · exact (Int.compare_eq_lt.2 (by omega)).symm
      · exact (Int.compare_eq_gt.2 (by omega)).symm
    · obtain ⟨n, q, e', hq, hn, _⟩ := read_num y (by omega)
      rw [e']
      simp only [Ieee.Datum.order]
      rw [compare_base _ _ _ _ _ _ (-1074) hp hq, hm, hn, compare_sg]
theorem order_eq (x y : Nat) : (Ieee.double.order x y == some .eq) = (!nan x && !nan y && decide (val x = val y)) := by
  by_cases hx : nan x = true
  · rw [order_nan_left x y hx, hx]; rfl
  by_cases hy : nan y = true
  · rw [order_nan_right x y hy, hy]; simp
  simp only [Bool.not_eq_true] at hx hy
  rw [order_num x y hx hy, hx, hy]
  rcases Int.lt_trichotomy (val x) (val y) with h | h | h
  · rw [Int.compare_eq_lt.2 h]; simp; omega
  · rw [Int.compare_eq_eq.2 h]; simp [h]
  · rw [Int.compare_eq_gt.2 h]; simp; omega
theorem order_lt (x y : Nat) : (Ieee.double.order x y == some .lt) = (!nan x && !nan y && decide (val x < val y)) := by
  by_cases hx : nan x = true
  · rw [order_nan_left x y hx, hx]; rfl
  by_cases hy : nan y = true
  · rw [order_nan_right x y hy, hy]; simp
  simp only [Bool.not_eq_true] at hx hy
  rw [order_num x y hx hy, hx, hy]
  rcases Int.lt_trichotomy (val x) (val y) with h | h | h
  · rw [Int.compare_eq_lt.2 h]; simp [h]
  · rw [Int.compare_eq_eq.2 h]; simp [h]
  · rw [Int.compare_eq_gt.2 h]; simp; omega
/-- Which of two is first doesn't matter. -/
theorem sum_comm (x y : Ieee.Datum) : x.sum y = y.sum x := by
  cases x <;> cases y <;> simp only [Ieee.Datum.sum]
  case number.number s m i t n j =>
    simp only [Int.min_comm i j, Int.add_comm, Bool.and_comm]
  case infinity.infinity s t =>
    cases s <;> cases t <;> rfl
theorem product_comm (x y : Ieee.Datum) : x.product y = y.product x := by
  cases x <;> cases y <;> simp only [Ieee.Datum.product]
  case number.number s m i t n j =>
    rw [Nat.mul_comm m n, Int.add_comm i j, Bool.xor_comm]
  case infinity.infinity s t =>
    rw [Bool.xor_comm]
theorem add_comm (x y : Nat) : Ieee.double.add x y = Ieee.double.add y x := by
  unfold Ieee.Format.add; rw [sum_comm]
theorem mul_comm (x y : Nat) : Ieee.double.mul x y = Ieee.double.mul y x := by
  unfold Ieee.Format.mul; rw [product_comm]
/-- What isn't itself is no number. -/
theorem neq_self (x : Nat) : (Ieee.double.order x x != some .eq) = nan x := by
  have := order_eq x x
  rw [bne, this]
  cases nan x <;> simp
/-- A number's one form, whether it is in it; its place; the word at a place. -/
def canon (x : Nat) : Nat := if nan x then 9221120237041090561 else x
theorem canon_eq (x : Nat) (b : Bool) (h : nan x = b) : canon x = if b then 9221120237041090561 else x := by
  unfold canon; rw [h]
def proper (x : Nat) : Bool := x == canon x
def place (c : Nat) : Nat := if c < 9223372036854775808 then c + 9223372036854775808 else 18446744073709551615 - c
def key (x : Nat) : Nat := place (canon x)
def bk (k : Nat) : Nat := if k < 9223372036854775808 then 18446744073709551615 - k else k - 9223372036854775808
def less (a b : Nat) : Bool := decide (key a < key b)
def same (a b : Nat) : Bool := decide (key a = key b)
def mx (a b : Nat) : Nat := if less a b then canon b else canon a
def mn (a b : Nat) : Nat := if less b a then canon b else canon a
def above (x : Nat) : Nat := if proper (bk (key x + 1)) then bk (key x + 1) else 9221120237041090561
theorem canon_lt {x : Nat} (h : x < 18446744073709551616) : canon x < 18446744073709551616 := by
  unfold canon; split <;> omega
/-- The parts of a word. -/
theorem parts {x : Nat} (h : x < 18446744073709551616) : (neg x = false ∧ x = rung x ∧ x < 9223372036854775808) ∨ (neg x = true ∧ x = rung x + 9223372036854775808 ∧ 9223372036854775808 ≤ x) := by
  unfold neg rung
  by_cases e : x < 9223372036854775808
  · left; refine ⟨?_, by omega, e⟩
    rw [show x / 9223372036854775808 = 0 by omega]; rfl
  · right; refine ⟨?_, by omega, by omega⟩
    rw [show x / 9223372036854775808 = 1 by omega]; rfl
/-- Where a place is. -/
theorem key_nan {x : Nat} (h : nan x = true) : key x = 18444492273895866369 := by
  unfold key canon; rw [h, if_pos rfl]; decide
theorem key_num {x : Nat} (hx : x < 18446744073709551616) (h : nan x = false) : key x = if neg x then 9223372036854775807 - rung x else 9223372036854775808 + rung x := by
  unfold key canon place
  rw [h]
  rcases parts hx with ⟨h1, h2, h3⟩ | ⟨h1, h2, h3⟩
  · rw [h1]; simp only [Bool.false_eq_true, if_false]; rw [if_pos h3]; omega
  · rw [h1]; simp only [Bool.false_eq_true, if_false, if_true]; rw [if_neg (by omega)]; omega
theorem nan_iff (x : Nat) : nan x = false ↔ rung x ≤ 9218868437227405312 := by
  unfold nan; simp
theorem key_bd {x : Nat} (hx : x < 18446744073709551616) : key x ≤ 18444492273895866369 ∧ 4503599627370495 ≤ key x := by
  cases h : nan x
  · rw [key_num hx h]
    have := (nan_iff x).1 h
    split <;> omega
  · rw [key_nan h]; omega
theorem bk_key {x : Nat} (hx : x < 18446744073709551616) : bk (key x) = canon x := by
  have := canon_lt hx
  unfold bk key place
  split <;> split <;> omega
/-- The order by what numbers are. -/
def rbelow (x : Nat) : Bool := if rung x = 0 then neg x else decide (val x < 0)
def rless (a b : Nat) : Bool := if nan a then false else if nan b then true else if val a = 0 ∧ val b = 0 then rbelow a && !rbelow b else decide (val a < val b)
theorem val_zero (x : Nat) : val x = 0 ↔ rung x = 0 := by
  unfold val; split <;> omega
theorem rless_eq {a b : Nat} (ha : a < 18446744073709551616) (hb : b < 18446744073709551616) : rless a b = less a b := by
  unfold rless less
  cases na : nan a
  · cases nb : nan b
    · have ka := key_num ha na
      have kb := key_num hb nb
      have ra := (nan_iff a).1 na
      have rb := (nan_iff b).1 nb
      rw [ka, kb]
      simp only [val_zero]
      unfold rbelow val
      generalize rung a = x at *
      generalize rung b = y at *
      by_cases x0 : x = 0 <;> by_cases y0 : y = 0 <;> cases neg a <;> cases neg b <;> simp [x0, y0] <;> omega
    · rw [key_nan nb]
      have := key_num ha na
      have ra := (nan_iff a).1 na
      simp
      rw [this]; split <;> omega
  · rw [key_nan na]
    simp
    have := (key_bd hb).1
    omega
/-- Sums, products, quotients. -/
theorem order_zero_eq (x : Nat) : (Ieee.double.order x 0 == some .eq) = (!nan x && decide (rung x = 0)) := by
  rw [order_eq]
  have : nan 0 = false := by decide
  have v : val 0 = 0 := by decide
  rw [this, v]
  simp [val_zero]
theorem order_zero_lt (x : Nat) : (Ieee.double.order x 0 == some .lt) = (!nan x && decide (val x < 0)) := by
  rw [order_lt]
  have : nan 0 = false := by decide
  have v : val 0 = 0 := by decide
  rw [this, v]
  simp
def winf (s : Bool) : Nat := if s then 18442240474082181120 else 9218868437227405312
theorem div_zero (x : Nat) (h : rung x = 0) : Ieee.double.div 4607182418800017408 x = some (winf (neg x)) := by
  unfold Ieee.Format.div
  obtain ⟨m, p, e, _, _, hm⟩ := read_num x (by rw [h]; decide)
  have m0 : m = 0 := hm.2 h
  subst m0
  rw [e, show Ieee.double.read 4607182418800017408 = .number false 4503599627370496 (-52) by decide]
  simp only [Ieee.Datum.quotient]
  cases neg x <;> rfl
theorem winf_lt (s : Bool) : (Ieee.double.order (winf s) 0 == some .lt) = s := by
  rw [order_zero_lt]
  cases s <;> decide
/-- What a sum or product that isn't drawn has. -/
theorem nan_cut (t : Nat) : nan ((t % 2) * 2 ^ 63 + 0x7ff0000000000000 + 1 + (t / 2) % (2 ^ 52 - 1)) = true ∧ (t % 2) * 2 ^ 63 + 0x7ff0000000000000 + 1 + (t / 2) % (2 ^ 52 - 1) < 18446744073709551616 := by
  have h2 : (t / 2) % (2 ^ 52 - 1) < 2 ^ 52 - 1 := Nat.mod_lt _ (by decide)
  generalize (t / 2) % (2 ^ 52 - 1) = r at *
  unfold nan rung
  have e63 : (2 : Nat) ^ 63 = 9223372036854775808 := by decide
  have e52 : (2 : Nat) ^ 52 = 4503599627370496 := by decide
  rw [e52] at h2
  rw [e63]
  have h3 : t % 2 < 2 := Nat.mod_lt _ (by decide)
  generalize t % 2 = s at *
  constructor
  · simp; omega
  · omega
end MF
namespace MF
/-- A word of 64 bits. -/
def W64 (x : Nat) : Prop := x < 18446744073709551616
theorem w_canon {x : Nat} (h : W64 x) : W64 (canon x) := canon_lt h
theorem w_mx {a b : Nat} (ha : W64 a) (hb : W64 b) : W64 (mx a b) := by unfold mx; split; exact w_canon hb; exact w_canon ha
theorem w_mn {a b : Nat} (ha : W64 a) (hb : W64 b) : W64 (mn a b) := by unfold mn; split; exact w_canon hb; exact w_canon ha
theorem w_nn : W64 9221120237041090561 := by unfold W64; decide
def canonO : Option Nat → Nat
  | some r => canon r
  | none => 9221120237041090561
def plus (a b : Nat) : Nat := canonO (Ieee.double.add a b)
def times (a b : Nat) : Nat := canonO (Ieee.double.mul a b)
theorem mx_yes (a b : Nat) (h : less a b = true) : mx a b = canon b := by unfold mx; rw [if_pos h]
theorem mx_no (a b : Nat) (h : less a b = false) : mx a b = canon a := by unfold mx; rw [if_neg (by rw [h]; simp)]
theorem mn_yes (a b : Nat) (h : less b a = true) : mn a b = canon b := by unfold mn; rw [if_pos h]
theorem mn_no (a b : Nat) (h : less b a = false) : mn a b = canon a := by unfold mn; rw [if_neg (by rw [h]; simp)]
theorem key_low {x : Nat} (hx : canon x < 9223372036854775808) : key x = canon x + 9223372036854775808 := by unfold key place; rw [if_pos hx]
theorem key_high {x : Nat} (hx : ¬ canon x < 9223372036854775808) : key x = 18446744073709551615 - canon x := by unfold key place; rw [if_neg hx]
theorem same_of {a b : Nat} (h : key a = key b) : same a b = true := by unfold same; simpa using h
theorem add_w {a b r : Nat} (h : Ieee.double.add a b = some r) : W64 r := Ieee.double.add_lt h
theorem mul_w {a b r : Nat} (h : Ieee.double.mul a b = some r) : W64 r := Ieee.double.mul_lt h
theorem w_canonO {o : Option Nat} (h : ∀ r, o = some r → W64 r) : W64 (canonO o) := by
  cases o with
  | none => exact w_nn
  | some r => exact w_canon (h r rfl)
theorem w_plus (a b : Nat) : W64 (plus a b) := w_canonO fun _ h => add_w h
theorem w_times (a b : Nat) : W64 (times a b) := w_canonO fun _ h => mul_w h
end MF
namespace MF
open Go
theorem top_and_no (c : Nat) (h : c < 9223372036854775808) : (bits .and .u64 (c : Int) 9223372036854775808 == 0) = true := by
  have := u64_and_nat c 9223372036854775808 (by omega) (by omega)
  rw [show ((9223372036854775808 : Nat) : Int) = 9223372036854775808 from rfl] at this
  rw [this, show (9223372036854775808 : Nat) = 2 ^ 63 by decide, nat_bit, show c / 2 ^ 63 = 0 from by rw [show (2 : Nat) ^ 63 = 9223372036854775808 by decide]; omega]
  decide
theorem top_and_yes (c : Nat) (h : 9223372036854775808 ≤ c) (h2 : c < 18446744073709551616) : (bits .and .u64 (c : Int) 9223372036854775808 == 0) = false := by
  have := u64_and_nat c 9223372036854775808 (by omega) (by omega)
  rw [show ((9223372036854775808 : Nat) : Int) = 9223372036854775808 from rfl] at this
  rw [this, show (9223372036854775808 : Nat) = 2 ^ 63 by decide, nat_bit, show c / 2 ^ 63 = 1 from by rw [show (2 : Nat) ^ 63 = 9223372036854775808 by decide]; omega]
  decide
theorem top_or (c : Nat) (h : c < 9223372036854775808) : bits .or .u64 (c : Int) 9223372036854775808 = ((c + 9223372036854775808 : Nat) : Int) := by
  have := u64_or_nat c 9223372036854775808 (by omega) (by omega)
  rw [show ((9223372036854775808 : Nat) : Int) = 9223372036854775808 from rfl] at this
  rw [this, Nat.or_comm, nat_join 63 9223372036854775808 c (by decide) (by rw [show (2 : Nat) ^ 63 = 9223372036854775808 by decide]; exact h), Nat.add_comm]
theorem all_xor (c : Nat) (h : c < 18446744073709551616) : bits .xor .u64 IntKind.u64.max (c : Int) = ((18446744073709551615 - c : Nat) : Int) := by
  have e : IntKind.u64.max = ((18446744073709551615 : Nat) : Int) := by decide
  rw [e, u64_xor_nat _ _ (by decide) h]
  congr 1
  apply Nat.eq_of_testBit_eq
  intro i
  rw [Nat.testBit_xor, show (18446744073709551615 : Nat) - c = 2 ^ 64 - (c + 1) from by rw [show (2 : Nat) ^ 64 = 18446744073709551616 by decide]; omega, Nat.testBit_two_pow_sub_succ (by rw [show (2 : Nat) ^ 64 = 18446744073709551616 by decide]; exact h), show (18446744073709551615 : Nat) = 2 ^ 64 - 1 by decide, Nat.testBit_two_pow_sub_one]
  by_cases hi : i < 64
  · simp [hi]
  · simp [hi]
    exact Nat.testBit_lt_two_pow (Nat.lt_of_lt_of_le (by rw [show (18446744073709551616 : Nat) = 2 ^ 64 by decide] at h; exact h) (Nat.pow_le_pow_right (by decide) (by omega)))
/-- A sum, a product of the machine that is no number: its bits are drawn. -/
def nb (w : World) (x y : Nat) : Nat := (Question.nanBits .f64 x y).cut (w.tape w.drawn (Question.nanBits .f64 x y))
theorem nan_nb (w : World) (x y : Nat) : nan (nb w x y) = true := (nan_cut _).1
theorem run_nb {P : Program} (op : BinOp) (t : TypeId) (x y : Nat) (w : World) (hop : op = .add ∨ op = .mul) (h : floatBits op .f64 x y = none) :
    (binOp op t (.float .f64 x) (.float .f64 y)).run P w = .ok (.float .f64 (nb w x y)) w.drew := by
  unfold floatBits at h
  unfold nb
  rcases hop with rfl | rfl <;> simp only at h <;> simp [binOp, Op.floatArith, h, Question.forced]
end MF
namespace Go.Proofs.YtbkcmnmbcldjoaaGreatDoor
open Go.RowKit
theorem ret_bool {a b : Bool} (h : a = b) : Ending.returned (.bool a) = .returned (.bool b) := by rw [h]
theorem ret_flo {a b : Nat} (h : a = b) : Ending.returned (.float .f64 a) = .returned (.float .f64 b) := by rw [h]
theorem ret_int {k : IntKind} {a b : Int} (h : a = b) : Ending.returned (.int k a) = .returned (.int k b) := by rw [h]
@[go_sem] theorem run_bits (x : Nat) (w : World) : (callFunc 95 #[.float .f64 x]).run Tryz.prog w = .ok (.value (.int .u64 x)) w := by
  rw [run_callFunc_extern (e := Extern.MathFloatBits.float64bits) Tryz.func95 (by kernel_rfl) (by kernel_rfl) (by kernel_rfl) (by kernel_rfl)]; rfl
@[go_sem] theorem run_frombits (n : Int) (w : World) : (callFunc 77 #[.int .u64 n]).run Tryz.prog w = .ok (.value (.float .f64 n.toNat)) w := by
  rw [run_callFunc_extern (e := Extern.MathFloatBits.float64frombits) Tryz.func77 (by kernel_rfl) (by kernel_rfl) (by kernel_rfl) (by kernel_rfl)]; rfl
set_option maxHeartbeats 400000 in
theorem isNaN_any (x : Nat) (b : Bool) (w : World) (h : MF.nan x = b) :
    Calls Tryz.prog 78 #[.float .f64 x] w fun e w' => e = .returned (.bool b) ∧ w = w' := by
  go_enter Tryz.func78, Tryz.ntmps78
  go_wp2
  go_ret
  exact ⟨ret_bool ((MF.neq_self x).trans h), rfl⟩
set_option maxHeartbeats 400000 in
theorem canon_any (x : Nat) (w : World) :
    Calls Tryz.prog 38 #[.float .f64 x] w fun e w' => e = .returned (.float .f64 (MF.canon x)) ∧ w = w' := by
  cases hn : MF.nan x
  all_goals
    have hc := MF.canon_eq x _ hn
    have Hc := Lib.hid hc
    have Hn := Lib.hid hn
    clear hc hn
    go_enter Tryz.func38, Tryz.ntmps38
    go_wp2_with (go_at_call 78; refine (isNaN_any x _ _ Hn.out).mono ?_; rintro e w' ⟨rfl, rfl⟩)
    go_ret
    exact ⟨ret_flo Hc.out.symm, rfl⟩
set_option maxHeartbeats 400000 in
theorem proper_any (x : Nat) (w : World) :
    Calls Tryz.prog 102 #[.float .f64 x] w fun e w' => e = .returned (.bool (MF.proper x)) ∧ w = w' := by
  go_enter Tryz.func102, Tryz.ntmps102
  go_wp2_with (go_at_call 38; refine (canon_any x _).mono ?_; rintro e w' ⟨rfl, rfl⟩)
  go_ret
  refine ⟨ret_bool ?_, rfl⟩
  unfold MF.proper
  rw [Bool.eq_iff_iff]; simp; omega
set_option maxHeartbeats 400000 in
theorem key_any (x : Nat) (w : World) (hx : MF.W64 x) :
    Calls Tryz.prog 112 #[.float .f64 x] w fun e w' => e = .returned (.int .u64 (MF.key x)) ∧ w = w' := by
  have hc := MF.w_canon hx
  by_cases h : MF.canon x < 9223372036854775808
  · have t := MF.top_and_no _ h
    have k := Lib.hid ((MF.top_or _ h).trans (congrArg Int.ofNat (MF.key_low h).symm))
    clear h hc
    go_enter Tryz.func112, Tryz.ntmps112
    go_wp2_with (go_at_call 38; refine (canon_any x _).mono ?_; rintro e w' ⟨rfl, rfl⟩)
    go_ret
    exact ⟨ret_int k.out, rfl⟩
  · have t := MF.top_and_yes _ (Nat.le_of_not_lt h) hc
    have k := Lib.hid ((MF.all_xor _ hc).trans (congrArg Int.ofNat (MF.key_high h).symm))
    clear h hc
    go_enter Tryz.func112, Tryz.ntmps112
    go_wp2_with (go_at_call 38; refine (canon_any x _).mono ?_; rintro e w' ⟨rfl, rfl⟩)
    go_ret
    exact ⟨ret_int k.out, rfl⟩
set_option maxHeartbeats 400000 in
theorem less_any (a b : Nat) (w : World) (ha : MF.W64 a) (hb : MF.W64 b) :
    Calls Tryz.prog 83 #[.float .f64 a, .float .f64 b] w fun e w' => e = .returned (.bool (MF.less a b)) ∧ w = w' := by
  go_enter Tryz.func83, Tryz.ntmps83
  go_wp2_with (go_at_call 112; refine (key_any _ _ (by assumption)).mono ?_; rintro e w' ⟨rfl, rfl⟩)
  go_ret
  exact ⟨ret_bool rfl, rfl⟩
set_option maxHeartbeats 400000 in
theorem same_any (a b : Nat) (w : World) (ha : MF.W64 a) (hb : MF.W64 b) :
    Calls Tryz.prog 98 #[.float .f64 a, .float .f64 b] w fun e w' => e = .returned (.bool (MF.same a b)) ∧ w = w' := by
  go_enter Tryz.func98, Tryz.ntmps98
  go_wp2_with (go_at_call 112; refine (key_any _ _ (by assumption)).mono ?_; rintro e w' ⟨rfl, rfl⟩)
  go_ret
  refine ⟨ret_bool ?_, rfl⟩
  unfold MF.same
  rw [Bool.eq_iff_iff]; simp; omega
set_option maxHeartbeats 400000 in
theorem max_any (a b : Nat) (w : World) (ha : MF.W64 a) (hb : MF.W64 b) :
    Calls Tryz.prog 46 #[.float .f64 a, .float .f64 b] w fun e w' => e = .returned (.float .f64 (MF.mx a b)) ∧ w = w' := by
  cases hl : MF.less a b
  · have Hm := Lib.hid (MF.mx_no a b hl)
    have Hl := Lib.hid hl
    clear hl
    go_enter Tryz.func46, Tryz.ntmps46
    go_wp2_with (first | (go_at_call 83; refine (less_any _ _ _ ha hb).mono ?_; rw [Hl.out]; rintro e w' ⟨rfl, rfl⟩) | (go_at_call 38; refine (canon_any _ _).mono ?_; rintro e w' ⟨rfl, rfl⟩))
    go_ret
    exact ⟨ret_flo Hm.out.symm, rfl⟩
  · have Hm := Lib.hid (MF.mx_yes a b hl)
    have Hl := Lib.hid hl
    clear hl
    go_enter Tryz.func46, Tryz.ntmps46
    go_wp2_with (first | (go_at_call 83; refine (less_any _ _ _ ha hb).mono ?_; rw [Hl.out]; rintro e w' ⟨rfl, rfl⟩) | (go_at_call 38; refine (canon_any _ _).mono ?_; rintro e w' ⟨rfl, rfl⟩))
    go_ret
    exact ⟨ret_flo Hm.out.symm, rfl⟩
set_option maxHeartbeats 400000 in
theorem min_any (a b : Nat) (w : World) (ha : MF.W64 a) (hb : MF.W64 b) :
    Calls Tryz.prog 47 #[.float .f64 a, .float .f64 b] w fun e w' => e = .returned (.float .f64 (MF.mn a b)) ∧ w = w' := by
  cases hl : MF.less b a
  · have Hm := Lib.hid (MF.mn_no a b hl)
    have Hl := Lib.hid hl
    clear hl
    go_enter Tryz.func47, Tryz.ntmps47
    go_wp2_with (first | (go_at_call 83; refine (less_any _ _ _ hb ha).mono ?_; rw [Hl.out]; rintro e w' ⟨rfl, rfl⟩) | (go_at_call 38; refine (canon_any _ _).mono ?_; rintro e w' ⟨rfl, rfl⟩))
    go_ret
    exact ⟨ret_flo Hm.out.symm, rfl⟩
  · have Hm := Lib.hid (MF.mn_yes a b hl)
    have Hl := Lib.hid hl
    clear hl
    go_enter Tryz.func47, Tryz.ntmps47
    go_wp2_with (first | (go_at_call 83; refine (less_any _ _ _ hb ha).mono ?_; rw [Hl.out]; rintro e w' ⟨rfl, rfl⟩) | (go_at_call 38; refine (canon_any _ _).mono ?_; rintro e w' ⟨rfl, rfl⟩))
    go_ret
    exact ⟨ret_flo Hm.out.symm, rfl⟩
set_option maxHeartbeats 400000 in
/-- A sum: what the machine reckons, in its one form; if that is no number, its bits were drawn. -/
theorem plus_any (a b : Nat) (w : World) :
    Calls Tryz.prog 129 #[.float .f64 a, .float .f64 b] w fun e w' => e = .returned (.float .f64 (MF.plus a b)) ∧ ∃ k, w' = w.drewN k := by
  cases hs : Ieee.double.add a b with
  | some r =>
    have hr := fun w => run_float_arith (P := Tryz.prog) w .add 22 .f64 a b r hs
    have Hp := Lib.hid (show MF.plus a b = MF.canon r by unfold MF.plus; rw [hs]; rfl)
    have hv := fun (x : Nat) (w : World) => run_convert_float_float (P := Tryz.prog) w 22 22 .f64 .f64 x x (by rw [Tryz.underlying22]; rfl) Tryz.underlying22 (by unfold floatToFloatBits; rw [if_pos rfl])
    clear hs
    go_enter Tryz.func129, Tryz.ntmps129
    go_wp2_with (go_at_call 38; refine (canon_any _ _).mono ?_; rintro e w' ⟨rfl, rfl⟩)
    go_ret
    exact ⟨ret_flo Hp.out.symm, 0, rfl⟩
  | none =>
    have hn := MF.nan_nb w a b
    have hr := MF.run_nb (P := Tryz.prog) .add 22 a b w (.inl rfl) hs
    have Hp := Lib.hid (show MF.plus a b = MF.canon (MF.nb w a b) by unfold MF.plus; rw [hs, MF.canon_eq _ true hn]; rfl)
    have hv := fun (x : Nat) (w : World) => run_convert_float_float (P := Tryz.prog) w 22 22 .f64 .f64 x x (by rw [Tryz.underlying22]; rfl) Tryz.underlying22 (by unfold floatToFloatBits; rw [if_pos rfl])
    clear hs hn
    go_enter Tryz.func129, Tryz.ntmps129
    go_wp2_with (go_at_call 38; refine (canon_any _ _).mono ?_; rintro e w' ⟨rfl, rfl⟩)
    go_ret
    exact ⟨ret_flo Hp.out.symm, 1, rfl⟩
set_option maxHeartbeats 400000 in
theorem times_any (a b : Nat) (w : World) :
    Calls Tryz.prog 130 #[.float .f64 a, .float .f64 b] w fun e w' => e = .returned (.float .f64 (MF.times a b)) ∧ ∃ k, w' = w.drewN k := by
  cases hs : Ieee.double.mul a b with
  | some r =>
    have hr := fun w => run_float_arith (P := Tryz.prog) w .mul 22 .f64 a b r hs
    have Hp := Lib.hid (show MF.times a b = MF.canon r by unfold MF.times; rw [hs]; rfl)
    have hv := fun (x : Nat) (w : World) => run_convert_float_float (P := Tryz.prog) w 22 22 .f64 .f64 x x (by rw [Tryz.underlying22]; rfl) Tryz.underlying22 (by unfold floatToFloatBits; rw [if_pos rfl])
    clear hs
    go_enter Tryz.func130, Tryz.ntmps130
    go_wp2_with (go_at_call 38; refine (canon_any _ _).mono ?_; rintro e w' ⟨rfl, rfl⟩)
    go_ret
    exact ⟨ret_flo Hp.out.symm, 0, rfl⟩
  | none =>
    have hn := MF.nan_nb w a b
    have hr := MF.run_nb (P := Tryz.prog) .mul 22 a b w (.inr rfl) hs
    have Hp := Lib.hid (show MF.times a b = MF.canon (MF.nb w a b) by unfold MF.times; rw [hs, MF.canon_eq _ true hn]; rfl)
    have hv := fun (x : Nat) (w : World) => run_convert_float_float (P := Tryz.prog) w 22 22 .f64 .f64 x x (by rw [Tryz.underlying22]; rfl) Tryz.underlying22 (by unfold floatToFloatBits; rw [if_pos rfl])
    clear hs hn
    go_enter Tryz.func130, Tryz.ntmps130
    go_wp2_with (go_at_call 38; refine (canon_any _ _).mono ?_; rintro e w' ⟨rfl, rfl⟩)
    go_ret
    exact ⟨ret_flo Hp.out.symm, 1, rfl⟩
set_option maxHeartbeats 400000 in
theorem rnone_any (x : Nat) (b : Bool) (w : World) (h : MF.nan x = b) :
    Calls Tryz.prog 94 #[.float .f64 x] w fun e w' => e = .returned (.bool b) ∧ w = w' := by
  go_enter Tryz.func94, Tryz.ntmps94
  go_wp2
  go_ret
  exact ⟨ret_bool ((MF.neq_self x).trans h), rfl⟩
set_option maxHeartbeats 400000 in
theorem rbelow_any (x : Nat) (w : World) (hn : MF.nan x = false) :
    Calls Tryz.prog 111 #[.float .f64 x] w fun e w' => e = .returned (.bool (MF.rbelow x)) ∧ w = w' := by
  by_cases h : MF.rung x = 0
  · have t : (FloatKind.f64.format.order x 0 == some .eq) = true := (MF.order_zero_eq x).trans (by simp [h, hn])
    have q := fun w => run_float_arith (P := Tryz.prog) w .quo 22 .f64 4607182418800017408 x _ (MF.div_zero x h)
    have H := Lib.hid (show MF.rbelow x = MF.neg x by unfold MF.rbelow; rw [if_pos h])
    clear h hn
    go_enter Tryz.func111, Tryz.ntmps111
    go_wp2
    go_ret
    exact ⟨ret_bool ((MF.winf_lt _).trans H.out.symm), rfl⟩
  · have t : (FloatKind.f64.format.order x 0 == some .eq) = false := (MF.order_zero_eq x).trans (by simp [h, hn])
    have H := Lib.hid (show (Ieee.double.order x 0 == some .lt) = MF.rbelow x by rw [MF.order_zero_lt]; unfold MF.rbelow; rw [if_neg h, hn]; rfl)
    clear h hn
    go_enter Tryz.func111, Tryz.ntmps111
    go_wp2
    go_ret
    exact ⟨ret_bool H.out, rfl⟩
set_option maxHeartbeats 400000 in
theorem rless_any (a b : Nat) (w : World) (ha : MF.W64 a) (hb : MF.W64 b) :
    Calls Tryz.prog 80 #[.float .f64 a, .float .f64 b] w fun e w' => e = .returned (.bool (MF.less a b)) ∧ w = w' := by
  have Hl := Lib.hid (MF.rless_eq ha hb)
  clear ha hb
  cases na : MF.nan a
  · cases nb : MF.nan b
    · have ea : (FloatKind.f64.format.order a 0 == some .eq) = decide (MF.rung a = 0) := (MF.order_zero_eq a).trans (by rw [na]; rfl)
      have eb : (FloatKind.f64.format.order b 0 == some .eq) = decide (MF.rung b = 0) := (MF.order_zero_eq b).trans (by rw [nb]; rfl)
      by_cases z : MF.rung a = 0 ∧ MF.rung b = 0
      · obtain ⟨za, zb⟩ := z
        rw [decide_eq_true za] at ea
        rw [decide_eq_true zb] at eb
        have H := Lib.hid (show MF.rless a b = (MF.rbelow a && !MF.rbelow b) by unfold MF.rless; simp [na, nb, za, zb, MF.val_zero])
        clear za zb
        cases va : MF.rbelow a
        all_goals
          go_enter Tryz.func80, Tryz.ntmps80
          go_wp2_with (first | (go_at_call 94; refine (rnone_any _ _ _ (by assumption)).mono ?_; rintro e w' ⟨rfl, rfl⟩) | (go_at_call 111; refine (rbelow_any _ _ (by assumption)).mono ?_; rintro e w' ⟨rfl, rfl⟩))
          go_ret
          exact ⟨ret_bool (by rw [← Hl.out, H.out, va]; first | rfl | simp), rfl⟩
      · have H := Lib.hid (show (Ieee.double.order a b == some .lt) = MF.rless a b by rw [MF.order_lt]; unfold MF.rless; simp [na, nb, MF.val_zero, z])
        by_cases za : MF.rung a = 0
        · have zb : ¬ MF.rung b = 0 := fun h => z ⟨za, h⟩
          rw [decide_eq_true za] at ea
          rw [decide_eq_false zb] at eb
          clear za zb z
          go_enter Tryz.func80, Tryz.ntmps80
          go_wp2_with (first | (go_at_call 94; refine (rnone_any _ _ _ (by assumption)).mono ?_; rintro e w' ⟨rfl, rfl⟩))
          go_ret
          exact ⟨ret_bool (H.out.trans Hl.out), rfl⟩
        · rw [decide_eq_false za] at ea
          clear za z eb
          go_enter Tryz.func80, Tryz.ntmps80
          go_wp2_with (first | (go_at_call 94; refine (rnone_any _ _ _ (by assumption)).mono ?_; rintro e w' ⟨rfl, rfl⟩))
          go_ret
          exact ⟨ret_bool (H.out.trans Hl.out), rfl⟩
    · have H := Lib.hid (show MF.rless a b = true by unfold MF.rless; simp [na, nb])
      go_enter Tryz.func80, Tryz.ntmps80
      go_wp2_with (first | (go_at_call 94; refine (rnone_any _ _ _ (by assumption)).mono ?_; rintro e w' ⟨rfl, rfl⟩))
      go_ret
      exact ⟨ret_bool (H.out.symm.trans Hl.out), rfl⟩
  · have H := Lib.hid (show MF.rless a b = false by unfold MF.rless; simp [na])
    go_enter Tryz.func80, Tryz.ntmps80
    go_wp2_with (first | (go_at_call 94; refine (rnone_any _ _ _ (by assumption)).mono ?_; rintro e w' ⟨rfl, rfl⟩))
    go_ret
    exact ⟨ret_bool (H.out.symm.trans Hl.out), rfl⟩
set_option maxHeartbeats 400000 in
theorem rsame_any (a b : Nat) (w : World) (ha : MF.W64 a) (hb : MF.W64 b) :
    Calls Tryz.prog 43 #[.float .f64 a, .float .f64 b] w fun e w' => e = .returned (.bool (MF.same a b)) ∧ w = w' := by
  have Hl := Lib.hid (show (!MF.less a b && !MF.less b a) = MF.same a b by unfold MF.less MF.same; rw [Bool.eq_iff_iff]; simp; omega)
  cases la : MF.less a b
  all_goals
    go_enter Tryz.func43, Tryz.ntmps43
    go_wp2_with (go_at_call 80; refine (rless_any _ _ _ (by assumption) (by assumption)).mono ?_; rintro e w' ⟨rfl, rfl⟩)
    go_ret
    exact ⟨ret_bool (by rw [← Hl.out, la]; first | rfl | simp), rfl⟩
end Go.Proofs.YtbkcmnmbcldjoaaGreatDoor
