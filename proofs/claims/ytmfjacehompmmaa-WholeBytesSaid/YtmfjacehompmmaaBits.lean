/- Plain facts on 64-bit words as the walk spells them. -/
import Derived.WalkKit
import Derived.WalkLawsBesides
import Derived.Test.YtmfjacehompmmaaIeee
namespace MF
open Go

theorem top_and_no (c : Nat) (h : c < 9223372036854775808) : (bits .and .u64 (c : Int) 9223372036854775808 == 0) = true := by
  have := u64_and_nat c 9223372036854775808 (by omega) (by omega)
  rw [show ((9223372036854775808 : Nat) : Int) = 9223372036854775808 from rfl] at this
  rw [this, show (9223372036854775808 : Nat) = 2 ^ 63 by decide, nat_bit, show c / 2 ^ 63 = 0 from by rw [show (2 : Nat) ^ 63 = 9223372036854775808 by decide]; omega]
  decide
theorem top_and_yes (c : Nat) (h : 9223372036854775808 ≤ c) (h2 : c < 18446744073709551616) : (bits .and .u64 (c : Int) 9223372036854775808 == 0) = false := by
  have := u64_and_nat c 9223372036854775808 (by omega) (by omega)
  rw [show ((9223372036854775808 : Nat) : Int) = 9223372036854775808 from rfl] at this
  rw [this, show (9223372036854775808 : Nat) = 2 ^ 63 by decide, nat_bit, show c / 2 ^ 63 = 1 from by rw [show (2 : Nat) ^ 63 = 9223372036854775808 by decide]; omega]
  decide
theorem top_or (c : Nat) (h : c < 9223372036854775808) : bits .or .u64 (c : Int) 9223372036854775808 = ((c + 9223372036854775808 : Nat) : Int) := by
  have := u64_or_nat c 9223372036854775808 (by omega) (by omega)
  rw [show ((9223372036854775808 : Nat) : Int) = 9223372036854775808 from rfl] at this
  rw [this, Nat.or_comm, nat_join 63 9223372036854775808 c (by decide) (by rw [show (2 : Nat) ^ 63 = 9223372036854775808 by decide]; exact h), Nat.add_comm]
theorem all_xor (c : Nat) (h : c < 18446744073709551616) : bits .xor .u64 IntKind.u64.max (c : Int) = ((18446744073709551615 - c : Nat) : Int) := by
  have e : IntKind.u64.max = ((18446744073709551615 : Nat) : Int) := by decide
  rw [e, u64_xor_nat _ _ (by decide) h]
  congr 1
  apply Nat.eq_of_testBit_eq
  intro i
  rw [Nat.testBit_xor, show (18446744073709551615 : Nat) - c = 2 ^ 64 - (c + 1) from by rw [show (2 : Nat) ^ 64 = 18446744073709551616 by decide]; omega, Nat.testBit_two_pow_sub_succ (by rw [show (2 : Nat) ^ 64 = 18446744073709551616 by decide]; exact h), show (18446744073709551615 : Nat) = 2 ^ 64 - 1 by decide, Nat.testBit_two_pow_sub_one]
  by_cases hi : i < 64
  · simp [hi]
  · simp [hi]
    exact Nat.testBit_lt_two_pow (Nat.lt_of_lt_of_le (by rw [show (18446744073709551616 : Nat) = 2 ^ 64 by decide] at h; exact h) (Nat.pow_le_pow_right (by decide) (by omega)))
theorem top_andNot (c : Nat) (h : 9223372036854775808 ≤ c) (h2 : c < 18446744073709551616) : bits .andNot .u64 (c : Int) 9223372036854775808 = ((c - 9223372036854775808 : Nat) : Int) := by
  have := u64_andNot_nat c 9223372036854775808 (by omega) (by omega)
  rw [show ((9223372036854775808 : Nat) : Int) = 9223372036854775808 from rfl] at this
  rw [this, show (18446744073709551615 - 9223372036854775808 : Nat) = 2 ^ 63 - 1 from by decide, Nat.and_two_pow_sub_one_eq_mod, show (2 : Nat) ^ 63 = 9223372036854775808 by decide, show c % 9223372036854775808 = c - 9223372036854775808 from by omega]

/-- A sum, a product of the machine that is no number: its bits are drawn. -/
def nb (w : World) (x y : Nat) : Nat := (Question.nanBits .f64 x y).cut (w.tape w.drawn (Question.nanBits .f64 x y))
theorem nan_nb (w : World) (x y : Nat) : nan (nb w x y) = true := (nan_cut _).1
theorem w_nb (w : World) (x y : Nat) : W64 (nb w x y) := (nan_cut _).2
theorem run_nb {P : Program} (op : BinOp) (t : TypeId) (x y : Nat) (w : World) (hop : op = .add ∨ op = .mul) (h : floatBits op .f64 x y = none) :
    (binOp op t (.float .f64 x) (.float .f64 y)).run P w = .ok (.float .f64 (nb w x y)) w.drew := by
  unfold floatBits at h
  unfold nb
  rcases hop with rfl | rfl <;> simp only at h <;> simp [binOp, Op.floatArith, h, Question.forced]
theorem same_nb (o : Option Nat) (h : o = none) (w : World) (x y : Nat) : same (canonO o) (nb w x y) = true := by
  subst h
  exact same_of (by rw [key_nan (nan_nb w x y)]; decide)
theorem same_some (o : Option Nat) (r : Nat) (h : o = some r) : same (canonO o) r = true := by
  subst h
  exact same_of (by show key (canon r) = key r; rw [key_canon])
end MF
