/- Contracts of package pack's reader. -/
import Derived.Test.YtaaeefndhmfceaaDoorPkW
import Derived.Deep.QuietTactic
import Derived.BigQuiet
namespace Go.Proofs.YtaaeefndhmfceaaDoor
open Go.RowKit MM

/-- The next byte, in plain words. -/
def nextR (l : List UInt8) : Res UInt8 :=
  match l with
  | [] => .bad 2 0
  | c :: _ => .ok c 1

abbrev encB (c : UInt8) : Value := .int .u8 c.toNat

theorem pow128 (i : Nat) : (128 : Nat) ^ i = 2 ^ (7 * i) := by rw [show (128 : Nat) = 2 ^ 7 from rfl, ← Nat.pow_mul]
theorem step_lt (i n b : Nat) (h : n < 128 ^ i) : n + b % 128 * 128 ^ i < 128 ^ (i + 1) := by
  have h1 : b % 128 < 128 := Nat.mod_lt _ (by omega)
  rw [Nat.pow_succ]
  generalize 128 ^ i = q at *
  have : b % 128 * q ≤ 127 * q := Nat.mul_le_mul_right _ (by omega)
  omega
theorem step_bits (i n b : Nat) (hn : n < 128 ^ i) (hi : i ≤ 9) (hb : b < 256) (h9 : i = 9 → b ≤ 1) :
    bits BinOp.or IntKind.u64 (n : Int) (IntKind.u64.wrap (IntKind.u64.wrap (bits BinOp.andNot IntKind.u8 (b : Int) 128) * 2 ^ (7 * i))) = ((n + b % 128 * 128 ^ i : Nat) : Int) := by
  have e1 : bits BinOp.andNot IntKind.u8 (b : Int) 128 = ((b % 128 : Nat) : Int) := by
    rw [show (128 : Int) = ((128 : Nat) : Int) from rfl, u8_andNot_nat b 128 hb (by omega)]
    rw [show 255 - 128 = 127 from rfl, nat_mask7]
  have hx : b % 128 * 128 ^ i < 18446744073709551616 := by
    by_cases h : i = 9
    · have := h9 h
      subst h
      have : b % 128 ≤ 1 := by omega
      calc b % 128 * 128 ^ 9 ≤ 1 * 128 ^ 9 := Nat.mul_le_mul_right _ this
        _ < _ := by decide
    · have h1 : b % 128 ≤ 127 := by omega
      have h2 : (128 : Nat) ^ i ≤ 128 ^ 8 := Nat.pow_le_pow_right (by omega) (by omega)
      calc b % 128 * 128 ^ i ≤ 127 * 128 ^ 8 := Nat.mul_le_mul h1 h2
        _ < _ := by decide
  have hn' : n < 18446744073709551616 := by
    have h2 : (128 : Nat) ^ i ≤ 128 ^ 9 := Nat.pow_le_pow_right (by omega) hi
    have h3 : (128 : Nat) ^ 9 < 18446744073709551616 := by decide
    omega
  have e2 : IntKind.u64.wrap ((b % 128 : Nat) : Int) = ((b % 128 : Nat) : Int) := by
    rw [IntKind.wrap_u64]; omega
  have e3 : ((b % 128 : Nat) : Int) * 2 ^ (7 * i) = ((b % 128 * 128 ^ i : Nat) : Int) := by
    rw [pow128]; simp
  rw [e1, e2, e3]
  generalize hy : b % 128 * 128 ^ i = y at *
  have e4 : IntKind.u64.wrap (y : Int) = (y : Int) := by rw [IntKind.wrap_u64]; omega
  rw [e4, u64_or_nat n y hn' hx, Nat.or_comm, nat_join (7 * i) y n (by rw [← hy, pow128]; exact Nat.mul_mod_left _ _) (by rw [← pow128]; exact hn), Nat.add_comm]

/-- A number, in plain words. -/
def numR (l : List UInt8) : Res Nat :=
  match PK.numL 0 0 l with
  | (n, k, 0) => .ok n k
  | (_, k, e) => .bad e k
theorem numR_bad {l : List UInt8} {e k n : Nat} (h : PK.numL 0 0 l = (n, k, e + 1)) : numR l = .bad (e + 1) k := by unfold numR; rw [h]; rfl
theorem numR_ok {l : List UInt8} {k n : Nat} (h : PK.numL 0 0 l = (n, k, 0)) : numR l = .ok n k := by unfold numR; rw [h]; rfl
abbrev encU (n : Nat) : Value := .int .u64 n

end Go.Proofs.YtaaeefndhmfceaaDoor
/- Contracts of package pack's reader, part by part. -/
namespace Go.Proofs.YtaaeefndhmfceaaDoor
open Go.RowKit MM

/-- Is a number above the greatest that may be? -/
def tooB (n : Nat) (m : Int) : Bool := decide (m.toNat < n)

theorem numR_w {l : List UInt8} {n k : Nat} (h : numR l = .ok n k) : MF.W64 n := by
  unfold numR at h
  split at h
  · rename_i x y e
    injection h with h1 h2
    subst h1
    exact PK.numL_lt l 0 0 _ _ (by omega) (by decide) e
  · cases h
theorem zag_bits (n : Nat) (hn : MF.W64 n) : wrap64 (bits BinOp.xor IntKind.u64 ((n : Int) / 2) (IntKind.u64.wrap (-bits BinOp.and IntKind.u64 (n : Int) 1))) = PK.zag n := by
  unfold MF.W64 at hn
  have e1 : bits BinOp.and IntKind.u64 (n : Int) 1 = ((n % 2 : Nat) : Int) := by
    rw [show (1 : Int) = ((1 : Nat) : Int) from rfl, u64_and_nat n 1 hn (by omega), nat_mask1]
  have e2 : (n : Int) / 2 = ((n / 2 : Nat) : Int) := by omega
  rw [e1, e2, IntKind.wrap_u64]
  unfold PK.zag
  by_cases h : n % 2 = 1
  · rw [if_pos h, show (-((n % 2 : Nat) : Int)) % 18446744073709551616 = ((18446744073709551615 : Nat) : Int) by omega, u64_xor_nat _ _ (by omega) (by omega), Nat.xor_comm]
    have := MF.all_xor (n / 2) (by omega)
    rw [show IntKind.u64.max = ((18446744073709551615 : Nat) : Int) by decide, u64_xor_nat _ _ (by omega) (by omega)] at this
    rw [this]
    unfold wrap64
    omega
  · rw [if_neg h, show (-((n % 2 : Nat) : Int)) % 18446744073709551616 = ((0 : Nat) : Int) by omega, u64_xor_nat _ _ (by omega) (by omega), Nat.xor_zero]
    unfold wrap64
    omega
theorem val_i64 {z : Int} {n : Nat} (h : z = PK.zag n) : Value.int .i64 z = (fun n => Value.int .i64 (PK.zag n)) n := by rw [h]

/-- Yes or no, in plain words. -/
def flagR (l : List UInt8) : Res Bool :=
  match l with
  | [] => .bad 2 0
  | c :: _ => if 1 < c.toNat then .bad 4 1 else .ok (c.toNat == 1) 1

/-- A number that is at most that, in plain words. -/
def uptoR (m : Int) (l : List UInt8) : Res Nat :=
  match numR l with
  | .bad e k => .bad e k
  | .ok n k => if tooB n m then .bad 1 k else .ok n k

/-- All was read, in plain words. -/
def endR (l : List UInt8) : Res Unit := if l = [] then .ok () 0 else .bad 3 0

end Go.Proofs.YtaaeefndhmfceaaDoor
/- Contracts of package pack's reader: floating numbers and texts. -/
namespace Go.Proofs.YtaaeefndhmfceaaDoor
open Go.RowKit MM

/-- A floating number, in plain words. -/
def floR (l : List UInt8) : Res Nat :=
  if l.length < 8 then .bad 2 l.length
  else if MF.proper (MF.bk (PK.placeN (l.take 8))) then .ok (MF.bk (PK.placeN (l.take 8))) 8 else .bad 4 8

theorem floR_short {l : List UInt8} (h : l.length < 8) : floR l = .bad 2 l.length := by unfold floR; rw [if_pos h]
theorem floR_ok {l : List UInt8} (h : ¬ l.length < 8) (hp : MF.proper (MF.bk (PK.placeN (l.take 8))) = true) : floR l = .ok (MF.bk (PK.placeN (l.take 8))) 8 := by unfold floR; rw [if_neg h, if_pos hp]
theorem floR_form {l : List UInt8} (h : ¬ l.length < 8) (hp : MF.proper (MF.bk (PK.placeN (l.take 8))) = false) : floR l = .bad 4 8 := by unfold floR; rw [if_neg h, if_neg (by rw [hp]; simp)]

theorem place_bits (k b i : Nat) (hk : k < 256 ^ i) (hi : i < 8) (hb : b < 256) : bits BinOp.or IntKind.u64 (IntKind.u64.wrap ((k : Int) * 256)) (b : Int) = ((k * 256 + b : Nat) : Int) := by
  have h1 : (256 : Nat) ^ i ≤ 256 ^ 7 := Nat.pow_le_pow_right (by omega) (by omega)
  have h2 : (256 : Nat) ^ 7 = 72057594037927936 := by decide
  rw [h2] at h1
  have e1 : IntKind.u64.wrap ((k : Int) * 256) = ((k * 256 : Nat) : Int) := by rw [IntKind.wrap_u64]; omega
  rw [e1, u64_or_nat _ _ (by omega) (by omega), nat_join 8 (k * 256) b (by omega) (by omega)]

theorem numR_len {l : List UInt8} {n k : Nat} (h : numR l = .ok n k) : 0 < k ∧ k ≤ l.length := by
  unfold numR at h
  split at h
  · rename_i x y e
    injection h with h1 h2
    subst h1 h2
    have h1 := PK.numL_len l 0 0 _ _ _ e
    have h2 := PK.numL_pos l 0 0 _ _ e
    omega
  · cases h

/-- A text of at most so many bytes, in plain words. -/
def txtR (m : Int) (l : List UInt8) : Res (List UInt8) :=
  match numR l with
  | .bad e k => .bad e k
  | .ok n k => if tooB n m then .bad 3 k else if l.length - k < n then .bad 2 k else .ok ((l.drop k).take n) (k + n)

end Go.Proofs.YtaaeefndhmfceaaDoor
/- Contracts: a new reader; a part that is read. -/
namespace Go.Proofs.YtaaeefndhmfceaaDoor
open Go.RowKit MM

/-- A new reader. -/
def NewPost (E : TypeId) (bs : List UInt8) (w : World) (e : Ending) (w' : World) : Prop :=
  ∃ q A c, e = .returned (.pointer (some ⟨q, 0, none⟩)) ∧ Rd E w' q A c bs 0 ∧ w.heap.size ≤ q ∧ (∀ k, ob A = some k → w.heap.size ≤ k) ∧ Below w.heap.size w w'

/-- A part of a kind, in plain words. -/
def Res.map {α β : Type} (f : α → β) : Res α → Res β
  | .ok x n => .ok (f x) n
  | .bad e n => .bad e n
def PK.zeroPt (k : Nat) : PK.Pt := ⟨k, 0, 0, 0, ⟨#[]⟩, false⟩
def partR (k : Nat) (m : Int) (l : List UInt8) : Res PK.Pt :=
  if k = 117 then Res.map (fun n => { PK.zeroPt 117 with u := n }) (numR l)
  else if k = 105 then Res.map (fun n => { PK.zeroPt 105 with i := PK.zag n }) (numR l)
  else if k = 102 then Res.map (fun x => { PK.zeroPt 102 with f := x }) (floR l)
  else if k = 115 then Res.map (fun s => { PK.zeroPt 115 with s := ⟨s.toArray⟩ }) (txtR m l)
  else if k = 98 then Res.map (fun b => { PK.zeroPt 98 with b := b }) (flagR l)
  else .bad 5 0

end Go.Proofs.YtaaeefndhmfceaaDoor
