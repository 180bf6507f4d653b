/- Contracts of package pack's writer. -/
import Derived.Test.YtlpecaldodganaaGreatDoorNumM
import Derived.Test.YtlpecaldodganaaGreatDoorMemM
import Derived.Deep.RegionLaw
import Derived.Lib.SliceRun
import Derived.Deep.QuietTactic
import Derived.BigQuiet
import Derived.Defers
import Derived.Recover
import Derived.Laws.StructEq
namespace Go.Proofs.YtlpecaldodganaaGreatDoor
open Go.RowKit MM

theorem byte_info : (Tryz.prog.info? 5).map (fun i => (i.zero, i.size, i.bytes)) = some (some (.int .u8 0), 1, 1) := by kernel_rfl
theorem bc_of (k : Nat) (h : k < 256) : [Value.int .u8 (k : Int)] = bc [k.toUInt8] := by
  simp only [bc, List.map_cons, List.map_nil, PK.toUInt8_toNat h]
theorem or128 (m : Nat) : bits .or .u8 ((m : Int) % 256) 128 = ((m % 128 + 128 : Nat) : Int) := by
  have h : ((m : Int) % 256) = ((m % 256 : Nat) : Int) := by omega
  have e : ∀ x, x < 256 → x ||| 128 = x % 128 + 128 := by decide +kernel
  rw [h, show (128 : Int) = ((128 : Nat) : Int) from rfl, u8_or_nat _ _ (Nat.mod_lt _ (by omega)) (by omega), e _ (Nat.mod_lt _ (by omega))]
  congr 2
  omega

theorem zig_bits (n : Int) (h1 : -9223372036854775808 ≤ n) (h2 : n ≤ 9223372036854775807) : bits BinOp.xor IntKind.u64 (IntKind.u64.wrap (IntKind.u64.wrap n * 2)) (IntKind.u64.wrap (n / 9223372036854775808)) = ((PK.zig n : Nat) : Int) := by
  rw [IntKind.wrap_u64, IntKind.wrap_u64, IntKind.wrap_u64]
  by_cases hn : n < 0
  · have e1 : (n % 18446744073709551616 * 2) % 18446744073709551616 = ((2 * n + 18446744073709551616).toNat : Int) := by omega
    have e2 : n / 9223372036854775808 % 18446744073709551616 = ((18446744073709551615 : Nat) : Int) := by omega
    rw [e1, e2, u64_xor_nat _ _ (by omega) (by omega), Nat.xor_comm]
    have := MF.all_xor (2 * n + 18446744073709551616).toNat (by omega)
    rw [show IntKind.u64.max = ((18446744073709551615 : Nat) : Int) by decide, u64_xor_nat _ _ (by omega) (by omega)] at this
    rw [this]
    unfold PK.zig
    rw [if_pos hn]
    omega
  · have e1 : (n % 18446744073709551616 * 2) % 18446744073709551616 = ((2 * n).toNat : Int) := by omega
    have e2 : n / 9223372036854775808 % 18446744073709551616 = ((0 : Nat) : Int) := by omega
    rw [e1, e2, u64_xor_nat _ _ (by omega) (by omega), Nat.xor_zero]
    unfold PK.zig
    rw [if_neg hn]
    omega

theorem wrap_size (n : Nat) (h : Lim n) : IntKind.u64.wrap (n : Int) = (n : Int) := by
  unfold Lim at h; rw [IntKind.wrap_u64]; omega
theorem size_list (s : ByteArray) : s.data.toList.length = s.size := by rw [Array.length_toList]; rfl
theorem bc_string (s : ByteArray) : byteCells s = bc s.data.toList := rfl

end Go.Proofs.YtlpecaldodganaaGreatDoor
/- Contract of the writer's floating numbers. -/
namespace Go.Proofs.YtlpecaldodganaaGreatDoor
open Go.RowKit MM

theorem shr_byte (k i : Nat) (h : i < 8) : IntKind.u8.wrap ((k : Int) / 2 ^ (8 * (7 - (i : Int))).toNat) = ((k / 256 ^ (7 - i) % 256 : Nat) : Int) := by
  have e : (8 * (7 - (i : Int))).toNat = 8 * (7 - i) := by omega
  have e2 : (2 : Int) ^ (8 * (7 - i)) = ((256 ^ (7 - i) : Nat) : Int) := by
    rw [show (256 : Nat) = 2 ^ 8 from rfl, ← Nat.pow_mul]; simp
  rw [e, e2, IntKind.wrap_u8]
  omega

end Go.Proofs.YtlpecaldodganaaGreatDoor
/- Contracts: a slice of bytes cloned; what a writer hands out. -/
namespace Go.Proofs.YtlpecaldodganaaGreatDoor
open Go.RowKit MM

end Go.Proofs.YtlpecaldodganaaGreatDoor
/- Parts as bytes: the document's, in plain words; the writer's part. -/
namespace PK
open Go

/-- A part: its kind, and what it may have. -/
structure Pt where
  k : Nat
  u : Nat
  i : Int
  f : Nat
  s : ByteArray
  b : Bool

/-- Each of its numbers is one of its kind. -/
structure Pt.ok (p : Pt) : Prop where
  k : p.k < 256
  u : MF.W64 p.u
  i : (Lit.int .i64 p.i).wf = true
  f : MF.W64 p.f

def Pt.cells (p : Pt) : Array Value := #[.int .u8 p.k, .int .u64 p.u, .int .i64 p.i, .float .f64 p.f, .string p.s, .bool p.b]

/-- A part as bytes. -/
def partB (p : Pt) : List UInt8 :=
  if p.k = 117 then digits p.u else if p.k = 105 then digits (zig p.i) else if p.k = 102 then placeB (MF.key p.f) else if p.k = 115 then textB p.s.data.toList else if p.k = 98 then flagB p.b else []
def partsB : List Pt → List UInt8
  | [] => []
  | p :: l => partB p ++ partsB l
theorem partsB_append (a b : List Pt) : partsB (a ++ b) = partsB a ++ partsB b := by
  induction a with
  | nil => rfl
  | cons p l ih => simp [partsB, ih]
theorem partsB_take (l : List Pt) (i : Nat) (h : i < l.length) : partsB (l.take (i + 1)) = partsB (l.take i) ++ partB l[i] := by
  rw [List.take_succ_eq_append_getElem h, partsB_append]; simp [partsB]
theorem partsB_le (l : List Pt) (i : Nat) : (partsB (l.take i)).length ≤ (partsB l).length := by
  have := congrArg List.length (partsB_append (l.take i) (l.drop i))
  rw [List.take_append_drop, List.length_append] at this
  omega
end PK
namespace Go.Proofs.YtlpecaldodganaaGreatDoor
open Go.RowKit MM

/-- A slice of parts that reads as a list. -/
def Pts (w : World) (A : Option Addr) (ps : List PK.Pt) : Prop :=
  ps = [] ∨ ∃ b off, A = some ⟨b, off, none⟩ ∧ b < w.heap.size ∧ ∀ i q, ps[i]? = some q → ∀ j v, q.cells[j]? = some v → w.cell? ⟨b, off + i * 6 + j, none⟩ = some v

end Go.Proofs.YtlpecaldodganaaGreatDoor
/- Contracts of package pack's reader. -/
namespace Go.Proofs.YtlpecaldodganaaGreatDoor
open Go.RowKit MM

/-- The next byte, in plain words. -/
def nextR (l : List UInt8) : Res UInt8 :=
  match l with
  | [] => .bad 2 0
  | c :: _ => .ok c 1

abbrev encB (c : UInt8) : Value := .int .u8 c.toNat

theorem pow128 (i : Nat) : (128 : Nat) ^ i = 2 ^ (7 * i) := by rw [show (128 : Nat) = 2 ^ 7 from rfl, ← Nat.pow_mul]
theorem step_lt (i n b : Nat) (h : n < 128 ^ i) : n + b % 128 * 128 ^ i < 128 ^ (i + 1) := by
  have h1 : b % 128 < 128 := Nat.mod_lt _ (by omega)
  rw [Nat.pow_succ]
  generalize 128 ^ i = q at *
  have : b % 128 * q ≤ 127 * q := Nat.mul_le_mul_right _ (by omega)
  omega
theorem step_bits (i n b : Nat) (hn : n < 128 ^ i) (hi : i ≤ 9) (hb : b < 256) (h9 : i = 9 → b ≤ 1) :
    bits BinOp.or IntKind.u64 (n : Int) (IntKind.u64.wrap (IntKind.u64.wrap (bits BinOp.andNot IntKind.u8 (b : Int) 128) * 2 ^ (7 * i))) = ((n + b % 128 * 128 ^ i : Nat) : Int) := by
  have e1 : bits BinOp.andNot IntKind.u8 (b : Int) 128 = ((b % 128 : Nat) : Int) := by
    rw [show (128 : Int) = ((128 : Nat) : Int) from rfl, u8_andNot_nat b 128 hb (by omega)]
    rw [show 255 - 128 = 127 from rfl, nat_mask7]
  have hx : b % 128 * 128 ^ i < 18446744073709551616 := by
    by_cases h : i = 9
    · have := h9 h
      subst h
      have : b % 128 ≤ 1 := by omega
      calc b % 128 * 128 ^ 9 ≤ 1 * 128 ^ 9 := Nat.mul_le_mul_right _ this
        _ < _ := by decide
    · have h1 : b % 128 ≤ 127 := by omega
      have h2 : (128 : Nat) ^ i ≤ 128 ^ 8 := Nat.pow_le_pow_right (by omega) (by omega)
      calc b % 128 * 128 ^ i ≤ 127 * 128 ^ 8 := Nat.mul_le_mul h1 h2
        _ < _ := by decide
  have hn' : n < 18446744073709551616 := by
    have h2 : (128 : Nat) ^ i ≤ 128 ^ 9 := Nat.pow_le_pow_right (by omega) hi
    have h3 : (128 : Nat) ^ 9 < 18446744073709551616 := by decide
    omega
  have e2 : IntKind.u64.wrap ((b % 128 : Nat) : Int) = ((b % 128 : Nat) : Int) := by
    rw [IntKind.wrap_u64]; omega
  have e3 : ((b % 128 : Nat) : Int) * 2 ^ (7 * i) = ((b % 128 * 128 ^ i : Nat) : Int) := by
    rw [pow128]; simp
  rw [e1, e2, e3]
  generalize hy : b % 128 * 128 ^ i = y at *
  have e4 : IntKind.u64.wrap (y : Int) = (y : Int) := by rw [IntKind.wrap_u64]; omega
  rw [e4, u64_or_nat n y hn' hx, Nat.or_comm, nat_join (7 * i) y n (by rw [← hy, pow128]; exact Nat.mul_mod_left _ _) (by rw [← pow128]; exact hn), Nat.add_comm]

/-- A number, in plain words. -/
def numR (l : List UInt8) : Res Nat :=
  match PK.numL 0 0 l with
  | (n, k, 0) => .ok n k
  | (_, k, e) => .bad e k
theorem numR_bad {l : List UInt8} {e k n : Nat} (h : PK.numL 0 0 l = (n, k, e + 1)) : numR l = .bad (e + 1) k := by unfold numR; rw [h]; rfl
theorem numR_ok {l : List UInt8} {k n : Nat} (h : PK.numL 0 0 l = (n, k, 0)) : numR l = .ok n k := by unfold numR; rw [h]; rfl
abbrev encU (n : Nat) : Value := .int .u64 n

end Go.Proofs.YtlpecaldodganaaGreatDoor
/- Contracts of package pack's reader, part by part. -/
namespace Go.Proofs.YtlpecaldodganaaGreatDoor
open Go.RowKit MM

/-- Is a number above the greatest that may be? -/
def tooB (n : Nat) (m : Int) : Bool := decide (m.toNat < n)

theorem numR_w {l : List UInt8} {n k : Nat} (h : numR l = .ok n k) : MF.W64 n := by
  unfold numR at h
  split at h
  · rename_i x y e
    injection h with h1 h2
    subst h1
    exact PK.numL_lt l 0 0 _ _ (by omega) (by decide) e
  · cases h
theorem zag_bits (n : Nat) (hn : MF.W64 n) : wrap64 (bits BinOp.xor IntKind.u64 ((n : Int) / 2) (IntKind.u64.wrap (-bits BinOp.and IntKind.u64 (n : Int) 1))) = PK.zag n := by
  unfold MF.W64 at hn
  have e1 : bits BinOp.and IntKind.u64 (n : Int) 1 = ((n % 2 : Nat) : Int) := by
    rw [show (1 : Int) = ((1 : Nat) : Int) from rfl, u64_and_nat n 1 hn (by omega), nat_mask1]
  have e2 : (n : Int) / 2 = ((n / 2 : Nat) : Int) := by omega
  rw [e1, e2, IntKind.wrap_u64]
  unfold PK.zag
  by_cases h : n % 2 = 1
  · rw [if_pos h, show (-((n % 2 : Nat) : Int)) % 18446744073709551616 = ((18446744073709551615 : Nat) : Int) by omega, u64_xor_nat _ _ (by omega) (by omega), Nat.xor_comm]
    have := MF.all_xor (n / 2) (by omega)
    rw [show IntKind.u64.max = ((18446744073709551615 : Nat) : Int) by decide, u64_xor_nat _ _ (by omega) (by omega)] at this
    rw [this]
    unfold wrap64
    omega
  · rw [if_neg h, show (-((n % 2 : Nat) : Int)) % 18446744073709551616 = ((0 : Nat) : Int) by omega, u64_xor_nat _ _ (by omega) (by omega), Nat.xor_zero]
    unfold wrap64
    omega
theorem val_i64 {z : Int} {n : Nat} (h : z = PK.zag n) : Value.int .i64 z = (fun n => Value.int .i64 (PK.zag n)) n := by rw [h]

/-- Yes or no, in plain words. -/
def flagR (l : List UInt8) : Res Bool :=
  match l with
  | [] => .bad 2 0
  | c :: _ => if 1 < c.toNat then .bad 4 1 else .ok (c.toNat == 1) 1

/-- A number that is at most that, in plain words. -/
def uptoR (m : Int) (l : List UInt8) : Res Nat :=
  match numR l with
  | .bad e k => .bad e k
  | .ok n k => if tooB n m then .bad 1 k else .ok n k

/-- All was read, in plain words. -/
def endR (l : List UInt8) : Res Unit := if l = [] then .ok () 0 else .bad 3 0

end Go.Proofs.YtlpecaldodganaaGreatDoor
/- Contracts of package pack's reader: floating numbers and texts. -/
namespace Go.Proofs.YtlpecaldodganaaGreatDoor
open Go.RowKit MM

/-- A floating number, in plain words. -/
def floR (l : List UInt8) : Res Nat :=
  if l.length < 8 then .bad 2 l.length
  else if MF.proper (MF.bk (PK.placeN (l.take 8))) then .ok (MF.bk (PK.placeN (l.take 8))) 8 else .bad 4 8

theorem floR_short {l : List UInt8} (h : l.length < 8) : floR l = .bad 2 l.length := by unfold floR; rw [if_pos h]
theorem floR_ok {l : List UInt8} (h : ¬ l.length < 8) (hp : MF.proper (MF.bk (PK.placeN (l.take 8))) = true) : floR l = .ok (MF.bk (PK.placeN (l.take 8))) 8 := by unfold floR; rw [if_neg h, if_pos hp]
theorem floR_form {l : List UInt8} (h : ¬ l.length < 8) (hp : MF.proper (MF.bk (PK.placeN (l.take 8))) = false) : floR l = .bad 4 8 := by unfold floR; rw [if_neg h, if_neg (by rw [hp]; simp)]

theorem place_bits (k b i : Nat) (hk : k < 256 ^ i) (hi : i < 8) (hb : b < 256) : bits BinOp.or IntKind.u64 (IntKind.u64.wrap ((k : Int) * 256)) (b : Int) = ((k * 256 + b : Nat) : Int) := by
  have h1 : (256 : Nat) ^ i ≤ 256 ^ 7 := Nat.pow_le_pow_right (by omega) (by omega)
  have h2 : (256 : Nat) ^ 7 = 72057594037927936 := by decide
  rw [h2] at h1
  have e1 : IntKind.u64.wrap ((k : Int) * 256) = ((k * 256 : Nat) : Int) := by rw [IntKind.wrap_u64]; omega
  rw [e1, u64_or_nat _ _ (by omega) (by omega), nat_join 8 (k * 256) b (by omega) (by omega)]

theorem numR_len {l : List UInt8} {n k : Nat} (h : numR l = .ok n k) : 0 < k ∧ k ≤ l.length := by
  unfold numR at h
  split at h
  · rename_i x y e
    injection h with h1 h2
    subst h1 h2
    have h1 := PK.numL_len l 0 0 _ _ _ e
    have h2 := PK.numL_pos l 0 0 _ _ e
    omega
  · cases h

/-- A text of at most so many bytes, in plain words. -/
def txtR (m : Int) (l : List UInt8) : Res (List UInt8) :=
  match numR l with
  | .bad e k => .bad e k
  | .ok n k => if tooB n m then .bad 3 k else if l.length - k < n then .bad 2 k else .ok ((l.drop k).take n) (k + n)

end Go.Proofs.YtlpecaldodganaaGreatDoor
/- Contracts: a new reader; a part that is read. -/
namespace Go.Proofs.YtlpecaldodganaaGreatDoor
open Go.RowKit MM

/-- A new reader. -/
def NewPost (E : TypeId) (bs : List UInt8) (w : World) (e : Ending) (w' : World) : Prop :=
  ∃ q A c, e = .returned (.pointer (some ⟨q, 0, none⟩)) ∧ Rd E w' q A c bs 0 ∧ w.heap.size ≤ q ∧ (∀ k, ob A = some k → w.heap.size ≤ k) ∧ Below w.heap.size w w'

/-- A part of a kind, in plain words. -/
def Res.map {α β : Type} (f : α → β) : Res α → Res β
  | .ok x n => .ok (f x) n
  | .bad e n => .bad e n
def PK.zeroPt (k : Nat) : PK.Pt := ⟨k, 0, 0, 0, ⟨#[]⟩, false⟩
def partR (k : Nat) (m : Int) (l : List UInt8) : Res PK.Pt :=
  if k = 117 then Res.map (fun n => { PK.zeroPt 117 with u := n }) (numR l)
  else if k = 105 then Res.map (fun n => { PK.zeroPt 105 with i := PK.zag n }) (numR l)
  else if k = 102 then Res.map (fun x => { PK.zeroPt 102 with f := x }) (floR l)
  else if k = 115 then Res.map (fun s => { PK.zeroPt 115 with s := ⟨s.toArray⟩ }) (txtR m l)
  else if k = 98 then Res.map (fun b => { PK.zeroPt 98 with b := b }) (flagR l)
  else .bad 5 0

end Go.Proofs.YtlpecaldodganaaGreatDoor
/- Contracts: what was caught. -/
namespace Go.Proofs.YtlpecaldodganaaGreatDoor
open Go.RowKit MM

/-- A Fault as a value. -/
abbrev fltV (code at_ : Nat) : Value := .agg #[.int .i64 code, .int .i64 at_]

/-- What the deferred function leaves: the Fault where it is to lie. -/
def LaidAt (q : Nat) (code at_ : Nat) (w w' : World) : Prop := ∃ w1, Below w.heap.size w w1 ∧ w' = (w1.setCell ⟨q, 0, none⟩ (.int .i64 code)).setCell ⟨q, 1, none⟩ (.int .i64 at_)

end Go.Proofs.YtlpecaldodganaaGreatDoor
/- Contract: parts that bytes are. -/
namespace Go.Proofs.YtlpecaldodganaaGreatDoor
open Go.RowKit MM

/-- The parts that bytes are, in plain words. -/
def lift {α : Type} (ps : List α) (n : Nat) : Res (List α) → Res (List α)
  | .ok qs k => .ok (ps ++ qs) (n + k)
  | .bad e k => .bad e (n + k)
def partsR (m : Int) : List UInt8 → List UInt8 → Res (List PK.Pt)
  | [], l => if l = [] then .ok [] 0 else .bad 3 0
  | k :: ks, l =>
    match partR k.toNat m l with
    | .bad e n => .bad e n
    | .ok p n => lift [p] n (partsR m ks (l.drop n))
theorem lift_lift {α : Type} (ps qs : List α) (n k : Nat) (r : Res (List α)) : lift ps n (lift qs k r) = lift (ps ++ qs) (n + k) r := by
  cases r <;> simp [lift, Nat.add_assoc]

/-- Parts as cells. -/
def ptCells (ps : List PK.Pt) : List Value := ps.flatMap fun q => q.cells.toList
theorem ptCells_snoc (ps : List PK.Pt) (q : PK.Pt) : ptCells (ps ++ [q]) = ptCells ps ++ q.cells.toList := by simp [ptCells]

theorem pt_one (q : PK.Pt) : ∀ u ∈ q.cells.toList, u.oneCell' = true := by
  intro u hu
  simp only [PK.Pt.cells, List.mem_cons, List.mem_nil_iff, or_false] at hu
  rcases hu with rfl | rfl | rfl | rfl | rfl | rfl <;> rfl
theorem lift_nil {α : Type} (r : Res (List α)) : lift [] 0 r = r := by cases r <;> simp [lift]
theorem partsR_cons {m : Int} {k : UInt8} {ks l : List UInt8} {p : PK.Pt} {n : Nat} (h : partR k.toNat m l = .ok p n) : partsR m (k :: ks) l = lift [p] n (partsR m ks (l.drop n)) := by
  show (match partR k.toNat m l with | .bad e n => Res.bad e n | .ok p n => lift [p] n (partsR m ks (l.drop n))) = _
  rw [h]
theorem partsR_bad {m : Int} {k : UInt8} {ks l : List UInt8} {e n : Nat} (h : partR k.toNat m l = .bad e n) : partsR m (k :: ks) l = .bad e n := by
  show (match partR k.toNat m l with | .bad e n => Res.bad e n | .ok p n => lift [p] n (partsR m ks (l.drop n))) = _
  rw [h]
theorem ks_drop (ks : ByteArray) (i : Nat) (h : i < ks.size) : ks.data.toList.drop i = ks[i] :: ks.data.toList.drop (i + 1) := by
  rw [List.drop_eq_getElem_cons (by rw [size_list]; exact h)]
  rfl

end Go.Proofs.YtlpecaldodganaaGreatDoor
/- Layer 2's statements' own head: a few parts there and back. -/
namespace Go.Proofs.YtlpecaldodganaaGreatDoor
open Go.RowKit MM

theorem dig300 : PK.digits 300 = [172, 2] := by rw [PK.digits_big (by omega), PK.digits_small (by omega)]; rfl
def spParts : List PK.Pt := [⟨117, 300, 0, 0, ⟨#[]⟩, false⟩, ⟨105, 0, -2, 0, ⟨#[]⟩, false⟩, ⟨115, 0, 0, 0, ⟨#[97, 98]⟩, false⟩, ⟨98, 0, 0, 0, ⟨#[]⟩, true⟩]
theorem spBytes : PK.partsB spParts = [172, 2, 3, 2, 97, 98, 1] := by
  show PK.digits 300 ++ (PK.digits (PK.zig (-2)) ++ ((PK.digits ([97, 98] : List UInt8).length ++ [97, 98]) ++ ([1] ++ []))) = _
  rw [dig300, PK.digits_small (show PK.zig (-2) < 128 by decide), PK.digits_small (show ([97, 98] : List UInt8).length < 128 by decide)]
  rfl
theorem spRead : partsR 5 [117, 105, 115, 98] [172, 2, 3, 2, 97, 98, 1] = .ok spParts 7 := by rfl
theorem spForm : partsR 5 [117] [128, 0] = .bad 4 2 := by rfl
theorem spOk : ∀ q ∈ spParts, q.ok := by
  intro q hq
  simp only [spParts, List.mem_cons, List.mem_nil_iff, or_false] at hq
  rcases hq with rfl | rfl | rfl | rfl <;> exact ⟨by decide, by unfold MF.W64; decide, by decide, by unfold MF.W64; decide⟩
theorem spPlace : PK.placeB (MF.key 0) = [128, 0, 0, 0, 0, 0, 0, 0] := by decide

theorem ptCells_length (ps : List PK.Pt) : (ptCells ps).length = ps.length * 6 := by
  induction ps with
  | nil => rfl
  | cons q l ih =>
    have : ptCells (q :: l) = q.cells.toList ++ ptCells l := by simp [ptCells]
    rw [this, List.length_append, ih]
    simp [PK.Pt.cells]
    omega
theorem ptCells_get : ∀ (ps : List PK.Pt) (i : Nat) (q : PK.Pt) (j : Nat) (v : Value), ps[i]? = some q → q.cells[j]? = some v → (ptCells ps)[i * 6 + j]? = some v
  | [], i, q, j, v, h, _ => by simp at h
  | p :: l, i, q, j, v, h, hj => by
    have e : ptCells (p :: l) = p.cells.toList ++ ptCells l := by simp [ptCells]
    have hl : p.cells.toList.length = 6 := by simp [PK.Pt.cells]
    rw [e]
    cases i with
    | zero =>
      simp only [List.getElem?_cons_zero, Option.some.injEq] at h
      subst h
      have hj6 : j < 6 := by
        have := (Array.getElem?_eq_some_iff.1 hj).1
        simpa [PK.Pt.cells] using this
      rw [List.getElem?_append_left (by omega)]
      simpa using hj
    | succ i =>
      rw [List.getElem?_append_right (by omega), hl]
      rw [show (i + 1) * 6 + j - 6 = i * 6 + j by omega]
      exact ptCells_get l i q j v (by simpa using h) hj
theorem Pts.own {w : World} {A : Option Addr} {c : Nat} {ps : List PK.Pt} {E : TypeId} (h : w.ownsRow 0 E 6 (.slice A ps.length c) ps.length (ptCells ps)) : Pts w A ps := by
  rcases h.2 with ⟨hv, h0⟩ | ⟨g, cap, cur, hv, _⟩
  · exact .inl (List.eq_nil_of_length_eq_zero h0)
  · injection hv with hA _ hc
    subst hA hc
    refine .inr ⟨g, 0, rfl, own_inside h _ rfl, fun i q hq j v hj => ?_⟩
    have := h.cells (g := g) rfl (i * 6 + j) v (ptCells_get ps i q j v hq hj)
    rw [MM.add_plain] at this
    rw [← Nat.add_assoc] at this
    exact this
theorem Pts.new (w : World) (t : TypeId) (ps : List PK.Pt) (hl : ps.length ≤ maxLen) : Pts (w.alloc (.cells (ptCells ps).toArray t)) (some ⟨w.heap.size, 0, none⟩) ps := by
  have h := World.ownsRow_lit (base := 0) (e := t) (size := 6) w (ptCells ps).toArray ps.length (Nat.zero_le _) hl (by simp [ptCells_length])
  exact Pts.own h

end Go.Proofs.YtlpecaldodganaaGreatDoor
/- One form alone: what is written is read, what is read is written, what is cut off is too short. No program. -/
namespace PK

theorem p9 : (128 : Nat) ^ 9 = 9223372036854775808 := by decide
theorem numL_digits : ∀ (n i m : Nat) (rest : List UInt8), i ≤ 9 → n * 128 ^ i < 18446744073709551616 → (0 < i → 0 < n) →
    numL i m (digits n ++ rest) = (m + n * 128 ^ i, i + (digits n).length, 0) := by
  intro n
  induction n using Nat.strongRecOn with
  | ind n ih =>
    intro i m rest hi hn hz
    by_cases h : n < 128
    · rw [digits_small h]
      have hc : (n.toUInt8).toNat = n := toUInt8_toNat (by omega)
      show (if i = 9 ∧ 1 < (n.toUInt8).toNat then (0, i + 1, 1) else if (n.toUInt8).toNat < 128 then if (n.toUInt8).toNat = 0 ∧ 0 < i then (0, i + 1, 4) else (m + (n.toUInt8).toNat * 128 ^ i, i + 1, 0) else _) = _
      rw [hc, if_neg, if_pos h, if_neg (by omega)]
      · rfl
      · rintro ⟨rfl, h1⟩
        rw [p9] at hn
        omega
    · rw [digits_big h]
      have hc : ((n % 128 + 128).toUInt8).toNat = n % 128 + 128 := toUInt8_toNat (by omega)
      have h9 : i ≠ 9 := by
        rintro rfl
        rw [p9] at hn
        omega
      show (if i = 9 ∧ 1 < ((n % 128 + 128).toUInt8).toNat then (0, i + 1, 1) else if ((n % 128 + 128).toUInt8).toNat < 128 then _ else numL (i + 1) (m + ((n % 128 + 128).toUInt8).toNat % 128 * 128 ^ i) (digits (n / 128) ++ rest)) = _
      have hd : n % 128 + n / 128 * 128 = n := by omega
      have he : n % 128 * 128 ^ i + n / 128 * (128 ^ i * 128) = n * 128 ^ i := by
        conv => rhs; rw [← hd]
        rw [Nat.add_mul, Nat.mul_assoc, Nat.mul_comm 128]
      rw [hc, if_neg (by omega), if_neg (by omega), ih (n / 128) (by omega) (i + 1) _ rest (by omega) (by rw [Nat.pow_succ]; omega) (by omega), Nat.pow_succ, List.length_cons]
      simp only [Prod.mk.injEq, and_true]
      constructor
      · rw [show (n % 128 + 128) % 128 = n % 128 by omega, Nat.add_assoc, he]
      · omega

theorem numL_one : ∀ (l : List UInt8) (i m r k : Nat), numL i m l = (r, k, 0) →
    ∃ n, r = m + n * 128 ^ i ∧ l.take (k - i) = digits n ∧ (0 < i → 0 < n) ∧ i < k
  | [], i, m, r, k, h => by simp [numL] at h
  | c :: l, i, m, r, k, h => by
    have hcl := c.toNat_lt
    unfold numL at h
    by_cases h1 : i = 9 ∧ 1 < c.toNat
    · rw [if_pos h1] at h; simp at h
    · rw [if_neg h1] at h
      have hu : ∀ n : Nat, n = c.toNat → n.toUInt8 = c := by
        intro n hn
        subst hn
        simp [Nat.toUInt8]
      by_cases h2 : c.toNat < 128
      · rw [if_pos h2] at h
        by_cases h3 : c.toNat = 0 ∧ 0 < i
        · rw [if_pos h3] at h; simp at h
        · rw [if_neg h3] at h
          simp only [Prod.mk.injEq] at h
          obtain ⟨rfl, rfl, _⟩ := h
          refine ⟨c.toNat, rfl, ?_, by omega, by omega⟩
          rw [digits_small h2, hu _ rfl, show i + 1 - i = 1 by omega]
          rfl
      · rw [if_neg h2] at h
        obtain ⟨n, hr, ht, hp, hk⟩ := numL_one l (i + 1) _ r k h
        have hp := hp (by omega)
        refine ⟨c.toNat % 128 + n * 128, ?_, ?_, by omega, by omega⟩
        · rw [hr, Nat.pow_succ, Nat.add_mul, Nat.add_assoc, Nat.mul_assoc n, Nat.mul_comm 128]
        · rw [digits_big (by omega), show (c.toNat % 128 + n * 128) / 128 = n by omega, show (c.toNat % 128 + n * 128) % 128 = c.toNat % 128 by omega, ← ht,
            show k - i = (k - (i + 1)) + 1 by omega, List.take_succ_cons, hu _ (by omega)]

theorem numL_cut : ∀ (j n i m : Nat), i ≤ 9 → n * 128 ^ i < 18446744073709551616 → j < (digits n).length →
    numL i m ((digits n).take j) = (0, i + j, 2)
  | 0, n, i, m, _, _, _ => rfl
  | j + 1, n, i, m, hi, hn, hj => by
    by_cases h : n < 128
    · rw [digits_small h] at hj; simp at hj
    · rw [digits_big h] at hj ⊢
      have hc : ((n % 128 + 128).toUInt8).toNat = n % 128 + 128 := toUInt8_toNat (by omega)
      have h9 : i ≠ 9 := by
        rintro rfl
        rw [p9] at hn
        omega
      have hd : n % 128 + n / 128 * 128 = n := by omega
      have he : n % 128 * 128 ^ i + n / 128 * (128 ^ i * 128) = n * 128 ^ i := by
        conv => rhs; rw [← hd]
        rw [Nat.add_mul, Nat.mul_assoc, Nat.mul_comm 128]
      rw [List.take_succ_cons]
      show (if i = 9 ∧ 1 < ((n % 128 + 128).toUInt8).toNat then (0, i + 1, 1) else if ((n % 128 + 128).toUInt8).toNat < 128 then _ else numL (i + 1) (m + ((n % 128 + 128).toUInt8).toNat % 128 * 128 ^ i) ((digits (n / 128)).take j)) = _
      rw [hc, if_neg (by omega), if_neg (by omega), numL_cut j (n / 128) (i + 1) _ (by omega) (by rw [Nat.pow_succ]; omega) (by simp only [List.length_cons] at hj; omega)]
      rw [Nat.add_assoc, Nat.add_comm 1 j]

theorem zag_zig (i : Int) (h : -9223372036854775808 ≤ i ∧ i ≤ 9223372036854775807) : zag (zig i) = i ∧ zig i < 18446744073709551616 := by
  unfold zag zig
  by_cases h0 : i < 0
  · rw [if_pos h0]; constructor
    · rw [if_pos (by omega)]; omega
    · omega
  · rw [if_neg h0]; constructor
    · rw [if_neg (by omega)]; omega
    · omega
theorem zig_zag (n : Nat) (h : n < 18446744073709551616) : zig (zag n) = n ∧ -9223372036854775808 ≤ zag n ∧ zag n ≤ 9223372036854775807 := by
  unfold zag zig
  by_cases h0 : n % 2 = 1
  · rw [if_pos h0, if_pos (by omega)]; omega
  · rw [if_neg h0, if_neg (by omega)]; omega

/-- One of the five kinds. -/
def kindOk (k : Nat) : Bool := k == 117 || k == 105 || k == 102 || k == 115 || k == 98
end PK
namespace Go.Proofs.YtlpecaldodganaaGreatDoor
open Go.RowKit MM

theorem numR_digits (n : Nat) (rest : List UInt8) (h : n < 18446744073709551616) : numR (PK.digits n ++ rest) = .ok n (PK.digits n).length := by
  have := PK.numL_digits n 0 0 rest (by omega) (by simpa using h) (by omega)
  rw [numR_ok this]
  simp
theorem numR_one {l : List UInt8} {n k : Nat} (h : numR l = .ok n k) : l.take k = PK.digits n ∧ k ≤ l.length ∧ n < 18446744073709551616 := by
  have hw := numR_w h
  have hk := (numR_len h).2
  unfold numR at h
  split at h
  · rename_i x y e
    injection h with h1 h2
    subst h1 h2
    obtain ⟨n, hr, ht, _, _⟩ := PK.numL_one l 0 0 _ _ e
    simp only [Nat.pow_zero, Nat.mul_one, Nat.zero_add] at hr
    subst hr
    exact ⟨ht, hk, hw⟩
  · cases h
theorem numR_cut (n j : Nat) (h : n < 18446744073709551616) (hj : j < (PK.digits n).length) : numR ((PK.digits n).take j) = .bad 2 j := by
  have := PK.numL_cut j n 0 0 (by omega) (by simpa using h) hj
  rw [Nat.zero_add] at this
  exact numR_bad this

theorem floR_place (f : Nat) (rest : List UInt8) (h : MF.W64 f) : floR (PK.placeB (MF.key f) ++ rest) = .ok (MF.canon f) 8 := by
  have ht : (PK.placeB (MF.key f) ++ rest).take 8 = PK.placeB (MF.key f) := by
    rw [List.take_append_of_le_length (by rw [PK.placeB_length]; omega), List.take_of_length_le (by rw [PK.placeB_length]; omega)]
  have e : MF.bk (PK.placeN ((PK.placeB (MF.key f) ++ rest).take 8)) = MF.canon f := by
    rw [ht, PK.placeN_placeB _ (MF.key_lt h), MF.bk_key h]
  rw [floR_ok (by rw [List.length_append, PK.placeB_length]; omega) (by rw [e]; exact MF.proper_canon f), e]
theorem floR_one {l : List UInt8} {f n : Nat} (h : floR l = .ok f n) : n = 8 ∧ 8 ≤ l.length ∧ l.take 8 = PK.placeB (MF.key f) ∧ MF.W64 f ∧ MF.canon f = f := by
  by_cases h8 : l.length < 8
  · rw [floR_short h8] at h; cases h
  · cases hp : MF.proper (MF.bk (PK.placeN (l.take 8))) with
    | false => rw [floR_form h8 hp] at h; cases h
    | true =>
      rw [floR_ok h8 hp] at h
      injection h with h1 h2
      subst h1 h2
      have hl : (l.take 8).length = 8 := by rw [List.length_take]; omega
      have hw : PK.placeN (l.take 8) < 18446744073709551616 := by
        have := PK.placeN_lt (l.take 8)
        rw [hl] at this
        exact Nat.lt_of_lt_of_le this (by decide)
      refine ⟨rfl, by omega, ?_, MF.bk_lt hw, ?_⟩
      · rw [MF.key_bk hw hp, PK.placeB_placeN _ hl]
      · unfold MF.proper at hp
        exact (eq_of_beq hp).symm
theorem floR_cut (f j : Nat) (hj : j < 8) : floR ((PK.placeB (MF.key f)).take j) = .bad 2 j := by
  have hl : ((PK.placeB (MF.key f)).take j).length = j := by rw [List.length_take, PK.placeB_length]; omega
  rw [floR_short (by omega), hl]

theorem tooB_no {n : Nat} {m : Int} (h : (n : Int) ≤ m) : tooB n m = false := by
  unfold tooB; simp; omega
theorem txtR_of {l : List UInt8} {m : Int} {n k : Nat} (h : numR l = .ok n k) : txtR m l = if tooB n m then .bad 3 k else if l.length - k < n then .bad 2 k else .ok ((l.drop k).take n) (k + n) := by
  unfold txtR; rw [h]
theorem txtR_bad {l : List UInt8} {m : Int} {e k : Nat} (h : numR l = .bad e k) : txtR m l = .bad e k := by
  unfold txtR; rw [h]
theorem txtR_text (s rest : List UInt8) (m : Int) (h : (s.length : Int) ≤ m) (hl : s.length < 18446744073709551616) : txtR m (PK.textB s ++ rest) = .ok s (PK.textB s).length := by
  unfold PK.textB
  rw [List.append_assoc, txtR_of (numR_digits _ _ hl), tooB_no h, if_neg (by simp), if_neg (by simp), List.drop_left, List.take_left, List.length_append]
theorem txtR_one {l s : List UInt8} {m : Int} {k : Nat} (h : txtR m l = .ok s k) : l.take k = PK.textB s ∧ k ≤ l.length := by
  cases hr : numR l with
  | bad e j => rw [txtR_bad hr] at h; cases h
  | ok n j =>
    rw [txtR_of hr] at h
    split at h
    · cases h
    · split at h
      · cases h
      · injection h with h1 h2
        subst h1 h2
        obtain ⟨ht, hj, _⟩ := numR_one hr
        have hl : ((l.drop j).take n).length = n := by rw [List.length_take, List.length_drop]; omega
        unfold PK.textB
        rw [hl, List.take_add, ht]
        exact ⟨rfl, by omega⟩
theorem txtR_cut (s : List UInt8) (m : Int) (j : Nat) (h : (s.length : Int) ≤ m) (hl : s.length < 18446744073709551616) (hj : j < (PK.textB s).length) : ∃ n, n ≤ j ∧ txtR m ((PK.textB s).take j) = .bad 2 n := by
  unfold PK.textB at hj ⊢
  rw [List.length_append] at hj
  by_cases hd : j < (PK.digits s.length).length
  · rw [List.take_append_of_le_length (by omega)]
    exact ⟨j, Nat.le_refl _, txtR_bad (numR_cut _ _ hl hd)⟩
  · refine ⟨(PK.digits s.length).length, by omega, ?_⟩
    rw [List.take_append, List.take_of_length_le (by omega), txtR_of (numR_digits _ _ hl), tooB_no h, if_neg (by simp), if_pos (by simp; omega)]

theorem flagR_flag (b : Bool) (rest : List UInt8) : flagR (PK.flagB b ++ rest) = .ok b 1 := by cases b <;> rfl
theorem flagR_one {l : List UInt8} {b : Bool} {n : Nat} (h : flagR l = .ok b n) : n = 1 ∧ 1 ≤ l.length ∧ l.take 1 = PK.flagB b := by
  cases l with
  | nil => cases h
  | cons c l =>
    have h : (if 1 < c.toNat then Res.bad 4 1 else Res.ok (c.toNat == 1) 1) = .ok b n := h
    split at h
    · cases h
    · rename_i hc
      injection h with h1 h2
      subst h1 h2
      refine ⟨rfl, by simp, ?_⟩
      have hu : ∀ n : Nat, c.toNat = n → c = n.toUInt8 := by
        intro n hn
        subst hn
        simp [Nat.toUInt8]
      have h01 : c.toNat = 0 ∨ c.toNat = 1 := by omega
      rcases h01 with h0 | h0
      · rw [hu 0 h0]; rfl
      · rw [hu 1 h0]; rfl

/-- A part without what its kind doesn't have. -/
def PK.clean (q : PK.Pt) : PK.Pt :=
  if q.k = 117 then { PK.zeroPt 117 with u := q.u }
  else if q.k = 105 then { PK.zeroPt 105 with i := q.i }
  else if q.k = 102 then { PK.zeroPt 102 with f := MF.canon q.f }
  else if q.k = 115 then { PK.zeroPt 115 with s := q.s }
  else if q.k = 98 then { PK.zeroPt 98 with b := q.b }
  else PK.zeroPt q.k

theorem wf_i64 {i : Int} (h : (Lit.int .i64 i).wf = true) : -9223372036854775808 ≤ i ∧ i ≤ 9223372036854775807 := by
  simpa [Lit.wf, IntKind.min, IntKind.max, IntKind.signed, IntKind.bits] using h
theorem i64_wf {i : Int} (h : -9223372036854775808 ≤ i ∧ i ≤ 9223372036854775807) : (Lit.int .i64 i).wf = true := by
  simpa [Lit.wf, IntKind.min, IntKind.max, IntKind.signed, IntKind.bits] using h

theorem kind5 {k : Nat} (h : PK.kindOk k = true) : k = 117 ∨ k = 105 ∨ k = 102 ∨ k = 115 ∨ k = 98 := by
  simp only [PK.kindOk, Bool.or_eq_true, beq_iff_eq] at h
  omega

theorem sz_list (s : ByteArray) : s.data.toList.length = s.size := rfl
theorem partR_partB (q : PK.Pt) (m : Int) (rest : List UInt8) (hq : q.ok) (hk : PK.kindOk q.k = true) (hs : (q.s.size : Int) ≤ m) (hl : q.s.size < 18446744073709551616) :
    partR q.k m (PK.partB q ++ rest) = .ok (PK.clean q) (PK.partB q).length := by
  obtain ⟨k, u, i, f, s, b⟩ := q
  have hu := hq.u
  have hi := PK.zag_zig i (wf_i64 hq.i)
  have hf := hq.f
  rcases kind5 hk with rfl | rfl | rfl | rfl | rfl
  · show Res.map _ (numR (PK.digits u ++ rest)) = .ok _ (PK.digits u).length
    rw [numR_digits u rest hu]; rfl
  · show Res.map _ (numR (PK.digits (PK.zig i) ++ rest)) = .ok _ (PK.digits (PK.zig i)).length
    rw [numR_digits _ rest hi.2]
    show Res.ok { PK.zeroPt 105 with i := PK.zag (PK.zig i) } _ = _
    rw [hi.1]; rfl
  · show Res.map _ (floR (PK.placeB (MF.key f) ++ rest)) = .ok _ (PK.placeB (MF.key f)).length
    rw [floR_place f rest hf, PK.placeB_length]; rfl
  · show Res.map _ (txtR m (PK.textB s.data.toList ++ rest)) = .ok _ (PK.textB s.data.toList).length
    rw [txtR_text _ rest m (by rw [sz_list]; exact hs) (by rw [sz_list]; exact hl)]; rfl
  · show Res.map _ (flagR (PK.flagB b ++ rest)) = .ok _ (PK.flagB b).length
    rw [flagR_flag]; rfl

theorem partR_one {k : Nat} {m : Int} {l : List UInt8} {q : PK.Pt} {n : Nat} (hk : k < 256) (h : partR k m l = .ok q n) :
    l.take n = PK.partB q ∧ n ≤ l.length ∧ q.ok ∧ q.k = k ∧ PK.kindOk k = true ∧ PK.clean q = q ∧ q.s.size ≤ l.length := by
  have w0 : MF.W64 0 := by unfold MF.W64; omega
  unfold partR at h
  by_cases h1 : k = 117
  · rw [if_pos h1] at h; subst h1
    cases hr : numR l with
    | bad e j => rw [hr] at h; cases h
    | ok x j =>
      rw [hr] at h
      injection h with h1 h2
      subst h1 h2
      obtain ⟨ht, hj, hw⟩ := numR_one hr
      exact ⟨ht, hj, ⟨by show 117 < 256; omega, hw, rfl, w0⟩, rfl, rfl, rfl, Nat.zero_le _⟩
  rw [if_neg h1] at h
  by_cases h2 : k = 105
  · rw [if_pos h2] at h; subst h2
    cases hr : numR l with
    | bad e j => rw [hr] at h; cases h
    | ok x j =>
      rw [hr] at h
      injection h with h1 h2
      subst h1 h2
      obtain ⟨ht, hj, hw⟩ := numR_one hr
      have hz := PK.zig_zag x hw
      refine ⟨?_, hj, ⟨by show 105 < 256; omega, w0, i64_wf hz.2, w0⟩, rfl, rfl, rfl, Nat.zero_le _⟩
      show _ = PK.digits (PK.zig (PK.zag x))
      rw [hz.1]; exact ht
  rw [if_neg h2] at h
  by_cases h3 : k = 102
  · rw [if_pos h3] at h; subst h3
    cases hr : floR l with
    | bad e j => rw [hr] at h; cases h
    | ok x j =>
      rw [hr] at h
      injection h with h1 h2
      subst h1 h2
      obtain ⟨rfl, hj, ht, hw, hc⟩ := floR_one hr
      refine ⟨ht, hj, ⟨by show 102 < 256; omega, w0, rfl, hw⟩, rfl, rfl, ?_, Nat.zero_le _⟩
      show { PK.zeroPt 102 with f := MF.canon x } = _
      rw [hc]
  rw [if_neg h3] at h
  by_cases h4 : k = 115
  · rw [if_pos h4] at h; subst h4
    cases hr : txtR m l with
    | bad e j => rw [hr] at h; cases h
    | ok x j =>
      rw [hr] at h
      injection h with h1 h2
      subst h1 h2
      obtain ⟨ht, hj⟩ := txtR_one hr
      refine ⟨ht, hj, ⟨by show 115 < 256; omega, w0, rfl, w0⟩, rfl, rfl, rfl, ?_⟩
      have := congrArg List.length ht
      rw [List.length_take] at this
      unfold PK.textB at this
      rw [List.length_append] at this
      show x.length ≤ _
      omega
  rw [if_neg h4] at h
  by_cases h5 : k = 98
  · rw [if_pos h5] at h; subst h5
    cases hr : flagR l with
    | bad e j => rw [hr] at h; cases h
    | ok x j =>
      rw [hr] at h
      injection h with h1 h2
      subst h1 h2
      obtain ⟨rfl, hj, ht⟩ := flagR_one hr
      exact ⟨ht, hj, ⟨by show 98 < 256; omega, w0, rfl, w0⟩, rfl, rfl, rfl, Nat.zero_le _⟩
  rw [if_neg h5] at h
  cases h

theorem partR_cut (q : PK.Pt) (m : Int) (j : Nat) (hq : q.ok) (hk : PK.kindOk q.k = true) (hs : (q.s.size : Int) ≤ m) (hl : q.s.size < 18446744073709551616) (hj : j < (PK.partB q).length) :
    ∃ n, n ≤ j ∧ partR q.k m ((PK.partB q).take j) = .bad 2 n := by
  obtain ⟨k, u, i, f, s, b⟩ := q
  have hu := hq.u
  have hi := PK.zag_zig i (wf_i64 hq.i)
  rcases kind5 hk with rfl | rfl | rfl | rfl | rfl
  · refine ⟨j, Nat.le_refl _, ?_⟩
    show Res.map _ (numR ((PK.digits u).take j)) = _
    rw [numR_cut u j hu hj]; rfl
  · refine ⟨j, Nat.le_refl _, ?_⟩
    show Res.map _ (numR ((PK.digits (PK.zig i)).take j)) = _
    rw [numR_cut _ j hi.2 hj]; rfl
  · refine ⟨j, Nat.le_refl _, ?_⟩
    show Res.map _ (floR ((PK.placeB (MF.key f)).take j)) = _
    have hj : j < (PK.placeB (MF.key f)).length := hj
    rw [PK.placeB_length] at hj
    rw [floR_cut f j hj]; rfl
  · have hj : j < (PK.textB s.data.toList).length := hj
    obtain ⟨n, hn, he⟩ := txtR_cut s.data.toList m j (by rw [sz_list]; exact hs) (by rw [sz_list]; exact hl) hj
    refine ⟨n, hn, ?_⟩
    show Res.map _ (txtR m ((PK.textB s.data.toList).take j)) = _
    rw [he]; rfl
  · have hj : j < 1 := hj
    obtain rfl : j = 0 := by omega
    exact ⟨0, Nat.le_refl _, rfl⟩

/-- The kinds of parts, as signs. -/
def PK.kindsB (qs : List PK.Pt) : List UInt8 := qs.map fun q => q.k.toUInt8
/-- Parts that can be read back. -/
def PK.fine (m : Int) (qs : List PK.Pt) : Prop := ∀ q ∈ qs, q.ok ∧ PK.kindOk q.k = true ∧ (q.s.size : Int) ≤ m ∧ q.s.size < 18446744073709551616
theorem kind_back {q : PK.Pt} (h : q.ok) : (q.k.toUInt8).toNat = q.k := PK.toUInt8_toNat h.k
theorem partsR_partsB : ∀ (qs : List PK.Pt) (m : Int) (rest : List UInt8), PK.fine m qs →
    partsR m (PK.kindsB qs) (PK.partsB qs ++ rest) = if rest = [] then .ok (qs.map PK.clean) (PK.partsB qs).length else .bad 3 (PK.partsB qs).length
  | [], m, rest, _ => by
    show (if rest = [] then Res.ok [] 0 else Res.bad 3 0) = _
    rfl
  | q :: qs, m, rest, h => by
    obtain ⟨h1, h2, h3, h4⟩ := h q (by simp)
    have ih := partsR_partsB qs m rest (fun x hx => h x (by simp [hx]))
    show partsR m (q.k.toUInt8 :: PK.kindsB qs) (PK.partB q ++ PK.partsB qs ++ rest) = _
    rw [List.append_assoc]
    rw [partsR_cons (p := PK.clean q) (n := (PK.partB q).length) (by rw [kind_back h1]; exact partR_partB q m _ h1 h2 h3 h4), List.drop_left, ih]
    show _ = if rest = [] then Res.ok (PK.clean q :: qs.map PK.clean) (PK.partB q ++ PK.partsB qs).length else Res.bad 3 (PK.partB q ++ PK.partsB qs).length
    rw [List.length_append]
    split <;> rfl

theorem partsR_one : ∀ (ks : List UInt8) (m : Int) (l : List UInt8) (qs : List PK.Pt) (n : Nat), partsR m ks l = .ok qs n →
    PK.partsB qs = l ∧ qs.length = ks.length ∧ (∀ q ∈ qs, q.ok ∧ PK.kindOk q.k = true ∧ PK.clean q = q ∧ q.s.size ≤ l.length) ∧ n = l.length
  | [], m, l, qs, n, h => by
    have h : (if l = [] then Res.ok [] 0 else Res.bad 3 0) = .ok qs n := h
    split at h
    · rename_i e
      injection h with h1 h2
      subst h1 h2 e
      exact ⟨rfl, rfl, by simp, rfl⟩
    · cases h
  | k :: ks, m, l, qs, n, h => by
    cases hr : partR k.toNat m l with
    | bad e j => rw [partsR_bad hr] at h; cases h
    | ok q j =>
      rw [partsR_cons hr] at h
      obtain ⟨ht, hj, hq, hqk, hko, hc, hsz⟩ := partR_one k.toNat_lt hr
      cases hs : partsR m ks (l.drop j) with
      | bad e i => rw [hs] at h; cases h
      | ok ps i =>
        rw [hs] at h
        have h : Res.ok (q :: ps) (j + i) = .ok qs n := h
        injection h with h1 h2
        subst h1 h2
        obtain ⟨e1, e2, e3, e4⟩ := partsR_one ks m (l.drop j) ps i hs
        rw [List.length_drop] at e4
        refine ⟨?_, by simp [e2], ?_, by omega⟩
        · show PK.partB q ++ PK.partsB ps = l
          rw [← ht, e1, List.take_append_drop]
        · intro x hx
          rcases List.mem_cons.1 hx with rfl | hx
          · exact ⟨hq, by rw [hqk]; exact hko, hc, hsz⟩
          · obtain ⟨a, b, c, d⟩ := e3 x hx
            rw [List.length_drop] at d
            exact ⟨a, b, c, by omega⟩

theorem partR_code (k : Nat) (m : Int) (l : List UInt8) (n : Nat) : partR k m l ≠ .bad 0 n := by
  have hnum : ∀ j, numR l ≠ .bad 0 j := by
    intro j h
    unfold numR at h
    split at h
    · cases h
    · rename_i x y e hne hx
      injection h with h1 h2
      subst h1
      exact hne rfl
  intro h
  unfold partR at h
  repeat' split at h
  · cases hr : numR l with
    | ok x j => rw [hr] at h; cases h
    | bad e j => rw [hr] at h; injection h with h1; subst h1; exact hnum j hr
  · cases hr : numR l with
    | ok x j => rw [hr] at h; cases h
    | bad e j => rw [hr] at h; injection h with h1; subst h1; exact hnum j hr
  · unfold floR at h
    repeat' split at h
    all_goals cases h
  · cases hr : numR l with
    | ok x j =>
      rw [txtR_of hr] at h
      repeat' split at h
      all_goals cases h
    | bad e j => rw [txtR_bad hr] at h; injection h with h1; subst h1; exact hnum j hr
  · unfold flagR at h
    repeat' split at h
    all_goals cases h
  · cases h
theorem partsR_code : ∀ (m : Int) (ks : List UInt8) (l : List UInt8) (n : Nat), partsR m ks l ≠ .bad 0 n
  | m, [], l, n, h => by
    have h : (if l = [] then Res.ok [] 0 else Res.bad 3 0) = .bad 0 n := h
    split at h <;> cases h
  | m, k :: ks, l, n, h => by
    cases hr : partR k.toNat m l with
    | bad e j =>
      rw [partsR_bad hr] at h
      injection h with h1
      subst h1
      exact partR_code _ _ _ _ hr
    | ok q j =>
      rw [partsR_cons hr] at h
      cases hs : partsR m ks (l.drop j) with
      | ok ps i => rw [hs] at h; cases h
      | bad e i =>
        rw [hs] at h
        injection h with h1
        subst h1
        exact partsR_code _ _ _ _ hs

theorem partsR_cut : ∀ (qs : List PK.Pt) (m : Int) (j : Nat), PK.fine m qs → j < (PK.partsB qs).length → ∃ n, n ≤ j ∧ partsR m (PK.kindsB qs) ((PK.partsB qs).take j) = .bad 2 n
  | [], m, j, _, hj => by simp [PK.partsB] at hj
  | q :: qs, m, j, h, hj => by
    obtain ⟨h1, h2, h3, h4⟩ := h q (by simp)
    have hj : j < (PK.partB q ++ PK.partsB qs).length := hj
    rw [List.length_append] at hj
    show ∃ n, n ≤ j ∧ partsR m (q.k.toUInt8 :: PK.kindsB qs) ((PK.partB q ++ PK.partsB qs).take j) = .bad 2 n
    by_cases hd : j < (PK.partB q).length
    · obtain ⟨n, hn, he⟩ := partR_cut q m j h1 h2 h3 h4 hd
      rw [List.take_append_of_le_length (by omega)]
      exact ⟨n, hn, partsR_bad (by rw [kind_back h1]; exact he)⟩
    · obtain ⟨n, hn, he⟩ := partsR_cut qs m (j - (PK.partB q).length) (fun x hx => h x (by simp [hx])) (by omega)
      refine ⟨(PK.partB q).length + n, by omega, ?_⟩
      rw [List.take_append, List.take_of_length_le (by omega)]
      rw [partsR_cons (p := PK.clean q) (n := (PK.partB q).length) (by rw [kind_back h1]; exact partR_partB q m _ h1 h2 h3 h4), List.drop_left, he]
      rfl

end Go.Proofs.YtlpecaldodganaaGreatDoor
