/- Contracts of the document's own answers for layer 2: numbers that are read. -/
import Derived.Test.YtaaeefndhmfceaaDoorPkO
import Derived.Test.YtaaeefndhmfceaaDoorPkF
import Derived.Deep.OwnRows
import Derived.Lib.ConvBytes
import Derived.Deep.RegionLaw
namespace Go.Proofs.YtaaeefndhmfceaaDoor
open Go.RowKit MM

theorem ref_bits (i n b : Nat) (hn : n < 128 ^ i) (hi : i ≤ 9) (hb : b < 256) (h9 : i = 9 → b ≤ 1) :
    IntKind.u64.wrap ((n : Int) + IntKind.u64.wrap (((b % 128 : Nat) : Int) * ((128 ^ i : Nat) : Int))) = ((n + b % 128 * 128 ^ i : Nat) : Int) := by
  have hx : b % 128 * 128 ^ i ≤ 9223372036854775808 := by
    by_cases h : i = 9
    · have := h9 h
      subst h
      have : b % 128 ≤ 1 := by omega
      have h2 : (128 : Nat) ^ 9 = 9223372036854775808 := by decide
      rw [h2]
      omega
    · have h1 : b % 128 ≤ 127 := by omega
      have h2 : (128 : Nat) ^ i ≤ 128 ^ 8 := Nat.pow_le_pow_right (by omega) (by omega)
      have h4 : b % 128 * 128 ^ i ≤ 127 * 128 ^ 8 := Nat.mul_le_mul h1 h2
      have h5 : (128 : Nat) ^ 8 = 72057594037927936 := by decide
      rw [h5] at h4
      omega
  have hn' : n < 9223372036854775808 := by
    have h2 : (128 : Nat) ^ i ≤ 128 ^ 9 := Nat.pow_le_pow_right (by omega) hi
    have h3 : (128 : Nat) ^ 9 = 9223372036854775808 := by decide
    omega
  rw [← Int.natCast_mul]
  generalize b % 128 * 128 ^ i = y at *
  rw [IntKind.wrap_u64, IntKind.wrap_u64]
  omega

/-- What num answers. -/
def RNum (xs : List UInt8) (w : World) (e : Ending) (w' : World) : Prop :=
  e = .returned (.tuple #[.int .u64 ((PK.numL 0 0 xs).1 : Nat), .int .i64 ((PK.numL 0 0 xs).2.1 : Nat), .int .i64 ((PK.numL 0 0 xs).2.2 : Nat)]) ∧ w = w'
theorem RNum.mk {xs : List UInt8} {w : World} {a b c : Nat} {x y z : Int} (h : PK.numL 0 0 xs = (a, b, c)) (hx : x = (a : Int)) (hy : y = (b : Int)) (hz : z = (c : Int)) :
    RNum xs w (.returned (.tuple #[.int .u64 x, .int .i64 y, .int .i64 z])) w := by
  subst hx hy hz
  exact ⟨by rw [h], rfl⟩

end Go.Proofs.YtaaeefndhmfceaaDoor
/- Contracts of the document's own answers for layer 2: places, signs, numbers as bytes. -/
namespace Go.Proofs.YtaaeefndhmfceaaDoor
open Go.RowKit MM

theorem proper_low {b : Nat} (h : b < 9223372036854775808) : MF.proper b = (decide (b ≤ 9218868437227405312) || b == 9221120237041090561) := by
  have hr : MF.rung b = b := Nat.mod_eq_of_lt h
  unfold MF.proper MF.canon MF.nan
  rw [hr]
  by_cases h1 : 9218868437227405312 < b
  · rw [decide_eq_true h1, decide_eq_false (by omega)]
    simp
  · rw [decide_eq_false h1, decide_eq_true (by omega)]
    simp
theorem proper_high {b : Nat} (h : b < 9223372036854775808) : MF.proper (b + 9223372036854775808) = decide (b ≤ 9218868437227405312) := by
  have hr : MF.rung (b + 9223372036854775808) = b := by unfold MF.rung; omega
  unfold MF.proper MF.canon MF.nan
  rw [hr]
  by_cases h1 : 9218868437227405312 < b
  · rw [decide_eq_true h1, decide_eq_false (by omega)]
    simp only [if_true]
    rw [Bool.eq_iff_iff]
    simp
  · rw [decide_eq_false h1, decide_eq_true (by omega)]
    simp

/-- New bytes, to be read alone. -/
def FreshB (xs : List UInt8) (w : World) (e : Ending) (w' : World) : Prop :=
  ∃ A c, e = .returned (.slice A xs.length c) ∧ Bts w' A xs ∧ (A = none → c = 0) ∧ Below w.heap.size w w'

theorem FreshB.of_own {E : TypeId} {w w2 : World} {A : Option Addr} {n c : Nat} {zs : List Value} {xs : List UInt8} (ho : w2.ownsRow 0 E 1 (.slice A n c) n zs) (hn : n = xs.length) (hz : zs = bc xs) (hb : Below w.heap.size w w2) :
    FreshB xs w (.returned (.slice A n c)) w2 := by
  subst hn hz
  exact ⟨A, c, rfl, Bts.own ho, fun e => by subst e; exact own_cap ho, hb⟩
theorem Fresh.of_own {E : TypeId} {w w2 : World} {A : Option Addr} {n c : Nat} {zs : List Value} {xs : List UInt8} (ho : w2.ownsRow 0 E 1 (.slice A n c) n zs) (hn : n = xs.length) (hz : zs = bc xs) (hk : ∀ k, ob A = some k → w.heap.size ≤ k) (hb : Below w.heap.size w w2) :
    Fresh E xs w (.returned (.slice A n c)) w2 := by
  subst hn hz
  exact ⟨A, c, rfl, ho, hk, hb⟩
theorem Fresh.toB {E : TypeId} {w w2 : World} {xs : List UInt8} {e : Ending} (h : Fresh E xs w e w2) : FreshB xs w e w2 := by
  obtain ⟨A, c, rfl, ho, hk, hb⟩ := h
  exact FreshB.of_own ho rfl rfl hb
theorem bts_new (w : World) (t : TypeId) (xs : List UInt8) : Bts (w.alloc (.cells (bc xs).toArray t)) (some ⟨w.heap.size, 0, none⟩) xs := by
  intro j v hv
  rw [MM.add_plain, Nat.zero_add]
  refine (cell_of_row _ _ j _ t (0, 0) (heap_alloc_new w _)).trans ?_
  simpa using hv

theorem place_cells (k : Nat) : ∀ x, x < 8 → (bc (PK.placeB k))[x]? = some (.int .u8 ((k / 256 ^ (7 - x) % 256 : Nat) : Int)) := by
  intro x hx
  rw [bc_get _ x (by rw [PK.placeB_length]; exact hx)]
  simp only [PK.placeB, List.getElem_map, List.getElem_range]
  rw [PK.toUInt8_toNat (Nat.mod_lt _ (by omega))]

end Go.Proofs.YtaaeefndhmfceaaDoor
/- Contracts of the document's own answers for layer 2: parts as bytes. -/
namespace PK
open Go

/-- A part of the document's: a floating number by its place. -/
structure Rp where
  k : Nat
  u : Nat
  i : Int
  p : Nat
  s : ByteArray
  b : Bool
structure Rp.ok (q : Rp) : Prop where
  k : q.k < 256
  u : MF.W64 q.u
  i : (Lit.int .i64 q.i).wf = true
  p : MF.W64 q.p
def Rp.cells (q : Rp) : Array Value := #[.int .u8 q.k, .int .u64 q.u, .int .i64 q.i, .int .u64 q.p, .string q.s, .bool q.b]
/-- It as bytes. -/
def refB (q : Rp) : List UInt8 :=
  if q.k = 117 then digits q.u else if q.k = 105 then digits (zig q.i) else if q.k = 102 then placeB q.p else if q.k = 115 then textB q.s.data.toList else if q.k = 98 then flagB q.b else []
def refsB : List Rp → List UInt8
  | [] => []
  | q :: l => refB q ++ refsB l
theorem refsB_append (a b : List Rp) : refsB (a ++ b) = refsB a ++ refsB b := by
  induction a with
  | nil => rfl
  | cons p l ih => simp [refsB, ih]
theorem refsB_take (l : List Rp) (i : Nat) (h : i < l.length) : refsB (l.take (i + 1)) = refsB (l.take i) ++ refB l[i] := by
  rw [List.take_succ_eq_append_getElem h, refsB_append]; simp [refsB]
theorem refsB_le (l : List Rp) (i : Nat) : (refsB (l.take i)).length ≤ (refsB l).length := by
  have := congrArg List.length (refsB_append (l.take i) (l.drop i))
  rw [List.take_append_drop, List.length_append] at this
  omega
/-- A part as the document's, without what its kind doesn't have. -/
def plainP (q : Pt) : Rp := ⟨q.k, if q.k = 117 then q.u else 0, if q.k = 105 then q.i else 0, if q.k = 102 then MF.key q.f else 0, if q.k = 115 then q.s else ⟨#[]⟩, if q.k = 98 then q.b else false⟩
theorem refB_plain (q : Pt) : refB (plainP q) = partB q := by
  unfold refB plainP partB
  by_cases h1 : q.k = 117
  · simp [h1]
  by_cases h2 : q.k = 105
  · simp [h2]
  by_cases h3 : q.k = 102
  · simp [h3]
  by_cases h4 : q.k = 115
  · simp [h4]
  by_cases h5 : q.k = 98
  · simp [h5]
  simp [h1, h2, h3, h4, h5]
theorem refsB_plain (l : List Pt) : refsB (l.map plainP) = partsB l := by
  induction l with
  | nil => rfl
  | cons q l ih => simp [refsB, partsB, ih, refB_plain]
end PK
namespace Go.Proofs.YtaaeefndhmfceaaDoor
open Go.RowKit MM

theorem below_bw (w : World) (e : TypeId) (s : ByteArray) : Below w.heap.size w (Lib.bytesWorld w e s) :=
  ⟨rfl, rfl, rfl, by rw [Lib.bytesWorld_size]; omega, fun j hj => Lib.bytesWorld_at_old w e s j hj⟩
theorem bw_keep {w : World} {e : TypeId} {s : ByteArray} {a : Addr} {v : Value} (h : w.cell? a = some v) : (Lib.bytesWorld w e s).cell? a = some v :=
  (Lib.bytesWorld_old w e s a (World.block_lt_of_cell? w a h)).trans h
theorem below_keep {w w' : World} {a : Addr} {v : Value} (hb : Below w.heap.size w w') (h : w.cell? a = some v) : w'.cell? a = some v :=
  (hb.cell (World.block_lt_of_cell? w a h)).trans h
theorem bts_bw (w : World) (e : TypeId) (s : ByteArray) : Bts (Lib.bytesWorld w e s) (some ⟨w.heap.size, 0, none⟩) s.data.toList := by
  intro j v hv
  have hj : j < s.data.toList.length := by
    have := (List.getElem?_eq_some_iff.1 hv).1
    rwa [bc_length] at this
  rw [bc_get _ j hj] at hv
  injection hv with hv
  subst hv
  rw [MM.add_plain, Nat.zero_add, Lib.bytesWorld_cell w e s j (by rwa [sz_list] at hj)]
  rw [List.getD_eq_getElem?_getD, List.getElem?_eq_getElem hj]
  rfl
theorem src_bw {tx e' : TypeId} (hk : Tryd.prog.underlying tx = some (.slice e')) (w : World) (e : TypeId) (s : ByteArray) (c : Nat) : Src Tryd.prog 1 tx (.slice (some ⟨w.heap.size, 0, none⟩) s.size c) s.size (bc s.data.toList) (Lib.bytesWorld w e s) :=
  (bts_bw w e s).src (c := c) hk (by simp)

theorem src_bw2 {tx e' : TypeId} (hk : Tryd.prog.underlying tx = some (.slice e')) (w : World) (e : TypeId) (s : ByteArray) (c : Nat) {w1 : World} (hb : Below (Lib.bytesWorld w e s).heap.size (Lib.bytesWorld w e s) w1) : Src Tryd.prog 1 tx (.slice (some ⟨w.heap.size, 0, none⟩) s.size c) s.size (bc s.data.toList) w1 :=
  ((bts_bw w e s).below hb).src (c := c) hk (by simp)

end Go.Proofs.YtaaeefndhmfceaaDoor
/- Contracts of the document's own answers for layer 2: One, Write. -/
namespace Go.Proofs.YtaaeefndhmfceaaDoor
open Go.RowKit MM

theorem FreshB.eqv {xs ys : List UInt8} {w : World} {e : Ending} {w' : World} (h : FreshB xs w e w') (he : xs = ys) : FreshB ys w e w' := he ▸ h
theorem FreshB.behind {xs : List UInt8} {w w0 : World} {e : Ending} {w' : World} (h : FreshB xs w0 e w') (hb : Below w.heap.size w w0) : FreshB xs w e w' := by
  obtain ⟨A, c, rfl, hB, hc, hb'⟩ := h
  exact ⟨A, c, rfl, hB, hc, hb.trans (hb'.mono hb.size)⟩

/-- A slice of the document's parts that reads as a list. -/
def Rps (w : World) (A : Option Addr) (qs : List PK.Rp) : Prop :=
  qs = [] ∨ ∃ b off, A = some ⟨b, off, none⟩ ∧ b < w.heap.size ∧ ∀ i q, qs[i]? = some q → ∀ j v, q.cells[j]? = some v → w.cell? ⟨b, off + i * 6 + j, none⟩ = some v
theorem Rps.below {w w' : World} {A : Option Addr} {qs : List PK.Rp} (h : Rps w A qs) (hb : Below w.heap.size w w') : Rps w' A qs := by
  rcases h with h | ⟨b, off, h1, h2, h3⟩
  · exact .inl h
  · exact .inr ⟨b, off, h1, Nat.lt_of_lt_of_le h2 hb.size, fun i q hq j v hv => (hb.cell (p := ⟨b, off + i * 6 + j, none⟩) h2).trans (h3 i q hq j v hv)⟩
theorem Pts.below {w w' : World} {A : Option Addr} {qs : List PK.Pt} (h : Pts w A qs) (hb : Below w.heap.size w w') : Pts w' A qs := by
  rcases h with h | ⟨b, off, h1, h2, h3⟩
  · exact .inl h
  · exact .inr ⟨b, off, h1, Nat.lt_of_lt_of_le h2 hb.size, fun i q hq j v hv => (hb.cell (p := ⟨b, off + i * 6 + j, none⟩) h2).trans (h3 i q hq j v hv)⟩

end Go.Proofs.YtaaeefndhmfceaaDoor
