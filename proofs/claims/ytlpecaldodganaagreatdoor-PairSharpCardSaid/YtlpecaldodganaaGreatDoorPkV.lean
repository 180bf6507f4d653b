/- Arguments opened: slices of bytes, of yes and no, of floating numbers, of parts. -/
import Derived.Test.YtlpecaldodganaaGreatDoorPkM
import Derived.ProofKit
import Derived.OpenShut
import Derived.Deep.Slices
import Derived.Deep.Fields
import Derived.Deep.OwnRows
import Derived.Lib.ConvBytes
import Derived.Deep.RegionLaw
namespace Go.Proofs.YtlpecaldodganaaGreatDoor
open Go.ChangeShapes Go.WideShapes Go.ChangeAt Go.RowKit Go.Deep MM

/-- A slice whose elements have so many cells each reads as rows. -/
def Rws (w : World) (size : Nat) (A : Option Addr) (rows : List (List Value)) : Prop :=
  rows = [] ∨ ∃ b off, A = some ⟨b, off, none⟩ ∧ b < w.heap.size ∧ ∀ i r, rows[i]? = some r → ∀ j v, r[j]? = some v → w.cell? ⟨b, off + i * size + j, none⟩ = some v

section
variable {H : Type} {enc : TypeId × Value → H} {P : Program} {w : World} {base : Nat} {spare : Nat → Bool} {held : Bool}

theorem trod_flo {t : TypeId} {k : FloatKind} {fuel : Nat} {cs : List Value} {x : DataW H × List MemPlace} (ht : P.underlying t = some (.float k)) (h : DataW.trod enc P w base spare held fuel t cs = some x) :
    ∃ b, cs = [.float k b] ∧ (Lit.float k b).wf = true := by
  cases fuel with
  | zero => simp [DataW.trod] at h
  | succ n =>
    unfold DataW.trod at h
    rw [ht] at h
    split at h <;> simp_all

/-- The rows of a slice, each with its reading. -/
theorem open_rows {t e : TypeId} {a : Option Addr} {len cap : Nat} {d : DataW H} {ps : List MemPlace} (ht : P.underlying t = some (.slice e)) (hC : 0 < P.cellsOf e) (h : DataW.Trod enc P w 0 (fun _ => true) held t (.slice a len cap) d ps) :
    ∃ rows : List (List Value), rows.length = len ∧ Rws w (P.cellsOf e) a rows ∧ (∀ r ∈ rows, ∃ n x, DataW.trod enc P w 0 (fun _ => true) held n e r = some x) := by
  obtain ⟨fuel, hf⟩ := h
  rcases open_slice ht hf with ⟨hcs, _⟩ | ⟨ad, len', cap', m, n, D, Pl, hcs, hb, hl, hm, hmm, hx, hi⟩
  · simp [Value.cells] at hcs
    obtain ⟨rfl, rfl, rfl⟩ := hcs
    exact ⟨[], rfl, .inl rfl, fun r hr => by cases hr⟩
  · simp [Value.cells] at hcs
    obtain ⟨rfl, rfl, rfl⟩ := hcs
    have hm' : m = cap := by rw [hmm, if_pos rfl]
    by_cases h0 : len = 0
    · subst h0
      exact ⟨[], rfl, .inl rfl, fun r hr => by cases hr⟩
    · have key : ∀ i, i < len → ∃ r : List Value, w.cells? 0 (ad.add (i * P.cellsOf e)) (P.cellsOf e) = some r ∧ ∃ x, DataW.trod enc P w 0 (fun _ => true) held n e r = some x := by
        intro i hil
        obtain ⟨cs', h1, h2⟩ := hi i (by omega)
        exact ⟨cs', h1, _, h2⟩
      refine ⟨(List.range len).map (fun i => (w.cells? 0 (ad.add (i * P.cellsOf e)) (P.cellsOf e)).getD []), by simp, .inr ?_, ?_⟩
      · obtain ⟨r0, hr0, _⟩ := key 0 (by omega)
        obtain ⟨_, hlen0, hat0⟩ := World.cells?_some hr0
        have hc0 := hat0 0 hC
        rw [List.getElem?_eq_getElem (by omega)] at hc0
        obtain ⟨b, off, spot⟩ := ad
        have hspot : spot = none := by simpa [Addr.add] using World.cell?_spot hc0
        subst hspot
        have hblk : b < w.heap.size := by
          have := World.block_lt_of_cell? w _ hc0
          simpa [Addr.add] using this
        refine ⟨b, off, rfl, hblk, fun i r hr j v hv => ?_⟩
        simp only [List.getElem?_map, Option.map_eq_some_iff] at hr
        obtain ⟨i', hi', rfl⟩ := hr
        obtain ⟨hil, rfl⟩ : i < len ∧ i' = i := by
          rw [List.getElem?_eq_some_iff] at hi'
          obtain ⟨h1, h2⟩ := hi'
          simp at h1 h2
          exact ⟨h1, h2.symm⟩
        obtain ⟨r1, hr1, _⟩ := key i' hil
        rw [hr1] at hv
        obtain ⟨_, hlen1, hat1⟩ := World.cells?_some hr1
        have hjl : j < P.cellsOf e := by
          have := (List.getElem?_eq_some_iff.1 hv).1
          simp at this
          omega
        have := hat1 j hjl
        rw [MM.add_plain, MM.add_plain] at this
        rw [this]
        exact hv
      · intro r hr
        simp only [List.mem_map, List.mem_range] at hr
        obtain ⟨i, hil, rfl⟩ := hr
        obtain ⟨r1, hr1, x, hx1⟩ := key i hil
        rw [hr1]
        exact ⟨n, x, hx1⟩

/-- Bytes. -/
theorem open_bytes {t e : TypeId} {a : Option Addr} {len cap : Nat} {d : DataW H} {ps : List MemPlace} (ht : P.underlying t = some (.slice e)) (he : P.underlying e = some (.int .u8)) (hC : P.cellsOf e = 1) (h : DataW.Trod enc P w 0 (fun _ => true) held t (.slice a len cap) d ps) :
    ∃ xs : List UInt8, xs.length = len ∧ Bts w a xs := by
  obtain ⟨rows, hl, hr, hx⟩ := open_rows ht (by omega) h
  rw [hC] at hr
  have hall : ∀ rows : List (List Value), (∀ r ∈ rows, ∃ n x, DataW.trod enc P w 0 (fun _ => true) held n e r = some x) → ∃ xs : List UInt8, rows = xs.map fun c => [Value.int .u8 c.toNat] := by
    intro rows
    induction rows with
    | nil => intro _; exact ⟨[], rfl⟩
    | cons r rows ih =>
      intro hx
      obtain ⟨xs, rfl⟩ := ih (fun r hr => hx r (List.mem_cons_of_mem _ hr))
      obtain ⟨n, x, hx0⟩ := hx r (List.mem_cons_self ..)
      obtain ⟨z, rfl, _, hw⟩ := DataW.trod_int he hx0
      have hz : 0 ≤ z ∧ z ≤ 255 := by simpa [Lit.wf, IntKind.min, IntKind.max, IntKind.signed, IntKind.bits] using hw
      refine ⟨z.toNat.toUInt8 :: xs, ?_⟩
      rw [List.map_cons, PK.toUInt8_toNat (by omega)]
      congr 3
      omega
  obtain ⟨xs, rfl⟩ := hall rows hx
  refine ⟨xs, by simpa using hl, ?_⟩
  rcases hr with hr | ⟨b, off, rfl, _, hcell⟩
  · have : xs = [] := by simpa using hr
    subst this
    exact Bts.nil a
  · intro j u hu
    rw [MM.add_plain]
    have hu' : (xs.map fun c => [Value.int .u8 c.toNat])[j]? = some [u] := by
      simp only [bc, List.getElem?_map, Option.map_eq_some_iff] at hu ⊢
      obtain ⟨c, hc, rfl⟩ := hu
      exact ⟨c, hc, rfl⟩
    have := hcell j [u] hu' 0 u rfl
    simpa using this

/-- Yes and no. -/
def Bls (w : World) (A : Option Addr) (ys : List Bool) : Prop :=
  ys = [] ∨ ∃ b off, A = some ⟨b, off, none⟩ ∧ b < w.heap.size ∧ ∀ i y, ys[i]? = some y → w.cell? ⟨b, off + i, none⟩ = some (.bool y)
theorem open_bools {t e : TypeId} {a : Option Addr} {len cap : Nat} {d : DataW H} {ps : List MemPlace} (ht : P.underlying t = some (.slice e)) (he : P.underlying e = some .bool) (hC : P.cellsOf e = 1) (h : DataW.Trod enc P w 0 (fun _ => true) held t (.slice a len cap) d ps) :
    ∃ ys : List Bool, ys.length = len ∧ Bls w a ys := by
  obtain ⟨rows, hl, hr, hx⟩ := open_rows ht (by omega) h
  rw [hC] at hr
  have hall : ∀ rows : List (List Value), (∀ r ∈ rows, ∃ n x, DataW.trod enc P w 0 (fun _ => true) held n e r = some x) → ∃ ys : List Bool, rows = ys.map fun y => [Value.bool y] := by
    intro rows
    induction rows with
    | nil => intro _; exact ⟨[], rfl⟩
    | cons r rows ih =>
      intro hx
      obtain ⟨xs, rfl⟩ := ih (fun r hr => hx r (List.mem_cons_of_mem _ hr))
      obtain ⟨n, x, hx0⟩ := hx r (List.mem_cons_self ..)
      obtain ⟨z, rfl, _⟩ := DataW.trod_bool he hx0
      exact ⟨z :: xs, rfl⟩
  obtain ⟨ys, rfl⟩ := hall rows hx
  refine ⟨ys, by simpa using hl, ?_⟩
  rcases hr with hr | ⟨b, off, rfl, hb, hcell⟩
  · exact .inl (by simpa using hr)
  · refine .inr ⟨b, off, rfl, hb, fun j u hu => ?_⟩
    have := hcell j [.bool u] (by simp [hu]) 0 _ rfl
    simpa using this

/-- Floating numbers. -/
def Fls (w : World) (A : Option Addr) (ys : List Nat) : Prop :=
  ys = [] ∨ ∃ b off, A = some ⟨b, off, none⟩ ∧ b < w.heap.size ∧ ∀ i y, ys[i]? = some y → w.cell? ⟨b, off + i, none⟩ = some (.float .f64 y)
theorem open_floats {t e : TypeId} {a : Option Addr} {len cap : Nat} {d : DataW H} {ps : List MemPlace} (ht : P.underlying t = some (.slice e)) (he : P.underlying e = some (.float .f64)) (hC : P.cellsOf e = 1) (h : DataW.Trod enc P w 0 (fun _ => true) held t (.slice a len cap) d ps) :
    ∃ ys : List Nat, ys.length = len ∧ (∀ y ∈ ys, MF.W64 y) ∧ Fls w a ys := by
  obtain ⟨rows, hl, hr, hx⟩ := open_rows ht (by omega) h
  rw [hC] at hr
  have hall : ∀ rows : List (List Value), (∀ r ∈ rows, ∃ n x, DataW.trod enc P w 0 (fun _ => true) held n e r = some x) → ∃ ys : List Nat, rows = (ys.map fun y => [Value.float .f64 y]) ∧ ∀ y ∈ ys, MF.W64 y := by
    intro rows
    induction rows with
    | nil => intro _; exact ⟨[], rfl, fun y hy => by cases hy⟩
    | cons r rows ih =>
      intro hx
      obtain ⟨xs, rfl, hxs⟩ := ih (fun r hr => hx r (List.mem_cons_of_mem _ hr))
      obtain ⟨n, x, hx0⟩ := hx r (List.mem_cons_self ..)
      obtain ⟨z, rfl, hz⟩ := trod_flo he hx0
      refine ⟨z :: xs, rfl, fun y hy => ?_⟩
      rcases List.mem_cons.1 hy with rfl | hy
      · simp only [Lit.wf, decide_eq_true_eq] at hz
        exact hz
      · exact hxs y hy
  obtain ⟨ys, rfl, hys⟩ := hall rows hx
  refine ⟨ys, by simpa using hl, hys, ?_⟩
  rcases hr with hr | ⟨b, off, rfl, hb, hcell⟩
  · exact .inl (by simpa using hr)
  · refine .inr ⟨b, off, rfl, hb, fun j u hu => ?_⟩
    have := hcell j [.float .f64 u] (by simp [hu]) 0 _ rfl
    simpa using this
end

end Go.Proofs.YtlpecaldodganaaGreatDoor
/- Small facts that every frame wants. -/
namespace MF
open Go
theorem w_of_wf {b : Nat} (h : (Lit.float .f64 b).wf = true) : W64 b := by
  simp only [Lit.wf, decide_eq_true_eq] at h
  exact h
end MF
namespace Go.Proofs.YtlpecaldodganaaGreatDoor

theorem own : ownKnob Tryz.prog.godebug = none := by kernel_rfl
theorem laidOut : laidOutB Tryz.prog = true := by kernel_rfl

end Go.Proofs.YtlpecaldodganaaGreatDoor
/- A slice that comes in is no longer than its room. -/
namespace Go.Proofs.YtlpecaldodganaaGreatDoor
open Go.ChangeShapes Go.WideShapes Go.ChangeAt Go.RowKit Go.Deep

theorem open_cap {H : Type} {enc : TypeId × Value → H} {P : Program} {w : World} {held : Bool} {t e : TypeId} {a : Option Addr} {len cap : Nat} {d : DataW H} {ps : List MemPlace} (ht : P.underlying t = some (.slice e)) (h : DataW.Trod enc P w 0 (fun _ => true) held t (.slice a len cap) d ps) : len ≤ cap := by
  obtain ⟨fuel, hf⟩ := h
  rcases open_slice ht hf with ⟨hcs, _⟩ | ⟨ad, len', cap', m, n, D, Pl, hcs, hb, hl, hm, hmm, hx, hi⟩
  · simp [Value.cells] at hcs
    obtain ⟨rfl, rfl, rfl⟩ := hcs
    exact Nat.le_refl _
  · simp [Value.cells] at hcs
    obtain ⟨rfl, rfl, rfl⟩ := hcs
    exact hl

end Go.Proofs.YtlpecaldodganaaGreatDoor
/- Contracts of the document's own answers for layer 2: numbers that are read. -/
namespace Go.Proofs.YtlpecaldodganaaGreatDoor
open Go.RowKit MM

theorem ref_bits (i n b : Nat) (hn : n < 128 ^ i) (hi : i ≤ 9) (hb : b < 256) (h9 : i = 9 → b ≤ 1) :
    IntKind.u64.wrap ((n : Int) + IntKind.u64.wrap (((b % 128 : Nat) : Int) * ((128 ^ i : Nat) : Int))) = ((n + b % 128 * 128 ^ i : Nat) : Int) := by
  have hx : b % 128 * 128 ^ i ≤ 9223372036854775808 := by
    by_cases h : i = 9
    · have := h9 h
      subst h
      have : b % 128 ≤ 1 := by omega
      have h2 : (128 : Nat) ^ 9 = 9223372036854775808 := by decide
      rw [h2]
      omega
    · have h1 : b % 128 ≤ 127 := by omega
      have h2 : (128 : Nat) ^ i ≤ 128 ^ 8 := Nat.pow_le_pow_right (by omega) (by omega)
      have h4 : b % 128 * 128 ^ i ≤ 127 * 128 ^ 8 := Nat.mul_le_mul h1 h2
      have h5 : (128 : Nat) ^ 8 = 72057594037927936 := by decide
      rw [h5] at h4
      omega
  have hn' : n < 9223372036854775808 := by
    have h2 : (128 : Nat) ^ i ≤ 128 ^ 9 := Nat.pow_le_pow_right (by omega) hi
    have h3 : (128 : Nat) ^ 9 = 9223372036854775808 := by decide
    omega
  rw [← Int.natCast_mul]
  generalize b % 128 * 128 ^ i = y at *
  rw [IntKind.wrap_u64, IntKind.wrap_u64]
  omega

/-- What num answers. -/
def RNum (xs : List UInt8) (w : World) (e : Ending) (w' : World) : Prop :=
  e = .returned (.tuple #[.int .u64 ((PK.numL 0 0 xs).1 : Nat), .int .i64 ((PK.numL 0 0 xs).2.1 : Nat), .int .i64 ((PK.numL 0 0 xs).2.2 : Nat)]) ∧ w = w'
theorem RNum.mk {xs : List UInt8} {w : World} {a b c : Nat} {x y z : Int} (h : PK.numL 0 0 xs = (a, b, c)) (hx : x = (a : Int)) (hy : y = (b : Int)) (hz : z = (c : Int)) :
    RNum xs w (.returned (.tuple #[.int .u64 x, .int .i64 y, .int .i64 z])) w := by
  subst hx hy hz
  exact ⟨by rw [h], rfl⟩

end Go.Proofs.YtlpecaldodganaaGreatDoor
/- Contracts of the document's own answers for layer 2: places, signs, numbers as bytes. -/
namespace Go.Proofs.YtlpecaldodganaaGreatDoor
open Go.RowKit MM

theorem proper_low {b : Nat} (h : b < 9223372036854775808) : MF.proper b = (decide (b ≤ 9218868437227405312) || b == 9221120237041090561) := by
  have hr : MF.rung b = b := Nat.mod_eq_of_lt h
  unfold MF.proper MF.canon MF.nan
  rw [hr]
  by_cases h1 : 9218868437227405312 < b
  · rw [decide_eq_true h1, decide_eq_false (by omega)]
    simp
  · rw [decide_eq_false h1, decide_eq_true (by omega)]
    simp
theorem proper_high {b : Nat} (h : b < 9223372036854775808) : MF.proper (b + 9223372036854775808) = decide (b ≤ 9218868437227405312) := by
  have hr : MF.rung (b + 9223372036854775808) = b := by unfold MF.rung; omega
  unfold MF.proper MF.canon MF.nan
  rw [hr]
  by_cases h1 : 9218868437227405312 < b
  · rw [decide_eq_true h1, decide_eq_false (by omega)]
    simp only [if_true]
    rw [Bool.eq_iff_iff]
    simp
  · rw [decide_eq_false h1, decide_eq_true (by omega)]
    simp

/-- New bytes, to be read alone. -/
def FreshB (xs : List UInt8) (w : World) (e : Ending) (w' : World) : Prop :=
  ∃ A c, e = .returned (.slice A xs.length c) ∧ Bts w' A xs ∧ (A = none → c = 0) ∧ Below w.heap.size w w'

theorem FreshB.of_own {E : TypeId} {w w2 : World} {A : Option Addr} {n c : Nat} {zs : List Value} {xs : List UInt8} (ho : w2.ownsRow 0 E 1 (.slice A n c) n zs) (hn : n = xs.length) (hz : zs = bc xs) (hb : Below w.heap.size w w2) :
    FreshB xs w (.returned (.slice A n c)) w2 := by
  subst hn hz
  exact ⟨A, c, rfl, Bts.own ho, fun e => by subst e; exact own_cap ho, hb⟩
theorem Fresh.of_own {E : TypeId} {w w2 : World} {A : Option Addr} {n c : Nat} {zs : List Value} {xs : List UInt8} (ho : w2.ownsRow 0 E 1 (.slice A n c) n zs) (hn : n = xs.length) (hz : zs = bc xs) (hk : ∀ k, ob A = some k → w.heap.size ≤ k) (hb : Below w.heap.size w w2) :
    Fresh E xs w (.returned (.slice A n c)) w2 := by
  subst hn hz
  exact ⟨A, c, rfl, ho, hk, hb⟩
theorem Fresh.toB {E : TypeId} {w w2 : World} {xs : List UInt8} {e : Ending} (h : Fresh E xs w e w2) : FreshB xs w e w2 := by
  obtain ⟨A, c, rfl, ho, hk, hb⟩ := h
  exact FreshB.of_own ho rfl rfl hb
theorem bts_new (w : World) (t : TypeId) (xs : List UInt8) : Bts (w.alloc (.cells (bc xs).toArray t)) (some ⟨w.heap.size, 0, none⟩) xs := by
  intro j v hv
  rw [MM.add_plain, Nat.zero_add]
  refine (cell_of_row _ _ j _ t (0, 0) (heap_alloc_new w _)).trans ?_
  simpa using hv

theorem place_cells (k : Nat) : ∀ x, x < 8 → (bc (PK.placeB k))[x]? = some (.int .u8 ((k / 256 ^ (7 - x) % 256 : Nat) : Int)) := by
  intro x hx
  rw [bc_get _ x (by rw [PK.placeB_length]; exact hx)]
  simp only [PK.placeB, List.getElem_map, List.getElem_range]
  rw [PK.toUInt8_toNat (Nat.mod_lt _ (by omega))]

end Go.Proofs.YtlpecaldodganaaGreatDoor
/- Contracts of the document's own answers for layer 2: parts as bytes. -/
namespace PK
open Go

/-- A part of the document's: a floating number by its place. -/
structure Rp where
  k : Nat
  u : Nat
  i : Int
  p : Nat
  s : ByteArray
  b : Bool
structure Rp.ok (q : Rp) : Prop where
  k : q.k < 256
  u : MF.W64 q.u
  i : (Lit.int .i64 q.i).wf = true
  p : MF.W64 q.p
def Rp.cells (q : Rp) : Array Value := #[.int .u8 q.k, .int .u64 q.u, .int .i64 q.i, .int .u64 q.p, .string q.s, .bool q.b]
/-- It as bytes. -/
def refB (q : Rp) : List UInt8 :=
  if q.k = 117 then digits q.u else if q.k = 105 then digits (zig q.i) else if q.k = 102 then placeB q.p else if q.k = 115 then textB q.s.data.toList else if q.k = 98 then flagB q.b else []
def refsB : List Rp → List UInt8
  | [] => []
  | q :: l => refB q ++ refsB l
theorem refsB_append (a b : List Rp) : refsB (a ++ b) = refsB a ++ refsB b := by
  induction a with
  | nil => rfl
  | cons p l ih => simp [refsB, ih]
theorem refsB_take (l : List Rp) (i : Nat) (h : i < l.length) : refsB (l.take (i + 1)) = refsB (l.take i) ++ refB l[i] := by
  rw [List.take_succ_eq_append_getElem h, refsB_append]; simp [refsB]
theorem refsB_le (l : List Rp) (i : Nat) : (refsB (l.take i)).length ≤ (refsB l).length := by
  have := congrArg List.length (refsB_append (l.take i) (l.drop i))
  rw [List.take_append_drop, List.length_append] at this
  omega
/-- A part as the document's, without what its kind doesn't have. -/
def plainP (q : Pt) : Rp := ⟨q.k, if q.k = 117 then q.u else 0, if q.k = 105 then q.i else 0, if q.k = 102 then MF.key q.f else 0, if q.k = 115 then q.s else ⟨#[]⟩, if q.k = 98 then q.b else false⟩
theorem refB_plain (q : Pt) : refB (plainP q) = partB q := by
  unfold refB plainP partB
  by_cases h1 : q.k = 117
  · simp [h1]
  by_cases h2 : q.k = 105
  · simp [h2]
  by_cases h3 : q.k = 102
  · simp [h3]
  by_cases h4 : q.k = 115
  · simp [h4]
  by_cases h5 : q.k = 98
  · simp [h5]
  simp [h1, h2, h3, h4, h5]
theorem refsB_plain (l : List Pt) : refsB (l.map plainP) = partsB l := by
  induction l with
  | nil => rfl
  | cons q l ih => simp [refsB, partsB, ih, refB_plain]
end PK
namespace Go.Proofs.YtlpecaldodganaaGreatDoor
open Go.RowKit MM

theorem below_bw (w : World) (e : TypeId) (s : ByteArray) : Below w.heap.size w (Lib.bytesWorld w e s) :=
  ⟨rfl, rfl, rfl, by rw [Lib.bytesWorld_size]; omega, fun j hj => Lib.bytesWorld_at_old w e s j hj⟩
theorem bw_keep {w : World} {e : TypeId} {s : ByteArray} {a : Addr} {v : Value} (h : w.cell? a = some v) : (Lib.bytesWorld w e s).cell? a = some v :=
  (Lib.bytesWorld_old w e s a (World.block_lt_of_cell? w a h)).trans h
theorem below_keep {w w' : World} {a : Addr} {v : Value} (hb : Below w.heap.size w w') (h : w.cell? a = some v) : w'.cell? a = some v :=
  (hb.cell (World.block_lt_of_cell? w a h)).trans h
theorem bts_bw (w : World) (e : TypeId) (s : ByteArray) : Bts (Lib.bytesWorld w e s) (some ⟨w.heap.size, 0, none⟩) s.data.toList := by
  intro j v hv
  have hj : j < s.data.toList.length := by
    have := (List.getElem?_eq_some_iff.1 hv).1
    rwa [bc_length] at this
  rw [bc_get _ j hj] at hv
  injection hv with hv
  subst hv
  rw [MM.add_plain, Nat.zero_add, Lib.bytesWorld_cell w e s j (by rwa [sz_list] at hj)]
  rw [List.getD_eq_getElem?_getD, List.getElem?_eq_getElem hj]
  rfl
theorem src_bw {tx e' : TypeId} (hk : Tryz.prog.underlying tx = some (.slice e')) (w : World) (e : TypeId) (s : ByteArray) (c : Nat) : Src Tryz.prog 1 tx (.slice (some ⟨w.heap.size, 0, none⟩) s.size c) s.size (bc s.data.toList) (Lib.bytesWorld w e s) :=
  (bts_bw w e s).src (c := c) hk (by simp)

theorem src_bw2 {tx e' : TypeId} (hk : Tryz.prog.underlying tx = some (.slice e')) (w : World) (e : TypeId) (s : ByteArray) (c : Nat) {w1 : World} (hb : Below (Lib.bytesWorld w e s).heap.size (Lib.bytesWorld w e s) w1) : Src Tryz.prog 1 tx (.slice (some ⟨w.heap.size, 0, none⟩) s.size c) s.size (bc s.data.toList) w1 :=
  ((bts_bw w e s).below hb).src (c := c) hk (by simp)

end Go.Proofs.YtlpecaldodganaaGreatDoor
/- Contracts of the document's own answers for layer 2: One, Write. -/
namespace Go.Proofs.YtlpecaldodganaaGreatDoor
open Go.RowKit MM

theorem FreshB.eqv {xs ys : List UInt8} {w : World} {e : Ending} {w' : World} (h : FreshB xs w e w') (he : xs = ys) : FreshB ys w e w' := he ▸ h
theorem FreshB.behind {xs : List UInt8} {w w0 : World} {e : Ending} {w' : World} (h : FreshB xs w0 e w') (hb : Below w.heap.size w w0) : FreshB xs w e w' := by
  obtain ⟨A, c, rfl, hB, hc, hb'⟩ := h
  exact ⟨A, c, rfl, hB, hc, hb.trans (hb'.mono hb.size)⟩

/-- A slice of the document's parts that reads as a list. -/
def Rps (w : World) (A : Option Addr) (qs : List PK.Rp) : Prop :=
  qs = [] ∨ ∃ b off, A = some ⟨b, off, none⟩ ∧ b < w.heap.size ∧ ∀ i q, qs[i]? = some q → ∀ j v, q.cells[j]? = some v → w.cell? ⟨b, off + i * 6 + j, none⟩ = some v
theorem Rps.below {w w' : World} {A : Option Addr} {qs : List PK.Rp} (h : Rps w A qs) (hb : Below w.heap.size w w') : Rps w' A qs := by
  rcases h with h | ⟨b, off, h1, h2, h3⟩
  · exact .inl h
  · exact .inr ⟨b, off, h1, Nat.lt_of_lt_of_le h2 hb.size, fun i q hq j v hv => (hb.cell (p := ⟨b, off + i * 6 + j, none⟩) h2).trans (h3 i q hq j v hv)⟩
theorem Pts.below {w w' : World} {A : Option Addr} {qs : List PK.Pt} (h : Pts w A qs) (hb : Below w.heap.size w w') : Pts w' A qs := by
  rcases h with h | ⟨b, off, h1, h2, h3⟩
  · exact .inl h
  · exact .inr ⟨b, off, h1, Nat.lt_of_lt_of_le h2 hb.size, fun i q hq j v hv => (hb.cell (p := ⟨b, off + i * 6 + j, none⟩) h2).trans (h3 i q hq j v hv)⟩

end Go.Proofs.YtlpecaldodganaaGreatDoor
/- Contracts of the document's own answers for layer 2: the part that bytes begin with. -/
namespace Go.Proofs.YtlpecaldodganaaGreatDoor
open Go.RowKit MM

theorem below_drew {B : Nat} {a w : World} (h : Below B a w) : Below B a w.drew := ⟨h.os, h.tape, h.output, h.size, h.block⟩
theorem below_drewN {B : Nat} {a w : World} (h : Below B a w) (n : Nat) : Below B a (w.drewN n) := ⟨h.os, h.tape, h.output, h.size, h.block⟩

/-- What First answers. -/
def FPost (r : Res PK.Pt) (w : World) (e : Ending) (w' : World) : Prop :=
  Below w.heap.size w w' ∧ match r with
  | .ok p n => e = .returned (.tuple #[.agg (PK.plainP p).cells, .int .i64 n, .int .i64 0])
  | .bad code n => ∃ x : PK.Rp, e = .returned (.tuple #[.agg x.cells, .int .i64 n, .int .i64 code])
theorem FPost.good {r : Res PK.Pt} {p : PK.Pt} {n : Nat} {z : Int} {cs : Array Value} {w w' : World} (h : r = .ok p n) (hx : (PK.plainP p).cells = cs) (hz : z = (n : Int)) (hb : Below w.heap.size w w') :
    FPost r w (.returned (.tuple #[.agg cs, .int .i64 z, .int .i64 0])) w' := by
  subst h hx hz
  exact ⟨hb, rfl⟩
theorem FPost.mis {r : Res PK.Pt} {code n : Nat} {z y : Int} {cs : Array Value} {w w' : World} (x : PK.Rp) (h : r = .bad code n) (hx : x.cells = cs) (hz : z = (n : Int)) (hy : y = (code : Int)) (hb : Below w.heap.size w w') :
    FPost r w (.returned (.tuple #[.agg cs, .int .i64 z, .int .i64 y])) w' := by
  subst h hx hz hy
  exact ⟨hb, x, rfl⟩
theorem bts_at {w : World} {A : Option Addr} {xs : List UInt8} (hB : Bts w A xs) {i : Nat} (hlt : i < xs.length) :
    ∃ b off, A = some ⟨b, off, none⟩ ∧ b < w.heap.size ∧ ∀ j (hj : j < xs.length), w.cell? ⟨b, off + j, none⟩ = some (.int .u8 (xs[j]).toNat) := by
  cases A with
  | none =>
    have hB : xs = [] := hB
    subst hB
    simp at hlt
  | some ad =>
    obtain ⟨b, off, spot⟩ := ad
    have h0 := hB 0 _ (bc_get xs 0 (by omega))
    have hspot : spot = none := by simpa [Addr.add] using World.cell?_spot h0
    subst hspot
    refine ⟨b, off, rfl, ?_, fun j hj => ?_⟩
    · have := World.block_lt_of_cell? w _ h0
      rw [MM.add_plain] at this
      exact this
    · have h1 := hB j _ (bc_get xs j hj)
      rw [MM.add_plain] at h1
      exact h1
theorem below2 (w : World) (o o' : Obj) : Below w.heap.size w ((w.alloc o).alloc o') := ((Below.refl _ w).alloc (Nat.le_refl _) _).alloc (by simp) _

end Go.Proofs.YtlpecaldodganaaGreatDoor
/- Contracts of the document's own answers for layer 2: the text that bytes begin with. -/
namespace Go.Proofs.YtlpecaldodganaaGreatDoor
open Go.RowKit MM

end Go.Proofs.YtlpecaldodganaaGreatDoor
/- Contracts of the document's own answers for layer 2: the floating number that bytes begin with; whatever part they begin with. -/
namespace Go.Proofs.YtlpecaldodganaaGreatDoor
open Go.RowKit MM

theorem two_alloc (w : World) (cs ds : Array Value) (t u : TypeId) : ((w.alloc (.cells cs t)).alloc (.cells ds u)).heap[w.heap.size]? = some (.cells cs t (0, 0)) ∧ ((w.alloc (.cells cs t)).alloc (.cells ds u)).heap[w.heap.size + 1]? = some (.cells ds u (0, 0)) :=
  two_new (S := fun _ => False) (Kp.refl _ _) (fun x => x) (fun x => x)

end Go.Proofs.YtlpecaldodganaaGreatDoor
