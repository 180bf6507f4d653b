/- Arguments opened: slices of bytes, of yes and no, of floating numbers, of parts. -/
import Derived.Test.YtbkcmnmbcldjoaaGreatDoorPkMP7d
import Derived.ProofKit
import Derived.OpenShut
import Derived.Deep.Slices
import Derived.Deep.Fields
import Derived.Deep.OwnRows
import Derived.Lib.ConvBytes
import Derived.Deep.RegionLaw
namespace Go.Proofs.YtbkcmnmbcldjoaaGreatDoor
open Go.ChangeShapes Go.WideShapes Go.ChangeAt Go.RowKit Go.Deep MM
/-- A slice whose elements have so many cells each reads as rows. -/
def Rws (w : World) (size : Nat) (A : Option Addr) (rows : List (List Value)) : Prop :=
  rows = [] ∨ ∃ b off, A = some ⟨b, off, none⟩ ∧ b < w.heap.size ∧ ∀ i r, rows[i]? = some r → ∀ j v, r[j]? = some v → w.cell? ⟨b, off + i * size + j, none⟩ = some v
section
variable {H : Type} {enc : TypeId × Value → H} {P : Program} {w : World} {base : Nat} {spare : Nat → Bool} {held : Bool}
theorem trod_flo {t : TypeId} {k : FloatKind} {fuel : Nat} {cs : List Value} {x : DataW H × List MemPlace} (ht : P.underlying t = some (.float k)) (h : DataW.trod enc P w base spare held fuel t cs = some x) :
    ∃ b, cs = [.float k b] ∧ (Lit.float k b).wf = true := by
  cases fuel with
  | zero => simp [DataW.trod] at h
  | succ n =>
    unfold DataW.trod at h
    rw [ht] at h
    split at h <;> simp_all
/-- The rows of a slice, each with its reading. -/
theorem open_rows {t e : TypeId} {a : Option Addr} {len cap : Nat} {d : DataW H} {ps : List MemPlace} (ht : P.underlying t = some (.slice e)) (hC : 0 < P.cellsOf e) (h : DataW.Trod enc P w 0 (fun _ => true) held t (.slice a len cap) d ps) :
    ∃ rows : List (List Value), rows.length = len ∧ Rws w (P.cellsOf e) a rows ∧ (∀ r ∈ rows, ∃ n x, DataW.trod enc P w 0 (fun _ => true) held n e r = some x) := by
  obtain ⟨fuel, hf⟩ := h
  rcases open_slice ht hf with ⟨hcs, _⟩ | ⟨ad, len', cap', m, n, D, Pl, hcs, hb, hl, hm, hmm, hx, hi⟩
  · simp [Value.cells] at hcs
    obtain ⟨rfl, rfl, rfl⟩ := hcs
    exact ⟨[], rfl, .inl rfl, fun r hr => by cases hr⟩
  · simp [Value.cells] at hcs
    obtain ⟨rfl, rfl, rfl⟩ := hcs
    have hm' : m = cap := by rw [hmm, if_pos rfl]
    by_cases h0 : len = 0
    · subst h0
      exact ⟨[], rfl, .inl rfl, fun r hr => by cases hr⟩
    · have key : ∀ i, i < len → ∃ r : List Value, w.cells? 0 (ad.add (i * P.cellsOf e)) (P.cellsOf e) = some r ∧ ∃ x, DataW.trod enc P w 0 (fun _ => true) held n e r = some x := by
        intro i hil
        obtain ⟨cs', h1, h2⟩ := hi i (by omega)
        exact ⟨cs', h1, _, h2⟩
      refine ⟨(List.range len).map (fun i => (w.cells? 0 (ad.add (i * P.cellsOf e)) (P.cellsOf e)).getD []), by simp, .inr ?_, ?_⟩
      · obtain ⟨r0, hr0, _⟩ := key 0 (by omega)
        obtain ⟨_, hlen0, hat0⟩ := World.cells?_some hr0
        have hc0 := hat0 0 hC
        rw [List.getElem?_eq_getElem (by omega)] at hc0
        obtain ⟨b, off, spot⟩ := ad
        have hspot : spot = none := by simpa [Addr.add] using World.cell?_spot hc0
        subst hspot
        have hblk : b < w.heap.size := by
          have := World.block_lt_of_cell? w _ hc0
          simpa [Addr.add] using this
        refine ⟨b, off, rfl, hblk, fun i r hr j v hv => ?_⟩
        simp only [List.getElem?_map, Option.map_eq_some_iff] at hr
        obtain ⟨i', hi', rfl⟩ := hr
        obtain ⟨hil, rfl⟩ : i < len ∧ i' = i := by
          rw [List.getElem?_eq_some_iff] at hi'
          obtain ⟨h1, h2⟩ := hi'
          simp at h1 h2
          exact ⟨h1, h2.symm⟩
        obtain ⟨r1, hr1, _⟩ := key i' hil
        rw [hr1] at hv
        obtain ⟨_, hlen1, hat1⟩ := World.cells?_some hr1
        have hjl : j < P.cellsOf e := by
          have := (List.getElem?_eq_some_iff.1 hv).1
          simp at this
          omega
        have := hat1 j hjl
        rw [MM.add_plain, MM.add_plain] at this
        rw [this]
        exact hv
      · intro r hr
        simp only [List.mem_map, List.mem_range] at hr
        obtain ⟨i, hil, rfl⟩ := hr
        obtain ⟨r1, hr1, x, hx1⟩ := key i hil
        rw [hr1]
        exact ⟨n, x, hx1⟩
end
end Go.Proofs.YtbkcmnmbcldjoaaGreatDoor
namespace MF
open Go
end MF
namespace Go.Proofs.YtbkcmnmbcldjoaaGreatDoor
theorem own : ownKnob Tryz.prog.godebug = none := by kernel_rfl
theorem laidOut : laidOutB Tryz.prog = true := by kernel_rfl
end Go.Proofs.YtbkcmnmbcldjoaaGreatDoor
namespace Go.Proofs.YtbkcmnmbcldjoaaGreatDoor
open Go.ChangeShapes Go.WideShapes Go.ChangeAt Go.RowKit Go.Deep
end Go.Proofs.YtbkcmnmbcldjoaaGreatDoor
namespace Go.Proofs.YtbkcmnmbcldjoaaGreatDoor
open Go.RowKit MM
/-- What num answers. -/
def RNum (xs : List UInt8) (w : World) (e : Ending) (w' : World) : Prop :=
  e = .returned (.tuple #[.int .u64 ((PK.numL 0 0 xs).1 : Nat), .int .i64 ((PK.numL 0 0 xs).2.1 : Nat), .int .i64 ((PK.numL 0 0 xs).2.2 : Nat)]) ∧ w = w'
theorem RNum.mk {xs : List UInt8} {w : World} {a b c : Nat} {x y z : Int} (h : PK.numL 0 0 xs = (a, b, c)) (hx : x = (a : Int)) (hy : y = (b : Int)) (hz : z = (c : Int)) :
    RNum xs w (.returned (.tuple #[.int .u64 x, .int .i64 y, .int .i64 z])) w := by
  subst hx hy hz
  exact ⟨by rw [h], rfl⟩
end Go.Proofs.YtbkcmnmbcldjoaaGreatDoor
namespace Go.Proofs.YtbkcmnmbcldjoaaGreatDoor
open Go.RowKit MM
/-- New bytes, to be read alone. -/
def FreshB (xs : List UInt8) (w : World) (e : Ending) (w' : World) : Prop :=
  ∃ A c, e = .returned (.slice A xs.length c) ∧ Bts w' A xs ∧ (A = none → c = 0) ∧ Below w.heap.size w w'
end Go.Proofs.YtbkcmnmbcldjoaaGreatDoor
namespace PK
open Go
/-- A part of the document's: a floating number by its place. -/
structure Rp where
  k : Nat
  u : Nat
  i : Int
  p : Nat
  s : ByteArray
  b : Bool
structure Rp.ok (q : Rp) : Prop where
  k : q.k < 256
  u : MF.W64 q.u
  i : (Lit.int .i64 q.i).wf = true
  p : MF.W64 q.p
def Rp.cells (q : Rp) : Array Value := #[.int .u8 q.k, .int .u64 q.u, .int .i64 q.i, .int .u64 q.p, .string q.s, .bool q.b]
end PK
namespace Go.Proofs.YtbkcmnmbcldjoaaGreatDoor
open Go.RowKit MM
theorem below_keep {w w' : World} {a : Addr} {v : Value} (hb : Below w.heap.size w w') (h : w.cell? a = some v) : w'.cell? a = some v :=
  (hb.cell (World.block_lt_of_cell? w a h)).trans h
end Go.Proofs.YtbkcmnmbcldjoaaGreatDoor
namespace Go.Proofs.YtbkcmnmbcldjoaaGreatDoor
open Go.RowKit MM
theorem FreshB.behind {xs : List UInt8} {w w0 : World} {e : Ending} {w' : World} (h : FreshB xs w0 e w') (hb : Below w.heap.size w w0) : FreshB xs w e w' := by
  obtain ⟨A, c, rfl, hB, hc, hb'⟩ := h
  exact ⟨A, c, rfl, hB, hc, hb.trans (hb'.mono hb.size)⟩
/-- A slice of the document's parts that reads as a list. -/
def Rps (w : World) (A : Option Addr) (qs : List PK.Rp) : Prop :=
  qs = [] ∨ ∃ b off, A = some ⟨b, off, none⟩ ∧ b < w.heap.size ∧ ∀ i q, qs[i]? = some q → ∀ j v, q.cells[j]? = some v → w.cell? ⟨b, off + i * 6 + j, none⟩ = some v
theorem Rps.below {w w' : World} {A : Option Addr} {qs : List PK.Rp} (h : Rps w A qs) (hb : Below w.heap.size w w') : Rps w' A qs := by
  rcases h with h | ⟨b, off, h1, h2, h3⟩
  · exact .inl h
  · exact .inr ⟨b, off, h1, Nat.lt_of_lt_of_le h2 hb.size, fun i q hq j v hv => (hb.cell (p := ⟨b, off + i * 6 + j, none⟩) h2).trans (h3 i q hq j v hv)⟩
theorem Pts.below {w w' : World} {A : Option Addr} {qs : List PK.Pt} (h : Pts w A qs) (hb : Below w.heap.size w w') : Pts w' A qs := by
  rcases h with h | ⟨b, off, h1, h2, h3⟩
  · exact .inl h
  · exact .inr ⟨b, off, h1, Nat.lt_of_lt_of_le h2 hb.size, fun i q hq j v hv => (hb.cell (p := ⟨b, off + i * 6 + j, none⟩) h2).trans (h3 i q hq j v hv)⟩
end Go.Proofs.YtbkcmnmbcldjoaaGreatDoor
namespace Go.Proofs.YtbkcmnmbcldjoaaGreatDoor
open Go.RowKit MM
theorem below_drew {B : Nat} {a w : World} (h : Below B a w) : Below B a w.drew := ⟨h.os, h.tape, h.output, h.size, h.block⟩
theorem below_drewN {B : Nat} {a w : World} (h : Below B a w) (n : Nat) : Below B a (w.drewN n) := ⟨h.os, h.tape, h.output, h.size, h.block⟩
theorem below2 (w : World) (o o' : Obj) : Below w.heap.size w ((w.alloc o).alloc o') := ((Below.refl _ w).alloc (Nat.le_refl _) _).alloc (by simp) _
end Go.Proofs.YtbkcmnmbcldjoaaGreatDoor
namespace Go.Proofs.YtbkcmnmbcldjoaaGreatDoor
open Go.RowKit MM
end Go.Proofs.YtbkcmnmbcldjoaaGreatDoor
namespace Go.Proofs.YtbkcmnmbcldjoaaGreatDoor
open Go.RowKit MM
end Go.Proofs.YtbkcmnmbcldjoaaGreatDoor
