/- Contracts of package pack's writer. -/
import Derived.Test.YtbkcmnmbcldjoaaGreatDoorNumMP7d
import Derived.Test.YtbkcmnmbcldjoaaGreatDoorMemMP7d
import Derived.Deep.RegionLaw
import Derived.Lib.SliceRun
import Derived.Deep.QuietTactic
import Derived.BigQuiet
import Derived.Defers
import Derived.Recover
import Derived.Laws.StructEq
namespace Go.Proofs.YtbkcmnmbcldjoaaGreatDoor
open Go.RowKit MM
end Go.Proofs.YtbkcmnmbcldjoaaGreatDoor
namespace Go.Proofs.YtbkcmnmbcldjoaaGreatDoor
open Go.RowKit MM
end Go.Proofs.YtbkcmnmbcldjoaaGreatDoor
namespace Go.Proofs.YtbkcmnmbcldjoaaGreatDoor
open Go.RowKit MM
end Go.Proofs.YtbkcmnmbcldjoaaGreatDoor
namespace PK
open Go
/-- A part: its kind, and what it may have. -/
structure Pt where
  k : Nat
  u : Nat
  i : Int
  f : Nat
  s : ByteArray
  b : Bool
/-- Each of its numbers is one of its kind. -/
structure Pt.ok (p : Pt) : Prop where
  k : p.k < 256
  u : MF.W64 p.u
  i : (Lit.int .i64 p.i).wf = true
  f : MF.W64 p.f
def Pt.cells (p : Pt) : Array Value := #[.int .u8 p.k, .int .u64 p.u, .int .i64 p.i, .float .f64 p.f, .string p.s, .bool p.b]
end PK
namespace Go.Proofs.YtbkcmnmbcldjoaaGreatDoor
open Go.RowKit MM
/-- A slice of parts that reads as a list. -/
def Pts (w : World) (A : Option Addr) (ps : List PK.Pt) : Prop :=
  ps = [] ∨ ∃ b off, A = some ⟨b, off, none⟩ ∧ b < w.heap.size ∧ ∀ i q, ps[i]? = some q → ∀ j v, q.cells[j]? = some v → w.cell? ⟨b, off + i * 6 + j, none⟩ = some v
end Go.Proofs.YtbkcmnmbcldjoaaGreatDoor
namespace Go.Proofs.YtbkcmnmbcldjoaaGreatDoor
open Go.RowKit MM
/-- A number, in plain words. -/
def numR (l : List UInt8) : Res Nat :=
  match PK.numL 0 0 l with
  | (n, k, 0) => .ok n k
  | (_, k, e) => .bad e k
end Go.Proofs.YtbkcmnmbcldjoaaGreatDoor
namespace Go.Proofs.YtbkcmnmbcldjoaaGreatDoor
open Go.RowKit MM
/-- Is a number above the greatest that may be? -/
def tooB (n : Nat) (m : Int) : Bool := decide (m.toNat < n)
end Go.Proofs.YtbkcmnmbcldjoaaGreatDoor
namespace Go.Proofs.YtbkcmnmbcldjoaaGreatDoor
open Go.RowKit MM
/-- A floating number, in plain words. -/
def floR (l : List UInt8) : Res Nat :=
  if l.length < 8 then .bad 2 l.length
  else if MF.proper (MF.bk (PK.placeN (l.take 8))) then .ok (MF.bk (PK.placeN (l.take 8))) 8 else .bad 4 8
/-- A text of at most so many bytes, in plain words. -/
def txtR (m : Int) (l : List UInt8) : Res (List UInt8) :=
  match numR l with
  | .bad e k => .bad e k
  | .ok n k => if tooB n m then .bad 3 k else if l.length - k < n then .bad 2 k else .ok ((l.drop k).take n) (k + n)
end Go.Proofs.YtbkcmnmbcldjoaaGreatDoor
namespace Go.Proofs.YtbkcmnmbcldjoaaGreatDoor
open Go.RowKit MM
/-- A part of a kind, in plain words. -/
def Res.map {α β : Type} (f : α → β) : Res α → Res β
  | .ok x n => .ok (f x) n
  | .bad e n => .bad e n
def PK.zeroPt (k : Nat) : PK.Pt := ⟨k, 0, 0, 0, ⟨#[]⟩, false⟩
end Go.Proofs.YtbkcmnmbcldjoaaGreatDoor
namespace Go.Proofs.YtbkcmnmbcldjoaaGreatDoor
open Go.RowKit MM
/-- A Fault as a value. -/
abbrev fltV (code at_ : Nat) : Value := .agg #[.int .i64 code, .int .i64 at_]
end Go.Proofs.YtbkcmnmbcldjoaaGreatDoor
namespace Go.Proofs.YtbkcmnmbcldjoaaGreatDoor
open Go.RowKit MM
/-- The parts that bytes are, in plain words. -/
def lift {α : Type} (ps : List α) (n : Nat) : Res (List α) → Res (List α)
  | .ok qs k => .ok (ps ++ qs) (n + k)
  | .bad e k => .bad e (n + k)
theorem lift_lift {α : Type} (ps qs : List α) (n k : Nat) (r : Res (List α)) : lift ps n (lift qs k r) = lift (ps ++ qs) (n + k) r := by
  cases r <;> simp [lift, Nat.add_assoc]
/-- Parts as cells. -/
def ptCells (ps : List PK.Pt) : List Value := ps.flatMap fun q => q.cells.toList
end Go.Proofs.YtbkcmnmbcldjoaaGreatDoor
namespace Go.Proofs.YtbkcmnmbcldjoaaGreatDoor
open Go.RowKit MM
theorem ptCells_length (ps : List PK.Pt) : (ptCells ps).length = ps.length * 6 := by
  induction ps with
  | nil => rfl
  | cons q l ih =>
    have : ptCells (q :: l) = q.cells.toList ++ ptCells l := by simp [ptCells]
    rw [this, List.length_append, ih]
    simp [PK.Pt.cells]
    omega
theorem ptCells_get : ∀ (ps : List PK.Pt) (i : Nat) (q : PK.Pt) (j : Nat) (v : Value), ps[i]? = some q → q.cells[j]? = some v → (ptCells ps)[i * 6 + j]? = some v
  | [], i, q, j, v, h, _ => by simp at h
  | p :: l, i, q, j, v, h, hj => by
    have e : ptCells (p :: l) = p.cells.toList ++ ptCells l := by simp [ptCells]
    have hl : p.cells.toList.length = 6 := by simp [PK.Pt.cells]
    rw [e]
    cases i with
    | zero =>
      simp only [List.getElem?_cons_zero, Option.some.injEq] at h
      subst h
      have hj6 : j < 6 := by
        have := (Array.getElem?_eq_some_iff.1 hj).1
        simpa [PK.Pt.cells] using this
      rw [List.getElem?_append_left (by omega)]
      simpa using hj
    | succ i =>
      rw [List.getElem?_append_right (by omega), hl]
      rw [show (i + 1) * 6 + j - 6 = i * 6 + j by omega]
      exact ptCells_get l i q j v (by simpa using h) hj
theorem Pts.own {w : World} {A : Option Addr} {c : Nat} {ps : List PK.Pt} {E : TypeId} (h : w.ownsRow 0 E 6 (.slice A ps.length c) ps.length (ptCells ps)) : Pts w A ps := by
  rcases h.2 with ⟨hv, h0⟩ | ⟨g, cap, cur, hv, _⟩
  · exact .inl (List.eq_nil_of_length_eq_zero h0)
  · injection hv with hA _ hc
    subst hA hc
    refine .inr ⟨g, 0, rfl, own_inside h _ rfl, fun i q hq j v hj => ?_⟩
    have := h.cells (g := g) rfl (i * 6 + j) v (ptCells_get ps i q j v hq hj)
    rw [MM.add_plain] at this
    rw [← Nat.add_assoc] at this
    exact this
theorem Pts.new (w : World) (t : TypeId) (ps : List PK.Pt) (hl : ps.length ≤ maxLen) : Pts (w.alloc (.cells (ptCells ps).toArray t)) (some ⟨w.heap.size, 0, none⟩) ps := by
  have h := World.ownsRow_lit (base := 0) (e := t) (size := 6) w (ptCells ps).toArray ps.length (Nat.zero_le _) hl (by simp [ptCells_length])
  exact Pts.own h
end Go.Proofs.YtbkcmnmbcldjoaaGreatDoor
namespace PK
end PK
namespace Go.Proofs.YtbkcmnmbcldjoaaGreatDoor
open Go.RowKit MM
/-- A part without what its kind doesn't have. -/
def PK.clean (q : PK.Pt) : PK.Pt :=
  if q.k = 117 then { PK.zeroPt 117 with u := q.u }
  else if q.k = 105 then { PK.zeroPt 105 with i := q.i }
  else if q.k = 102 then { PK.zeroPt 102 with f := MF.canon q.f }
  else if q.k = 115 then { PK.zeroPt 115 with s := q.s }
  else if q.k = 98 then { PK.zeroPt 98 with b := q.b }
  else PK.zeroPt q.k
theorem sz_list (s : ByteArray) : s.data.toList.length = s.size := rfl
end Go.Proofs.YtbkcmnmbcldjoaaGreatDoor
