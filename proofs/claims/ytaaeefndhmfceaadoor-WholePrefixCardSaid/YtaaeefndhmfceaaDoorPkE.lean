/- Contracts of the document's own answers for layer 2: the part that bytes begin with. -/
import Derived.Test.YtaaeefndhmfceaaDoorPkD
namespace Go.Proofs.YtaaeefndhmfceaaDoor
open Go.RowKit MM

theorem below_drew {B : Nat} {a w : World} (h : Below B a w) : Below B a w.drew := ⟨h.os, h.tape, h.output, h.size, h.block⟩
theorem below_drewN {B : Nat} {a w : World} (h : Below B a w) (n : Nat) : Below B a (w.drewN n) := ⟨h.os, h.tape, h.output, h.size, h.block⟩

/-- What First answers. -/
def FPost (r : Res PK.Pt) (w : World) (e : Ending) (w' : World) : Prop :=
  Below w.heap.size w w' ∧ match r with
  | .ok p n => e = .returned (.tuple #[.agg (PK.plainP p).cells, .int .i64 n, .int .i64 0])
  | .bad code n => ∃ x : PK.Rp, e = .returned (.tuple #[.agg x.cells, .int .i64 n, .int .i64 code])
theorem FPost.good {r : Res PK.Pt} {p : PK.Pt} {n : Nat} {z : Int} {cs : Array Value} {w w' : World} (h : r = .ok p n) (hx : (PK.plainP p).cells = cs) (hz : z = (n : Int)) (hb : Below w.heap.size w w') :
    FPost r w (.returned (.tuple #[.agg cs, .int .i64 z, .int .i64 0])) w' := by
  subst h hx hz
  exact ⟨hb, rfl⟩
theorem FPost.mis {r : Res PK.Pt} {code n : Nat} {z y : Int} {cs : Array Value} {w w' : World} (x : PK.Rp) (h : r = .bad code n) (hx : x.cells = cs) (hz : z = (n : Int)) (hy : y = (code : Int)) (hb : Below w.heap.size w w') :
    FPost r w (.returned (.tuple #[.agg cs, .int .i64 z, .int .i64 y])) w' := by
  subst h hx hz hy
  exact ⟨hb, x, rfl⟩
theorem bts_at {w : World} {A : Option Addr} {xs : List UInt8} (hB : Bts w A xs) {i : Nat} (hlt : i < xs.length) :
    ∃ b off, A = some ⟨b, off, none⟩ ∧ b < w.heap.size ∧ ∀ j (hj : j < xs.length), w.cell? ⟨b, off + j, none⟩ = some (.int .u8 (xs[j]).toNat) := by
  cases A with
  | none =>
    have hB : xs = [] := hB
    subst hB
    simp at hlt
  | some ad =>
    obtain ⟨b, off, spot⟩ := ad
    have h0 := hB 0 _ (bc_get xs 0 (by omega))
    have hspot : spot = none := by simpa [Addr.add] using World.cell?_spot h0
    subst hspot
    refine ⟨b, off, rfl, ?_, fun j hj => ?_⟩
    · have := World.block_lt_of_cell? w _ h0
      rw [MM.add_plain] at this
      exact this
    · have h1 := hB j _ (bc_get xs j hj)
      rw [MM.add_plain] at h1
      exact h1
theorem below2 (w : World) (o o' : Obj) : Below w.heap.size w ((w.alloc o).alloc o') := ((Below.refl _ w).alloc (Nat.le_refl _) _).alloc (by simp) _

end Go.Proofs.YtaaeefndhmfceaaDoor
/- Contracts of the document's own answers for layer 2: the text that bytes begin with. -/
namespace Go.Proofs.YtaaeefndhmfceaaDoor
open Go.RowKit MM

end Go.Proofs.YtaaeefndhmfceaaDoor
/- Contracts of the document's own answers for layer 2: the floating number that bytes begin with; whatever part they begin with. -/
namespace Go.Proofs.YtaaeefndhmfceaaDoor
open Go.RowKit MM

theorem two_alloc (w : World) (cs ds : Array Value) (t u : TypeId) : ((w.alloc (.cells cs t)).alloc (.cells ds u)).heap[w.heap.size]? = some (.cells cs t (0, 0)) ∧ ((w.alloc (.cells cs t)).alloc (.cells ds u)).heap[w.heap.size + 1]? = some (.cells ds u (0, 0)) :=
  two_new (S := fun _ => False) (Kp.refl _ _) (fun x => x) (fun x => x)

end Go.Proofs.YtaaeefndhmfceaaDoor
