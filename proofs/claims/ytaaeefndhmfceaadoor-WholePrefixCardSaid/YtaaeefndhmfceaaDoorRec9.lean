/- Contracts of package rec: the record that bytes are. -/
import Derived.Test.YtaaeefndhmfceaaDoorRec8
namespace Go.Proofs.YtaaeefndhmfceaaDoor
open Go.RowKit MM

/-- The record that bytes are, all of them. -/
def wholeR {α : Type} (f : List UInt8 → Res α) (l : List UInt8) : Res α :=
  match f l with
  | .bad e n => .bad e n
  | .ok r n => if l.drop n = [] then .ok r n else .bad 3 n

def RRecPost (r : Res RC.Rc) (w : World) (e : Ending) (w' : World) : Prop :=
  match r with
  | .ok r _ => ∃ A c, e = .returned (.tuple #[recV r A c, fltV 0 0]) ∧ w'.ownsRow 0 49 2 (.slice A r.list.length c) r.list.length (itCells r.list) ∧ (∀ k, ob A = some k → w.heap.size ≤ k) ∧ Below w.heap.size w w'
  | .bad code n => e = .returned (.tuple #[recV RC.zero none 0, fltV code n]) ∧ Below w.heap.size w w'

theorem RRecPost.bad {r : Res RC.Rc} {code n : Nat} {z : Int} {w w' : World} (h : r = .bad code n) (hz : z = (n : Int)) (hb : Below w.heap.size w w') : RRecPost r w (.returned (.tuple #[.agg (recC 0 0 0 0 0 0 ⟨#[]⟩ (.slice none 0 0)), .agg #[.int .i64 (code : Int), .int .i64 z]])) w' := by
  subst h hz
  exact ⟨rfl, hb⟩
theorem RRecPost.good {r : Res RC.Rc} {x : RC.Rc} {n : Nat} {A : Option Addr} {c : Nat} {w w' : World} (h : r = .ok x n) (ho : w'.ownsRow 0 49 2 (.slice A x.list.length c) x.list.length (itCells x.list)) (hn : ∀ k, ob A = some k → w.heap.size ≤ k) (hb : Below w.heap.size w w') :
    RRecPost r w (.returned (.tuple #[recV x A c, .agg #[.int .i64 0, .int .i64 0]])) w' := by
  subst h
  exact ⟨A, c, rfl, ho, hn, hb⟩

theorem wholeR_bad {α : Type} {f : List UInt8 → Res α} {l : List UInt8} {e n : Nat} (h : f l = .bad e n) : wholeR f l = .bad e n := by unfold wholeR; rw [h]
theorem wholeR_ok {α : Type} {f : List UInt8 → Res α} {l : List UInt8} {x : α} {n : Nat} (h : f l = .ok x n) (hd : l.drop n = []) : wholeR f l = .ok x n := by unfold wholeR; rw [h]; simp only; rw [if_pos hd]
theorem wholeR_long {α : Type} {f : List UInt8 → Res α} {l : List UInt8} {x : α} {n : Nat} (h : f l = .ok x n) (hd : l.drop n ≠ []) : wholeR f l = .bad 3 n := by unfold wholeR; rw [h]; simp only; rw [if_neg hd]

section
variable {w : World} {g : Nat} {x0 x1 x2 x3 x4 x5 x6 x7 c0 c1 c2 c3 c4 c5 c6 c7 : Value} {t : TypeId}
theorem rec_stores (hq : w.heap[g]? = some (.cells #[x0, x1, x2, x3, x4, x5, x6, x7] t (0, 0))) :
    ((((((((w.setCell ⟨g, 0, none⟩ c0).setCell ⟨g, 1, none⟩ c1).setCell ⟨g, 2, none⟩ c2).setCell ⟨g, 3, none⟩ c3).setCell ⟨g, 4, none⟩ c4).setCell ⟨g, 5, none⟩ c5).setCell ⟨g, 6, none⟩ c6).setCell ⟨g, 7, none⟩ c7).heap[g]? = some (.cells #[c0, c1, c2, c3, c4, c5, c6, c7] t (0, 0)) := by
  have h0 : (w.setCell ⟨g, 0, none⟩ c0).heap[g]? = some (.cells #[c0, x1, x2, x3, x4, x5, x6, x7] t (0, 0)) := heap_setCell_same _ _ _ _ _ _ hq
  have h1 : ((w.setCell ⟨g, 0, none⟩ c0).setCell ⟨g, 1, none⟩ c1).heap[g]? = some (.cells #[c0, c1, x2, x3, x4, x5, x6, x7] t (0, 0)) := heap_setCell_same _ _ _ _ _ _ h0
  have h2 : (((w.setCell ⟨g, 0, none⟩ c0).setCell ⟨g, 1, none⟩ c1).setCell ⟨g, 2, none⟩ c2).heap[g]? = some (.cells #[c0, c1, c2, x3, x4, x5, x6, x7] t (0, 0)) := heap_setCell_same _ _ _ _ _ _ h1
  have h3 : ((((w.setCell ⟨g, 0, none⟩ c0).setCell ⟨g, 1, none⟩ c1).setCell ⟨g, 2, none⟩ c2).setCell ⟨g, 3, none⟩ c3).heap[g]? = some (.cells #[c0, c1, c2, c3, x4, x5, x6, x7] t (0, 0)) := heap_setCell_same _ _ _ _ _ _ h2
  have h4 : (((((w.setCell ⟨g, 0, none⟩ c0).setCell ⟨g, 1, none⟩ c1).setCell ⟨g, 2, none⟩ c2).setCell ⟨g, 3, none⟩ c3).setCell ⟨g, 4, none⟩ c4).heap[g]? = some (.cells #[c0, c1, c2, c3, c4, x5, x6, x7] t (0, 0)) := heap_setCell_same _ _ _ _ _ _ h3
  have h5 : ((((((w.setCell ⟨g, 0, none⟩ c0).setCell ⟨g, 1, none⟩ c1).setCell ⟨g, 2, none⟩ c2).setCell ⟨g, 3, none⟩ c3).setCell ⟨g, 4, none⟩ c4).setCell ⟨g, 5, none⟩ c5).heap[g]? = some (.cells #[c0, c1, c2, c3, c4, c5, x6, x7] t (0, 0)) := heap_setCell_same _ _ _ _ _ _ h4
  have h6 : (((((((w.setCell ⟨g, 0, none⟩ c0).setCell ⟨g, 1, none⟩ c1).setCell ⟨g, 2, none⟩ c2).setCell ⟨g, 3, none⟩ c3).setCell ⟨g, 4, none⟩ c4).setCell ⟨g, 5, none⟩ c5).setCell ⟨g, 6, none⟩ c6).heap[g]? = some (.cells #[c0, c1, c2, c3, c4, c5, c6, x7] t (0, 0)) := heap_setCell_same _ _ _ _ _ _ h5
  have h7 : ((((((((w.setCell ⟨g, 0, none⟩ c0).setCell ⟨g, 1, none⟩ c1).setCell ⟨g, 2, none⟩ c2).setCell ⟨g, 3, none⟩ c3).setCell ⟨g, 4, none⟩ c4).setCell ⟨g, 5, none⟩ c5).setCell ⟨g, 6, none⟩ c6).setCell ⟨g, 7, none⟩ c7).heap[g]? = some (.cells #[c0, c1, c2, c3, c4, c5, c6, c7] t (0, 0)) := heap_setCell_same _ _ _ _ _ _ h6
  exact h7
theorem rec_stores_other {k : Nat} (h : k ≠ g) :
    ((((((((w.setCell ⟨g, 0, none⟩ c0).setCell ⟨g, 1, none⟩ c1).setCell ⟨g, 2, none⟩ c2).setCell ⟨g, 3, none⟩ c3).setCell ⟨g, 4, none⟩ c4).setCell ⟨g, 5, none⟩ c5).setCell ⟨g, 6, none⟩ c6).setCell ⟨g, 7, none⟩ c7).heap[k]? = w.heap[k]? := by
  iterate 8 refine (heap_setCell_other _ _ _ _ h).trans ?_
  rfl
end

end Go.Proofs.YtaaeefndhmfceaaDoor
