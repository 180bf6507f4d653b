/- Layer 5's statements' own head: a purse; acts one behind the other; what is more than is looked at. -/
import Derived.Test.YtlpecaldodganaaGreatDoorRuVq
import Derived.Test.YtlpecaldodganaaGreatDoorBig4mq
namespace Go.Proofs.YtlpecaldodganaaGreatDoor
open Go.RowKit MM
theorem RecIn.keep {w w' : World} {r : RC.Rc} {A : Option Addr} {c : Nat} (h : RecIn w r A c) (hb : Below w.heap.size w w') : RecIn w' r A c := ⟨h.ok, h.its.below hb, h.len, h.text, h.names⟩
theorem ActIn.keep {w w' : World} {a : AC.Ac} {A : Option Addr} {c : Nat} (h : ActIn w a A c) (hb : Below w.heap.size w w') : ActIn w' a A c := ⟨h.ok, h.make.keep hb, h.key, h.s⟩
theorem ActsIn.keep {w w' : World} {L : Option Addr} {l : List Al} (h : ActsIn w L l) (hb : Below w.heap.size w w') : ActsIn w' L l := by
  refine ⟨?_, fun x hx => (h.all x hx).keep hb, h.len⟩
  rcases h.rows with h1 | ⟨b, off, h1, h2, h3⟩
  · exact .inl h1
  · exact .inr ⟨b, off, h1, Nat.lt_of_lt_of_le h2 hb.size, fun i x hi j v hv => below_keep hb (h3 i x hi j v hv)⟩
theorem acts_one {w : World} {a : AC.Ac} {A : Option Addr} {c : Nat} (t : TypeId) (h : ActIn w a A c) : ActsIn (w.alloc (.cells (actC a A c) t)) (some ⟨w.heap.size, 0, none⟩) [⟨a, A, c⟩] := by
  refine ⟨.inr ⟨w.heap.size, 0, rfl, by simp, fun i x hi j v hv => ?_⟩, fun x hx => ?_, by unfold maxLen; simp⟩
  · have hi0 : i = 0 := by
      rcases Nat.eq_zero_or_pos i with h0 | h0
      · exact h0
      · rw [List.getElem?_eq_none (by simp; omega)] at hi; cases hi
    subst hi0
    simp at hi
    subst hi
    rw [show 0 + 0 * 14 + j = j by omega, cell_of_row _ _ j _ _ (0, 0) (heap_alloc_new w _)]
    exact hv
  · simp at hx
    subst hx
    exact h.keep (below1 w _)
abbrev actC2 (a : AC.Ac) (A : Option Addr) (c : Nat) (b : AC.Ac) (B : Option Addr) (d : Nat) : Array Value := #[.int .i64 a.kind, .string a.key, .int .i64 a.n, .float .f64 a.x, .string a.s, .int .i64 a.make.kind, .int .i64 a.make.num, .int .i64 a.make.low, .int .i64 a.make.high, .float .f64 a.make.real, .int .i64 a.make.cap, .string a.make.text, .slice A a.make.list.length c, .bool a.must, .int .i64 b.kind, .string b.key, .int .i64 b.n, .float .f64 b.x, .string b.s, .int .i64 b.make.kind, .int .i64 b.make.num, .int .i64 b.make.low, .int .i64 b.make.high, .float .f64 b.make.real, .int .i64 b.make.cap, .string b.make.text, .slice B b.make.list.length d, .bool b.must]
theorem actC2_eq (a : AC.Ac) (A : Option Addr) (c : Nat) (b : AC.Ac) (B : Option Addr) (d : Nat) : actC a A c ++ actC b B d = actC2 a A c b B d := rfl
theorem acts_two {w : World} {a b : AC.Ac} {A B : Option Addr} {c d : Nat} (t : TypeId) (h : ActIn w a A c) (h' : ActIn w b B d) : ActsIn (w.alloc (.cells (actC2 a A c b B d) t)) (some ⟨w.heap.size, 0, none⟩) [⟨a, A, c⟩, ⟨b, B, d⟩] := by
  rw [← actC2_eq]
  refine ⟨.inr ⟨w.heap.size, 0, rfl, by simp, fun i x hi j v hv => ?_⟩, fun x hx => ?_, by unfold maxLen; simp⟩
  · rw [cell_of_row _ _ _ _ _ (0, 0) (heap_alloc_new w _)]
    have hj : j < 14 := by
      have := (Array.getElem?_eq_some_iff.1 hv).1
      unfold Al.cells at this
      simpa using this
    rcases Nat.eq_zero_or_pos i with h0 | h0
    · subst h0
      simp at hi
      subst hi
      rw [show 0 + 0 * 14 + j = j by omega, Array.getElem?_append_left (by simpa using hj)]
      exact hv
    · have h1 : i = 1 := by
        rcases Nat.lt_or_ge i 2 with h2 | h2
        · omega
        · rw [List.getElem?_eq_none (by simp; omega)] at hi; cases hi
      subst h1
      simp at hi
      subst hi
      rw [Array.getElem?_append_right (by simp), show 0 + 1 * 14 + j - (actC a A c).size = j by simp]
      exact hv
  · simp at hx
    rcases hx with rfl | rfl
    · exact h.keep (below1 w _)
    · exact h'.keep (below1 w _)
theorem own_cell {w : World} {e : TypeId} {size n c : Nat} {A : Option Addr} {xs : List Value} (h : w.ownsRow 0 e size (.slice A n c) n xs) (hn : 0 < n) : ∃ g, A = some ⟨g, 0, none⟩ ∧ g < w.heap.size ∧ ∀ j v, xs[j]? = some v → w.cell? ⟨g, j, none⟩ = some v := by
  obtain ⟨hl, ⟨h1, h2⟩ | ⟨g, cap, cur, h1, _, h3, h4, h5, h6, h7⟩⟩ := h
  · omega
  · injection h1 with hA _ _
    refine ⟨g, hA, lt_of_heap h3, fun j v hv => ?_⟩
    rw [cell_of_row _ _ j _ _ (0, 0) h3]
    rw [← h7, List.getElem?_take] at hv
    split at hv
    · simpa using hv
    · cases hv
theorem anCells_at : ∀ (ys : List An) (i : Nat) (y : An), ys[i]? = some y → ∀ j v, y.cells[j]? = some v → (anCells ys)[i * 10 + j]? = some v
  | [], i, y, h, _, _, _ => by simp at h
  | z :: l, 0, y, h, j, v, hv => by
    simp at h
    subst h
    show (z.cells ++ anCells l)[0 * 10 + j]? = some v
    have hj : j < z.cells.length := (List.getElem?_eq_some_iff.1 hv).1
    rw [show 0 * 10 + j = j by omega, List.getElem?_append_left hj]
    exact hv
  | z :: l, i + 1, y, h, j, v, hv => by
    have h' : l[i]? = some y := by simpa using h
    show (z.cells ++ anCells l)[(i + 1) * 10 + j]? = some v
    have hz : z.cells.length = 10 := rfl
    rw [List.getElem?_append_right (by omega), hz, show (i + 1) * 10 + j - 10 = i * 10 + j by omega]
    exact anCells_at l i y h' j v hv
/-- Is a record, or are acts, more than is looked at? -/
def big5 (r : RC.Rc) (l : List Al) : Bool := RC.big r || (decide (30 < l.length) || l.any fun x => AC.big x.r)
theorem big5_not {r : RC.Rc} {l : List Al} (h : big5 r l = false) : RC.big r = false ∧ l.length ≤ 30 ∧ ∀ x ∈ l, AC.big x.r = false := by
  unfold big5 at h
  simp only [Bool.or_eq_false_iff, decide_eq_false_iff_not, List.any_eq_false] at h
  exact ⟨h.1, by omega, fun x hx => by simpa using h.2.2 x hx⟩
end Go.Proofs.YtlpecaldodganaaGreatDoor
namespace Go.Proofs.YtlpecaldodganaaGreatDoor
open Go.RowKit MM
end Go.Proofs.YtlpecaldodganaaGreatDoor
namespace Go.Proofs.YtlpecaldodganaaGreatDoor
open Go.RowKit MM
set_option linter.unusedVariables false
theorem small5 {a : AC.Ac} (hb : AC.big a = false) : Lim a.make.list.length ∧ Lim a.key.size ∧ Lim a.s.size := by
  obtain ⟨h1, h2, h3⟩ := AC.big_not hb
  have := (big_not h3).1
  unfold Lim
  exact ⟨by omega, by omega, by omega⟩
end Go.Proofs.YtlpecaldodganaaGreatDoor
