/- Entries in memory, as they are read. -/
import Derived.Test.YtlaecnggbcagcaaRl11
namespace Go.Proofs.Ytlaecnggbcagcaa
open Go.RowKit MM
set_option linter.unusedVariables false
set_option linter.unusedSimpArgs false

/-- A slice that reads as entries, all in blocks of E. -/
def EntsR (w : World) (E : Nat → Prop) (A : Option Addr) (es : List (List UInt8)) : Prop := es = [] ∨ ∃ g o, A = some ⟨g, o, none⟩ ∧ E g ∧ g < w.heap.size ∧ ∀ i x, es[i]? = some x → ∃ v, w.cell? ⟨g, o + i, none⟩ = some v ∧ EntV w E v x
theorem EntsO.read {w : World} {E : Nat → Prop} {A : Option Addr} {c : Nat} {es : List (List UInt8)} {vs : List Value} (h : EntsO w E A c es vs) : EntsR w E A es := by
  by_cases h0 : es = []
  · exact .inl h0
  right
  have hl : 0 < es.length := List.length_pos_iff.2 h0
  have ho := h.own
  have hlen := h.len
  rcases h.own.2 with ⟨hv, hx⟩ | ⟨g, cap, cur, hv, _⟩
  · omega
  · injection hv with hA _ hc
    subst hA hc
    refine ⟨g, 0, rfl, h.blk g rfl, (ho.lt g (by rw [ownBlock_slice]; rfl)).2, fun i x hi => ?_⟩
    have hi' : i < es.length := (List.getElem?_eq_some_iff.1 hi).1
    have hv : vs[i]? = some (vs[i]'(by omega)) := List.getElem?_eq_getElem (by omega)
    exact ⟨_, by rw [Nat.zero_add, ho.cellAt i (by omega), hv], h.ev i x _ hi hv⟩
section
variable {w w' : World} {E : Nat → Prop} {A : Option Addr} {es : List (List UInt8)}
theorem EntsR.keep {S : Nat → Prop} (h : EntsR w E A es) (hk : Kp S w w') (hn : ∀ k, k < w.heap.size → E k → ¬ S k) : EntsR w' E A es := by
  rcases h with h | ⟨g, o, hA, hE, hg, hi⟩
  · exact .inl h
  refine .inr ⟨g, o, hA, hE, Nat.lt_of_lt_of_le hg hk.size, fun i x hx => ?_⟩
  obtain ⟨v, hv, he⟩ := hi i x hx
  exact ⟨v, hk.cell hv (hn g hg hE), he.keep hk fun k e => hn k (he.blk k e).2 (he.blk k e).1⟩
theorem EntsR.below (h : EntsR w E A es) (hb : Below w.heap.size w w') : EntsR w' E A es := h.keep (Kp.of_below hb (fun _ => False)) fun _ _ _ x => x
theorem EntsR.mono {E' : Nat → Prop} (h : EntsR w E A es) (hE : ∀ k, k < w.heap.size → E k → E' k) : EntsR w E' A es := by
  rcases h with h | ⟨g, o, hA, hEg, hg, hi⟩
  · exact .inl h
  refine .inr ⟨g, o, hA, hE g hg hEg, hg, fun i x hx => ?_⟩
  obtain ⟨v, hv, he⟩ := hi i x hx
  exact ⟨v, hv, he.mono hE⟩
theorem EntsR.take (h : EntsR w E A es) (n : Nat) : EntsR w E A (es.take n) := by
  rcases h with h | ⟨g, o, hA, hEg, hg, hi⟩
  · exact .inl (by rw [h, List.take_nil])
  refine .inr ⟨g, o, hA, hEg, hg, fun i x hx => hi i x ?_⟩
  rw [List.getElem?_take] at hx
  split at hx
  · exact hx
  · cases hx
theorem EntsR.at_ (h : EntsR w E A es) {i : Nat} {x : List UInt8} (hx : es[i]? = some x) : ∃ g o a c, A = some ⟨g, o, none⟩ ∧ E g ∧ g < w.heap.size ∧ w.cell? ⟨g, o + i, none⟩ = some (.slice a x.length c) ∧ Bts w a x ∧ x.length ≤ c ∧ (a = none → c = 0) ∧ ∀ k, ob a = some k → E k ∧ k < w.heap.size := by
  rcases h with h | ⟨g, o, hA, hEg, hg, hi⟩
  · rw [h] at hx; cases hx
  obtain ⟨v, hv, a, c, rfl, h1, h2, h3, h4⟩ := hi i x hx
  exact ⟨g, o, a, c, hA, hEg, hg, hv, h1, h2, h3, h4⟩
/-- A slice that reads as entries, wherever they lie. -/
def EntA (w : World) (v : Value) (x : List UInt8) : Prop := ∃ a c, v = .slice a x.length c ∧ Bts w a x ∧ x.length ≤ c ∧ (a = none → c = 0)
def EntsA (w : World) (A : Option Addr) (es : List (List UInt8)) : Prop := es = [] ∨ ∃ g o, A = some ⟨g, o, none⟩ ∧ g < w.heap.size ∧ ∀ i x, es[i]? = some x → ∃ v, w.cell? ⟨g, o + i, none⟩ = some v ∧ EntA w v x
theorem EntV.toA {v : Value} {x : List UInt8} (h : EntV w E v x) : EntA w v x := by
  obtain ⟨a, c, h1, h2, h3, h4, _⟩ := h
  exact ⟨a, c, h1, h2, h3, h4⟩
theorem EntsR.toA (h : EntsR w E A es) : EntsA w A es := by
  rcases h with h | ⟨g, o, hA, hE, hg, hi⟩
  · exact .inl h
  · exact .inr ⟨g, o, hA, hg, fun i x hx => by obtain ⟨v, h1, h2⟩ := hi i x hx; exact ⟨v, h1, h2.toA⟩⟩
theorem EntA.below {v : Value} {x : List UInt8} (h : EntA w v x) (hb : Below w.heap.size w w') : EntA w' v x := by
  obtain ⟨a, c, h1, h2, h3, h4⟩ := h
  exact ⟨a, c, h1, h2.below hb, h3, h4⟩
theorem EntsA.below (h : EntsA w A es) (hb : Below w.heap.size w w') : EntsA w' A es := by
  rcases h with h | ⟨g, o, hA, hg, hi⟩
  · exact .inl h
  · exact .inr ⟨g, o, hA, Nat.lt_of_lt_of_le hg hb.size, fun i x hx => by
      obtain ⟨v, h1, h2⟩ := hi i x hx
      exact ⟨v, (hb.cell (p := ⟨g, o + i, none⟩) hg).trans h1, h2.below hb⟩⟩
theorem EntsA.take (h : EntsA w A es) (n : Nat) : EntsA w A (es.take n) := by
  rcases h with h | ⟨g, o, hA, hg, hi⟩
  · exact .inl (by rw [h, List.take_nil])
  refine .inr ⟨g, o, hA, hg, fun i x hx => hi i x ?_⟩
  rw [List.getElem?_take] at hx
  split at hx
  · exact hx
  · cases hx
theorem EntsA.at_ (h : EntsA w A es) {i : Nat} {x : List UInt8} (hx : es[i]? = some x) : ∃ g o a c, A = some ⟨g, o, none⟩ ∧ g < w.heap.size ∧ w.cell? ⟨g, o + i, none⟩ = some (.slice a x.length c) ∧ Bts w a x ∧ x.length ≤ c ∧ (a = none → c = 0) := by
  rcases h with h | ⟨g, o, hA, hg, hi⟩
  · rw [h] at hx; cases hx
  obtain ⟨v, hv, a, c, rfl, h1, h2, h3⟩ := hi i x hx
  exact ⟨g, o, a, c, hA, hg, hv, h1, h2, h3⟩
end

end Go.Proofs.Ytlaecnggbcagcaa
