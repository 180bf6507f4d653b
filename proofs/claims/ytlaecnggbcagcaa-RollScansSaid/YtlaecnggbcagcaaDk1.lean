/- Rows of a fixed size in a slice of one's own: read and written in their middle. Plain facts on worlds; no program. -/
import Derived.Test.YtlaecnggbcagcaaMem
import Derived.Deep.MidRow
import Derived.Laws.MakeOwn
import Derived.Laws.OwnMore
namespace MM
open Go Go.RowKit
set_option linter.unusedVariables false

theorem setCells_row (g : Nat) (t : TypeId) : ∀ (vs : List Value) (o : Nat) (w : World) (cs : List Value), w.heap[g]? = some (.cells cs.toArray t (0, 0)) → o + vs.length ≤ cs.length →
    (w.setCells g o vs).heap[g]? = some (.cells (cs.take o ++ vs ++ cs.drop (o + vs.length)).toArray t (0, 0))
  | [], o, w, cs, h, _ => by
    show w.heap[g]? = _
    simpa using h
  | v :: vs, o, w, cs, h, hl => by
    rw [List.length_cons] at hl
    have h1 := heap_setCell_same w g o cs.toArray t v h
    rw [List.setIfInBounds_toArray] at h1
    have ih := setCells_row g t vs (o + 1) (w.setCell ⟨g, o, none⟩ v) _ h1 (by rw [List.length_set]; omega)
    rw [show w.setCells g o (v :: vs) = (w.setCell ⟨g, o, none⟩ v).setCells g (o + 1) vs from rfl, ih]
    have e1 : (cs.set o v).take (o + 1) = cs.take o ++ [v] := by
      rw [List.take_add_one, List.take_set_of_le (Nat.le_refl _), List.getElem?_set_self (by omega)]; rfl
    have e2 : (cs.set o v).drop (o + 1 + vs.length) = cs.drop (o + (vs.length + 1)) := by
      rw [List.drop_set_of_lt (by omega)]; congr 1; omega
    rw [e1, e2, List.length_cons]
    simp
theorem setCells_kp (g : Nat) {S : Nat → Prop} {w0 : World} (hS : S g ∨ w0.heap.size ≤ g) : ∀ (vs : List Value) (o : Nat) (w : World), Kp S w0 w → Kp S w0 (w.setCells g o vs)
  | [], o, w, h => h
  | v :: vs, o, w, h => setCells_kp g hS vs (o + 1) _ (Kp.setCell h (p := ⟨g, o, none⟩) hS v)

def RowsOk (k : Nat) (R : List (List Value)) : Prop := ∀ r ∈ R, r.length = k

theorem flat_len {k : Nat} : ∀ {R : List (List Value)}, RowsOk k R → R.flatten.length = R.length * k
  | [], _ => by simp
  | r :: R, h => by
    rw [List.flatten_cons, List.length_append, flat_len (fun x hx => h x (List.mem_cons_of_mem _ hx)), h r (List.mem_cons_self ..), List.length_cons, Nat.add_mul, Nat.one_mul, Nat.add_comm]
theorem flat_get {k : Nat} : ∀ {R : List (List Value)}, RowsOk k R → ∀ {i : Nat} {r : List Value}, R[i]? = some r → ∀ {j : Nat}, j < k → R.flatten[i * k + j]? = r[j]?
  | [], _, i, r, h, j, _ => by simp at h
  | r0 :: R, h, 0, r, hr, j, hj => by
    simp only [List.getElem?_cons_zero, Option.some.injEq] at hr
    subst hr
    rw [Nat.zero_mul, Nat.zero_add, List.flatten_cons, List.getElem?_append_left (by rw [h r0 (List.mem_cons_self ..)]; exact hj)]
  | r0 :: R, h, i + 1, r, hr, j, hj => by
    rw [List.getElem?_cons_succ] at hr
    have h0 := h r0 (List.mem_cons_self ..)
    rw [List.flatten_cons, List.getElem?_append_right (by rw [h0, Nat.add_mul]; omega), h0, show (i + 1) * k + j - k = i * k + j by rw [Nat.add_mul, Nat.one_mul]; omega]
    exact flat_get (fun x hx => h x (List.mem_cons_of_mem _ hx)) hr hj
theorem flat_set {k : Nat} : ∀ {R : List (List Value)}, RowsOk k R → ∀ {i : Nat} (r : List Value), i < R.length → (R.set i r).flatten = R.flatten.take (i * k) ++ r ++ R.flatten.drop (i * k + k)
  | [], _, i, r, h => by simp at h
  | r0 :: R, h, 0, r, hi => by
    have h0 := h r0 (List.mem_cons_self ..)
    rw [List.set_cons_zero, List.flatten_cons, List.flatten_cons, Nat.zero_mul, List.take_zero, Nat.zero_add, List.nil_append]
    congr 1
    rw [← h0, List.drop_left]
  | r0 :: R, h, i + 1, r, hi => by
    have h0 := h r0 (List.mem_cons_self ..)
    have ih := flat_set (fun x hx => h x (List.mem_cons_of_mem _ hx)) (i := i) r (by simpa using hi)
    rw [List.set_cons_succ, List.flatten_cons, List.flatten_cons, ih]
    have e1 : (r0 ++ R.flatten).take ((i + 1) * k) = r0 ++ R.flatten.take (i * k) := by
      rw [List.take_append, List.take_of_length_le (by rw [h0, Nat.add_mul]; omega), h0]
      congr 2
      rw [Nat.add_mul]; omega
    have e2 : (r0 ++ R.flatten).drop ((i + 1) * k + k) = R.flatten.drop (i * k + k) := by
      rw [List.drop_append, List.drop_eq_nil_of_le (by rw [h0, Nat.add_mul]; omega), h0, List.nil_append]
      congr 1
      rw [Nat.add_mul]; omega
    rw [e1, e2]
    simp

section
variable {w : World} {e : TypeId} {k n c g : Nat} {R : List (List Value)}
theorem own_range (ho : w.ownsRow 0 e k (.slice (some ⟨g, 0, none⟩) n c) n R.flatten) (hR : RowsOk k R) (hn : n = R.length) {i : Nat} {r : List Value} (hi : R[i]? = some r) : w.rangeAt g (i * k) r := fun j v hv => by
  have hil : i < R.length := (List.getElem?_eq_some_iff.1 hi).1
  have hr : r.length = k := hR r (List.mem_of_getElem? hi)
  have hj : j < k := by have := (List.getElem?_eq_some_iff.1 hv).1; omega
  rw [ho.cellAt (i * k + j) (by
    have : (i + 1) * k ≤ n * k := Nat.mul_le_mul_right _ (by omega)
    rw [Nat.add_mul] at this; omega), flat_get hR hi hj]
  exact hv
theorem own_there (ho : w.ownsRow 0 e k (.slice (some ⟨g, 0, none⟩) n c) n R.flatten) (hR : RowsOk k R) (hn : n = R.length) {i : Nat} (hi : i < R.length) : w.there g (i * k) k := fun j hj => by
  refine ⟨?_, ho.frozenAt _⟩
  have h := own_range ho hR hn (List.getElem?_eq_getElem hi)
  have hr : (R[i]).length = k := hR _ (List.getElem_mem hi)
  exact h.isSome j (by omega)
theorem own_block (ho : w.ownsRow 0 e k (.slice (some ⟨g, 0, none⟩) n c) n R.flatten) : g < w.heap.size := (ho.lt g rfl).2
theorem own_store (ho : w.ownsRow 0 e k (.slice (some ⟨g, 0, none⟩) n c) n R.flatten) (hR : RowsOk k R) (hn : n = R.length) {i : Nat} (hi : i < R.length) (r : List Value) (hr : r.length = k) :
    (w.setCells g (i * k) r).ownsRow 0 e k (.slice (some ⟨g, 0, none⟩) n c) n (R.set i r).flatten := by
  have hR' : RowsOk k (R.set i r) := fun x hx => by
    rcases List.mem_or_eq_of_mem_set hx with h | h
    · exact hR x h
    · rw [h]; exact hr
  refine ⟨by rw [flat_len hR', List.length_set, hn], .inr ?_⟩
  rcases ho.2 with ⟨hv, h0⟩ | ⟨g', cap, cur, hv, hb, hg, hnc, hcm, hcs, ht⟩
  · cases hv
  · injection hv with h1 h2 h3
    injection h1 with h1
    injection h1 with h1 _ _
    subst h1 h3
    obtain ⟨l⟩ := cur
    have hl : l.length = c * k := by simpa using hcs
    have hle : i * k + k ≤ n * k := by
      have : (i + 1) * k ≤ n * k := Nat.mul_le_mul_right _ (by omega)
      rw [Nat.add_mul] at this; omega
    have hnk : n * k ≤ c * k := Nat.mul_le_mul_right _ hnc
    have hs := setCells_row g e r (i * k) w l hg (by rw [hr]; omega)
    refine ⟨g, c, _, rfl, hb, hs, hnc, hcm, ?_, ?_⟩
    · simp; omega
    · have ht : l.take (n * k) = R.flatten := ht
      show List.take (n * k) (l.take (i * k) ++ r ++ l.drop (i * k + r.length)) = _
      have hA : (l.take (i * k) ++ r).length = i * k + k := by rw [List.length_append, List.length_take, hr]; omega
      rw [flat_set hR r hi, ← ht, hr, List.take_append (l₁ := l.take (i * k) ++ r), List.take_of_length_le (l := l.take (i * k) ++ r) (by omega), List.take_take, Nat.min_eq_left (by omega), hA, List.drop_take]
theorem own_kp {S : Nat → Prop} {w' : World} {v : Value} {xs : List Value} (ho : w.ownsRow 0 e k v n xs) (hk : Kp S w w') (hn : ∀ b, v.ownBlock = some b → ¬ S b) : w'.ownsRow 0 e k v n xs := hk.own ho hn
end

end MM
