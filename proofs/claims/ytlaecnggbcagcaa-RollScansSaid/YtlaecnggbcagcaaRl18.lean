/- A front of a slice; entries as a source; a roll beside new blocks. -/
import Derived.Test.YtlaecnggbcagcaaRl17
namespace Go.Proofs.Ytlaecnggbcagcaa
open Go.RowKit MM
set_option linter.unusedVariables false
set_option linter.unusedSimpArgs false

theorem slice_front (A : Option Addr) (n c hi : Nat) (h2 : hi ≤ c) (w : World) : (Instr.slice 66 (.slice A n c) none (some (.int .i64 (hi : Int))) none).run Try.prog w = .ok (.slice A hi c) w := by
  have h2' : (hi : Int) ≤ (c : Int) := by omega
  go_simp
theorem rows_src {P : Program} {w : World} {tx e' e : TypeId} {k n c : Nat} {A : Option Addr} {xs : List Value} (hk : P.underlying tx = some (.slice e')) (h : w.ownsRow 0 e k (.slice A n c) n xs) (h1 : ∀ u ∈ xs, u.oneCell' = true) : Src P k tx (.slice A n c) n xs w := by
  rcases h.2 with ⟨hv, h0⟩ | ⟨g, cap, cur, hv, _⟩
  · injection hv with hA hn hc
    subst hA hc h0
    obtain rfl : xs = [] := List.eq_nil_of_length_eq_zero (by rw [h.1]; omega)
    exact Src.ofNil w hk 0
  · injection hv with hA hn hc
    subst hA hc
    exact Src.ofSlice w hk _ _ _ _ h.1 (h.cells (g := g) rfl) h1
theorem EntsO.one {w : World} {E : Nat → Prop} {A : Option Addr} {c : Nat} {es : List (List UInt8)} {vs : List Value} (h : EntsO w E A c es vs) : ∀ u ∈ vs, u.oneCell' = true := fun u hu => by
  obtain ⟨x, a, c, rfl, _⟩ := h.get hu
  rfl
theorem EntsO.src {w : World} {E : Nat → Prop} {A : Option Addr} {c : Nat} {es : List (List UInt8)} {vs : List Value} (h : EntsO w E A c es vs) : Src Try.prog 1 66 (.slice A es.length c) es.length vs w := rows_src Try.underlying66 h.own h.one
theorem WantV.room {w wr : World} {W : Option Addr} {cw : Nat} {fs : List (List UInt8)} (h : WantV w wr W cw fs) : fs.length ≤ cw := by
  obtain ⟨vs, ho, _⟩ := h
  exact own_room ho
section
variable {w wr w' : World} {P R gs fs : List (List UInt8)} {room k p q g : Nat} {T : Nat → Prop} {d : Dk} {W : Option Addr} {cw : Nat}
theorem RkI.now (h : RkI w wr P R gs fs room k p q g T d W cw) (hb : Below wr.heap.size wr w') : RkI w w' P R gs fs room k p q g (fun k => T k ∧ (k < wr.heap.size ∨ w'.heap.size ≤ k)) d W cw :=
  ⟨h.rol.now hb, h.st, h.sum, h.few, h.lim, h.pl, (hb.block _ (lt_of_heap h.box)).trans h.box, ⟨fun x => h.ng.1 x.1, h.ng.2⟩, by
    obtain ⟨vs, ho, hv⟩ := h.want
    exact ⟨vs, own_below ho hb, hv⟩, fun kk e => by
      obtain ⟨h1, h2, h3, h4⟩ := h.wb kk e
      exact ⟨h1, fun x => h2 x.1, h3, h4⟩, h.bel.trans (hb.mono h.bel.size)⟩
/-- A roll that was opened anew, behind a crash. -/
theorem RkI.again (h : RkI w wr P R gs fs room k p q g T d W cw) {w6 : World} {d4 : Dk} {T' : Nat → Prop} {es r : List (List UInt8)} {q2 : Nat} (hk : Kp T wr w6) (hr : Rol w.heap.size T' w6 p q2 d4 (P.length + (flE es).length) (P.length + room)) (hst : RSt d4 P R es r.length) (hs : room = (flE es).length + r.length)
    (hp : d4.pend = []) (hT : ∀ k, T' k → T k) (hq : wr.heap.size ≤ q2) : RkI w w6 P R es fs room r.length p q2 g T' d4 W cw :=
  ⟨hr, hst, hs, by rw [hp]; simp; omega, h.lim, h.pl, (hk.block _ (lt_of_heap h.box) h.ng.1).trans h.box, ⟨fun x => h.ng.1 (hT _ x), fun e => by have := lt_of_heap h.box; omega⟩, by
    obtain ⟨vs, ho, hv⟩ := h.want
    refine ⟨vs, hk.own ho (fun k e => ?_), hv⟩
    rw [ownBlock_slice] at e
    exact (h.wb k e).2.1, fun kk e => by
      obtain ⟨h1, h2, h3, h4⟩ := h.wb kk e
      obtain ⟨vs, ho, hv⟩ := h.want
      have := (ho.lt kk (by rw [ownBlock_slice]; exact e)).2
      exact ⟨h1, fun x => h2 (hT _ x), by omega, h4⟩, h.bel.trans (h.rol.belT hk)⟩
end
/-- What a slice of one's own that is known by its values reads as. -/
theorem ents_of {w : World} {A : Option Addr} {c : Nat} {es : List (List UInt8)} {vs : List Value} (ho : w.ownsRow 0 51 1 (.slice A es.length c) es.length vs) (hv : ∀ (j : Nat) (v : Value) (x : List UInt8), es[j]? = some x → vs[j]? = some v → EntA w v x) : EntsA w A es :=
  WantV.ents (w := w) (cw := c) ⟨vs, ho, hv⟩ (Below.refl _ _)
theorem EntsO.evA {w : World} {E : Nat → Prop} {A : Option Addr} {c : Nat} {es : List (List UInt8)} {vs : List Value} (h : EntsO w E A c es vs) : ∀ (j : Nat) (v : Value) (x : List UInt8), es[j]? = some x → vs[j]? = some v → EntA w v x := fun j v x hx hv => (h.ev j x v hx hv).toA
theorem ents_snoc {w : World} {E : Nat → Prop} {A A7 : Option Addr} {c c7 : Nat} {es : List (List UInt8)} {vs : List Value} {v : Value} {x : List UInt8} (hm : EntsO w E A7 c7 es vs) (ho : w.ownsRow 0 51 1 (.slice A (es.length + 1) c) (es.length + 1) (vs ++ [v])) (hv : EntA w v x) : EntsA w A (es ++ [x]) := by
  refine ents_of (c := c) (vs := vs ++ [v]) (by rw [List.length_append]; exact ho) fun j u y hy hu => ?_
  by_cases hj : j < es.length
  · rw [List.getElem?_append_left hj] at hy
    rw [List.getElem?_append_left (by rw [hm.len]; exact hj)] at hu
    exact hm.evA j u y hy hu
  · rw [List.getElem?_append_right (by omega)] at hy
    rw [List.getElem?_append_right (by rw [hm.len]; omega), hm.len] at hu
    cases hjj : j - es.length with
    | zero =>
      rw [hjj] at hy hu
      injection hy with hy
      injection hu with hu
      subst hy hu
      exact hv
    | succ m => rw [hjj] at hy; cases hy

end Go.Proofs.Ytlaecnggbcagcaa
