/- Arguments opened: arrays of two acts, of two numbers, of two rows of acts. -/
import Derived.Test.YtlpecaldodganaaDoorOpn4rm
import Derived.Test.YtlpecaldodganaaDoorSpF
namespace Go.Proofs.YtlpecaldodganaaDoor
open Go.ChangeShapes Go.WideShapes Go.ChangeAt Go.RowKit Go.Deep MM
set_option linter.unusedVariables false
set_option linter.unusedSimpArgs false

theorem okWide_array6 {P : Program} {w : World} {r : Reach} {base : Nat} {t e : TypeId} {n : Nat} {v : Value} (ht : P.underlying t = some (.array n e)) (h : Value.okWide P w r base t v) : ∃ cs, v = .agg cs ∧ cs.size = P.cellsOf t := by
  simp only [Value.okWide, ht] at h
  obtain ⟨cs, h1, h2, _⟩ := h
  exact ⟨cs, h1, h2⟩

section
variable {H : Type} {enc : TypeId × Value → H} {w : World} {held : Bool}

set_option maxRecDepth 100000 in
theorem open_ints2 {r : Reach} {b0 : Nat} {v : Value} {d : DataW H} {ps : List MemPlace} (hv : Value.okWide Tryd.prog w r b0 22 v) (h : DataW.Trod enc Tryd.prog w 0 (fun _ => true) held 22 v d ps) :
    ∃ k l : Int, v = .agg #[.int .i64 k, .int .i64 l] ∧ (Lit.int .i64 k).wf = true ∧ (Lit.int .i64 l).wf = true := by
  obtain ⟨cs, rfl, hsz⟩ := okWide_array6 Tryd.underlying22 hv
  have hC : Tryd.prog.cellsOf 3 = 1 := by kernel_rfl
  have hC2 : Tryd.prog.cellsOf 22 = 2 := by kernel_rfl
  rw [hC2] at hsz
  obtain ⟨m, hm⟩ := h
  obtain ⟨xs, k, rfl, _, hlen, hn, hel⟩ := DataW.trod_array Tryd.underlying22 hm
  have h0 := hel 0 (by omega)
  have h1 := hel 1 (by omega)
  rw [hC, List.getElem?_eq_getElem (by omega)] at h0 h1
  obtain ⟨z0, e0, _, w0⟩ := DataW.trod_int Tryd.underlying3 h0
  obtain ⟨z1, e1, _, w1⟩ := DataW.trod_int Tryd.underlying3 h1
  obtain ⟨l⟩ := cs
  simp only [Value.cells] at e0 e1
  have hl : l.length = 2 := by simpa using hsz
  match l, hl with
  | [v0, v1], _ =>
    simp at e0 e1
    subst e0 e1
    exact ⟨z0, z1, rfl, w0, w1⟩

theorem slice_acts {v : Value} {x : DataW H × List MemPlace} {m : Nat} (h : DataW.trod enc Tryd.prog w 0 (fun _ => true) held m 23 [v] = some x) : ∃ L n c, v = .slice L n c ∧ ∃ l : List Al, l.length = n ∧ ActsIn w L l := by
  have hs : ∃ L n c, v = .slice L n c := by
    rcases open_slice Tryd.underlying23 h with ⟨hcs, _⟩ | ⟨ad, len', cap', m', n', D, Pl, hcs, hb, hl, hm, hmm, hx, hi⟩
    · exact ⟨none, 0, 0, by simpa using hcs⟩
    · exact ⟨some ad, len', cap', by simpa using hcs⟩
  obtain ⟨L, n, c, rfl⟩ := hs
  exact ⟨L, n, c, rfl, open_acts (d := x.1) (ps := x.2) (cap := c) ⟨m, by simpa [Value.cells] using h⟩⟩

end

end Go.Proofs.YtlpecaldodganaaDoor
