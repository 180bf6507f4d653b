/- Arguments opened: arrays of two acts, of two numbers, of two rows of acts. -/
import Derived.Test.YtbkcmnmbcldjoaaGreatDoorOpn4rmP7a
import Derived.Test.YtbkcmnmbcldjoaaGreatDoorSpFP7a
namespace Go.Proofs.YtbkcmnmbcldjoaaGreatDoor
open Go.ChangeShapes Go.WideShapes Go.ChangeAt Go.RowKit Go.Deep MM
set_option linter.unusedVariables false
set_option linter.unusedSimpArgs false
theorem okWide_array6 {P : Program} {w : World} {r : Reach} {base : Nat} {t e : TypeId} {n : Nat} {v : Value} (ht : P.underlying t = some (.array n e)) (h : Value.okWide P w r base t v) : ∃ cs, v = .agg cs ∧ cs.size = P.cellsOf t := by
  simp only [Value.okWide, ht] at h
  obtain ⟨cs, h1, h2, _⟩ := h
  exact ⟨cs, h1, h2⟩
section
variable {H : Type} {enc : TypeId × Value → H} {w : World} {held : Bool}
set_option maxRecDepth 100000 in
theorem open_ints2 {r : Reach} {b0 : Nat} {v : Value} {d : DataW H} {ps : List MemPlace} (hv : Value.okWide Tryz.prog w r b0 26 v) (h : DataW.Trod enc Tryz.prog w 0 (fun _ => true) held 26 v d ps) :
    ∃ k l : Int, v = .agg #[.int .i64 k, .int .i64 l] ∧ (Lit.int .i64 k).wf = true ∧ (Lit.int .i64 l).wf = true := by
  obtain ⟨cs, rfl, hsz⟩ := okWide_array6 Tryz.underlying26 hv
  have hC : Tryz.prog.cellsOf 3 = 1 := by kernel_rfl
  have hC2 : Tryz.prog.cellsOf 26 = 2 := by kernel_rfl
  rw [hC2] at hsz
  obtain ⟨m, hm⟩ := h
  obtain ⟨xs, k, rfl, _, hlen, hn, hel⟩ := DataW.trod_array Tryz.underlying26 hm
  have h0 := hel 0 (by omega)
  have h1 := hel 1 (by omega)
  rw [hC, List.getElem?_eq_getElem (by omega)] at h0 h1
  obtain ⟨z0, e0, _, w0⟩ := DataW.trod_int Tryz.underlying3 h0
  obtain ⟨z1, e1, _, w1⟩ := DataW.trod_int Tryz.underlying3 h1
  obtain ⟨l⟩ := cs
  simp only [Value.cells] at e0 e1
  have hl : l.length = 2 := by simpa using hsz
  match l, hl with
  | [v0, v1], _ =>
    simp at e0 e1
    subst e0 e1
    exact ⟨z0, z1, rfl, w0, w1⟩
end
end Go.Proofs.YtbkcmnmbcldjoaaGreatDoor
