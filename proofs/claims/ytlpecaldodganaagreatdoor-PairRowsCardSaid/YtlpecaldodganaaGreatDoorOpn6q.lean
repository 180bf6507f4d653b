/- Arguments opened: arrays of two acts, of two numbers, of two rows of acts. -/
import Derived.Test.YtlpecaldodganaaGreatDoorOpn4rmq
import Derived.Test.YtlpecaldodganaaGreatDoorSpFq
namespace Go.Proofs.YtlpecaldodganaaGreatDoor
open Go.ChangeShapes Go.WideShapes Go.ChangeAt Go.RowKit Go.Deep MM
set_option linter.unusedVariables false
set_option linter.unusedSimpArgs false
theorem okWide_array6 {P : Program} {w : World} {r : Reach} {base : Nat} {t e : TypeId} {n : Nat} {v : Value} (ht : P.underlying t = some (.array n e)) (h : Value.okWide P w r base t v) : ∃ cs, v = .agg cs ∧ cs.size = P.cellsOf t := by
  simp only [Value.okWide, ht] at h
  obtain ⟨cs, h1, h2, _⟩ := h
  exact ⟨cs, h1, h2⟩
section
variable {H : Type} {enc : TypeId × Value → H} {w : World} {held : Bool}
theorem slice_acts {v : Value} {x : DataW H × List MemPlace} {m : Nat} (h : DataW.trod enc Tryz.prog w 0 (fun _ => true) held m 31 [v] = some x) : ∃ L n c, v = .slice L n c ∧ ∃ l : List Al, l.length = n ∧ ActsIn w L l := by
  have hs : ∃ L n c, v = .slice L n c := by
    rcases open_slice Tryz.underlying31 h with ⟨hcs, _⟩ | ⟨ad, len', cap', m', n', D, Pl, hcs, hb, hl, hm, hmm, hx, hi⟩
    · exact ⟨none, 0, 0, by simpa using hcs⟩
    · exact ⟨some ad, len', cap', by simpa using hcs⟩
  obtain ⟨L, n, c, rfl⟩ := hs
  exact ⟨L, n, c, rfl, open_acts (d := x.1) (ps := x.2) (cap := c) ⟨m, by simpa [Value.cells] using h⟩⟩
set_option maxRecDepth 100000 in
theorem open_rows2 {r : Reach} {b0 : Nat} {v : Value} {d : DataW H} {ps : List MemPlace} (hv : Value.okWide Tryz.prog w r b0 42 v) (h : DataW.Trod enc Tryz.prog w 0 (fun _ => true) held 42 v d ps) :
    ∃ (L : Option Addr) (c : Nat) (l : List Al) (M : Option Addr) (e : Nat) (m : List Al), v = .agg #[.slice L l.length c, .slice M m.length e] ∧ ActsIn w L l ∧ ActsIn w M m := by
  obtain ⟨cs, rfl, hsz⟩ := okWide_array6 Tryz.underlying42 hv
  have hC : Tryz.prog.cellsOf 31 = 1 := by kernel_rfl
  have hC2 : Tryz.prog.cellsOf 42 = 2 := by kernel_rfl
  rw [hC2] at hsz
  obtain ⟨m, hm⟩ := h
  obtain ⟨xs, k, rfl, _, hlen, hn, hel⟩ := DataW.trod_array Tryz.underlying42 hm
  have h0 := hel 0 (by omega)
  have h1 := hel 1 (by omega)
  rw [hC, List.getElem?_eq_getElem (by omega)] at h0 h1
  obtain ⟨l⟩ := cs
  simp only [Value.cells] at h0 h1
  have hl : l.length = 2 := by simpa using hsz
  match l, hl with
  | [v0, v1], _ =>
    simp at h0 h1
    obtain ⟨L, n, c, rfl, l, rfl, hL⟩ := slice_acts h0
    obtain ⟨M, n', e, rfl, m, rfl, hM⟩ := slice_acts h1
    exact ⟨L, c, l, M, e, m, rfl, hL, hM⟩
end
end Go.Proofs.YtlpecaldodganaaGreatDoor
