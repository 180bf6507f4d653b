/- Arguments opened: rows of records, rows of deeds. -/
import Derived.Test.YtbkcmnmbcldjoaaGreatDoorSh4P7b
import Derived.Test.YtbkcmnmbcldjoaaGreatDoorShYP7b
namespace Go.Proofs.YtbkcmnmbcldjoaaGreatDoor
open Go.ChangeShapes Go.WideShapes Go.ChangeAt Go.RowKit Go.Deep MM
theorem open_recs {H : Type} {enc : TypeId × Value → H} {w : World} {held : Bool} {a : Option Addr} {len cap : Nat} {d : DataW H} {ps : List MemPlace} (h : DataW.Trod enc Tryz.prog w 0 (fun _ => true) held 33 (.slice a len cap) d ps) :
    ∃ l : List Rl, l.length = len ∧ RecsIn w a l := by
  have hC : Tryz.prog.cellsOf 25 = 8 := by kernel_rfl
  have hlen : len ≤ maxLen := by
    obtain ⟨fuel, hf⟩ := h
    rcases open_slice Tryz.underlying33 hf with ⟨hcs, _⟩ | ⟨ad, len', cap', m', n', D, Pl, hcs, hb, hl, hm, hmm, hx, hi⟩
    · simp [Value.cells] at hcs; omega
    · simp [Value.cells] at hcs; omega
  obtain ⟨rows, hl, hr, hx⟩ := open_rows Tryz.underlying33 (by rw [hC]; omega) h
  rw [hC] at hr
  have hall : ∀ rows : List (List Value), (∀ r ∈ rows, ∃ n x, DataW.trod enc Tryz.prog w 0 (fun _ => true) held n 25 r = some x) → ∃ qs : List Rl, rows = (qs.map fun q => q.cells.toList) ∧ ∀ q ∈ qs, RecIn w q.r q.A q.c := by
    intro rows
    induction rows with
    | nil => intro _; exact ⟨[], rfl, fun y hy => by cases hy⟩
    | cons r rows ih =>
      intro hx
      obtain ⟨xs, rfl, hxs⟩ := ih (fun r hr => hx r (List.mem_cons_of_mem _ hr))
      obtain ⟨n, x, hx0⟩ := hx r (List.mem_cons_self ..)
      obtain ⟨q, A, c, hq, rfl⟩ := rec_row hx0
      refine ⟨⟨q, A, c⟩ :: xs, rfl, fun y hy => ?_⟩
      rcases List.mem_cons.1 hy with rfl | hy
      · exact hq
      · exact hxs y hy
  obtain ⟨qs, rfl, hqs⟩ := hall rows hx
  have hql : qs.length = len := by simpa using hl
  refine ⟨qs, hql, ?_, hqs, by omega⟩
  rcases hr with hr | ⟨b, off, rfl, hb, hcell⟩
  · exact .inl (by simpa using hr)
  · refine .inr ⟨b, off, rfl, hb, fun i q hq j v hv => ?_⟩
    exact hcell i q.cells.toList (by simp [hq]) j v (by simpa using hv)
end Go.Proofs.YtbkcmnmbcldjoaaGreatDoor
