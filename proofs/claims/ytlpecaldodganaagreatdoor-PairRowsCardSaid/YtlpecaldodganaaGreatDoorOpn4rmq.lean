/- Arguments opened: rows of acts. -/
import Derived.Test.YtlpecaldodganaaGreatDoorOpnMq
namespace Go.Proofs.YtlpecaldodganaaGreatDoor
open Go.ChangeShapes Go.WideShapes Go.ChangeAt Go.RowKit Go.Deep MM
/-- An act, and where its list lies. -/
structure Al where
  r : AC.Ac
  A : Option Addr
  c : Nat
def Al.cells (x : Al) : Array Value := actC x.r x.A x.c
/-- A slice that reads as acts. -/
structure ActsIn (w : World) (A : Option Addr) (l : List Al) : Prop where
  rows : l = [] ∨ ∃ b off, A = some ⟨b, off, none⟩ ∧ b < w.heap.size ∧ ∀ i x, l[i]? = some x → ∀ j v, x.cells[j]? = some v → w.cell? ⟨b, off + i * 14 + j, none⟩ = some v
  all : ∀ x ∈ l, ActIn w x.r x.A x.c
  len : l.length ≤ maxLen
theorem open_acts {H : Type} {enc : TypeId × Value → H} {w : World} {held : Bool} {a : Option Addr} {len cap : Nat} {d : DataW H} {ps : List MemPlace} (h : DataW.Trod enc Tryz.prog w 0 (fun _ => true) held 31 (.slice a len cap) d ps) :
    ∃ l : List Al, l.length = len ∧ ActsIn w a l := by
  have hC : Tryz.prog.cellsOf 27 = 14 := by kernel_rfl
  have hlen : len ≤ maxLen := by
    obtain ⟨fuel, hf⟩ := h
    rcases open_slice Tryz.underlying31 hf with ⟨hcs, _⟩ | ⟨ad, len', cap', m', n', D, Pl, hcs, hb, hl, hm, hmm, hx, hi⟩
    · simp [Value.cells] at hcs; omega
    · simp [Value.cells] at hcs; omega
  obtain ⟨rows, hl, hr, hx⟩ := open_rows Tryz.underlying31 (by rw [hC]; omega) h
  rw [hC] at hr
  have hall : ∀ rows : List (List Value), (∀ r ∈ rows, ∃ n x, DataW.trod enc Tryz.prog w 0 (fun _ => true) held n 27 r = some x) → ∃ qs : List Al, rows = (qs.map fun q => q.cells.toList) ∧ ∀ q ∈ qs, ActIn w q.r q.A q.c := by
    intro rows
    induction rows with
    | nil => intro _; exact ⟨[], rfl, fun y hy => by cases hy⟩
    | cons r rows ih =>
      intro hx
      obtain ⟨xs, rfl, hxs⟩ := ih (fun r hr => hx r (List.mem_cons_of_mem _ hr))
      obtain ⟨n, x, hx0⟩ := hx r (List.mem_cons_self ..)
      obtain ⟨q, A, c, hq, rfl⟩ := act_row hx0
      refine ⟨⟨q, A, c⟩ :: xs, rfl, fun y hy => ?_⟩
      rcases List.mem_cons.1 hy with rfl | hy
      · exact hq
      · exact hxs y hy
  obtain ⟨qs, rfl, hqs⟩ := hall rows hx
  have hql : qs.length = len := by simpa using hl
  refine ⟨qs, hql, ?_, hqs, by omega⟩
  rcases hr with hr | ⟨b, off, rfl, hb, hcell⟩
  · exact .inl (by simpa using hr)
  · refine .inr ⟨b, off, rfl, hb, fun i q hq j v hv => ?_⟩
    exact hcell i q.cells.toList (by simp [hq]) j v (by simpa using hv)
end Go.Proofs.YtlpecaldodganaaGreatDoor
