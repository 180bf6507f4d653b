/- Arguments opened: rows of records, rows of deeds. -/
import Derived.Test.YtbkcmnmbcldjoaaGreatDoorSh4P7d
import Derived.Test.YtbkcmnmbcldjoaaGreatDoorShYP7d
namespace Go.Proofs.YtbkcmnmbcldjoaaGreatDoor
open Go.ChangeShapes Go.WideShapes Go.ChangeAt Go.RowKit Go.Deep MM
set_option maxRecDepth 100000 in
theorem deed_row {H : Type} {enc : TypeId × Value → H} {w : World} {held : Bool} {n : Nat} {r : List Value} {x : DataW H × List MemPlace} (h : DataW.trod enc Tryz.prog w 0 (fun _ => true) held n 39 r = some x) :
    ∃ q : Dl, (ActIn w q.a.r q.a.A q.a.c ∧ RC.I64 q.k) ∧ r = (ddC q).toList := by
  obtain ⟨xs, m, _, _, hlen, hxl, hf⟩ := DataW.trod_struct Tryz.underlying39 h
  have hC : Tryz.prog.cellsOf 39 = 15 := by kernel_rfl
  rw [hC] at hlen
  match r, hlen with
  | [u, v0, v1, v2, v3, v4, v5, v6, v7, v8, v9, v10, v11, v12, v13], _ =>
    match xs, hxl with
    | [y0, y1], _ =>
      have ci : Tryz.prog.cellsOf 3 = 1 := by kernel_rfl
      have ca : Tryz.prog.cellsOf 37 = 14 := by kernel_rfl
      have g0 : DataW.trod enc Tryz.prog w 0 (fun _ => true) held m 3 [u] = some y0 := by have h := hf 0 _ rfl; simpa [ci] using h
      have g1 : DataW.trod enc Tryz.prog w 0 (fun _ => true) held m 37 [v0, v1, v2, v3, v4, v5, v6, v7, v8, v9, v10, v11, v12, v13] = some y1 := by have h := hf 1 _ rfl; simpa [ca] using h
      obtain ⟨z0, e0, _, w0⟩ := DataW.trod_int Tryz.underlying3 g0
      obtain ⟨q, A, c, hq, e1⟩ := act_row g1
      simp at e0 e1
      obtain ⟨rfl, rfl, rfl, rfl, rfl, rfl, rfl, rfl, rfl, rfl, rfl, rfl, rfl, rfl⟩ := e1
      subst e0
      exact ⟨⟨z0, ⟨q, A, c⟩⟩, ⟨hq, w0⟩, rfl⟩
theorem open_deeds {H : Type} {enc : TypeId × Value → H} {w : World} {held : Bool} {a : Option Addr} {len cap : Nat} {d : DataW H} {ps : List MemPlace} (h : DataW.Trod enc Tryz.prog w 0 (fun _ => true) held 40 (.slice a len cap) d ps) :
    ∃ l : List Dl, l.length = len ∧ DeedsIn w a l := by
  have hC : Tryz.prog.cellsOf 39 = 15 := by kernel_rfl
  have hlen : len ≤ maxLen := by
    obtain ⟨fuel, hf⟩ := h
    rcases open_slice Tryz.underlying40 hf with ⟨hcs, _⟩ | ⟨ad, len', cap', m', n', D, Pl, hcs, hb, hl, hm, hmm, hx, hi⟩
    · simp [Value.cells] at hcs; omega
    · simp [Value.cells] at hcs; omega
  obtain ⟨rows, hl, hr, hx⟩ := open_rows Tryz.underlying40 (by rw [hC]; omega) h
  rw [hC] at hr
  have hall : ∀ rows : List (List Value), (∀ r ∈ rows, ∃ n x, DataW.trod enc Tryz.prog w 0 (fun _ => true) held n 39 r = some x) → ∃ qs : List Dl, rows = (qs.map fun q => (ddC q).toList) ∧ ∀ q ∈ qs, ActIn w q.a.r q.a.A q.a.c ∧ RC.I64 q.k := by
    intro rows
    induction rows with
    | nil => intro _; exact ⟨[], rfl, fun y hy => by cases hy⟩
    | cons r rows ih =>
      intro hx
      obtain ⟨xs, rfl, hxs⟩ := ih (fun r hr => hx r (List.mem_cons_of_mem _ hr))
      obtain ⟨n, x, hx0⟩ := hx r (List.mem_cons_self ..)
      obtain ⟨q, hq, rfl⟩ := deed_row hx0
      refine ⟨q :: xs, rfl, fun y hy => ?_⟩
      rcases List.mem_cons.1 hy with rfl | hy
      · exact hq
      · exact hxs y hy
  obtain ⟨qs, rfl, hqs⟩ := hall rows hx
  have hql : qs.length = len := by simpa using hl
  refine ⟨qs, hql, ?_, hqs, by omega⟩
  rcases hr with hr | ⟨b, off, rfl, hb, hcell⟩
  · exact .inl (by simpa using hr)
  · refine .inr ⟨b, off, rfl, hb, fun i q hq j v hv => ?_⟩
    exact hcell i (ddC q).toList (by simp [hq]) j v (by simpa using hv)
end Go.Proofs.YtbkcmnmbcldjoaaGreatDoor
