/- Arguments opened: items, records, rows of records; the words that the program lays. -/
import Derived.Test.YtaaeefndhmfceaaDoorRows
import Derived.Test.YtaaeefndhmfceaaDoorRec10
import Derived.Test.YtaaeefndhmfceaaDoorPkO
import Derived.ProofKit
import Derived.OpenShut
import Derived.LaidMore
import Derived.Stop.Joined
import Derived.SevenTiedAt
import Derived.Carry
namespace Go.Proofs.YtaaeefndhmfceaaDoor
open Go.ChangeShapes Go.WideShapes Go.ChangeAt Go.RowKit Go.Deep MM

section
variable {H : Type} {enc : TypeId × Value → H} {w : World} {held : Bool}

set_option maxRecDepth 100000 in
theorem item_row {n : Nat} {r : List Value} {x : DataW H × List MemPlace} (h : DataW.trod enc Tryd.prog w 0 (fun _ => true) held n 49 r = some x) :
    ∃ q : RC.It, MF.W64 q.score ∧ q.name.size ≤ maxLen ∧ r = [.float .f64 q.score, .string q.name] := by
  obtain ⟨xs, m, _, _, hlen, hxl, hf⟩ := DataW.trod_struct Tryd.underlying49 h
  have hC : Tryd.prog.cellsOf 49 = 2 := by kernel_rfl
  rw [hC] at hlen
  match r, hlen with
  | [v0, v1], _ =>
    match xs, hxl with
    | [y0, y1], _ =>
      have g0 : DataW.trod enc Tryd.prog w 0 (fun _ => true) held m 22 [v0] = some y0 := by
        have hc : Tryd.prog.cellsOf 22 = 1 := by kernel_rfl
        have h := hf 0 _ rfl
        simpa [hc] using h
      have g1 : DataW.trod enc Tryd.prog w 0 (fun _ => true) held m 9 [v1] = some y1 := by
        have hc : Tryd.prog.cellsOf 9 = 1 := by kernel_rfl
        have h := hf 1 _ rfl
        simpa [hc] using h
      obtain ⟨z0, e0, w0⟩ := trod_flo Tryd.underlying22 g0
      obtain ⟨z1, e1, _, w1⟩ := DataW.trod_string Tryd.underlying9 g1
      simp at e0 e1
      subst e0 e1
      simp only [Lit.wf, decide_eq_true_eq] at w0
      exact ⟨⟨z0, z1⟩, w0, w1, rfl⟩

set_option maxRecDepth 100000 in
theorem open_item {r : Reach} {b0 : Nat} {v : Value} {d : DataW H} {ps : List MemPlace} (hv : Value.okWide Tryd.prog w r b0 49 v) (h : DataW.Trod enc Tryd.prog w 0 (fun _ => true) held 49 v d ps) :
    ∃ q : RC.It, v = itV q ∧ MF.W64 q.score ∧ q.name.size ≤ maxLen := by
  obtain ⟨cs, rfl, hsz⟩ := okWide_struct Tryd.underlying49 hv
  obtain ⟨m, hm⟩ := h
  obtain ⟨q, h1, h2, h3⟩ := item_row hm
  refine ⟨q, ?_, h1, h2⟩
  obtain ⟨l⟩ := cs
  have h3 : l = [.float .f64 q.score, .string q.name] := by simpa [Value.cells] using h3
  rw [h3]

theorem open_its {a : Option Addr} {len cap : Nat} {d : DataW H} {ps : List MemPlace} (h : DataW.Trod enc Tryd.prog w 0 (fun _ => true) held 23 (.slice a len cap) d ps) :
    ∃ qs : List RC.It, qs.length = len ∧ (∀ q ∈ qs, MF.W64 q.score) ∧ (∀ q ∈ qs, q.name.size ≤ maxLen) ∧ Its w a qs := by
  have hC : Tryd.prog.cellsOf 49 = 2 := by kernel_rfl
  obtain ⟨rows, hl, hr, hx⟩ := open_rows Tryd.underlying23 (by rw [hC]; omega) h
  rw [hC] at hr
  have hall : ∀ rows : List (List Value), (∀ r ∈ rows, ∃ n x, DataW.trod enc Tryd.prog w 0 (fun _ => true) held n 49 r = some x) → ∃ qs : List RC.It, rows = (qs.map fun q => [.float .f64 q.score, .string q.name]) ∧ (∀ q ∈ qs, MF.W64 q.score) ∧ ∀ q ∈ qs, q.name.size ≤ maxLen := by
    intro rows
    induction rows with
    | nil => intro _; exact ⟨[], rfl, (fun y hy => by cases hy), (fun y hy => by cases hy)⟩
    | cons r rows ih =>
      intro hx
      obtain ⟨xs, rfl, hxs, hys⟩ := ih (fun r hr => hx r (List.mem_cons_of_mem _ hr))
      obtain ⟨n, x, hx0⟩ := hx r (List.mem_cons_self ..)
      obtain ⟨q, hq, hs, rfl⟩ := item_row hx0
      refine ⟨q :: xs, rfl, fun y hy => ?_, fun y hy => ?_⟩
      · rcases List.mem_cons.1 hy with rfl | hy
        · exact hq
        · exact hxs y hy
      · rcases List.mem_cons.1 hy with rfl | hy
        · exact hs
        · exact hys y hy
  obtain ⟨qs, rfl, hqs, hns⟩ := hall rows hx
  refine ⟨qs, by simpa using hl, hqs, hns, ?_⟩
  rcases hr with hr | ⟨b, off, rfl, hb, hcell⟩
  · exact .inl (by simpa using hr)
  · refine .inr ⟨b, off, rfl, hb, fun i q hq => ⟨?_, ?_⟩⟩
    · exact hcell i [.float .f64 q.score, .string q.name] (by simp [hq]) 0 _ rfl
    · exact hcell i [.float .f64 q.score, .string q.name] (by simp [hq]) 1 _ rfl

/-- What a record that comes in is. -/
structure RecIn (w : World) (r : RC.Rc) (A : Option Addr) (c : Nat) : Prop where
  ok : r.ok
  its : Its w A r.list
  len : r.list.length ≤ maxLen
  text : r.text.size ≤ maxLen
  names : ∀ x ∈ r.list, x.name.size ≤ maxLen

set_option maxRecDepth 100000 in
theorem rec_row {n : Nat} {r : List Value} {x : DataW H × List MemPlace} (h : DataW.trod enc Tryd.prog w 0 (fun _ => true) held n 25 r = some x) :
    ∃ (q : RC.Rc) (A : Option Addr) (c : Nat), RecIn w q A c ∧ r = (recC q.kind q.num q.low q.high q.real q.cap q.text (.slice A q.list.length c)).toList := by
  obtain ⟨xs, m, _, _, hlen, hxl, hf⟩ := DataW.trod_struct Tryd.underlying25 h
  have hC : Tryd.prog.cellsOf 25 = 8 := by kernel_rfl
  rw [hC] at hlen
  match r, hlen with
  | [v0, v1, v2, v3, v4, v5, v6, v7], _ =>
    match xs, hxl with
    | [y0, y1, y2, y3, y4, y5, y6, y7], _ =>
      have ci : Tryd.prog.cellsOf 3 = 1 := by kernel_rfl
      have cl : Tryd.prog.cellsOf 2 = 1 := by kernel_rfl
      have cf : Tryd.prog.cellsOf 22 = 1 := by kernel_rfl
      have cs : Tryd.prog.cellsOf 9 = 1 := by kernel_rfl
      have cz : Tryd.prog.cellsOf 23 = 1 := by kernel_rfl
      have g0 : DataW.trod enc Tryd.prog w 0 (fun _ => true) held m 3 [v0] = some y0 := by have h := hf 0 _ rfl; simpa [ci] using h
      have g1 : DataW.trod enc Tryd.prog w 0 (fun _ => true) held m 2 [v1] = some y1 := by have h := hf 1 _ rfl; simpa [cl] using h
      have g2 : DataW.trod enc Tryd.prog w 0 (fun _ => true) held m 2 [v2] = some y2 := by have h := hf 2 _ rfl; simpa [cl] using h
      have g3 : DataW.trod enc Tryd.prog w 0 (fun _ => true) held m 2 [v3] = some y3 := by have h := hf 3 _ rfl; simpa [cl] using h
      have g4 : DataW.trod enc Tryd.prog w 0 (fun _ => true) held m 22 [v4] = some y4 := by have h := hf 4 _ rfl; simpa [cf] using h
      have g5 : DataW.trod enc Tryd.prog w 0 (fun _ => true) held m 3 [v5] = some y5 := by have h := hf 5 _ rfl; simpa [ci] using h
      have g6 : DataW.trod enc Tryd.prog w 0 (fun _ => true) held m 9 [v6] = some y6 := by have h := hf 6 _ rfl; simpa [cs] using h
      have g7 : DataW.trod enc Tryd.prog w 0 (fun _ => true) held m 23 [v7] = some y7 := by have h := hf 7 _ rfl; simpa [cz] using h
      obtain ⟨z0, e0, _, w0⟩ := DataW.trod_int Tryd.underlying3 g0
      obtain ⟨z1, e1, _, w1⟩ := DataW.trod_int Tryd.underlying2 g1
      obtain ⟨z2, e2, _, w2⟩ := DataW.trod_int Tryd.underlying2 g2
      obtain ⟨z3, e3, _, w3⟩ := DataW.trod_int Tryd.underlying2 g3
      obtain ⟨z4, e4, w4⟩ := trod_flo Tryd.underlying22 g4
      obtain ⟨z5, e5, _, w5⟩ := DataW.trod_int Tryd.underlying3 g5
      obtain ⟨z6, e6, _, w6⟩ := DataW.trod_string Tryd.underlying9 g6
      simp at e0 e1 e2 e3 e4 e5 e6
      subst e0 e1 e2 e3 e4 e5 e6
      simp only [Lit.wf, decide_eq_true_eq] at w4
      obtain ⟨A, len, c, rfl, hlen⟩ : ∃ A len c, v7 = .slice A len c ∧ len ≤ maxLen := by
        rcases open_slice Tryd.underlying23 g7 with ⟨hcs, _⟩ | ⟨ad, len', cap', m', n', D, Pl, hcs, hb, hl, hm, hmm, hx, hi⟩
        · exact ⟨none, 0, 0, by simpa using hcs, Nat.zero_le _⟩
        · exact ⟨some ad, len', cap', by simpa using hcs, Nat.le_trans hl hm⟩
      obtain ⟨qs, rfl, hqs, hns, hI⟩ := open_its (d := y7.1) (ps := y7.2) (show DataW.Trod enc Tryd.prog w 0 (fun _ => true) held 23 (.slice A len c) y7.1 y7.2 from ⟨m, g7⟩)
      exact ⟨⟨z0, z1, z2, z3, z4, z5, z6, qs⟩, A, c, ⟨⟨w0, w1, w2, w3, w4, w5, hqs⟩, hI, hlen, w6, hns⟩, rfl⟩

set_option maxRecDepth 100000 in
theorem open_rec {r : Reach} {b0 : Nat} {v : Value} {d : DataW H} {ps : List MemPlace} (hv : Value.okWide Tryd.prog w r b0 25 v) (h : DataW.Trod enc Tryd.prog w 0 (fun _ => true) held 25 v d ps) :
    ∃ (q : RC.Rc) (A : Option Addr) (c : Nat), v = recV q A c ∧ RecIn w q A c := by
  obtain ⟨cs, rfl, hsz⟩ := okWide_struct Tryd.underlying25 hv
  obtain ⟨m, hm⟩ := h
  obtain ⟨q, A, c, h1, h3⟩ := rec_row hm
  refine ⟨q, A, c, ?_, h1⟩
  obtain ⟨l⟩ := cs
  have h3 : l = (recC q.kind q.num q.low q.high q.real q.cap q.text (.slice A q.list.length c)).toList := by simpa [Value.cells] using h3
  rw [h3]
end

end Go.Proofs.YtaaeefndhmfceaaDoor
