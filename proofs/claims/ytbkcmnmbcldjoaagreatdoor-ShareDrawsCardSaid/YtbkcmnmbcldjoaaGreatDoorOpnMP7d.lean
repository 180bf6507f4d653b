/- Arguments opened: items, records, rows of records; the words that the program lays. -/
import Derived.Test.YtbkcmnmbcldjoaaGreatDoorRecNP7d
import Derived.Test.YtbkcmnmbcldjoaaGreatDoorPkVP7d
import Derived.Test.YtbkcmnmbcldjoaaGreatDoorActMP7d
import Derived.Test.YtbkcmnmbcldjoaaGreatDoorRows
import Derived.ProofKit
import Derived.OpenShut
import Derived.LaidMore
import Derived.Stop.Joined
import Derived.SevenTiedAt
import Derived.Carry
namespace Go.Proofs.YtbkcmnmbcldjoaaGreatDoor
open Go.ChangeShapes Go.WideShapes Go.ChangeAt Go.RowKit Go.Deep MM
section
variable {H : Type} {enc : TypeId × Value → H} {w : World} {held : Bool}
set_option maxRecDepth 100000 in
theorem item_row {n : Nat} {r : List Value} {x : DataW H × List MemPlace} (h : DataW.trod enc Tryz.prog w 0 (fun _ => true) held n 91 r = some x) :
    ∃ q : RC.It, MF.W64 q.score ∧ q.name.size ≤ maxLen ∧ r = [.float .f64 q.score, .string q.name] := by
  obtain ⟨xs, m, _, _, hlen, hxl, hf⟩ := DataW.trod_struct Tryz.underlying91 h
  have hC : Tryz.prog.cellsOf 91 = 2 := by kernel_rfl
  rw [hC] at hlen
  match r, hlen with
  | [v0, v1], _ =>
    match xs, hxl with
    | [y0, y1], _ =>
      have g0 : DataW.trod enc Tryz.prog w 0 (fun _ => true) held m 22 [v0] = some y0 := by
        have hc : Tryz.prog.cellsOf 22 = 1 := by kernel_rfl
        have h := hf 0 _ rfl
        simpa [hc] using h
      have g1 : DataW.trod enc Tryz.prog w 0 (fun _ => true) held m 9 [v1] = some y1 := by
        have hc : Tryz.prog.cellsOf 9 = 1 := by kernel_rfl
        have h := hf 1 _ rfl
        simpa [hc] using h
      obtain ⟨z0, e0, w0⟩ := trod_flo Tryz.underlying22 g0
      obtain ⟨z1, e1, _, w1⟩ := DataW.trod_string Tryz.underlying9 g1
      simp at e0 e1
      subst e0 e1
      simp only [Lit.wf, decide_eq_true_eq] at w0
      exact ⟨⟨z0, z1⟩, w0, w1, rfl⟩
theorem open_its {a : Option Addr} {len cap : Nat} {d : DataW H} {ps : List MemPlace} (h : DataW.Trod enc Tryz.prog w 0 (fun _ => true) held 23 (.slice a len cap) d ps) :
    ∃ qs : List RC.It, qs.length = len ∧ (∀ q ∈ qs, MF.W64 q.score) ∧ (∀ q ∈ qs, q.name.size ≤ maxLen) ∧ Its w a qs := by
  have hC : Tryz.prog.cellsOf 91 = 2 := by kernel_rfl
  obtain ⟨rows, hl, hr, hx⟩ := open_rows Tryz.underlying23 (by rw [hC]; omega) h
  rw [hC] at hr
  have hall : ∀ rows : List (List Value), (∀ r ∈ rows, ∃ n x, DataW.trod enc Tryz.prog w 0 (fun _ => true) held n 91 r = some x) → ∃ qs : List RC.It, rows = (qs.map fun q => [.float .f64 q.score, .string q.name]) ∧ (∀ q ∈ qs, MF.W64 q.score) ∧ ∀ q ∈ qs, q.name.size ≤ maxLen := by
    intro rows
    induction rows with
    | nil => intro _; exact ⟨[], rfl, (fun y hy => by cases hy), (fun y hy => by cases hy)⟩
    | cons r rows ih =>
      intro hx
      obtain ⟨xs, rfl, hxs, hys⟩ := ih (fun r hr => hx r (List.mem_cons_of_mem _ hr))
      obtain ⟨n, x, hx0⟩ := hx r (List.mem_cons_self ..)
      obtain ⟨q, hq, hs, rfl⟩ := item_row hx0
      refine ⟨q :: xs, rfl, fun y hy => ?_, fun y hy => ?_⟩
      · rcases List.mem_cons.1 hy with rfl | hy
        · exact hq
        · exact hxs y hy
      · rcases List.mem_cons.1 hy with rfl | hy
        · exact hs
        · exact hys y hy
  obtain ⟨qs, rfl, hqs, hns⟩ := hall rows hx
  refine ⟨qs, by simpa using hl, hqs, hns, ?_⟩
  rcases hr with hr | ⟨b, off, rfl, hb, hcell⟩
  · exact .inl (by simpa using hr)
  · refine .inr ⟨b, off, rfl, hb, fun i q hq => ⟨?_, ?_⟩⟩
    · exact hcell i [.float .f64 q.score, .string q.name] (by simp [hq]) 0 _ rfl
    · exact hcell i [.float .f64 q.score, .string q.name] (by simp [hq]) 1 _ rfl
/-- What a record that comes in is. -/
structure RecIn (w : World) (r : RC.Rc) (A : Option Addr) (c : Nat) : Prop where
  ok : r.ok
  its : Its w A r.list
  len : r.list.length ≤ maxLen
  text : r.text.size ≤ maxLen
  names : ∀ x ∈ r.list, x.name.size ≤ maxLen
set_option maxRecDepth 100000 in
theorem rec_row {n : Nat} {r : List Value} {x : DataW H × List MemPlace} (h : DataW.trod enc Tryz.prog w 0 (fun _ => true) held n 25 r = some x) :
    ∃ (q : RC.Rc) (A : Option Addr) (c : Nat), RecIn w q A c ∧ r = (recC q.kind q.num q.low q.high q.real q.cap q.text (.slice A q.list.length c)).toList := by
  obtain ⟨xs, m, _, _, hlen, hxl, hf⟩ := DataW.trod_struct Tryz.underlying25 h
  have hC : Tryz.prog.cellsOf 25 = 8 := by kernel_rfl
  rw [hC] at hlen
  match r, hlen with
  | [v0, v1, v2, v3, v4, v5, v6, v7], _ =>
    match xs, hxl with
    | [y0, y1, y2, y3, y4, y5, y6, y7], _ =>
      have ci : Tryz.prog.cellsOf 3 = 1 := by kernel_rfl
      have cl : Tryz.prog.cellsOf 2 = 1 := by kernel_rfl
      have cf : Tryz.prog.cellsOf 22 = 1 := by kernel_rfl
      have cs : Tryz.prog.cellsOf 9 = 1 := by kernel_rfl
      have cz : Tryz.prog.cellsOf 23 = 1 := by kernel_rfl
      have g0 : DataW.trod enc Tryz.prog w 0 (fun _ => true) held m 3 [v0] = some y0 := by have h := hf 0 _ rfl; simpa [ci] using h
      have g1 : DataW.trod enc Tryz.prog w 0 (fun _ => true) held m 2 [v1] = some y1 := by have h := hf 1 _ rfl; simpa [cl] using h
      have g2 : DataW.trod enc Tryz.prog w 0 (fun _ => true) held m 2 [v2] = some y2 := by have h := hf 2 _ rfl; simpa [cl] using h
      have g3 : DataW.trod enc Tryz.prog w 0 (fun _ => true) held m 2 [v3] = some y3 := by have h := hf 3 _ rfl; simpa [cl] using h
      have g4 : DataW.trod enc Tryz.prog w 0 (fun _ => true) held m 22 [v4] = some y4 := by have h := hf 4 _ rfl; simpa [cf] using h
      have g5 : DataW.trod enc Tryz.prog w 0 (fun _ => true) held m 3 [v5] = some y5 := by have h := hf 5 _ rfl; simpa [ci] using h
      have g6 : DataW.trod enc Tryz.prog w 0 (fun _ => true) held m 9 [v6] = some y6 := by have h := hf 6 _ rfl; simpa [cs] using h
      have g7 : DataW.trod enc Tryz.prog w 0 (fun _ => true) held m 23 [v7] = some y7 := by have h := hf 7 _ rfl; simpa [cz] using h
      obtain ⟨z0, e0, _, w0⟩ := DataW.trod_int Tryz.underlying3 g0
      obtain ⟨z1, e1, _, w1⟩ := DataW.trod_int Tryz.underlying2 g1
      obtain ⟨z2, e2, _, w2⟩ := DataW.trod_int Tryz.underlying2 g2
      obtain ⟨z3, e3, _, w3⟩ := DataW.trod_int Tryz.underlying2 g3
      obtain ⟨z4, e4, w4⟩ := trod_flo Tryz.underlying22 g4
      obtain ⟨z5, e5, _, w5⟩ := DataW.trod_int Tryz.underlying3 g5
      obtain ⟨z6, e6, _, w6⟩ := DataW.trod_string Tryz.underlying9 g6
      simp at e0 e1 e2 e3 e4 e5 e6
      subst e0 e1 e2 e3 e4 e5 e6
      simp only [Lit.wf, decide_eq_true_eq] at w4
      obtain ⟨A, len, c, rfl, hlen⟩ : ∃ A len c, v7 = .slice A len c ∧ len ≤ maxLen := by
        rcases open_slice Tryz.underlying23 g7 with ⟨hcs, _⟩ | ⟨ad, len', cap', m', n', D, Pl, hcs, hb, hl, hm, hmm, hx, hi⟩
        · exact ⟨none, 0, 0, by simpa using hcs, Nat.zero_le _⟩
        · exact ⟨some ad, len', cap', by simpa using hcs, Nat.le_trans hl hm⟩
      obtain ⟨qs, rfl, hqs, hns, hI⟩ := open_its (d := y7.1) (ps := y7.2) (show DataW.Trod enc Tryz.prog w 0 (fun _ => true) held 23 (.slice A len c) y7.1 y7.2 from ⟨m, g7⟩)
      exact ⟨⟨z0, z1, z2, z3, z4, z5, z6, qs⟩, A, c, ⟨⟨w0, w1, w2, w3, w4, w5, hqs⟩, hI, hlen, w6, hns⟩, rfl⟩
set_option maxRecDepth 100000 in
theorem open_rec {r : Reach} {b0 : Nat} {v : Value} {d : DataW H} {ps : List MemPlace} (hv : Value.okWide Tryz.prog w r b0 25 v) (h : DataW.Trod enc Tryz.prog w 0 (fun _ => true) held 25 v d ps) :
    ∃ (q : RC.Rc) (A : Option Addr) (c : Nat), v = recV q A c ∧ RecIn w q A c := by
  obtain ⟨cs, rfl, hsz⟩ := okWide_struct Tryz.underlying25 hv
  obtain ⟨m, hm⟩ := h
  obtain ⟨q, A, c, h1, h3⟩ := rec_row hm
  refine ⟨q, A, c, ?_, h1⟩
  obtain ⟨l⟩ := cs
  have h3 : l = (recC q.kind q.num q.low q.high q.real q.cap q.text (.slice A q.list.length c)).toList := by simpa [Value.cells] using h3
  rw [h3]
end
end Go.Proofs.YtbkcmnmbcldjoaaGreatDoor
namespace Go.Proofs.YtbkcmnmbcldjoaaGreatDoor
open Go.ChangeShapes Go.WideShapes Go.ChangeAt Go.RowKit Go.Deep MM
section
variable {H : Type} {enc : TypeId × Value → H} {w : World} {held : Bool}
/-- What an act that comes in is. -/
structure ActIn (w : World) (a : AC.Ac) (A : Option Addr) (c : Nat) : Prop where
  ok : a.ok
  make : RecIn w a.make A c
  key : a.key.size ≤ maxLen
  s : a.s.size ≤ maxLen
set_option maxRecDepth 100000 in
theorem act_row {n : Nat} {r : List Value} {x : DataW H × List MemPlace} (h : DataW.trod enc Tryz.prog w 0 (fun _ => true) held n 37 r = some x) :
    ∃ (q : AC.Ac) (A : Option Addr) (c : Nat), ActIn w q A c ∧ r = (actC q A c).toList := by
  obtain ⟨xs, m, _, _, hlen, hxl, hf⟩ := DataW.trod_struct Tryz.underlying37 h
  have hC : Tryz.prog.cellsOf 37 = 14 := by kernel_rfl
  rw [hC] at hlen
  match r, hlen with
  | [v0, v1, v2, v3, v4, v5, v6, v7, v8, v9, v10, v11, v12, v13], _ =>
    match xs, hxl with
    | [y0, y1, y2, y3, y4, y5, y6], _ =>
      have ci : Tryz.prog.cellsOf 3 = 1 := by kernel_rfl
      have cl : Tryz.prog.cellsOf 2 = 1 := by kernel_rfl
      have cf : Tryz.prog.cellsOf 22 = 1 := by kernel_rfl
      have cs : Tryz.prog.cellsOf 9 = 1 := by kernel_rfl
      have cb : Tryz.prog.cellsOf 4 = 1 := by kernel_rfl
      have cr : Tryz.prog.cellsOf 25 = 8 := by kernel_rfl
      have g0 : DataW.trod enc Tryz.prog w 0 (fun _ => true) held m 3 [v0] = some y0 := by have h := hf 0 _ rfl; simpa [ci] using h
      have g1 : DataW.trod enc Tryz.prog w 0 (fun _ => true) held m 9 [v1] = some y1 := by have h := hf 1 _ rfl; simpa [cs] using h
      have g2 : DataW.trod enc Tryz.prog w 0 (fun _ => true) held m 2 [v2] = some y2 := by have h := hf 2 _ rfl; simpa [cl] using h
      have g3 : DataW.trod enc Tryz.prog w 0 (fun _ => true) held m 22 [v3] = some y3 := by have h := hf 3 _ rfl; simpa [cf] using h
      have g4 : DataW.trod enc Tryz.prog w 0 (fun _ => true) held m 9 [v4] = some y4 := by have h := hf 4 _ rfl; simpa [cs] using h
      have g5 : DataW.trod enc Tryz.prog w 0 (fun _ => true) held m 25 [v5, v6, v7, v8, v9, v10, v11, v12] = some y5 := by have h := hf 5 _ rfl; simpa [cr] using h
      have g6 : DataW.trod enc Tryz.prog w 0 (fun _ => true) held m 4 [v13] = some y6 := by have h := hf 6 _ rfl; simpa [cb] using h
      obtain ⟨z0, e0, _, w0⟩ := DataW.trod_int Tryz.underlying3 g0
      obtain ⟨z1, e1, _, w1⟩ := DataW.trod_string Tryz.underlying9 g1
      obtain ⟨z2, e2, _, w2⟩ := DataW.trod_int Tryz.underlying2 g2
      obtain ⟨z3, e3, w3⟩ := trod_flo Tryz.underlying22 g3
      obtain ⟨z4, e4, _, w4⟩ := DataW.trod_string Tryz.underlying9 g4
      obtain ⟨q, A, c, hq, e5⟩ := rec_row g5
      obtain ⟨z6, e6, _⟩ := DataW.trod_bool Tryz.underlying4 g6
      simp at e0 e1 e2 e3 e4 e5 e6
      obtain ⟨rfl, rfl, rfl, rfl, rfl, rfl, rfl, rfl⟩ := e5
      subst e0 e1 e2 e3 e4 e6
      simp only [Lit.wf, decide_eq_true_eq] at w3
      exact ⟨⟨z0, z1, z2, z3, z4, q, z6⟩, A, c, ⟨⟨w0, w2, w3, hq.ok⟩, hq, w1, w4⟩, rfl⟩
end
theorem gRows : Tryz.prog.globalNamed "moiety/act.rows" = some 1 := by kernel_rfl
theorem tRows : (Tryz.prog.globals[1]?).map (·.type) = some 147 := by kernel_rfl
def rowD {H : Type} (r : Row) : DataW H := .agg [.lit (.string r.name.data.toList), .lit (.int .i64 r.on), .lit (.string r.flds.data.toList), .lit (.int .i64 r.most), .lit (.bool r.reads)]
theorem rowD_inj {H : Type} {a b : Row} (h : (rowD a : DataW H) = rowD b) : a = b := by
  obtain ⟨⟨⟨n1⟩⟩, o1, ⟨⟨f1⟩⟩, m1, r1⟩ := a
  obtain ⟨⟨⟨n2⟩⟩, o2, ⟨⟨f2⟩⟩, m2, r2⟩ := b
  simp only [rowD, DataW.agg.injEq, List.cons.injEq, DataW.lit.injEq, Lit.string.injEq, Lit.int.injEq, Lit.bool.injEq, true_and, and_true] at h
  obtain ⟨h1, h2, h3, h4, h5⟩ := h
  subst h1 h2 h3 h4 h5
  rfl
set_option maxRecDepth 100000 in
theorem row_cells {H : Type} {enc : TypeId × Value → H} {w : World} {spare : Nat → Bool} {held : Bool} {n : Nat} {r : List Value} {x : DataW H × List MemPlace} (h : DataW.trod enc Tryz.prog w 0 spare held n 125 r = some x) :
    ∃ q : Row, r = (rowC q).toList ∧ x.1 = rowD q := by
  obtain ⟨xs, m, _, rfl, hlen, hxl, hf⟩ := DataW.trod_struct Tryz.underlying125 h
  have hC : Tryz.prog.cellsOf 125 = 5 := by kernel_rfl
  rw [hC] at hlen
  match r, hlen with
  | [v0, v1, v2, v3, v4], _ =>
    match xs, hxl with
    | [y0, y1, y2, y3, y4], _ =>
      have ci : Tryz.prog.cellsOf 3 = 1 := by kernel_rfl
      have cs : Tryz.prog.cellsOf 9 = 1 := by kernel_rfl
      have cb : Tryz.prog.cellsOf 4 = 1 := by kernel_rfl
      have g0 : DataW.trod enc Tryz.prog w 0 spare held m 9 [v0] = some y0 := by have h := hf 0 _ rfl; simpa [cs] using h
      have g1 : DataW.trod enc Tryz.prog w 0 spare held m 3 [v1] = some y1 := by have h := hf 1 _ rfl; simpa [ci] using h
      have g2 : DataW.trod enc Tryz.prog w 0 spare held m 9 [v2] = some y2 := by have h := hf 2 _ rfl; simpa [cs] using h
      have g3 : DataW.trod enc Tryz.prog w 0 spare held m 3 [v3] = some y3 := by have h := hf 3 _ rfl; simpa [ci] using h
      have g4 : DataW.trod enc Tryz.prog w 0 spare held m 4 [v4] = some y4 := by have h := hf 4 _ rfl; simpa [cb] using h
      obtain ⟨z0, e0, d0, _⟩ := DataW.trod_string Tryz.underlying9 g0
      obtain ⟨z1, e1, d1, _⟩ := DataW.trod_int Tryz.underlying3 g1
      obtain ⟨z2, e2, d2, _⟩ := DataW.trod_string Tryz.underlying9 g2
      obtain ⟨z3, e3, d3, _⟩ := DataW.trod_int Tryz.underlying3 g3
      obtain ⟨z4, e4, d4⟩ := DataW.trod_bool Tryz.underlying4 g4
      simp at e0 e1 e2 e3 e4
      subst e0 e1 e2 e3 e4
      refine ⟨⟨z0, z1, z2, z3, z4⟩, rfl, ?_⟩
      simp [d0, d1, d2, d3, d4, rowD]
set_option maxRecDepth 100000 in
theorem rows_of_datum {H : Type} {W : World} {fuel : Nat} {cs : Array Value} {enc : TypeId × Value → H} {spare : Nat → Bool} {held : Bool} {p : List MemPlace} (hd : DataW.trod enc Tryz.prog W 0 spare held fuel 147 cs.toList = some (Rows.laid_moiety_act_rows, p)) :
    ∀ (i : Nat) (r : Row), rowsT[i]? = some r → ∀ j v, (rowC r)[j]? = some v → cs[i * 5 + j]? = some v := by
  obtain ⟨xs, m, rfl, hx, hlen, hn, hel⟩ := DataW.trod_array Tryz.underlying147 hd
  have c1 : Tryz.prog.cellsOf 125 = 5 := by kernel_rfl
  simp only [Prod.mk.injEq, c1] at hx hel
  intro i r hr j v hv
  have hi : i < 22 := (Array.getElem?_eq_some_iff.1 hr).1
  have hj : j < 5 := (Array.getElem?_eq_some_iff.1 hv).1
  have hxi : xs[i]? = some xs[i] := List.getElem?_eq_getElem (by omega)
  have h := hel i hi
  rw [hxi] at h
  obtain ⟨q, e1, e2⟩ := row_cells h
  have hdat : (xs.map (·.1))[i]? = some (rowD q) := by rw [List.getElem?_map, hxi, ← e2]; rfl
  have hx1 : xs.map (·.1) = rowsT.toList.map rowD := by
    have := hx.1
    simp only [Rows.laid_moiety_act_rows, DataW.agg.injEq] at this
    rw [← this]; rfl
  rw [hx1, List.getElem?_map, show rowsT.toList[i]? = some r by simpa using hr] at hdat
  obtain rfl : r = q := rowD_inj (by simpa using hdat)
  obtain ⟨l⟩ := cs
  have h5 := congrArg (fun l => l[j]?) e1
  simp only [List.getElem?_take, List.getElem?_drop, if_pos hj] at h5
  simp only [List.getElem?_toArray]
  rw [h5]
  simpa using hv
abbrev laidRows {H : Type} : List (String × DataW H) := [("moiety/act.rows", Rows.laid_moiety_act_rows)]
theorem rows_of_laid {W : World} (h : laidMetH Tryz.prog laidRows W) : RowsAt W := by
  rw [MakeChecks.laidMetH_plain _ _ _ (by kernel_rfl)] at h
  obtain ⟨ps, ⟨g, t, cs, fuel, p, q, hg, ht, hv, hd, _, _⟩, _, _⟩ := h
  obtain rfl := Option.some.inj (gRows.symm.trans hg)
  obtain rfl := Option.some.inj (tRows.symm.trans ht)
  intro i r hr j v hv2
  exact (World.var?_cell hg hv (i * 5 + j)).trans (rows_of_datum hd i r hr j v hv2)
theorem rows_met (os : Os) (args : Array Value) : laidMetH Tryz.prog laidRows ((World.doorLaid Tryz.prog 400 os).forCall (fun _ _ => 0) ⟨#[], args, []⟩).memory :=
  laidMetH_of_parts3 (fuel := 8) (laidMet_of_run' 8 (by kernel_rfl) (by kernel_rfl)) (by kernel_rfl) (by kernel_rfl)
end Go.Proofs.YtbkcmnmbcldjoaaGreatDoor
