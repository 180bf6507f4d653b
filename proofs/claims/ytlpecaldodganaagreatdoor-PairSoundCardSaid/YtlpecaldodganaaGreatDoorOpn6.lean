/- Arguments opened: arrays of two acts, of two numbers, of two rows of acts. -/
import Derived.Test.YtlpecaldodganaaGreatDoorOpn4rm
import Derived.Test.YtlpecaldodganaaGreatDoorSpF
namespace Go.Proofs.YtlpecaldodganaaGreatDoor
open Go.ChangeShapes Go.WideShapes Go.ChangeAt Go.RowKit Go.Deep MM
set_option linter.unusedVariables false
set_option linter.unusedSimpArgs false

theorem okWide_array6 {P : Program} {w : World} {r : Reach} {base : Nat} {t e : TypeId} {n : Nat} {v : Value} (ht : P.underlying t = some (.array n e)) (h : Value.okWide P w r base t v) : ∃ cs, v = .agg cs ∧ cs.size = P.cellsOf t := by
  simp only [Value.okWide, ht] at h
  obtain ⟨cs, h1, h2, _⟩ := h
  exact ⟨cs, h1, h2⟩

section
variable {H : Type} {enc : TypeId × Value → H} {w : World} {held : Bool}

set_option maxRecDepth 100000 in
theorem open_acts2 {r : Reach} {b0 : Nat} {v : Value} {d : DataW H} {ps : List MemPlace} (hv : Value.okWide Tryz.prog w r b0 28 v) (h : DataW.Trod enc Tryz.prog w 0 (fun _ => true) held 28 v d ps) :
    ∃ (a : AC.Ac) (A : Option Addr) (c : Nat) (b : AC.Ac) (B : Option Addr) (e : Nat), v = .agg (actC2 a A c b B e) ∧ ActIn w a A c ∧ ActIn w b B e := by
  obtain ⟨cs, rfl, hsz⟩ := okWide_array6 Tryz.underlying28 hv
  have hC : Tryz.prog.cellsOf 27 = 14 := by kernel_rfl
  have hC2 : Tryz.prog.cellsOf 28 = 28 := by kernel_rfl
  rw [hC2] at hsz
  obtain ⟨m, hm⟩ := h
  obtain ⟨xs, k, rfl, _, hlen, hn, hel⟩ := DataW.trod_array Tryz.underlying28 hm
  have h0 := hel 0 (by omega)
  have h1 := hel 1 (by omega)
  rw [hC, List.getElem?_eq_getElem (by omega)] at h0 h1
  obtain ⟨a, A, c, ha, e0⟩ := act_row h0
  obtain ⟨b, B, e, hb, e1⟩ := act_row h1
  refine ⟨a, A, c, b, B, e, ?_, ha, hb⟩
  obtain ⟨l⟩ := cs
  have e0 : (l.drop (0 * 14)).take 14 = (actC a A c).toList := e0
  have e1 : (l.drop (1 * 14)).take 14 = (actC b B e).toList := e1
  have hl : l.length = 28 := by simpa using hsz
  have e2 : l = (actC a A c).toList ++ (actC b B e).toList := by
    rw [← e0, ← e1]
    rw [Nat.zero_mul, List.drop_zero, Nat.one_mul]
    have h3 : (l.drop 14).take 14 = l.drop 14 := List.take_of_length_le (by simp; omega)
    rw [h3, List.take_append_drop]
  rw [e2]
  rfl

set_option maxRecDepth 100000 in
theorem open_ints2 {r : Reach} {b0 : Nat} {v : Value} {d : DataW H} {ps : List MemPlace} (hv : Value.okWide Tryz.prog w r b0 51 v) (h : DataW.Trod enc Tryz.prog w 0 (fun _ => true) held 51 v d ps) :
    ∃ k l : Int, v = .agg #[.int .i64 k, .int .i64 l] ∧ (Lit.int .i64 k).wf = true ∧ (Lit.int .i64 l).wf = true := by
  obtain ⟨cs, rfl, hsz⟩ := okWide_array6 Tryz.underlying51 hv
  have hC : Tryz.prog.cellsOf 3 = 1 := by kernel_rfl
  have hC2 : Tryz.prog.cellsOf 51 = 2 := by kernel_rfl
  rw [hC2] at hsz
  obtain ⟨m, hm⟩ := h
  obtain ⟨xs, k, rfl, _, hlen, hn, hel⟩ := DataW.trod_array Tryz.underlying51 hm
  have h0 := hel 0 (by omega)
  have h1 := hel 1 (by omega)
  rw [hC, List.getElem?_eq_getElem (by omega)] at h0 h1
  obtain ⟨z0, e0, _, w0⟩ := DataW.trod_int Tryz.underlying3 h0
  obtain ⟨z1, e1, _, w1⟩ := DataW.trod_int Tryz.underlying3 h1
  obtain ⟨l⟩ := cs
  simp only [Value.cells] at e0 e1
  have hl : l.length = 2 := by simpa using hsz
  match l, hl with
  | [v0, v1], _ =>
    simp at e0 e1
    subst e0 e1
    exact ⟨z0, z1, rfl, w0, w1⟩

theorem slice_acts {v : Value} {x : DataW H × List MemPlace} {m : Nat} (h : DataW.trod enc Tryz.prog w 0 (fun _ => true) held m 31 [v] = some x) : ∃ L n c, v = .slice L n c ∧ ∃ l : List Al, l.length = n ∧ ActsIn w L l := by
  have hs : ∃ L n c, v = .slice L n c := by
    rcases open_slice Tryz.underlying31 h with ⟨hcs, _⟩ | ⟨ad, len', cap', m', n', D, Pl, hcs, hb, hl, hm, hmm, hx, hi⟩
    · exact ⟨none, 0, 0, by simpa using hcs⟩
    · exact ⟨some ad, len', cap', by simpa using hcs⟩
  obtain ⟨L, n, c, rfl⟩ := hs
  exact ⟨L, n, c, rfl, open_acts (d := x.1) (ps := x.2) (cap := c) ⟨m, by simpa [Value.cells] using h⟩⟩

set_option maxRecDepth 100000 in
theorem open_rows2 {r : Reach} {b0 : Nat} {v : Value} {d : DataW H} {ps : List MemPlace} (hv : Value.okWide Tryz.prog w r b0 42 v) (h : DataW.Trod enc Tryz.prog w 0 (fun _ => true) held 42 v d ps) :
    ∃ (L : Option Addr) (c : Nat) (l : List Al) (M : Option Addr) (e : Nat) (m : List Al), v = .agg #[.slice L l.length c, .slice M m.length e] ∧ ActsIn w L l ∧ ActsIn w M m := by
  obtain ⟨cs, rfl, hsz⟩ := okWide_array6 Tryz.underlying42 hv
  have hC : Tryz.prog.cellsOf 31 = 1 := by kernel_rfl
  have hC2 : Tryz.prog.cellsOf 42 = 2 := by kernel_rfl
  rw [hC2] at hsz
  obtain ⟨m, hm⟩ := h
  obtain ⟨xs, k, rfl, _, hlen, hn, hel⟩ := DataW.trod_array Tryz.underlying42 hm
  have h0 := hel 0 (by omega)
  have h1 := hel 1 (by omega)
  rw [hC, List.getElem?_eq_getElem (by omega)] at h0 h1
  obtain ⟨l⟩ := cs
  simp only [Value.cells] at h0 h1
  have hl : l.length = 2 := by simpa using hsz
  match l, hl with
  | [v0, v1], _ =>
    simp at h0 h1
    obtain ⟨L, n, c, rfl, l, rfl, hL⟩ := slice_acts h0
    obtain ⟨M, n', e, rfl, m, rfl, hM⟩ := slice_acts h1
    exact ⟨L, c, l, M, e, m, rfl, hL, hM⟩

end

end Go.Proofs.YtlpecaldodganaaGreatDoor
