/- Arguments opened: rows of sectors, an area. -/
import Derived.Test.YtlaecnggbcagcaaOpE
import Derived.Test.YtlaecnggbcagcaaRl4
import Derived.Test.YtlaecnggbcagcaaRl5
namespace Go.Proofs.Ytlaecnggbcagcaa
open Go.ChangeShapes Go.WideShapes Go.ChangeAt Go.RowKit Go.Deep MM
set_option linter.unusedVariables false
set_option linter.unusedSimpArgs false

section
variable {H : Type} {enc : TypeId × Value → H} {w : World} {held : Bool}

set_option maxRecDepth 100000 in
theorem sec_row {n : Nat} {r : List Value} {x : DataW H × List MemPlace} (h : DataW.trod enc Try.prog w 0 (fun _ => true) held n 40 r = some x) :
    ∃ s : List UInt8, r = bc s ∧ s.length = 64 := by
  have hC : Try.prog.cellsOf 5 = 1 := by kernel_rfl
  have hC2 : Try.prog.cellsOf 40 = 64 := by kernel_rfl
  obtain ⟨xs, k, _, _, hlen, hn, hel⟩ := DataW.trod_array Try.underlying40 h
  rw [hC] at hel
  rw [hC2] at hlen
  have hat : ∀ i, i < 64 → ∃ c : UInt8, r[i]? = some (.int .u8 c.toNat) := by
    intro i hi
    have h0 := hel i hi
    rw [List.getElem?_eq_getElem (by omega)] at h0
    obtain ⟨z, e0, _, w0⟩ := DataW.trod_int Try.underlying5 h0
    have hz : 0 ≤ z ∧ z ≤ 255 := by simpa [Lit.wf, IntKind.min, IntKind.max, IntKind.signed, IntKind.bits] using w0
    have e1 : (r.drop (i * 1)).take 1 = [Value.int .u8 z] := e0
    rw [Nat.mul_one, List.drop_eq_getElem_cons (by omega), List.take_succ_cons, List.take_zero] at e1
    refine ⟨z.toNat.toUInt8, ?_⟩
    rw [List.getElem?_eq_getElem (by omega)]
    injection e1 with e1 _
    rw [e1, show (z.toNat.toUInt8).toNat = z.toNat by simp [Nat.toUInt8, UInt8.toNat_ofNat']; omega]
    congr 2
    omega
  refine ⟨(List.range 64).map fun i => byteAt r[i]?, ?_, by simp⟩
  apply List.ext_getElem?
  intro i
  by_cases hi : i < 64
  · obtain ⟨c, hc⟩ := hat i hi
    simp only [bc, List.map_map, List.getElem?_map, List.getElem?_range hi, Option.map_some, Function.comp, hc, byteAt]
    simp
  · rw [List.getElem?_eq_none (by omega), List.getElem?_eq_none (by simp [bc]; omega)]
theorem open_secs {a : Option Addr} {len cap : Nat} {d : DataW H} {ps : List MemPlace} (h : DataW.Trod enc Try.prog w 0 (fun _ => true) held 63 (.slice a len cap) d ps) :
    ∃ l : List (List UInt8), l.length = len ∧ Sls w a l ∧ (∀ s ∈ l, s.length = 64) ∧ len ≤ cap ∧ len ≤ 9223372036854775807 := by
  have hC : Try.prog.cellsOf 40 = 64 := by kernel_rfl
  have hm : maxLen = 9223372036854775807 := by decide
  obtain ⟨h3, h4, h5⟩ := slice_room Try.underlying63 h
  obtain ⟨rows, hl, hr, hx⟩ := open_rows Try.underlying63 (by rw [hC]; omega) h
  rw [hC] at hr
  have hall : ∀ rows : List (List Value), (∀ r ∈ rows, ∃ n x, DataW.trod enc Try.prog w 0 (fun _ => true) held n 40 r = some x) → ∃ l : List (List UInt8), rows = l.map bc ∧ ∀ s ∈ l, s.length = 64 := by
    intro rows
    induction rows with
    | nil => intro _; exact ⟨[], rfl, fun y hy => by cases hy⟩
    | cons r rows ih =>
      intro hx
      obtain ⟨l, rfl, hl⟩ := ih (fun r hr => hx r (List.mem_cons_of_mem _ hr))
      obtain ⟨n, x, hx0⟩ := hx r (List.mem_cons_self ..)
      obtain ⟨s, rfl, hs⟩ := sec_row hx0
      refine ⟨s :: l, rfl, fun y hy => ?_⟩
      rcases List.mem_cons.1 hy with rfl | hy
      · exact hs
      · exact hl y hy
  obtain ⟨l, rfl, hls⟩ := hall rows hx
  refine ⟨l, by simpa using hl, ?_, hls, h3, by omega⟩
  rcases hr with hr | ⟨b, off, rfl, hb, hcell⟩
  · exact .inl (by simpa using hr)
  · refine .inr ⟨b, off, rfl, hb, fun i s hi j v hv => hcell i (bc s) (by simp [hi]) j v hv⟩

theorem okWide_str {P : Program} {w : World} {r : Reach} {base : Nat} {t : TypeId} {fs} {v : Value} (ht : P.underlying t = some (.struct fs)) (h : Value.okWide P w r base t v) : ∃ cs, v = .agg cs ∧ cs.size = P.cellsOf t := by
  simp only [Value.okWide, ht] at h
  obtain ⟨cs, h1, h2, _⟩ := h
  exact ⟨cs, h1, h2⟩
set_option maxRecDepth 100000 in
theorem open_area {r : Reach} {b0 : Nat} {v : Value} {d : DataW H} {ps : List MemPlace} (hv : Value.okWide Try.prog w r b0 65 v) (h : DataW.Trod enc Try.prog w 0 (fun _ => true) held 65 v d ps) :
    ∃ f n : Int, v = .agg (arV f n) ∧ (-9223372036854775808 ≤ f ∧ f ≤ 9223372036854775807) ∧ (-9223372036854775808 ≤ n ∧ n ≤ 9223372036854775807) := by
  obtain ⟨cs, rfl, hsz⟩ := okWide_str Try.underlying65 hv
  have hC : Try.prog.cellsOf 65 = 2 := by kernel_rfl
  rw [hC] at hsz
  obtain ⟨m, hm⟩ := h
  obtain ⟨l⟩ := cs
  have hl : l.length = 2 := by simpa using hsz
  match l, hl with
  | [v0, v1], _ =>
    obtain ⟨xs, k, _, _, hlen, hxl, hf⟩ := DataW.trod_struct Try.underlying65 hm
    match xs, hxl with
    | [y0, y1], _ =>
      have ci : Try.prog.cellsOf 3 = 1 := by kernel_rfl
      have g0 : DataW.trod enc Try.prog w 0 (fun _ => true) held k 3 [v0] = some y0 := by have h := hf 0 _ rfl; simpa [ci, Value.cells] using h
      have g1 : DataW.trod enc Try.prog w 0 (fun _ => true) held k 3 [v1] = some y1 := by have h := hf 1 _ rfl; simpa [ci, Value.cells] using h
      obtain ⟨z0, e0, _, w0⟩ := DataW.trod_int Try.underlying3 g0
      obtain ⟨z1, e1, _, w1⟩ := DataW.trod_int Try.underlying3 g1
      simp at e0 e1
      subst e0 e1
      exact ⟨z0, z1, rfl, by simpa [Lit.wf, IntKind.min, IntKind.max, IntKind.signed, IntKind.bits] using w0, by simpa [Lit.wf, IntKind.min, IntKind.max, IntKind.signed, IntKind.bits] using w1⟩
end

end Go.Proofs.Ytlaecnggbcagcaa
