/- Arguments opened: bytes with their room, rows of entries, sectors, an area. -/
import Derived.Test.YtlaecnggbcagcaaOpK
import Derived.Test.YtlaecnggbcagcaaRl12
namespace Go.Proofs.Ytlaecnggbcagcaa
open Go.ChangeShapes Go.WideShapes Go.ChangeAt Go.RowKit Go.Deep MM
set_option linter.unusedVariables false
set_option linter.unusedSimpArgs false

section
variable {H : Type} {enc : TypeId × Value → H} {w : World} {held : Bool}

theorem slice_room {t e : TypeId} {a : Option Addr} {len cap : Nat} {d : DataW H} {ps : List MemPlace} (ht : Try.prog.underlying t = some (.slice e)) (h : DataW.Trod enc Try.prog w 0 (fun _ => true) held t (.slice a len cap) d ps) : len ≤ cap ∧ (a = none → cap = 0) ∧ len ≤ maxLen := by
  obtain ⟨fuel, hf⟩ := h
  rcases open_slice ht hf with ⟨hcs, _⟩ | ⟨ad, len', cap', m, n, D, Pl, hcs, hb, hl, hm, hmm, hx, hi⟩
  · simp [Value.cells] at hcs
    obtain ⟨rfl, rfl, rfl⟩ := hcs
    exact ⟨Nat.le_refl _, fun _ => rfl, Nat.zero_le _⟩
  · simp [Value.cells] at hcs
    obtain ⟨rfl, rfl, rfl⟩ := hcs
    exact ⟨by omega, fun h => by simp at h, by omega⟩
theorem open_bytesC {a : Option Addr} {len cap : Nat} {d : DataW H} {ps : List MemPlace} (h : DataW.Trod enc Try.prog w 0 (fun _ => true) held 51 (.slice a len cap) d ps) :
    ∃ xs : List UInt8, xs.length = len ∧ Bts w a xs ∧ len ≤ cap ∧ (a = none → cap = 0) ∧ len ≤ 9223372036854775807 := by
  obtain ⟨xs, h1, h2⟩ := open_bytes Try.underlying51 Try.underlying5 (by kernel_rfl) h
  obtain ⟨h3, h4, h5⟩ := slice_room Try.underlying51 h
  have hm : maxLen = 9223372036854775807 := by decide
  exact ⟨xs, h1, h2, h3, h4, by omega⟩
/-- What is handed in lies in blocks that are there. -/
theorem open_ents {a : Option Addr} {len cap : Nat} {d : DataW H} {ps : List MemPlace} (h : DataW.Trod enc Try.prog w 0 (fun _ => true) held 66 (.slice a len cap) d ps) :
    ∃ es : List (List UInt8), es.length = len ∧ EntsA w a es ∧ len ≤ cap ∧ len ≤ 9223372036854775807 ∧ ∀ x ∈ es, x.length ≤ 9223372036854775807 := by
  have hC : Try.prog.cellsOf 51 = 1 := by kernel_rfl
  have hm : maxLen = 9223372036854775807 := by decide
  obtain ⟨h3, h4, h5⟩ := slice_room Try.underlying66 h
  obtain ⟨rows, hl, hr, hx⟩ := open_rows Try.underlying66 (by rw [hC]; omega) h
  rw [hC] at hr
  have hall : ∀ rows : List (List Value), (∀ r ∈ rows, ∃ n x, DataW.trod enc Try.prog w 0 (fun _ => true) held n 51 r = some x) → ∃ qs : List (Value × List UInt8), rows = (qs.map fun q => [q.1]) ∧ ∀ q ∈ qs, EntA w q.1 q.2 ∧ q.2.length ≤ maxLen := by
    intro rows
    induction rows with
    | nil => intro _; exact ⟨[], rfl, fun y hy => by cases hy⟩
    | cons r rows ih =>
      intro hx
      obtain ⟨qs, rfl, hqs⟩ := ih (fun r hr => hx r (List.mem_cons_of_mem _ hr))
      obtain ⟨n, x, hx0⟩ := hx r (List.mem_cons_self ..)
      obtain ⟨A, ln, cp, rfl⟩ : ∃ A ln cp, r = [Value.slice A ln cp] := by
        rcases open_slice Try.underlying51 hx0 with ⟨hcs, _⟩ | ⟨ad, len', cap', m', n', D, Pl, hcs, hb, hl, hm, hmm, hx, hi⟩
        · exact ⟨_, _, _, hcs⟩
        · exact ⟨_, _, _, hcs⟩
      have hT : DataW.Trod enc Try.prog w 0 (fun _ => true) held 51 (.slice A ln cp) x.1 x.2 := ⟨n, hx0⟩
      obtain ⟨xs, e1, e2, e3, e4, e5⟩ := open_bytesC hT
      obtain ⟨_, _, e6⟩ := slice_room Try.underlying51 hT
      subst e1
      refine ⟨(.slice A xs.length cp, xs) :: qs, rfl, fun y hy => ?_⟩
      rcases List.mem_cons.1 hy with rfl | hy
      · exact ⟨⟨A, cp, rfl, e2, e3, e4⟩, e6⟩
      · exact hqs y hy
  obtain ⟨qs, rfl, hqs⟩ := hall rows hx
  have hql : qs.length = len := by simpa using hl
  refine ⟨qs.map (·.2), by rw [List.length_map, hql], ?_, h3, by omega, fun x hx => ?_⟩
  · rcases hr with hr | ⟨b, off, rfl, hb, hcell⟩
    · exact .inl (by simpa using hr)
    · refine .inr ⟨b, off, rfl, hb, fun i x hx => ?_⟩
      rw [List.getElem?_map, Option.map_eq_some_iff] at hx
      obtain ⟨q, hq, rfl⟩ := hx
      refine ⟨q.1, ?_, (hqs q (List.mem_of_getElem? hq)).1⟩
      have := hcell i [q.1] (by simp [hq]) 0 q.1 rfl
      rw [Nat.mul_one, Nat.add_zero] at this
      exact this
  · obtain ⟨q, hq, rfl⟩ := List.mem_map.1 hx
    have := (hqs q hq).2
    omega
end

end Go.Proofs.Ytlaecnggbcagcaa
