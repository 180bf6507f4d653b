/- Arguments opened: slices of numbers, rows of what is done to a disk. -/
import Derived.Test.YtlaecnggbcagcaaOpD
import Derived.Test.YtlaecnggbcagcaaKs1
namespace Go.Proofs.Ytlaecnggbcagcaa
open Go.ChangeShapes Go.WideShapes Go.ChangeAt Go.RowKit Go.Deep MM
set_option linter.unusedVariables false
set_option linter.unusedSimpArgs false

/-- What is done to a disk, and where its numbers lie. -/
structure Od where
  kind : Int
  n : Int
  fill : UInt8
  kept : List Int
  A : Option Addr
  c : Nat
def Od.cells (o : Od) : List Value := [.int .i64 o.kind, .int .i64 o.n, .int .u8 o.fill.toNat, .slice o.A o.kept.length o.c]
def I64 (z : Int) : Prop := -9223372036854775808 ≤ z ∧ z ≤ 9223372036854775807
structure OdIn (w : World) (o : Od) : Prop where
  kind : I64 o.kind
  n : I64 o.n
  ins : Ins w o.A o.kept
  blk : ∀ a, o.A = some a → o.kept ≠ [] → a.block < w.heap.size
/-- A slice that reads as such. -/
structure OdsIn (w : World) (A : Option Addr) (l : List Od) : Prop where
  rows : l = [] ∨ ∃ b off, A = some ⟨b, off, none⟩ ∧ b < w.heap.size ∧ ∀ i x, l[i]? = some x → ∀ j v, x.cells[j]? = some v → w.cell? ⟨b, off + i * 4 + j, none⟩ = some v
  all : ∀ x ∈ l, OdIn w x
  len : l.length ≤ 9223372036854775807

section
variable {H : Type} {enc : TypeId × Value → H} {w : World} {held : Bool}

theorem open_intsL {a : Option Addr} {len cap : Nat} {d : DataW H} {ps : List MemPlace} (h : DataW.Trod enc Try.prog w 0 (fun _ => true) held 32 (.slice a len cap) d ps) :
    ∃ ks : List Int, ks.length = len ∧ Ins w a ks := by
  have hC : Try.prog.cellsOf 3 = 1 := by kernel_rfl
  obtain ⟨rows, hl, hr, hx⟩ := open_rows Try.underlying32 (by rw [hC]; omega) h
  rw [hC] at hr
  have hall : ∀ rows : List (List Value), (∀ r ∈ rows, ∃ n x, DataW.trod enc Try.prog w 0 (fun _ => true) held n 3 r = some x) → ∃ xs : List Int, rows = xs.map fun c => [Value.int .i64 c] := by
    intro rows
    induction rows with
    | nil => intro _; exact ⟨[], rfl⟩
    | cons r rows ih =>
      intro hx
      obtain ⟨xs, rfl⟩ := ih (fun r hr => hx r (List.mem_cons_of_mem _ hr))
      obtain ⟨n, x, hx0⟩ := hx r (List.mem_cons_self ..)
      obtain ⟨z, rfl, _, hw⟩ := DataW.trod_int Try.underlying3 hx0
      exact ⟨z :: xs, rfl⟩
  obtain ⟨xs, rfl⟩ := hall rows hx
  refine ⟨xs, by simpa using hl, ?_⟩
  rcases hr with hr | ⟨b, off, rfl, hb, hcell⟩
  · exact .inl (by simpa using hr)
  · refine .inr ⟨b, off, rfl, hb, fun j k hj => ?_⟩
    have := hcell j [.int .i64 k] (by simp [hj]) 0 _ rfl
    simpa using this

set_option maxRecDepth 100000 in
theorem od_row {n : Nat} {r : List Value} {x : DataW H × List MemPlace} (h : DataW.trod enc Try.prog w 0 (fun _ => true) held n 34 r = some x) :
    ∃ q : Od, OdIn w q ∧ r = q.cells := by
  obtain ⟨xs, m, _, _, hlen, hxl, hf⟩ := DataW.trod_struct Try.underlying34 h
  have hC : Try.prog.cellsOf 34 = 4 := by kernel_rfl
  rw [hC] at hlen
  match r, hlen with
  | [v0, v1, v2, v3], _ =>
    match xs, hxl with
    | [y0, y1, y2, y3], _ =>
      have ci : Try.prog.cellsOf 3 = 1 := by kernel_rfl
      have cb : Try.prog.cellsOf 5 = 1 := by kernel_rfl
      have cs : Try.prog.cellsOf 32 = 1 := by kernel_rfl
      have g0 : DataW.trod enc Try.prog w 0 (fun _ => true) held m 3 [v0] = some y0 := by have h := hf 0 _ rfl; simpa [ci] using h
      have g1 : DataW.trod enc Try.prog w 0 (fun _ => true) held m 3 [v1] = some y1 := by have h := hf 1 _ rfl; simpa [ci] using h
      have g2 : DataW.trod enc Try.prog w 0 (fun _ => true) held m 5 [v2] = some y2 := by have h := hf 2 _ rfl; simpa [cb] using h
      have g3 : DataW.trod enc Try.prog w 0 (fun _ => true) held m 32 [v3] = some y3 := by have h := hf 3 _ rfl; simpa [cs] using h
      obtain ⟨z0, e0, _, w0⟩ := DataW.trod_int Try.underlying3 g0
      obtain ⟨z1, e1, _, w1⟩ := DataW.trod_int Try.underlying3 g1
      obtain ⟨z2, e2, _, w2⟩ := DataW.trod_int Try.underlying5 g2
      obtain ⟨A, len, c, rfl⟩ : ∃ A len c, v3 = .slice A len c := by
        rcases open_slice Try.underlying32 g3 with ⟨hcs, _⟩ | ⟨ad, len', cap', m', n', D, Pl, hcs, hb, hl, hm, hmm, hx, hi⟩
        · simp at hcs; exact ⟨_, _, _, hcs⟩
        · simp at hcs; exact ⟨_, _, _, hcs⟩
      obtain ⟨ks, rfl, hI⟩ := open_intsL (d := y3.1) (ps := y3.2) (show DataW.Trod enc Try.prog w 0 (fun _ => true) held 32 (.slice A len c) y3.1 y3.2 from ⟨m, g3⟩)
      simp at e0 e1 e2
      subst e0 e1 e2
      have hz : 0 ≤ z2 ∧ z2 ≤ 255 := by simpa [Lit.wf, IntKind.min, IntKind.max, IntKind.signed, IntKind.bits] using w2
      have h0 : I64 z0 := by simpa [I64, Lit.wf, IntKind.min, IntKind.max, IntKind.signed, IntKind.bits] using w0
      have h1 : I64 z1 := by simpa [I64, Lit.wf, IntKind.min, IntKind.max, IntKind.signed, IntKind.bits] using w1
      refine ⟨⟨z0, z1, z2.toNat.toUInt8, ks, A, c⟩, ⟨h0, h1, hI, fun a ha hk => ?_⟩, ?_⟩
      · rcases hI with hI | ⟨b, off, he, hb, _⟩
        · exact absurd hI hk
        · obtain rfl : a = ⟨b, off, none⟩ := Option.some.inj (ha.symm.trans he)
          exact hb
      · unfold Od.cells
        rw [show ((z2.toNat.toUInt8).toNat : Int) = z2 by simp [Nat.toUInt8, UInt8.toNat_ofNat']; omega]

theorem open_ops {a : Option Addr} {len cap : Nat} {d : DataW H} {ps : List MemPlace} (h : DataW.Trod enc Try.prog w 0 (fun _ => true) held 22 (.slice a len cap) d ps) :
    ∃ l : List Od, l.length = len ∧ OdsIn w a l := by
  have hC : Try.prog.cellsOf 34 = 4 := by kernel_rfl
  have hlen : len ≤ maxLen := by
    obtain ⟨fuel, hf⟩ := h
    rcases open_slice Try.underlying22 hf with ⟨hcs, _⟩ | ⟨ad, len', cap', m', n', D, Pl, hcs, hb, hl, hm, hmm, hx, hi⟩
    · simp [Value.cells] at hcs; omega
    · simp [Value.cells] at hcs; omega
  obtain ⟨rows, hl, hr, hx⟩ := open_rows Try.underlying22 (by rw [hC]; omega) h
  rw [hC] at hr
  have hall : ∀ rows : List (List Value), (∀ r ∈ rows, ∃ n x, DataW.trod enc Try.prog w 0 (fun _ => true) held n 34 r = some x) → ∃ qs : List Od, rows = (qs.map fun q => q.cells) ∧ ∀ q ∈ qs, OdIn w q := by
    intro rows
    induction rows with
    | nil => intro _; exact ⟨[], rfl, fun y hy => by cases hy⟩
    | cons r rows ih =>
      intro hx
      obtain ⟨xs, rfl, hxs⟩ := ih (fun r hr => hx r (List.mem_cons_of_mem _ hr))
      obtain ⟨n, x, hx0⟩ := hx r (List.mem_cons_self ..)
      obtain ⟨q, hq, rfl⟩ := od_row hx0
      refine ⟨q :: xs, rfl, fun y hy => ?_⟩
      rcases List.mem_cons.1 hy with rfl | hy
      · exact hq
      · exact hxs y hy
  obtain ⟨qs, rfl, hqs⟩ := hall rows hx
  have hql : qs.length = len := by simpa using hl
  have hm : maxLen = 9223372036854775807 := by decide
  refine ⟨qs, hql, ?_, hqs, by omega⟩
  rcases hr with hr | ⟨b, off, rfl, hb, hcell⟩
  · exact .inl (by simpa using hr)
  · refine .inr ⟨b, off, rfl, hb, fun i q hq j v hv => ?_⟩
    exact hcell i q.cells (by simp [hq]) j v hv

end

theorem Ins.below {w w' : World} {A : Option Addr} {ks : List Int} (h : Ins w A ks) (hk : Below w.heap.size w w') : Ins w' A ks := by
  rcases h with h | ⟨b, off, he, hb, hc⟩
  · exact .inl h
  · exact .inr ⟨b, off, he, Nat.lt_of_lt_of_le hb hk.size, fun j k hj => (hk.cell (p := ⟨b, off + j, none⟩) hb).trans (hc j k hj)⟩
theorem OdIn.below {w w' : World} {o : Od} (h : OdIn w o) (hk : Below w.heap.size w w') : OdIn w' o := ⟨h.kind, h.n, h.ins.below hk, fun a ha hx => Nat.lt_of_lt_of_le (h.blk a ha hx) hk.size⟩
theorem OdsIn.below {w w' : World} {A : Option Addr} {l : List Od} (h : OdsIn w A l) (hk : Below w.heap.size w w') : OdsIn w' A l := by
  refine ⟨?_, fun x hx => (h.all x hx).below hk, h.len⟩
  rcases h.rows with h | ⟨b, off, he, hb, hc⟩
  · exact .inl h
  · exact .inr ⟨b, off, he, Nat.lt_of_lt_of_le hb hk.size, fun i x hi j v hv => (hk.cell (p := ⟨b, off + i * 4 + j, none⟩) hb).trans (hc i x hi j v hv)⟩

end Go.Proofs.Ytlaecnggbcagcaa
