/- Arguments opened: slices of bytes, of yes and no, of floating numbers, of parts. -/
import Derived.Test.YtmfjacehompmmaaSpeak2
import Derived.ProofKit
import Derived.OpenShut
import Derived.Deep.Slices
import Derived.Deep.Fields
namespace Go.Proofs.Ytmfjacehompmmaa
open Go.ChangeShapes Go.WideShapes Go.ChangeAt Go.RowKit Go.Deep MM

/-- A slice whose elements have so many cells each reads as rows. -/
def Rws (w : World) (size : Nat) (A : Option Addr) (rows : List (List Value)) : Prop :=
  rows = [] ∨ ∃ b off, A = some ⟨b, off, none⟩ ∧ b < w.heap.size ∧ ∀ i r, rows[i]? = some r → ∀ j v, r[j]? = some v → w.cell? ⟨b, off + i * size + j, none⟩ = some v

section
variable {H : Type} {enc : TypeId × Value → H} {P : Program} {w : World} {base : Nat} {spare : Nat → Bool} {held : Bool}

theorem trod_flo {t : TypeId} {k : FloatKind} {fuel : Nat} {cs : List Value} {x : DataW H × List MemPlace} (ht : P.underlying t = some (.float k)) (h : DataW.trod enc P w base spare held fuel t cs = some x) :
    ∃ b, cs = [.float k b] ∧ (Lit.float k b).wf = true := by
  cases fuel with
  | zero => simp [DataW.trod] at h
  | succ n =>
    unfold DataW.trod at h
    rw [ht] at h
    split at h <;> simp_all

/-- The rows of a slice, each with its reading. -/
theorem open_rows {t e : TypeId} {a : Option Addr} {len cap : Nat} {d : DataW H} {ps : List MemPlace} (ht : P.underlying t = some (.slice e)) (hC : 0 < P.cellsOf e) (h : DataW.Trod enc P w 0 (fun _ => true) held t (.slice a len cap) d ps) :
    ∃ rows : List (List Value), rows.length = len ∧ Rws w (P.cellsOf e) a rows ∧ (∀ r ∈ rows, ∃ n x, DataW.trod enc P w 0 (fun _ => true) held n e r = some x) := by
  obtain ⟨fuel, hf⟩ := h
  rcases open_slice ht hf with ⟨hcs, _⟩ | ⟨ad, len', cap', m, n, D, Pl, hcs, hb, hl, hm, hmm, hx, hi⟩
  · simp [Value.cells] at hcs
    obtain ⟨rfl, rfl, rfl⟩ := hcs
    exact ⟨[], rfl, .inl rfl, fun r hr => by cases hr⟩
  · simp [Value.cells] at hcs
    obtain ⟨rfl, rfl, rfl⟩ := hcs
    have hm' : m = cap := by rw [hmm, if_pos rfl]
    by_cases h0 : len = 0
    · subst h0
      exact ⟨[], rfl, .inl rfl, fun r hr => by cases hr⟩
    · have key : ∀ i, i < len → ∃ r : List Value, w.cells? 0 (ad.add (i * P.cellsOf e)) (P.cellsOf e) = some r ∧ ∃ x, DataW.trod enc P w 0 (fun _ => true) held n e r = some x := by
        intro i hil
        obtain ⟨cs', h1, h2⟩ := hi i (by omega)
        exact ⟨cs', h1, _, h2⟩
      refine ⟨(List.range len).map (fun i => (w.cells? 0 (ad.add (i * P.cellsOf e)) (P.cellsOf e)).getD []), by simp, .inr ?_, ?_⟩
      · obtain ⟨r0, hr0, _⟩ := key 0 (by omega)
        obtain ⟨_, hlen0, hat0⟩ := World.cells?_some hr0
        have hc0 := hat0 0 hC
        rw [List.getElem?_eq_getElem (by omega)] at hc0
        obtain ⟨b, off, spot⟩ := ad
        have hspot : spot = none := by simpa [Addr.add] using World.cell?_spot hc0
        subst hspot
        have hblk : b < w.heap.size := by
          have := World.block_lt_of_cell? w _ hc0
          simpa [Addr.add] using this
        refine ⟨b, off, rfl, hblk, fun i r hr j v hv => ?_⟩
        simp only [List.getElem?_map, Option.map_eq_some_iff] at hr
        obtain ⟨i', hi', rfl⟩ := hr
        obtain ⟨hil, rfl⟩ : i < len ∧ i' = i := by
          rw [List.getElem?_eq_some_iff] at hi'
          obtain ⟨h1, h2⟩ := hi'
          simp at h1 h2
          exact ⟨h1, h2.symm⟩
        obtain ⟨r1, hr1, _⟩ := key i' hil
        rw [hr1] at hv
        obtain ⟨_, hlen1, hat1⟩ := World.cells?_some hr1
        have hjl : j < P.cellsOf e := by
          have := (List.getElem?_eq_some_iff.1 hv).1
          simp at this
          omega
        have := hat1 j hjl
        rw [MM.add_plain, MM.add_plain] at this
        rw [this]
        exact hv
      · intro r hr
        simp only [List.mem_map, List.mem_range] at hr
        obtain ⟨i, hil, rfl⟩ := hr
        obtain ⟨r1, hr1, x, hx1⟩ := key i hil
        rw [hr1]
        exact ⟨n, x, hx1⟩

/-- Bytes. -/
theorem open_bytes {t e : TypeId} {a : Option Addr} {len cap : Nat} {d : DataW H} {ps : List MemPlace} (ht : P.underlying t = some (.slice e)) (he : P.underlying e = some (.int .u8)) (hC : P.cellsOf e = 1) (h : DataW.Trod enc P w 0 (fun _ => true) held t (.slice a len cap) d ps) :
    ∃ xs : List UInt8, xs.length = len ∧ Bts w a xs := by
  obtain ⟨rows, hl, hr, hx⟩ := open_rows ht (by omega) h
  rw [hC] at hr
  have hall : ∀ rows : List (List Value), (∀ r ∈ rows, ∃ n x, DataW.trod enc P w 0 (fun _ => true) held n e r = some x) → ∃ xs : List UInt8, rows = xs.map fun c => [Value.int .u8 c.toNat] := by
    intro rows
    induction rows with
    | nil => intro _; exact ⟨[], rfl⟩
    | cons r rows ih =>
      intro hx
      obtain ⟨xs, rfl⟩ := ih (fun r hr => hx r (List.mem_cons_of_mem _ hr))
      obtain ⟨n, x, hx0⟩ := hx r (List.mem_cons_self ..)
      obtain ⟨z, rfl, _, hw⟩ := DataW.trod_int he hx0
      have hz : 0 ≤ z ∧ z ≤ 255 := by simpa [Lit.wf, IntKind.min, IntKind.max, IntKind.signed, IntKind.bits] using hw
      refine ⟨z.toNat.toUInt8 :: xs, ?_⟩
      rw [List.map_cons, PK.toUInt8_toNat (by omega)]
      congr 3
      omega
  obtain ⟨xs, rfl⟩ := hall rows hx
  refine ⟨xs, by simpa using hl, ?_⟩
  rcases hr with hr | ⟨b, off, rfl, _, hcell⟩
  · have : xs = [] := by simpa using hr
    subst this
    exact Bts.nil a
  · intro j u hu
    rw [MM.add_plain]
    have hu' : (xs.map fun c => [Value.int .u8 c.toNat])[j]? = some [u] := by
      simp only [bc, List.getElem?_map, Option.map_eq_some_iff] at hu ⊢
      obtain ⟨c, hc, rfl⟩ := hu
      exact ⟨c, hc, rfl⟩
    have := hcell j [u] hu' 0 u rfl
    simpa using this

/-- Yes and no. -/
def Bls (w : World) (A : Option Addr) (ys : List Bool) : Prop :=
  ys = [] ∨ ∃ b off, A = some ⟨b, off, none⟩ ∧ b < w.heap.size ∧ ∀ i y, ys[i]? = some y → w.cell? ⟨b, off + i, none⟩ = some (.bool y)
theorem open_bools {t e : TypeId} {a : Option Addr} {len cap : Nat} {d : DataW H} {ps : List MemPlace} (ht : P.underlying t = some (.slice e)) (he : P.underlying e = some .bool) (hC : P.cellsOf e = 1) (h : DataW.Trod enc P w 0 (fun _ => true) held t (.slice a len cap) d ps) :
    ∃ ys : List Bool, ys.length = len ∧ Bls w a ys := by
  obtain ⟨rows, hl, hr, hx⟩ := open_rows ht (by omega) h
  rw [hC] at hr
  have hall : ∀ rows : List (List Value), (∀ r ∈ rows, ∃ n x, DataW.trod enc P w 0 (fun _ => true) held n e r = some x) → ∃ ys : List Bool, rows = ys.map fun y => [Value.bool y] := by
    intro rows
    induction rows with
    | nil => intro _; exact ⟨[], rfl⟩
    | cons r rows ih =>
      intro hx
      obtain ⟨xs, rfl⟩ := ih (fun r hr => hx r (List.mem_cons_of_mem _ hr))
      obtain ⟨n, x, hx0⟩ := hx r (List.mem_cons_self ..)
      obtain ⟨z, rfl, _⟩ := DataW.trod_bool he hx0
      exact ⟨z :: xs, rfl⟩
  obtain ⟨ys, rfl⟩ := hall rows hx
  refine ⟨ys, by simpa using hl, ?_⟩
  rcases hr with hr | ⟨b, off, rfl, hb, hcell⟩
  · exact .inl (by simpa using hr)
  · refine .inr ⟨b, off, rfl, hb, fun j u hu => ?_⟩
    have := hcell j [.bool u] (by simp [hu]) 0 _ rfl
    simpa using this

/-- Floating numbers. -/
def Fls (w : World) (A : Option Addr) (ys : List Nat) : Prop :=
  ys = [] ∨ ∃ b off, A = some ⟨b, off, none⟩ ∧ b < w.heap.size ∧ ∀ i y, ys[i]? = some y → w.cell? ⟨b, off + i, none⟩ = some (.float .f64 y)
theorem open_floats {t e : TypeId} {a : Option Addr} {len cap : Nat} {d : DataW H} {ps : List MemPlace} (ht : P.underlying t = some (.slice e)) (he : P.underlying e = some (.float .f64)) (hC : P.cellsOf e = 1) (h : DataW.Trod enc P w 0 (fun _ => true) held t (.slice a len cap) d ps) :
    ∃ ys : List Nat, ys.length = len ∧ (∀ y ∈ ys, MF.W64 y) ∧ Fls w a ys := by
  obtain ⟨rows, hl, hr, hx⟩ := open_rows ht (by omega) h
  rw [hC] at hr
  have hall : ∀ rows : List (List Value), (∀ r ∈ rows, ∃ n x, DataW.trod enc P w 0 (fun _ => true) held n e r = some x) → ∃ ys : List Nat, rows = (ys.map fun y => [Value.float .f64 y]) ∧ ∀ y ∈ ys, MF.W64 y := by
    intro rows
    induction rows with
    | nil => intro _; exact ⟨[], rfl, fun y hy => by cases hy⟩
    | cons r rows ih =>
      intro hx
      obtain ⟨xs, rfl, hxs⟩ := ih (fun r hr => hx r (List.mem_cons_of_mem _ hr))
      obtain ⟨n, x, hx0⟩ := hx r (List.mem_cons_self ..)
      obtain ⟨z, rfl, hz⟩ := trod_flo he hx0
      refine ⟨z :: xs, rfl, fun y hy => ?_⟩
      rcases List.mem_cons.1 hy with rfl | hy
      · simp only [Lit.wf, decide_eq_true_eq] at hz
        exact hz
      · exact hxs y hy
  obtain ⟨ys, rfl, hys⟩ := hall rows hx
  refine ⟨ys, by simpa using hl, hys, ?_⟩
  rcases hr with hr | ⟨b, off, rfl, hb, hcell⟩
  · exact .inl (by simpa using hr)
  · refine .inr ⟨b, off, rfl, hb, fun j u hu => ?_⟩
    have := hcell j [.float .f64 u] (by simp [hu]) 0 _ rfl
    simpa using this
end

set_option maxRecDepth 100000 in
/-- A row of a part, cell by cell, is a part. -/
theorem part_row {H : Type} {enc : TypeId × Value → H} {w : World} {held : Bool} {n : Nat} {r : List Value} {x : DataW H × List MemPlace} (h : DataW.trod enc Try.prog w 0 (fun _ => true) held n 45 r = some x) :
    ∃ q : PK.Pt, q.ok ∧ q.s.size ≤ maxLen ∧ r = q.cells.toList := by
  obtain ⟨xs, m, _, _, hlen, hxl, hf⟩ := DataW.trod_struct Try.underlying45 h
  have hC : Try.prog.cellsOf 45 = 6 := by kernel_rfl
  rw [hC] at hlen
  match r, hlen with
  | [v0, v1, v2, v3, v4, v5], _ =>
    match xs, hxl with
    | [y0, y1, y2, y3, y4, y5], _ =>
      have g0 : DataW.trod enc Try.prog w 0 (fun _ => true) held m 5 [v0] = some y0 := by
        have hc : Try.prog.cellsOf 5 = 1 := by kernel_rfl
        have h := hf 0 _ rfl
        simpa [hc] using h
      have g1 : DataW.trod enc Try.prog w 0 (fun _ => true) held m 43 [v1] = some y1 := by
        have hc : Try.prog.cellsOf 43 = 1 := by kernel_rfl
        have h := hf 1 _ rfl
        simpa [hc] using h
      have g2 : DataW.trod enc Try.prog w 0 (fun _ => true) held m 2 [v2] = some y2 := by
        have hc : Try.prog.cellsOf 2 = 1 := by kernel_rfl
        have h := hf 2 _ rfl
        simpa [hc] using h
      have g3 : DataW.trod enc Try.prog w 0 (fun _ => true) held m 42 [v3] = some y3 := by
        have hc : Try.prog.cellsOf 42 = 1 := by kernel_rfl
        have h := hf 3 _ rfl
        simpa [hc] using h
      have g4 : DataW.trod enc Try.prog w 0 (fun _ => true) held m 9 [v4] = some y4 := by
        have hc : Try.prog.cellsOf 9 = 1 := by kernel_rfl
        have h := hf 4 _ rfl
        simpa [hc] using h
      have g5 : DataW.trod enc Try.prog w 0 (fun _ => true) held m 4 [v5] = some y5 := by
        have hc : Try.prog.cellsOf 4 = 1 := by kernel_rfl
        have h := hf 5 _ rfl
        simpa [hc] using h
      obtain ⟨z0, e0, _, w0⟩ := DataW.trod_int Try.underlying5 g0
      obtain ⟨z1, e1, _, w1⟩ := DataW.trod_int Try.underlying43 g1
      obtain ⟨z2, e2, _, w2⟩ := DataW.trod_int Try.underlying2 g2
      obtain ⟨z3, e3, w3⟩ := trod_flo Try.underlying42 g3
      obtain ⟨z4, e4, _, w4⟩ := DataW.trod_string Try.underlying9 g4
      obtain ⟨z5, e5, _⟩ := DataW.trod_bool Try.underlying4 g5
      simp at e0 e1 e2 e3 e4 e5
      subst e0 e1 e2 e3 e4 e5
      have hz0 : 0 ≤ z0 ∧ z0 ≤ 255 := by simpa [Lit.wf, IntKind.min, IntKind.max, IntKind.signed, IntKind.bits] using w0
      have hz1 : 0 ≤ z1 ∧ z1 ≤ 18446744073709551615 := by simpa [Lit.wf, IntKind.min, IntKind.max, IntKind.signed, IntKind.bits] using w1
      refine ⟨⟨z0.toNat, z1.toNat, z2, z3, z4, z5⟩, ⟨by show z0.toNat < 256; omega, by show z1.toNat < 18446744073709551616; omega, w2, ?_⟩, w4, ?_⟩
      · simp only [Lit.wf, decide_eq_true_eq] at w3
        exact w3
      · show _ = [Value.int .u8 ((z0.toNat : Nat) : Int), .int .u64 ((z1.toNat : Nat) : Int), .int .i64 z2, .float .f64 z3, .string z4, .bool z5]
        rw [show ((z0.toNat : Nat) : Int) = z0 by omega, show ((z1.toNat : Nat) : Int) = z1 by omega]
theorem open_parts {H : Type} {enc : TypeId × Value → H} {w : World} {held : Bool} {a : Option Addr} {len cap : Nat} {d : DataW H} {ps : List MemPlace} (h : DataW.Trod enc Try.prog w 0 (fun _ => true) held 22 (.slice a len cap) d ps) :
    ∃ qs : List PK.Pt, qs.length = len ∧ (∀ q ∈ qs, q.ok ∧ q.s.size ≤ maxLen) ∧ Pts w a qs := by
  have hC : Try.prog.cellsOf 45 = 6 := by kernel_rfl
  obtain ⟨rows, hl, hr, hx⟩ := open_rows Try.underlying22 (by rw [hC]; omega) h
  rw [hC] at hr
  have hall : ∀ rows : List (List Value), (∀ r ∈ rows, ∃ n x, DataW.trod enc Try.prog w 0 (fun _ => true) held n 45 r = some x) → ∃ qs : List PK.Pt, rows = (qs.map fun q => q.cells.toList) ∧ ∀ q ∈ qs, q.ok ∧ q.s.size ≤ maxLen := by
    intro rows
    induction rows with
    | nil => intro _; exact ⟨[], rfl, fun y hy => by cases hy⟩
    | cons r rows ih =>
      intro hx
      obtain ⟨xs, rfl, hxs⟩ := ih (fun r hr => hx r (List.mem_cons_of_mem _ hr))
      obtain ⟨n, x, hx0⟩ := hx r (List.mem_cons_self ..)
      obtain ⟨q, hq, hs, rfl⟩ := part_row hx0
      refine ⟨q :: xs, rfl, fun y hy => ?_⟩
      rcases List.mem_cons.1 hy with rfl | hy
      · exact ⟨hq, hs⟩
      · exact hxs y hy
  obtain ⟨qs, rfl, hqs⟩ := hall rows hx
  refine ⟨qs, by simpa using hl, hqs, ?_⟩
  rcases hr with hr | ⟨b, off, rfl, hb, hcell⟩
  · exact .inl (by simpa using hr)
  · refine .inr ⟨b, off, rfl, hb, fun i q hq j v hv => ?_⟩
    exact hcell i q.cells.toList (by simp [hq]) j v (by simpa using hv)

end Go.Proofs.Ytmfjacehompmmaa
