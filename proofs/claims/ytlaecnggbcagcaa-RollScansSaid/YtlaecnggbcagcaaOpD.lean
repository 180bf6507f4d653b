/- Arguments opened: slices of bytes, sectors. -/
import Derived.Test.YtlaecnggbcagcaaSec2
import Derived.ProofKit
import Derived.OpenShut
import Derived.Deep.Slices
import Derived.Deep.Fields
namespace Go.Proofs.Ytlaecnggbcagcaa
open Go.ChangeShapes Go.WideShapes Go.ChangeAt Go.RowKit Go.Deep MM
set_option linter.unusedVariables false

theorem own : ownKnob Try.prog.godebug = none := by kernel_rfl
theorem laidOut : laidOutB Try.prog = true := by kernel_rfl

/-- A slice whose elements have so many cells each reads as rows. -/
def Rws (w : World) (size : Nat) (A : Option Addr) (rows : List (List Value)) : Prop :=
  rows = [] ∨ ∃ b off, A = some ⟨b, off, none⟩ ∧ b < w.heap.size ∧ ∀ i r, rows[i]? = some r → ∀ j v, r[j]? = some v → w.cell? ⟨b, off + i * size + j, none⟩ = some v

section
variable {H : Type} {enc : TypeId × Value → H} {P : Program} {w : World} {base : Nat} {spare : Nat → Bool} {held : Bool}

/-- The rows of a slice, each with its reading. -/
theorem open_rows {t e : TypeId} {a : Option Addr} {len cap : Nat} {d : DataW H} {ps : List MemPlace} (ht : P.underlying t = some (.slice e)) (hC : 0 < P.cellsOf e) (h : DataW.Trod enc P w 0 (fun _ => true) held t (.slice a len cap) d ps) :
    ∃ rows : List (List Value), rows.length = len ∧ Rws w (P.cellsOf e) a rows ∧ (∀ r ∈ rows, ∃ n x, DataW.trod enc P w 0 (fun _ => true) held n e r = some x) := by
  obtain ⟨fuel, hf⟩ := h
  rcases open_slice ht hf with ⟨hcs, _⟩ | ⟨ad, len', cap', m, n, D, Pl, hcs, hb, hl, hm, hmm, hx, hi⟩
  · simp [Value.cells] at hcs
    obtain ⟨rfl, rfl, rfl⟩ := hcs
    exact ⟨[], rfl, .inl rfl, fun r hr => by cases hr⟩
  · simp [Value.cells] at hcs
    obtain ⟨rfl, rfl, rfl⟩ := hcs
    have hm' : m = cap := by rw [hmm, if_pos rfl]
    by_cases h0 : len = 0
    · subst h0
      exact ⟨[], rfl, .inl rfl, fun r hr => by cases hr⟩
    · have key : ∀ i, i < len → ∃ r : List Value, w.cells? 0 (ad.add (i * P.cellsOf e)) (P.cellsOf e) = some r ∧ ∃ x, DataW.trod enc P w 0 (fun _ => true) held n e r = some x := by
        intro i hil
        obtain ⟨cs', h1, h2⟩ := hi i (by omega)
        exact ⟨cs', h1, _, h2⟩
      refine ⟨(List.range len).map (fun i => (w.cells? 0 (ad.add (i * P.cellsOf e)) (P.cellsOf e)).getD []), by simp, .inr ?_, ?_⟩
      · obtain ⟨r0, hr0, _⟩ := key 0 (by omega)
        obtain ⟨_, hlen0, hat0⟩ := World.cells?_some hr0
        have hc0 := hat0 0 hC
        rw [List.getElem?_eq_getElem (by omega)] at hc0
        obtain ⟨b, off, spot⟩ := ad
        have hspot : spot = none := by simpa [Addr.add] using World.cell?_spot hc0
        subst hspot
        have hblk : b < w.heap.size := by
          have := World.block_lt_of_cell? w _ hc0
          simpa [Addr.add] using this
        refine ⟨b, off, rfl, hblk, fun i r hr j v hv => ?_⟩
        simp only [List.getElem?_map, Option.map_eq_some_iff] at hr
        obtain ⟨i', hi', rfl⟩ := hr
        obtain ⟨hil, rfl⟩ : i < len ∧ i' = i := by
          rw [List.getElem?_eq_some_iff] at hi'
          obtain ⟨h1, h2⟩ := hi'
          simp at h1 h2
          exact ⟨h1, h2.symm⟩
        obtain ⟨r1, hr1, _⟩ := key i' hil
        rw [hr1] at hv
        obtain ⟨_, hlen1, hat1⟩ := World.cells?_some hr1
        have hjl : j < P.cellsOf e := by
          have := (List.getElem?_eq_some_iff.1 hv).1
          simp at this
          omega
        have := hat1 j hjl
        rw [MM.add_plain, MM.add_plain] at this
        rw [this]
        exact hv
      · intro r hr
        simp only [List.mem_map, List.mem_range] at hr
        obtain ⟨i, hil, rfl⟩ := hr
        obtain ⟨r1, hr1, x, hx1⟩ := key i hil
        rw [hr1]
        exact ⟨n, x, hx1⟩

/-- Bytes. -/
theorem open_bytes {t e : TypeId} {a : Option Addr} {len cap : Nat} {d : DataW H} {ps : List MemPlace} (ht : P.underlying t = some (.slice e)) (he : P.underlying e = some (.int .u8)) (hC : P.cellsOf e = 1) (h : DataW.Trod enc P w 0 (fun _ => true) held t (.slice a len cap) d ps) :
    ∃ xs : List UInt8, xs.length = len ∧ Bts w a xs := by
  obtain ⟨rows, hl, hr, hx⟩ := open_rows ht (by omega) h
  rw [hC] at hr
  have hall : ∀ rows : List (List Value), (∀ r ∈ rows, ∃ n x, DataW.trod enc P w 0 (fun _ => true) held n e r = some x) → ∃ xs : List UInt8, rows = xs.map fun c => [Value.int .u8 c.toNat] := by
    intro rows
    induction rows with
    | nil => intro _; exact ⟨[], rfl⟩
    | cons r rows ih =>
      intro hx
      obtain ⟨xs, rfl⟩ := ih (fun r hr => hx r (List.mem_cons_of_mem _ hr))
      obtain ⟨n, x, hx0⟩ := hx r (List.mem_cons_self ..)
      obtain ⟨z, rfl, _, hw⟩ := DataW.trod_int he hx0
      have hz : 0 ≤ z ∧ z ≤ 255 := by simpa [Lit.wf, IntKind.min, IntKind.max, IntKind.signed, IntKind.bits] using hw
      refine ⟨z.toNat.toUInt8 :: xs, ?_⟩
      rw [List.map_cons, show (z.toNat.toUInt8).toNat = z.toNat by simp [Nat.toUInt8, UInt8.toNat_ofNat']; omega]
      congr 3
      omega
  obtain ⟨xs, rfl⟩ := hall rows hx
  refine ⟨xs, by simpa using hl, ?_⟩
  rcases hr with hr | ⟨b, off, rfl, _, hcell⟩
  · have : xs = [] := by simpa using hr
    subst this
    exact Bts.nil a
  · intro j u hu
    rw [MM.add_plain]
    have hu' : (xs.map fun c => [Value.int .u8 c.toNat])[j]? = some [u] := by
      simp only [bc, List.getElem?_map, Option.map_eq_some_iff] at hu ⊢
      obtain ⟨c, hc, rfl⟩ := hu
      exact ⟨c, hc, rfl⟩
    have := hcell j [u] hu' 0 u rfl
    simpa using this

end

theorem okWide_arr {P : Program} {w : World} {r : Reach} {base : Nat} {t e : TypeId} {n : Nat} {v : Value} (ht : P.underlying t = some (.array n e)) (h : Value.okWide P w r base t v) : ∃ cs, v = .agg cs ∧ cs.size = P.cellsOf t := by
  simp only [Value.okWide, ht] at h
  obtain ⟨cs, h1, h2, _⟩ := h
  exact ⟨cs, h1, h2⟩

/-- The byte that a value is. -/
def byteAt : Option Value → UInt8
  | some (Value.int _ z) => UInt8.ofNat z.toNat
  | _ => 0

set_option maxRecDepth 100000 in
/-- A sector. -/
theorem open_sec {H : Type} {enc : TypeId × Value → H} {w : World} {held : Bool} {r : Reach} {b0 : Nat} {v : Value} {d : DataW H} {ps : List MemPlace} (hv : Value.okWide Try.prog w r b0 40 v) (h : DataW.Trod enc Try.prog w 0 (fun _ => true) held 40 v d ps) :
    ∃ s : List UInt8, v = secv s ∧ s.length = 64 := by
  obtain ⟨cs, rfl, hsz⟩ := okWide_arr Try.underlying40 hv
  have hC : Try.prog.cellsOf 5 = 1 := by kernel_rfl
  have hC2 : Try.prog.cellsOf 40 = 64 := by kernel_rfl
  rw [hC2] at hsz
  obtain ⟨m, hm⟩ := h
  obtain ⟨xs, k, rfl, _, hlen, hn, hel⟩ := DataW.trod_array Try.underlying40 hm
  rw [hC] at hel
  obtain ⟨l⟩ := cs
  have hl : l.length = 64 := by simpa using hsz
  have hat : ∀ i, i < 64 → ∃ c : UInt8, l[i]? = some (.int .u8 c.toNat) := by
    intro i hi
    have h0 := hel i hi
    rw [List.getElem?_eq_getElem (by omega)] at h0
    obtain ⟨z, e0, _, w0⟩ := DataW.trod_int Try.underlying5 h0
    have hz : 0 ≤ z ∧ z ≤ 255 := by simpa [Lit.wf, IntKind.min, IntKind.max, IntKind.signed, IntKind.bits] using w0
    have e1 : (l.drop (i * 1)).take 1 = [Value.int .u8 z] := e0
    rw [Nat.mul_one, List.drop_eq_getElem_cons (by omega), List.take_succ_cons, List.take_zero] at e1
    refine ⟨z.toNat.toUInt8, ?_⟩
    rw [List.getElem?_eq_getElem (by omega)]
    injection e1 with e1 _
    rw [e1, show (z.toNat.toUInt8).toNat = z.toNat by simp [Nat.toUInt8, UInt8.toNat_ofNat']; omega]
    congr 2
    omega
  refine ⟨(List.range 64).map fun i => byteAt l[i]?, ?_, by simp⟩
  congr 1
  apply congrArg
  apply List.ext_getElem?
  intro i
  by_cases hi : i < 64
  · obtain ⟨c, hc⟩ := hat i hi
    simp only [bc, List.map_map, List.getElem?_map, List.getElem?_range hi, Option.map_some, Function.comp, hc, byteAt]
    simp
  · rw [List.getElem?_eq_none (by omega), List.getElem?_eq_none (by simp [bc]; omega)]

end Go.Proofs.Ytlaecnggbcagcaa
