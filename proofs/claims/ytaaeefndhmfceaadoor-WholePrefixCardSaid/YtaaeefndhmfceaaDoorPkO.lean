/- Arguments opened: slices of bytes, of yes and no, of floating numbers, of parts. -/
import Derived.Test.YtaaeefndhmfceaaDoorPkF
import Derived.ProofKit
import Derived.OpenShut
import Derived.Deep.Slices
import Derived.Deep.Fields
namespace Go.Proofs.YtaaeefndhmfceaaDoor
open Go.ChangeShapes Go.WideShapes Go.ChangeAt Go.RowKit Go.Deep MM

/-- A slice whose elements have so many cells each reads as rows. -/
def Rws (w : World) (size : Nat) (A : Option Addr) (rows : List (List Value)) : Prop :=
  rows = [] ∨ ∃ b off, A = some ⟨b, off, none⟩ ∧ b < w.heap.size ∧ ∀ i r, rows[i]? = some r → ∀ j v, r[j]? = some v → w.cell? ⟨b, off + i * size + j, none⟩ = some v

section
variable {H : Type} {enc : TypeId × Value → H} {P : Program} {w : World} {base : Nat} {spare : Nat → Bool} {held : Bool}

theorem trod_flo {t : TypeId} {k : FloatKind} {fuel : Nat} {cs : List Value} {x : DataW H × List MemPlace} (ht : P.underlying t = some (.float k)) (h : DataW.trod enc P w base spare held fuel t cs = some x) :
    ∃ b, cs = [.float k b] ∧ (Lit.float k b).wf = true := by
  cases fuel with
  | zero => simp [DataW.trod] at h
  | succ n =>
    unfold DataW.trod at h
    rw [ht] at h
    split at h <;> simp_all

/-- The rows of a slice, each with its reading. -/
theorem open_rows {t e : TypeId} {a : Option Addr} {len cap : Nat} {d : DataW H} {ps : List MemPlace} (ht : P.underlying t = some (.slice e)) (hC : 0 < P.cellsOf e) (h : DataW.Trod enc P w 0 (fun _ => true) held t (.slice a len cap) d ps) :
    ∃ rows : List (List Value), rows.length = len ∧ Rws w (P.cellsOf e) a rows ∧ (∀ r ∈ rows, ∃ n x, DataW.trod enc P w 0 (fun _ => true) held n e r = some x) := by
  obtain ⟨fuel, hf⟩ := h
  rcases open_slice ht hf with ⟨hcs, _⟩ | ⟨ad, len', cap', m, n, D, Pl, hcs, hb, hl, hm, hmm, hx, hi⟩
  · simp [Value.cells] at hcs
    obtain ⟨rfl, rfl, rfl⟩ := hcs
    exact ⟨[], rfl, .inl rfl, fun r hr => by cases hr⟩
  · simp [Value.cells] at hcs
    obtain ⟨rfl, rfl, rfl⟩ := hcs
    have hm' : m = cap := by rw [hmm, if_pos rfl]
    by_cases h0 : len = 0
    · subst h0
      exact ⟨[], rfl, .inl rfl, fun r hr => by cases hr⟩
    · have key : ∀ i, i < len → ∃ r : List Value, w.cells? 0 (ad.add (i * P.cellsOf e)) (P.cellsOf e) = some r ∧ ∃ x, DataW.trod enc P w 0 (fun _ => true) held n e r = some x := by
        intro i hil
        obtain ⟨cs', h1, h2⟩ := hi i (by omega)
        exact ⟨cs', h1, _, h2⟩
      refine ⟨(List.range len).map (fun i => (w.cells? 0 (ad.add (i * P.cellsOf e)) (P.cellsOf e)).getD []), by simp, .inr ?_, ?_⟩
      · obtain ⟨r0, hr0, _⟩ := key 0 (by omega)
        obtain ⟨_, hlen0, hat0⟩ := World.cells?_some hr0
        have hc0 := hat0 0 hC
        rw [List.getElem?_eq_getElem (by omega)] at hc0
        obtain ⟨b, off, spot⟩ := ad
        have hspot : spot = none := by simpa [Addr.add] using World.cell?_spot hc0
        subst hspot
        have hblk : b < w.heap.size := by
          have := World.block_lt_of_cell? w _ hc0
          simpa [Addr.add] using this
        refine ⟨b, off, rfl, hblk, fun i r hr j v hv => ?_⟩
        simp only [List.getElem?_map, Option.map_eq_some_iff] at hr
        obtain ⟨i', hi', rfl⟩ := hr
        obtain ⟨hil, rfl⟩ : i < len ∧ i' = i := by
          rw [List.getElem?_eq_some_iff] at hi'
          obtain ⟨h1, h2⟩ := hi'
          simp at h1 h2
          exact ⟨h1, h2.symm⟩
        obtain ⟨r1, hr1, _⟩ := key i' hil
        rw [hr1] at hv
        obtain ⟨_, hlen1, hat1⟩ := World.cells?_some hr1
        have hjl : j < P.cellsOf e := by
          have := (List.getElem?_eq_some_iff.1 hv).1
          simp at this
          omega
        have := hat1 j hjl
        rw [MM.add_plain, MM.add_plain] at this
        rw [this]
        exact hv
      · intro r hr
        simp only [List.mem_map, List.mem_range] at hr
        obtain ⟨i, hil, rfl⟩ := hr
        obtain ⟨r1, hr1, x, hx1⟩ := key i hil
        rw [hr1]
        exact ⟨n, x, hx1⟩

/-- Bytes. -/
theorem open_bytes {t e : TypeId} {a : Option Addr} {len cap : Nat} {d : DataW H} {ps : List MemPlace} (ht : P.underlying t = some (.slice e)) (he : P.underlying e = some (.int .u8)) (hC : P.cellsOf e = 1) (h : DataW.Trod enc P w 0 (fun _ => true) held t (.slice a len cap) d ps) :
    ∃ xs : List UInt8, xs.length = len ∧ Bts w a xs := by
  obtain ⟨rows, hl, hr, hx⟩ := open_rows ht (by omega) h
  rw [hC] at hr
  have hall : ∀ rows : List (List Value), (∀ r ∈ rows, ∃ n x, DataW.trod enc P w 0 (fun _ => true) held n e r = some x) → ∃ xs : List UInt8, rows = xs.map fun c => [Value.int .u8 c.toNat] := by
    intro rows
    induction rows with
    | nil => intro _; exact ⟨[], rfl⟩
    | cons r rows ih =>
      intro hx
      obtain ⟨xs, rfl⟩ := ih (fun r hr => hx r (List.mem_cons_of_mem _ hr))
      obtain ⟨n, x, hx0⟩ := hx r (List.mem_cons_self ..)
      obtain ⟨z, rfl, _, hw⟩ := DataW.trod_int he hx0
      have hz : 0 ≤ z ∧ z ≤ 255 := by simpa [Lit.wf, IntKind.min, IntKind.max, IntKind.signed, IntKind.bits] using hw
      refine ⟨z.toNat.toUInt8 :: xs, ?_⟩
      rw [List.map_cons, PK.toUInt8_toNat (by omega)]
      congr 3
      omega
  obtain ⟨xs, rfl⟩ := hall rows hx
  refine ⟨xs, by simpa using hl, ?_⟩
  rcases hr with hr | ⟨b, off, rfl, _, hcell⟩
  · have : xs = [] := by simpa using hr
    subst this
    exact Bts.nil a
  · intro j u hu
    rw [MM.add_plain]
    have hu' : (xs.map fun c => [Value.int .u8 c.toNat])[j]? = some [u] := by
      simp only [bc, List.getElem?_map, Option.map_eq_some_iff] at hu ⊢
      obtain ⟨c, hc, rfl⟩ := hu
      exact ⟨c, hc, rfl⟩
    have := hcell j [u] hu' 0 u rfl
    simpa using this

/-- Yes and no. -/
def Bls (w : World) (A : Option Addr) (ys : List Bool) : Prop :=
  ys = [] ∨ ∃ b off, A = some ⟨b, off, none⟩ ∧ b < w.heap.size ∧ ∀ i y, ys[i]? = some y → w.cell? ⟨b, off + i, none⟩ = some (.bool y)
theorem open_bools {t e : TypeId} {a : Option Addr} {len cap : Nat} {d : DataW H} {ps : List MemPlace} (ht : P.underlying t = some (.slice e)) (he : P.underlying e = some .bool) (hC : P.cellsOf e = 1) (h : DataW.Trod enc P w 0 (fun _ => true) held t (.slice a len cap) d ps) :
    ∃ ys : List Bool, ys.length = len ∧ Bls w a ys := by
  obtain ⟨rows, hl, hr, hx⟩ := open_rows ht (by omega) h
  rw [hC] at hr
  have hall : ∀ rows : List (List Value), (∀ r ∈ rows, ∃ n x, DataW.trod enc P w 0 (fun _ => true) held n e r = some x) → ∃ ys : List Bool, rows = ys.map fun y => [Value.bool y] := by
    intro rows
    induction rows with
    | nil => intro _; exact ⟨[], rfl⟩
    | cons r rows ih =>
      intro hx
      obtain ⟨xs, rfl⟩ := ih (fun r hr => hx r (List.mem_cons_of_mem _ hr))
      obtain ⟨n, x, hx0⟩ := hx r (List.mem_cons_self ..)
      obtain ⟨z, rfl, _⟩ := DataW.trod_bool he hx0
      exact ⟨z :: xs, rfl⟩
  obtain ⟨ys, rfl⟩ := hall rows hx
  refine ⟨ys, by simpa using hl, ?_⟩
  rcases hr with hr | ⟨b, off, rfl, hb, hcell⟩
  · exact .inl (by simpa using hr)
  · refine .inr ⟨b, off, rfl, hb, fun j u hu => ?_⟩
    have := hcell j [.bool u] (by simp [hu]) 0 _ rfl
    simpa using this

/-- Floating numbers. -/
def Fls (w : World) (A : Option Addr) (ys : List Nat) : Prop :=
  ys = [] ∨ ∃ b off, A = some ⟨b, off, none⟩ ∧ b < w.heap.size ∧ ∀ i y, ys[i]? = some y → w.cell? ⟨b, off + i, none⟩ = some (.float .f64 y)
theorem open_floats {t e : TypeId} {a : Option Addr} {len cap : Nat} {d : DataW H} {ps : List MemPlace} (ht : P.underlying t = some (.slice e)) (he : P.underlying e = some (.float .f64)) (hC : P.cellsOf e = 1) (h : DataW.Trod enc P w 0 (fun _ => true) held t (.slice a len cap) d ps) :
    ∃ ys : List Nat, ys.length = len ∧ (∀ y ∈ ys, MF.W64 y) ∧ Fls w a ys := by
  obtain ⟨rows, hl, hr, hx⟩ := open_rows ht (by omega) h
  rw [hC] at hr
  have hall : ∀ rows : List (List Value), (∀ r ∈ rows, ∃ n x, DataW.trod enc P w 0 (fun _ => true) held n e r = some x) → ∃ ys : List Nat, rows = (ys.map fun y => [Value.float .f64 y]) ∧ ∀ y ∈ ys, MF.W64 y := by
    intro rows
    induction rows with
    | nil => intro _; exact ⟨[], rfl, fun y hy => by cases hy⟩
    | cons r rows ih =>
      intro hx
      obtain ⟨xs, rfl, hxs⟩ := ih (fun r hr => hx r (List.mem_cons_of_mem _ hr))
      obtain ⟨n, x, hx0⟩ := hx r (List.mem_cons_self ..)
      obtain ⟨z, rfl, hz⟩ := trod_flo he hx0
      refine ⟨z :: xs, rfl, fun y hy => ?_⟩
      rcases List.mem_cons.1 hy with rfl | hy
      · simp only [Lit.wf, decide_eq_true_eq] at hz
        exact hz
      · exact hxs y hy
  obtain ⟨ys, rfl, hys⟩ := hall rows hx
  refine ⟨ys, by simpa using hl, hys, ?_⟩
  rcases hr with hr | ⟨b, off, rfl, hb, hcell⟩
  · exact .inl (by simpa using hr)
  · refine .inr ⟨b, off, rfl, hb, fun j u hu => ?_⟩
    have := hcell j [.float .f64 u] (by simp [hu]) 0 _ rfl
    simpa using this
end

end Go.Proofs.YtaaeefndhmfceaaDoor
/- Small facts that every frame wants. -/
namespace MF
open Go
theorem w_of_wf {b : Nat} (h : (Lit.float .f64 b).wf = true) : W64 b := by
  simp only [Lit.wf, decide_eq_true_eq] at h
  exact h
end MF
namespace Go.Proofs.YtaaeefndhmfceaaDoor

theorem own : ownKnob Tryd.prog.godebug = none := by kernel_rfl
theorem laidOut : laidOutB Tryd.prog = true := by kernel_rfl

end Go.Proofs.YtaaeefndhmfceaaDoor
/- A slice that comes in is no longer than its room. -/
namespace Go.Proofs.YtaaeefndhmfceaaDoor
open Go.ChangeShapes Go.WideShapes Go.ChangeAt Go.RowKit Go.Deep

theorem open_cap {H : Type} {enc : TypeId × Value → H} {P : Program} {w : World} {held : Bool} {t e : TypeId} {a : Option Addr} {len cap : Nat} {d : DataW H} {ps : List MemPlace} (ht : P.underlying t = some (.slice e)) (h : DataW.Trod enc P w 0 (fun _ => true) held t (.slice a len cap) d ps) : len ≤ cap := by
  obtain ⟨fuel, hf⟩ := h
  rcases open_slice ht hf with ⟨hcs, _⟩ | ⟨ad, len', cap', m, n, D, Pl, hcs, hb, hl, hm, hmm, hx, hi⟩
  · simp [Value.cells] at hcs
    obtain ⟨rfl, rfl, rfl⟩ := hcs
    exact Nat.le_refl _
  · simp [Value.cells] at hcs
    obtain ⟨rfl, rfl, rfl⟩ := hcs
    exact hl

end Go.Proofs.YtaaeefndhmfceaaDoor
