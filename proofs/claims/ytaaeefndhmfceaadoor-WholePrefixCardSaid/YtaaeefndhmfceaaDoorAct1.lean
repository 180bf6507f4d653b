/- Contracts of package act: the table of kinds. -/
import Derived.Test.YtaaeefndhmfceaaDoorAc
import Derived.Test.YtaaeefndhmfceaaDoorRec6
import Derived.Lib.Walk
import Derived.Lib.Bytealg
namespace Go.Proofs.YtaaeefndhmfceaaDoor
open Go.RowKit MM

/-- What a kind of acts has, as the program lays it. -/
structure Row where
  name : ByteArray
  on : Int
  flds : ByteArray
  most : Int
  reads : Bool
def noRow : Row := ⟨⟨#[]⟩, 0, ⟨#[]⟩, 0, false⟩
def rowsT : Array Row := #[noRow,
  ⟨⟨#[110, 101, 119]⟩, 0, ⟨#[109]⟩, 0, false⟩,
  ⟨⟨#[100, 114, 111, 112]⟩, 0, ⟨#[]⟩, 0, false⟩,
  ⟨⟨#[105, 115]⟩, 0, ⟨#[]⟩, 0, true⟩,
  ⟨⟨#[108, 111, 111, 107]⟩, 0, ⟨#[]⟩, 0, true⟩,
  ⟨⟨#[112, 117, 116]⟩, 1, ⟨#[115]⟩, 64, false⟩,
  ⟨⟨#[115, 119, 97, 112]⟩, 1, ⟨#[115]⟩, 64, false⟩,
  ⟨⟨#[97, 100, 100]⟩, 2, ⟨#[110]⟩, 0, false⟩,
  ⟨⟨#[112, 108, 117, 115]⟩, 3, ⟨#[110]⟩, 0, false⟩,
  ⟨⟨#[114, 101, 97, 99, 104]⟩, 3, ⟨#[110]⟩, 0, true⟩,
  ⟨⟨#[105, 110]⟩, 4, ⟨#[110]⟩, 0, false⟩,
  ⟨⟨#[111, 117, 116]⟩, 4, ⟨#[110]⟩, 0, false⟩,
  ⟨⟨#[101, 110, 111, 117, 103, 104]⟩, 4, ⟨#[110]⟩, 0, true⟩,
  ⟨⟨#[114, 97, 105, 115, 101]⟩, 5, ⟨#[120]⟩, 0, false⟩,
  ⟨⟨#[108, 111, 119, 101, 114]⟩, 6, ⟨#[120]⟩, 0, false⟩,
  ⟨⟨#[115, 104, 105, 102, 116]⟩, 7, ⟨#[120]⟩, 0, false⟩,
  ⟨⟨#[115, 99, 97, 108, 101]⟩, 7, ⟨#[120]⟩, 0, false⟩,
  ⟨⟨#[102, 105, 120]⟩, 7, ⟨#[120]⟩, 0, false⟩,
  ⟨⟨#[106, 111, 105, 110]⟩, 8, ⟨#[115]⟩, 16, false⟩,
  ⟨⟨#[108, 101, 97, 118, 101]⟩, 8, ⟨#[115]⟩, 16, false⟩,
  ⟨⟨#[104, 97, 115]⟩, 8, ⟨#[115]⟩, 16, true⟩,
  ⟨⟨#[111, 102, 102, 101, 114]⟩, 9, ⟨#[120, 115]⟩, 16, false⟩]
def rowAt (k : Int) : Row := if 0 ≤ k ∧ k < 22 then rowsT[k.toNat]?.getD noRow else noRow
abbrev rowC (r : Row) : Array Value := #[.string r.name, .int .i64 r.on, .string r.flds, .int .i64 r.most, .bool r.reads]
def RowsAt (w : World) : Prop := ∀ i r, rowsT[i]? = some r → ∀ j v, (rowC r)[j]? = some v → w.cell? ⟨0, i * 5 + j, none⟩ = some v
theorem RowsAt.below {w w' : World} (h : RowsAt w) (hb : Below w.heap.size w w') : RowsAt w' := fun i r hr j v hv => below_keep hb (h i r hr j v hv)
def fld (k : Int) (c : UInt8) : Bool := decide (0 ≤ Lib.indexByte (rowAt k).flds.data.toList c)

theorem rowAt_no {k : Int} (h : AC.known k = false) : rowAt k = noRow := by
  unfold rowAt
  split
  · unfold AC.known at h
    simp at h
    have : k = 0 := by omega
    subst this; rfl
  · rfl
theorem at22 (P : Int → Prop) (h : ∀ j : Fin 22, P (j.val : Int)) (k : Int) (h0 : 0 ≤ k) (h1 : k < 22) : P k := by
  have := h ⟨k.toNat, by omega⟩
  rwa [show ((k.toNat : Nat) : Int) = k by omega] at this
theorem fld_no {k : Int} (h : ¬ (0 ≤ k ∧ k < 22)) (c : UInt8) : fld k c = false := by
  unfold fld rowAt
  rw [if_neg h]
  rfl
theorem fld_n (k : Int) : fld k 110 = AC.hasN k := by
  by_cases h : 0 ≤ k ∧ k < 22
  · exact at22 (fun k => fld k 110 = AC.hasN k) (by decide +kernel) k h.1 h.2
  · rw [fld_no h]; unfold AC.hasN; simp; omega
theorem fld_x (k : Int) : fld k 120 = AC.hasX k := by
  by_cases h : 0 ≤ k ∧ k < 22
  · exact at22 (fun k => fld k 120 = AC.hasX k) (by decide +kernel) k h.1 h.2
  · rw [fld_no h]; unfold AC.hasX; simp; omega
theorem fld_s (k : Int) : fld k 115 = AC.hasS k := by
  by_cases h : 0 ≤ k ∧ k < 22
  · exact at22 (fun k => fld k 115 = AC.hasS k) (by decide +kernel) k h.1 h.2
  · rw [fld_no h]; unfold AC.hasS; simp; omega
theorem fld_m (k : Int) : fld k 109 = AC.hasM k := by
  by_cases h : 0 ≤ k ∧ k < 22
  · exact at22 (fun k => fld k 109 = AC.hasM k) (by decide +kernel) k h.1 h.2
  · rw [fld_no h]; unfold AC.hasM; simp; omega
theorem most_row (k : Int) : (rowAt k).most = (AC.most k : Int) := by
  by_cases h : 0 ≤ k ∧ k < 22
  · exact at22 (fun k => (rowAt k).most = (AC.most k : Int)) (by decide +kernel) k h.1 h.2
  · unfold rowAt AC.most
    rw [if_neg h, if_neg (by omega), if_neg (by omega)]
    rfl

set_option maxHeartbeats 400000 in
theorem actKnown_any (k : Int) (w : World) :
    Calls Tryd.prog 99 #[.int .i64 k] w fun e w' => e = .returned (.bool (AC.known k)) ∧ w = w' := by
  unfold AC.known
  by_cases h : 0 < k
  · by_cases h2 : k < 22
    all_goals
      go_enter Tryd.func99, Tryd.ntmps99
      go_wp2_with fail
      go_ret
      simp [h, h2]
  · go_enter Tryd.func99, Tryd.ntmps99
    go_wp2_with fail
    go_ret
    simp
    omega

theorem rowAt_get {k : Int} (h0 : 0 ≤ k) (h1 : k < 22) : rowsT[k.toNat]? = some (rowAt k) := by
  unfold rowAt
  rw [if_pos ⟨h0, h1⟩]
  have : k.toNat < rowsT.size := by show k.toNat < 22; omega
  rw [Array.getElem?_eq_getElem this]; rfl

set_option maxHeartbeats 1000000 in
set_option maxRecDepth 100000 in
theorem rowOf_any (k : Int) (w : World) (hR : RowsAt w) :
    Calls Tryd.prog 49 #[.int .i64 k] w fun e w' => e = .returned (.agg (rowC (rowAt k))) ∧ Below w.heap.size w w' := by
  cases hk : AC.known k
  · have Hk := Lib.hid hk
    have Hr := Lib.hid (rowAt_no hk)
    clear hk hR
    go_enter Tryd.func49, Tryd.ntmps49
    go_wp2_with fail
    refine (actKnown_any k _).mono ?_
    rw [Hk.out]
    rintro e w' ⟨rfl, rfl⟩
    go_wp2_with fail
    refine bodyPost_ret (v := .agg (rowC noRow)) (by simp [results, Tryd.results49, go_sem, noRow]) rfl ⟨by rw [Hr.out], ?_⟩
    exact below1 w _
  · have Hk := Lib.hid hk
    unfold AC.known at hk
    simp at hk
    have h0 : 0 ≤ k := by omega
    have h1 : k < 22 := by omega
    have hc := hR _ _ (rowAt_get h0 h1)
    have d0 : w.cell? ⟨0, k.toNat * 5, none⟩ = some (.string (rowAt k).name) := hc 0 _ rfl
    have d1 : w.cell? ⟨0, k.toNat * 5 + 1, none⟩ = some (.int .i64 (rowAt k).on) := hc 1 _ rfl
    have d2 : w.cell? ⟨0, k.toNat * 5 + 2, none⟩ = some (.string (rowAt k).flds) := hc 2 _ rfl
    have d3 : w.cell? ⟨0, k.toNat * 5 + 3, none⟩ = some (.int .i64 (rowAt k).most) := hc 3 _ rfl
    have d4 : w.cell? ⟨0, k.toNat * 5 + 4, none⟩ = some (.bool (rowAt k).reads) := hc 4 _ rfl
    have hlt : 0 < w.heap.size := World.block_lt_of_cell? w _ d0
    clear hk hR hc
    generalize rowAt k = r at *
    go_enter Tryd.func49, Tryd.ntmps49
    go_wp2_with fail
    refine (actKnown_any k _).mono ?_
    rw [Hk.out]
    rintro e w' ⟨rfl, rfl⟩
    go_wp2_with fail
    refine bodyPost_ret (v := .agg (rowC r)) (by simp [results, Tryd.results49, go_sem]) rfl ⟨rfl, ?_⟩
    exact below1 w _

theorem row_field (r : Row) (w : World) : (Instr.field 75 (.agg (rowC r)) 0).run Tryd.prog w = .ok (.string r.name) w ∧ (Instr.field 75 (.agg (rowC r)) 1).run Tryd.prog w = .ok (.int .i64 r.on) w ∧
    (Instr.field 75 (.agg (rowC r)) 2).run Tryd.prog w = .ok (.string r.flds) w ∧ (Instr.field 75 (.agg (rowC r)) 3).run Tryd.prog w = .ok (.int .i64 r.most) w ∧ (Instr.field 75 (.agg (rowC r)) 4).run Tryd.prog w = .ok (.bool r.reads) w :=
  ⟨by kernel_rfl, by kernel_rfl, by kernel_rfl, by kernel_rfl, by kernel_rfl⟩

set_option maxHeartbeats 1000000 in
theorem actOn_any (k : Int) (w : World) (hR : RowsAt w) :
    Calls Tryd.prog 58 #[.int .i64 k] w fun e w' => e = .returned (.int .i64 (rowAt k).on) ∧ Below w.heap.size w w' := by
  have HR := Lib.hid (rowOf_any k w hR)
  have hf := fun w => (row_field (rowAt k) w).2.1
  clear hR
  generalize rowAt k = r at *
  go_enter Tryd.func58, Tryd.ntmps58
  go_wp2_with fail
  refine HR.out.mono ?_
  rintro e w1 ⟨rfl, hb⟩
  go_wp2_with fail
  go_ret
  exact ⟨rfl, hb⟩

set_option maxHeartbeats 1000000 in
theorem actReads_any (k : Int) (w : World) (hR : RowsAt w) :
    Calls Tryd.prog 15 #[.int .i64 k] w fun e w' => e = .returned (.bool (rowAt k).reads) ∧ Below w.heap.size w w' := by
  have HR := Lib.hid (rowOf_any k w hR)
  have hf := fun w => (row_field (rowAt k) w).2.2.2.2
  clear hR
  generalize rowAt k = r at *
  go_enter Tryd.func15, Tryd.ntmps15
  go_wp2_with fail
  refine HR.out.mono ?_
  rintro e w1 ⟨rfl, hb⟩
  go_wp2_with fail
  go_ret
  exact ⟨rfl, hb⟩

set_option maxHeartbeats 1000000 in
theorem mostOfS_any (k : Int) (w : World) (hR : RowsAt w) :
    Calls Tryd.prog 105 #[.int .i64 k] w fun e w' => e = .returned (.int .i64 (AC.most k : Nat)) ∧ Below w.heap.size w w' := by
  have HR := Lib.hid (rowOf_any k w hR)
  have hf := fun w => (row_field (rowAt k) w).2.2.2.1
  have HM := Lib.hid (most_row k)
  clear hR
  generalize rowAt k = r at *
  go_enter Tryd.func105, Tryd.ntmps105
  go_wp2_with fail
  refine HR.out.mono ?_
  rintro e w1 ⟨rfl, hb⟩
  go_wp2_with fail
  go_ret
  exact ⟨by rw [HM.out]; rfl, hb⟩

set_option maxHeartbeats 1000000 in
set_option maxRecDepth 100000 in
theorem liteIndex_any (s : ByteArray) (c : Int) (w : World) :
    Calls Tryd.prog 132 #[.string s, .int .u8 c] w fun e w' => e = .returned (.int .i64 (Lib.indexByte s.data.toList c.toNat.toUInt8)) ∧ w = w' := by
  go_enter Tryd.func132, Tryd.ntmps132
  go_wp2
  rw [run_callFunc_extern Tryd.func134 (by kernel_rfl) (by kernel_rfl) (by kernel_rfl) (e := Extern.BytealgIndexByte.indexByte) (by kernel_rfl), Lib.run_indexByteString]
  simp only [Result.andThen]
  rw [Oper.upon_value]
  go_wp2
  go_ret
  exact ⟨rfl, rfl⟩

set_option maxHeartbeats 1000000 in
theorem indexByte_any (s : ByteArray) (c : Int) (w : World) :
    Calls Tryd.prog 127 #[.string s, .int .u8 c] w fun e w' => e = .returned (.int .i64 (Lib.indexByte s.data.toList c.toNat.toUInt8)) ∧ w = w' := by
  go_enter Tryd.func127, Tryd.ntmps127
  go_wp2_with fail
  refine (liteIndex_any _ _ _).mono ?_
  rintro e w' ⟨rfl, rfl⟩
  go_wp2_with fail
  go_ret
  exact ⟨rfl, rfl⟩

set_option maxHeartbeats 1000000 in
theorem field_any (k : Int) (c : Nat) (w : World) (hR : RowsAt w) :
    Calls Tryd.prog 110 #[.int .i64 k, .int .u8 c] w fun e w' => e = .returned (.bool (fld k c.toUInt8)) ∧ Below w.heap.size w w' := by
  have HR := Lib.hid (rowOf_any k w hR)
  have hf := fun w => (row_field (rowAt k) w).2.2.1
  unfold fld
  clear hR
  generalize rowAt k = r at *
  go_enter Tryd.func110, Tryd.ntmps110
  go_wp2_with fail
  refine HR.out.mono ?_
  rintro e w1 ⟨rfl, hb⟩
  go_wp2_with fail
  refine (indexByte_any _ _ _).mono ?_
  rintro e w2 ⟨rfl, rfl⟩
  go_wp2_with fail
  go_ret
  exact ⟨rfl, hb⟩
theorem field_is (k : Int) (c : Nat) (b : Bool) (w : World) (hR : RowsAt w) (h : fld k c.toUInt8 = b) :
    Calls Tryd.prog 110 #[.int .i64 k, .int .u8 c] w fun e w' => e = .returned (.bool b) ∧ Below w.heap.size w w' := by
  subst h; exact field_any k c w hR

end Go.Proofs.YtaaeefndhmfceaaDoor
