/- Contracts of package act: the table of kinds. -/
import Derived.Test.YtbkcmnmbcldjoaaGreatDoorRcMP7d
import Derived.Test.YtbkcmnmbcldjoaaGreatDoorRecMP7d
import Derived.Lib.Walk
import Derived.Lib.Bytealg
import Derived.Deep.RegionHeld3
namespace Go.Proofs.YtbkcmnmbcldjoaaGreatDoor
open Go.RowKit MM
/-- What a kind of acts has, as the program lays it. -/
structure Row where
  name : ByteArray
  on : Int
  flds : ByteArray
  most : Int
  reads : Bool
def noRow : Row := ⟨⟨#[]⟩, 0, ⟨#[]⟩, 0, false⟩
def rowsT : Array Row := #[noRow,
  ⟨⟨#[110, 101, 119]⟩, 0, ⟨#[109]⟩, 0, false⟩,
  ⟨⟨#[100, 114, 111, 112]⟩, 0, ⟨#[]⟩, 0, false⟩,
  ⟨⟨#[105, 115]⟩, 0, ⟨#[]⟩, 0, true⟩,
  ⟨⟨#[108, 111, 111, 107]⟩, 0, ⟨#[]⟩, 0, true⟩,
  ⟨⟨#[112, 117, 116]⟩, 1, ⟨#[115]⟩, 64, false⟩,
  ⟨⟨#[115, 119, 97, 112]⟩, 1, ⟨#[115]⟩, 64, false⟩,
  ⟨⟨#[97, 100, 100]⟩, 2, ⟨#[110]⟩, 0, false⟩,
  ⟨⟨#[112, 108, 117, 115]⟩, 3, ⟨#[110]⟩, 0, false⟩,
  ⟨⟨#[114, 101, 97, 99, 104]⟩, 3, ⟨#[110]⟩, 0, true⟩,
  ⟨⟨#[105, 110]⟩, 4, ⟨#[110]⟩, 0, false⟩,
  ⟨⟨#[111, 117, 116]⟩, 4, ⟨#[110]⟩, 0, false⟩,
  ⟨⟨#[101, 110, 111, 117, 103, 104]⟩, 4, ⟨#[110]⟩, 0, true⟩,
  ⟨⟨#[114, 97, 105, 115, 101]⟩, 5, ⟨#[120]⟩, 0, false⟩,
  ⟨⟨#[108, 111, 119, 101, 114]⟩, 6, ⟨#[120]⟩, 0, false⟩,
  ⟨⟨#[115, 104, 105, 102, 116]⟩, 7, ⟨#[120]⟩, 0, false⟩,
  ⟨⟨#[115, 99, 97, 108, 101]⟩, 7, ⟨#[120]⟩, 0, false⟩,
  ⟨⟨#[102, 105, 120]⟩, 7, ⟨#[120]⟩, 0, false⟩,
  ⟨⟨#[106, 111, 105, 110]⟩, 8, ⟨#[115]⟩, 16, false⟩,
  ⟨⟨#[108, 101, 97, 118, 101]⟩, 8, ⟨#[115]⟩, 16, false⟩,
  ⟨⟨#[104, 97, 115]⟩, 8, ⟨#[115]⟩, 16, true⟩,
  ⟨⟨#[111, 102, 102, 101, 114]⟩, 9, ⟨#[120, 115]⟩, 16, false⟩]
def rowAt (k : Int) : Row := if 0 ≤ k ∧ k < 22 then rowsT[k.toNat]?.getD noRow else noRow
abbrev rowC (r : Row) : Array Value := #[.string r.name, .int .i64 r.on, .string r.flds, .int .i64 r.most, .bool r.reads]
def RowsAt (w : World) : Prop := ∀ i r, rowsT[i]? = some r → ∀ j v, (rowC r)[j]? = some v → w.cell? ⟨1, i * 5 + j, none⟩ = some v
theorem RowsAt.below {w w' : World} (h : RowsAt w) (hb : Below w.heap.size w w') : RowsAt w' := fun i r hr j v hv => below_keep hb (h i r hr j v hv)
def fld (k : Int) (c : UInt8) : Bool := decide (0 ≤ Lib.indexByte (rowAt k).flds.data.toList c)
theorem rowAt_no {k : Int} (h : AC.known k = false) : rowAt k = noRow := by
  unfold rowAt
  split
  · unfold AC.known at h
    simp at h
    have : k = 0 := by omega
    subst this; rfl
  · rfl
theorem at22 (P : Int → Prop) (h : ∀ j : Fin 22, P (j.val : Int)) (k : Int) (h0 : 0 ≤ k) (h1 : k < 22) : P k := by
  have := h ⟨k.toNat, by omega⟩
  rwa [show ((k.toNat : Nat) : Int) = k by omega] at this
theorem fld_no {k : Int} (h : ¬ (0 ≤ k ∧ k < 22)) (c : UInt8) : fld k c = false := by
  unfold fld rowAt
  rw [if_neg h]
  rfl
theorem fld_n (k : Int) : fld k 110 = AC.hasN k := by
  by_cases h : 0 ≤ k ∧ k < 22
  · exact at22 (fun k => fld k 110 = AC.hasN k) (by decide +kernel) k h.1 h.2
  · rw [fld_no h]; unfold AC.hasN; simp; omega
theorem fld_x (k : Int) : fld k 120 = AC.hasX k := by
  by_cases h : 0 ≤ k ∧ k < 22
  · exact at22 (fun k => fld k 120 = AC.hasX k) (by decide +kernel) k h.1 h.2
  · rw [fld_no h]; unfold AC.hasX; simp; omega
theorem fld_s (k : Int) : fld k 115 = AC.hasS k := by
  by_cases h : 0 ≤ k ∧ k < 22
  · exact at22 (fun k => fld k 115 = AC.hasS k) (by decide +kernel) k h.1 h.2
  · rw [fld_no h]; unfold AC.hasS; simp; omega
theorem fld_m (k : Int) : fld k 109 = AC.hasM k := by
  by_cases h : 0 ≤ k ∧ k < 22
  · exact at22 (fun k => fld k 109 = AC.hasM k) (by decide +kernel) k h.1 h.2
  · rw [fld_no h]; unfold AC.hasM; simp; omega
theorem most_row (k : Int) : (rowAt k).most = (AC.most k : Int) := by
  by_cases h : 0 ≤ k ∧ k < 22
  · exact at22 (fun k => (rowAt k).most = (AC.most k : Int)) (by decide +kernel) k h.1 h.2
  · unfold rowAt AC.most
    rw [if_neg h, if_neg (by omega), if_neg (by omega)]
    rfl
set_option maxHeartbeats 400000 in
theorem actKnown_any (k : Int) (w : World) :
    Calls Tryz.prog 110 #[.int .i64 k] w fun e w' => e = .returned (.bool (AC.known k)) ∧ w = w' := by
  unfold AC.known
  by_cases h : 0 < k
  · by_cases h2 : k < 22
    all_goals
      go_enter Tryz.func110, Tryz.ntmps110
      go_wp2_with fail
      go_ret
      simp [h, h2]
  · go_enter Tryz.func110, Tryz.ntmps110
    go_wp2_with fail
    go_ret
    simp
    omega
theorem rowAt_get {k : Int} (h0 : 0 ≤ k) (h1 : k < 22) : rowsT[k.toNat]? = some (rowAt k) := by
  unfold rowAt
  rw [if_pos ⟨h0, h1⟩]
  have : k.toNat < rowsT.size := by show k.toNat < 22; omega
  rw [Array.getElem?_eq_getElem this]; rfl
set_option maxHeartbeats 1000000 in
set_option maxRecDepth 100000 in
theorem rowOf_any (k : Int) (w : World) (hR : RowsAt w) :
    Calls Tryz.prog 79 #[.int .i64 k] w fun e w' => e = .returned (.agg (rowC (rowAt k))) ∧ Below w.heap.size w w' := by
  cases hk : AC.known k
  · have Hk := Lib.hid hk
    have Hr := Lib.hid (rowAt_no hk)
    clear hk hR
    go_enter Tryz.func79, Tryz.ntmps79
    go_wp2_with fail
    refine (actKnown_any k _).mono ?_
    rw [Hk.out]
    rintro e w' ⟨rfl, rfl⟩
    go_wp2_with fail
    refine bodyPost_ret (v := .agg (rowC noRow)) (by simp [results, Tryz.results79, go_sem, noRow]) rfl ⟨by rw [Hr.out], ?_⟩
    exact below1 w _
  · have Hk := Lib.hid hk
    unfold AC.known at hk
    simp at hk
    have h0 : 0 ≤ k := by omega
    have h1 : k < 22 := by omega
    have hc := hR _ _ (rowAt_get h0 h1)
    have d0 : w.cell? ⟨1, k.toNat * 5, none⟩ = some (.string (rowAt k).name) := hc 0 _ rfl
    have d1 : w.cell? ⟨1, k.toNat * 5 + 1, none⟩ = some (.int .i64 (rowAt k).on) := hc 1 _ rfl
    have d2 : w.cell? ⟨1, k.toNat * 5 + 2, none⟩ = some (.string (rowAt k).flds) := hc 2 _ rfl
    have d3 : w.cell? ⟨1, k.toNat * 5 + 3, none⟩ = some (.int .i64 (rowAt k).most) := hc 3 _ rfl
    have d4 : w.cell? ⟨1, k.toNat * 5 + 4, none⟩ = some (.bool (rowAt k).reads) := hc 4 _ rfl
    have hlt : 1 < w.heap.size := World.block_lt_of_cell? w _ d0
    clear hk hR hc
    generalize rowAt k = r at *
    go_enter Tryz.func79, Tryz.ntmps79
    go_wp2_with fail
    refine (actKnown_any k _).mono ?_
    rw [Hk.out]
    rintro e w' ⟨rfl, rfl⟩
    go_wp2_with fail
    refine bodyPost_ret (v := .agg (rowC r)) (by simp [results, Tryz.results79, go_sem]) rfl ⟨rfl, ?_⟩
    exact below1 w _
theorem row_field (r : Row) (w : World) : (Instr.field 125 (.agg (rowC r)) 0).run Tryz.prog w = .ok (.string r.name) w ∧ (Instr.field 125 (.agg (rowC r)) 1).run Tryz.prog w = .ok (.int .i64 r.on) w ∧
    (Instr.field 125 (.agg (rowC r)) 2).run Tryz.prog w = .ok (.string r.flds) w ∧ (Instr.field 125 (.agg (rowC r)) 3).run Tryz.prog w = .ok (.int .i64 r.most) w ∧ (Instr.field 125 (.agg (rowC r)) 4).run Tryz.prog w = .ok (.bool r.reads) w :=
  ⟨by kernel_rfl, by kernel_rfl, by kernel_rfl, by kernel_rfl, by kernel_rfl⟩
set_option maxHeartbeats 1000000 in
theorem actOn_any (k : Int) (w : World) (hR : RowsAt w) :
    Calls Tryz.prog 41 #[.int .i64 k] w fun e w' => e = .returned (.int .i64 (rowAt k).on) ∧ Below w.heap.size w w' := by
  have HR := Lib.hid (rowOf_any k w hR)
  have hf := fun w => (row_field (rowAt k) w).2.1
  clear hR
  generalize rowAt k = r at *
  go_enter Tryz.func41, Tryz.ntmps41
  go_wp2_with fail
  refine HR.out.mono ?_
  rintro e w1 ⟨rfl, hb⟩
  go_wp2_with fail
  go_ret
  exact ⟨rfl, hb⟩
set_option maxHeartbeats 1000000 in
theorem mostOfS_any (k : Int) (w : World) (hR : RowsAt w) :
    Calls Tryz.prog 142 #[.int .i64 k] w fun e w' => e = .returned (.int .i64 (AC.most k : Nat)) ∧ Below w.heap.size w w' := by
  have HR := Lib.hid (rowOf_any k w hR)
  have hf := fun w => (row_field (rowAt k) w).2.2.2.1
  have HM := Lib.hid (most_row k)
  clear hR
  generalize rowAt k = r at *
  go_enter Tryz.func142, Tryz.ntmps142
  go_wp2_with fail
  refine HR.out.mono ?_
  rintro e w1 ⟨rfl, hb⟩
  go_wp2_with fail
  go_ret
  exact ⟨by rw [HM.out]; rfl, hb⟩
set_option maxHeartbeats 1000000 in
set_option maxRecDepth 100000 in
theorem liteIndex_any (s : ByteArray) (c : Int) (w : World) :
    Calls Tryz.prog 159 #[.string s, .int .u8 c] w fun e w' => e = .returned (.int .i64 (Lib.indexByte s.data.toList c.toNat.toUInt8)) ∧ w = w' := by
  go_enter Tryz.func159, Tryz.ntmps159
  go_wp2
  rw [run_callFunc_extern Tryz.func161 (by kernel_rfl) (by kernel_rfl) (by kernel_rfl) (e := Extern.BytealgIndexByte.indexByte) (by kernel_rfl), Lib.run_indexByteString]
  simp only [Result.andThen]
  rw [Oper.upon_value]
  go_wp2
  go_ret
  exact ⟨rfl, rfl⟩
set_option maxHeartbeats 1000000 in
theorem indexByte_any (s : ByteArray) (c : Int) (w : World) :
    Calls Tryz.prog 157 #[.string s, .int .u8 c] w fun e w' => e = .returned (.int .i64 (Lib.indexByte s.data.toList c.toNat.toUInt8)) ∧ w = w' := by
  go_enter Tryz.func157, Tryz.ntmps157
  go_wp2_with fail
  refine (liteIndex_any _ _ _).mono ?_
  rintro e w' ⟨rfl, rfl⟩
  go_wp2_with fail
  go_ret
  exact ⟨rfl, rfl⟩
set_option maxHeartbeats 1000000 in
theorem field_any (k : Int) (c : Nat) (w : World) (hR : RowsAt w) :
    Calls Tryz.prog 153 #[.int .i64 k, .int .u8 c] w fun e w' => e = .returned (.bool (fld k c.toUInt8)) ∧ Below w.heap.size w w' := by
  have HR := Lib.hid (rowOf_any k w hR)
  have hf := fun w => (row_field (rowAt k) w).2.2.1
  unfold fld
  clear hR
  generalize rowAt k = r at *
  go_enter Tryz.func153, Tryz.ntmps153
  go_wp2_with fail
  refine HR.out.mono ?_
  rintro e w1 ⟨rfl, hb⟩
  go_wp2_with fail
  refine (indexByte_any _ _ _).mono ?_
  rintro e w2 ⟨rfl, rfl⟩
  go_wp2_with fail
  go_ret
  exact ⟨rfl, hb⟩
theorem field_is (k : Int) (c : Nat) (b : Bool) (w : World) (hR : RowsAt w) (h : fld k c.toUInt8 = b) :
    Calls Tryz.prog 153 #[.int .i64 k, .int .u8 c] w fun e w' => e = .returned (.bool b) ∧ Below w.heap.size w w' := by
  subst h; exact field_any k c w hR
end Go.Proofs.YtbkcmnmbcldjoaaGreatDoor
namespace Go.Proofs.YtbkcmnmbcldjoaaGreatDoor
open Go.RowKit MM
abbrev actC (a : AC.Ac) (A : Option Addr) (c : Nat) : Array Value := #[.int .i64 a.kind, .string a.key, .int .i64 a.n, .float .f64 a.x, .string a.s, .int .i64 a.make.kind, .int .i64 a.make.num, .int .i64 a.make.low, .int .i64 a.make.high, .float .f64 a.make.real, .int .i64 a.make.cap, .string a.make.text, .slice A a.make.list.length c, .bool a.must]
abbrev actV (a : AC.Ac) (A : Option Addr) (c : Nat) : Value := .agg (actC a A c)
/-- A struct that was handed in, boxed at the first new block. -/
structure AB (t : TypeId) (w : World) (cs : Array Value) (u : World) : Prop where
  box : u.heap[w.heap.size]? = some (.cells cs t (0, 0))
  bel : Below w.heap.size w u
section
variable {t : TypeId} {w u u' : World} {cs : Array Value}
theorem AB.new (t : TypeId) (w : World) (cs : Array Value) : AB t w cs (w.alloc (.cells cs t)) := ⟨heap_alloc_new w _, below1 w _⟩
theorem AB.next (h : AB t w cs u) (hb : Below u.heap.size u u') : AB t w cs u' := ⟨(hb.block _ (lt_of_heap h.box)).trans h.box, h.bel.trans (hb.mono h.bel.size)⟩
theorem empty_list : (⟨#[]⟩ : ByteArray).toList = [] := by rw [Lib.toList_data]
theorem str_no {s : ByteArray} (h : RC.strEq s ⟨#[]⟩ = false) : (s.toList == []) = false := by unfold RC.strEq at h; rw [empty_list] at h; exact h
theorem str_yes {s : ByteArray} (h : RC.strEq s ⟨#[]⟩ = true) : (s.toList == []) = true := by unfold RC.strEq at h; rw [empty_list] at h; exact h
theorem str_no2 {s : ByteArray} (h : RC.strEq s ⟨#[]⟩ = false) : s.toList.isEmpty = false := by have := str_no h; cases hs : s.toList <;> simp_all
theorem str_yes2 {s : ByteArray} (h : RC.strEq s ⟨#[]⟩ = true) : s.toList.isEmpty = true := by have := str_yes h; simp_all
theorem AB.lt (h : AB t w cs u) : w.heap.size < u.heap.size := lt_of_heap h.box
end
set_option maxHeartbeats 8000000 in
set_option maxRecDepth 100000 in
theorem hasBeyond_any (a : AC.Ac) (A : Option Addr) (c : Nat) (w : World) (ha : a.ok) (hR : RowsAt w) (hI : Its w A a.make.list) (hL : Lim a.make.list.length) :
    Calls Tryz.prog 141 #[actV a A c] w fun e w' => e = .returned (.bool (AC.beyond a)) ∧ Below w.heap.size w w' := by
  have HO := Lib.hid ha
  have HR := Lib.hid hR
  have HI := Lib.hid hI
  have HL := Lib.hid hL
  clear ha hR hI hL
  obtain ⟨k, key, n, x, s, m, must⟩ := a
  have B := Lib.hid (AB.new 37 w (actC ⟨k, key, n, x, s, m, must⟩ A c))
  go_enter Tryz.func141, Tryz.ntmps141
  go_wp2_with fail
  cases hN : AC.hasN k
  · have HN := Lib.hid hN
    clear hN
    refine (field_is k 110 false _ (HR.out.below B.out.bel) (by rw [show (110 : Nat).toUInt8 = 110 from rfl, fld_n]; exact HN.out)).mono ?_
    rintro e u0 ⟨rfl, hb⟩
    have B0 := Lib.hid (B.out.next hb)
    clear hb 
    have c0 := fun o => cell_of_row u0 _ o _ _ (0, 0) B0.out.box
    have hlt := B0.out.lt
    by_cases hz : n = 0
    · have z : (n != 0) = false := by simp [hz]
      have Z1 := Lib.hid z
      clear hz
      go_wp2_with fail
      clear z
      cases hX : AC.hasX k
      · have HX := Lib.hid hX
        clear hX
        refine (field_is k 120 false _ (HR.out.below B0.out.bel) (by rw [show (120 : Nat).toUInt8 = 120 from rfl, fld_x]; exact HX.out)).mono ?_
        rintro e u1 ⟨rfl, hb⟩
        have B1 := Lib.hid (B0.out.next hb)
        clear hb c0 hlt
        have c0 := fun o => cell_of_row u1 _ o _ _ (0, 0) B1.out.box
        have hlt := B1.out.lt
        go_wp2_with fail
        cases hz : MF.same x 0
        · have Z2 := Lib.hid hz
          clear hz
          refine (same_any x 0 _ HO.out.x (by unfold MF.W64; decide)).mono ?_
          rw [Z2.out]
          rintro e w' ⟨rfl, rfl⟩
          go_wp2_with fail
          go_ret
          exact ⟨ret_bool (by simp [AC.beyond, HN.out, Z1.out, HX.out, Z2.out]), B1.out.bel⟩
        · have Z2 := Lib.hid hz
          clear hz
          refine (same_any x 0 _ HO.out.x (by unfold MF.W64; decide)).mono ?_
          rw [Z2.out]
          rintro e w' ⟨rfl, rfl⟩
          go_wp2_with fail
          cases hS : AC.hasS k
          · have HS := Lib.hid hS
            clear hS
            refine (field_is k 115 false _ (HR.out.below B1.out.bel) (by rw [show (115 : Nat).toUInt8 = 115 from rfl, fld_s]; exact HS.out)).mono ?_
            rintro e u2 ⟨rfl, hb⟩
            have B2 := Lib.hid (B1.out.next hb)
            clear hb c0 hlt
            have c0 := fun o => cell_of_row u2 _ o _ _ (0, 0) B2.out.box
            have hlt := B2.out.lt
            cases hz : RC.strEq s ⟨#[]⟩
            · have Z3 := Lib.hid hz
              have z := str_no hz
              have z1 : s.toList.isEmpty = false := str_no2 hz
              clear hz
              go_wp2_with fail
              go_ret
              exact ⟨ret_bool (by simp [AC.beyond, HN.out, Z1.out, HX.out, Z2.out, HS.out, Z3.out]), B2.out.bel⟩
            · have Z3 := Lib.hid hz
              have z := str_yes hz
              have z1 : s.toList.isEmpty = true := str_yes2 hz
              clear hz
              go_wp2_with fail
              clear z z1
              cases hM : AC.hasM k
              · have HM := Lib.hid hM
                clear hM
                refine (field_is k 109 false _ (HR.out.below B2.out.bel) (by rw [show (109 : Nat).toUInt8 = 109 from rfl, fld_m]; exact HM.out)).mono ?_
                rintro e u3 ⟨rfl, hb⟩
                have B3 := Lib.hid (B2.out.next hb)
                clear hb c0 hlt
                have c0 := fun o => cell_of_row u3 _ o _ _ (0, 0) B3.out.box
                have hlt := B3.out.lt
                go_wp2_with fail
                refine (recSame_any m RC.zero A none c 0 _ HO.out.make RC.zero_ok (HI.out.below B3.out.bel) (Its.nil _ _) HL.out).mono ?_
                rintro e w9 ⟨rfl, hb⟩
                have B9 := Lib.hid (B3.out.next hb)
                clear hb c0 hlt
                go_wp2_with fail
                go_ret
                exact ⟨ret_bool (by simp [AC.beyond, HN.out, Z1.out, HX.out, Z2.out, HS.out, Z3.out, HM.out]), B9.out.bel⟩
              · have HM := Lib.hid hM
                clear hM
                refine (field_is k 109 true _ (HR.out.below B2.out.bel) (by rw [show (109 : Nat).toUInt8 = 109 from rfl, fld_m]; exact HM.out)).mono ?_
                rintro e u3 ⟨rfl, hb⟩
                have B3 := Lib.hid (B2.out.next hb)
                clear hb c0 hlt
                have c0 := fun o => cell_of_row u3 _ o _ _ (0, 0) B3.out.box
                have hlt := B3.out.lt
                go_wp2_with fail
                go_ret
                exact ⟨ret_bool (by simp [AC.beyond, HN.out, Z1.out, HX.out, Z2.out, HS.out, Z3.out, HM.out]), B3.out.bel⟩
          · have HS := Lib.hid hS
            clear hS
            refine (field_is k 115 true _ (HR.out.below B1.out.bel) (by rw [show (115 : Nat).toUInt8 = 115 from rfl, fld_s]; exact HS.out)).mono ?_
            rintro e u2 ⟨rfl, hb⟩
            have B2 := Lib.hid (B1.out.next hb)
            clear hb c0 hlt
            have c0 := fun o => cell_of_row u2 _ o _ _ (0, 0) B2.out.box
            have hlt := B2.out.lt
            go_wp2_with fail
            cases hM : AC.hasM k
            · have HM := Lib.hid hM
              clear hM
              refine (field_is k 109 false _ (HR.out.below B2.out.bel) (by rw [show (109 : Nat).toUInt8 = 109 from rfl, fld_m]; exact HM.out)).mono ?_
              rintro e u3 ⟨rfl, hb⟩
              have B3 := Lib.hid (B2.out.next hb)
              clear hb c0 hlt
              have c0 := fun o => cell_of_row u3 _ o _ _ (0, 0) B3.out.box
              have hlt := B3.out.lt
              go_wp2_with fail
              refine (recSame_any m RC.zero A none c 0 _ HO.out.make RC.zero_ok (HI.out.below B3.out.bel) (Its.nil _ _) HL.out).mono ?_
              rintro e w9 ⟨rfl, hb⟩
              have B9 := Lib.hid (B3.out.next hb)
              clear hb c0 hlt
              go_wp2_with fail
              go_ret
              exact ⟨ret_bool (by simp [AC.beyond, HN.out, Z1.out, HX.out, Z2.out, HS.out, HM.out]), B9.out.bel⟩
            · have HM := Lib.hid hM
              clear hM
              refine (field_is k 109 true _ (HR.out.below B2.out.bel) (by rw [show (109 : Nat).toUInt8 = 109 from rfl, fld_m]; exact HM.out)).mono ?_
              rintro e u3 ⟨rfl, hb⟩
              have B3 := Lib.hid (B2.out.next hb)
              clear hb c0 hlt
              have c0 := fun o => cell_of_row u3 _ o _ _ (0, 0) B3.out.box
              have hlt := B3.out.lt
              go_wp2_with fail
              go_ret
              exact ⟨ret_bool (by simp [AC.beyond, HN.out, Z1.out, HX.out, Z2.out, HS.out, HM.out]), B3.out.bel⟩
      · have HX := Lib.hid hX
        clear hX
        refine (field_is k 120 true _ (HR.out.below B0.out.bel) (by rw [show (120 : Nat).toUInt8 = 120 from rfl, fld_x]; exact HX.out)).mono ?_
        rintro e u1 ⟨rfl, hb⟩
        have B1 := Lib.hid (B0.out.next hb)
        clear hb c0 hlt
        have c0 := fun o => cell_of_row u1 _ o _ _ (0, 0) B1.out.box
        have hlt := B1.out.lt
        go_wp2_with fail
        cases hS : AC.hasS k
        · have HS := Lib.hid hS
          clear hS
          refine (field_is k 115 false _ (HR.out.below B1.out.bel) (by rw [show (115 : Nat).toUInt8 = 115 from rfl, fld_s]; exact HS.out)).mono ?_
          rintro e u2 ⟨rfl, hb⟩
          have B2 := Lib.hid (B1.out.next hb)
          clear hb c0 hlt
          have c0 := fun o => cell_of_row u2 _ o _ _ (0, 0) B2.out.box
          have hlt := B2.out.lt
          cases hz : RC.strEq s ⟨#[]⟩
          · have Z3 := Lib.hid hz
            have z := str_no hz
            have z1 : s.toList.isEmpty = false := str_no2 hz
            clear hz
            go_wp2_with fail
            go_ret
            exact ⟨ret_bool (by simp [AC.beyond, HN.out, Z1.out, HX.out, HS.out, Z3.out]), B2.out.bel⟩
          · have Z3 := Lib.hid hz
            have z := str_yes hz
            have z1 : s.toList.isEmpty = true := str_yes2 hz
            clear hz
            go_wp2_with fail
            clear z z1
            cases hM : AC.hasM k
            · have HM := Lib.hid hM
              clear hM
              refine (field_is k 109 false _ (HR.out.below B2.out.bel) (by rw [show (109 : Nat).toUInt8 = 109 from rfl, fld_m]; exact HM.out)).mono ?_
              rintro e u3 ⟨rfl, hb⟩
              have B3 := Lib.hid (B2.out.next hb)
              clear hb c0 hlt
              have c0 := fun o => cell_of_row u3 _ o _ _ (0, 0) B3.out.box
              have hlt := B3.out.lt
              go_wp2_with fail
              refine (recSame_any m RC.zero A none c 0 _ HO.out.make RC.zero_ok (HI.out.below B3.out.bel) (Its.nil _ _) HL.out).mono ?_
              rintro e w9 ⟨rfl, hb⟩
              have B9 := Lib.hid (B3.out.next hb)
              clear hb c0 hlt
              go_wp2_with fail
              go_ret
              exact ⟨ret_bool (by simp [AC.beyond, HN.out, Z1.out, HX.out, HS.out, Z3.out, HM.out]), B9.out.bel⟩
            · have HM := Lib.hid hM
              clear hM
              refine (field_is k 109 true _ (HR.out.below B2.out.bel) (by rw [show (109 : Nat).toUInt8 = 109 from rfl, fld_m]; exact HM.out)).mono ?_
              rintro e u3 ⟨rfl, hb⟩
              have B3 := Lib.hid (B2.out.next hb)
              clear hb c0 hlt
              have c0 := fun o => cell_of_row u3 _ o _ _ (0, 0) B3.out.box
              have hlt := B3.out.lt
              go_wp2_with fail
              go_ret
              exact ⟨ret_bool (by simp [AC.beyond, HN.out, Z1.out, HX.out, HS.out, Z3.out, HM.out]), B3.out.bel⟩
        · have HS := Lib.hid hS
          clear hS
          refine (field_is k 115 true _ (HR.out.below B1.out.bel) (by rw [show (115 : Nat).toUInt8 = 115 from rfl, fld_s]; exact HS.out)).mono ?_
          rintro e u2 ⟨rfl, hb⟩
          have B2 := Lib.hid (B1.out.next hb)
          clear hb c0 hlt
          have c0 := fun o => cell_of_row u2 _ o _ _ (0, 0) B2.out.box
          have hlt := B2.out.lt
          go_wp2_with fail
          cases hM : AC.hasM k
          · have HM := Lib.hid hM
            clear hM
            refine (field_is k 109 false _ (HR.out.below B2.out.bel) (by rw [show (109 : Nat).toUInt8 = 109 from rfl, fld_m]; exact HM.out)).mono ?_
            rintro e u3 ⟨rfl, hb⟩
            have B3 := Lib.hid (B2.out.next hb)
            clear hb c0 hlt
            have c0 := fun o => cell_of_row u3 _ o _ _ (0, 0) B3.out.box
            have hlt := B3.out.lt
            go_wp2_with fail
            refine (recSame_any m RC.zero A none c 0 _ HO.out.make RC.zero_ok (HI.out.below B3.out.bel) (Its.nil _ _) HL.out).mono ?_
            rintro e w9 ⟨rfl, hb⟩
            have B9 := Lib.hid (B3.out.next hb)
            clear hb c0 hlt
            go_wp2_with fail
            go_ret
            exact ⟨ret_bool (by simp [AC.beyond, HN.out, Z1.out, HX.out, HS.out, HM.out]), B9.out.bel⟩
          · have HM := Lib.hid hM
            clear hM
            refine (field_is k 109 true _ (HR.out.below B2.out.bel) (by rw [show (109 : Nat).toUInt8 = 109 from rfl, fld_m]; exact HM.out)).mono ?_
            rintro e u3 ⟨rfl, hb⟩
            have B3 := Lib.hid (B2.out.next hb)
            clear hb c0 hlt
            have c0 := fun o => cell_of_row u3 _ o _ _ (0, 0) B3.out.box
            have hlt := B3.out.lt
            go_wp2_with fail
            go_ret
            exact ⟨ret_bool (by simp [AC.beyond, HN.out, Z1.out, HX.out, HS.out, HM.out]), B3.out.bel⟩
    · have z : (n != 0) = true := by simp [hz]
      have Z1 := Lib.hid z
      clear hz
      go_wp2_with fail
      go_ret
      exact ⟨ret_bool (by simp [AC.beyond, HN.out, Z1.out]), B0.out.bel⟩
  · have HN := Lib.hid hN
    clear hN
    refine (field_is k 110 true _ (HR.out.below B.out.bel) (by rw [show (110 : Nat).toUInt8 = 110 from rfl, fld_n]; exact HN.out)).mono ?_
    rintro e u0 ⟨rfl, hb⟩
    have B0 := Lib.hid (B.out.next hb)
    clear hb 
    have c0 := fun o => cell_of_row u0 _ o _ _ (0, 0) B0.out.box
    have hlt := B0.out.lt
    go_wp2_with fail
    cases hX : AC.hasX k
    · have HX := Lib.hid hX
      clear hX
      refine (field_is k 120 false _ (HR.out.below B0.out.bel) (by rw [show (120 : Nat).toUInt8 = 120 from rfl, fld_x]; exact HX.out)).mono ?_
      rintro e u1 ⟨rfl, hb⟩
      have B1 := Lib.hid (B0.out.next hb)
      clear hb c0 hlt
      have c0 := fun o => cell_of_row u1 _ o _ _ (0, 0) B1.out.box
      have hlt := B1.out.lt
      go_wp2_with fail
      cases hz : MF.same x 0
      · have Z2 := Lib.hid hz
        clear hz
        refine (same_any x 0 _ HO.out.x (by unfold MF.W64; decide)).mono ?_
        rw [Z2.out]
        rintro e w' ⟨rfl, rfl⟩
        go_wp2_with fail
        go_ret
        exact ⟨ret_bool (by simp [AC.beyond, HN.out, HX.out, Z2.out]), B1.out.bel⟩
      · have Z2 := Lib.hid hz
        clear hz
        refine (same_any x 0 _ HO.out.x (by unfold MF.W64; decide)).mono ?_
        rw [Z2.out]
        rintro e w' ⟨rfl, rfl⟩
        go_wp2_with fail
        cases hS : AC.hasS k
        · have HS := Lib.hid hS
          clear hS
          refine (field_is k 115 false _ (HR.out.below B1.out.bel) (by rw [show (115 : Nat).toUInt8 = 115 from rfl, fld_s]; exact HS.out)).mono ?_
          rintro e u2 ⟨rfl, hb⟩
          have B2 := Lib.hid (B1.out.next hb)
          clear hb c0 hlt
          have c0 := fun o => cell_of_row u2 _ o _ _ (0, 0) B2.out.box
          have hlt := B2.out.lt
          cases hz : RC.strEq s ⟨#[]⟩
          · have Z3 := Lib.hid hz
            have z := str_no hz
            have z1 : s.toList.isEmpty = false := str_no2 hz
            clear hz
            go_wp2_with fail
            go_ret
            exact ⟨ret_bool (by simp [AC.beyond, HN.out, HX.out, Z2.out, HS.out, Z3.out]), B2.out.bel⟩
          · have Z3 := Lib.hid hz
            have z := str_yes hz
            have z1 : s.toList.isEmpty = true := str_yes2 hz
            clear hz
            go_wp2_with fail
            clear z z1
            cases hM : AC.hasM k
            · have HM := Lib.hid hM
              clear hM
              refine (field_is k 109 false _ (HR.out.below B2.out.bel) (by rw [show (109 : Nat).toUInt8 = 109 from rfl, fld_m]; exact HM.out)).mono ?_
              rintro e u3 ⟨rfl, hb⟩
              have B3 := Lib.hid (B2.out.next hb)
              clear hb c0 hlt
              have c0 := fun o => cell_of_row u3 _ o _ _ (0, 0) B3.out.box
              have hlt := B3.out.lt
              go_wp2_with fail
              refine (recSame_any m RC.zero A none c 0 _ HO.out.make RC.zero_ok (HI.out.below B3.out.bel) (Its.nil _ _) HL.out).mono ?_
              rintro e w9 ⟨rfl, hb⟩
              have B9 := Lib.hid (B3.out.next hb)
              clear hb c0 hlt
              go_wp2_with fail
              go_ret
              exact ⟨ret_bool (by simp [AC.beyond, HN.out, HX.out, Z2.out, HS.out, Z3.out, HM.out]), B9.out.bel⟩
            · have HM := Lib.hid hM
              clear hM
              refine (field_is k 109 true _ (HR.out.below B2.out.bel) (by rw [show (109 : Nat).toUInt8 = 109 from rfl, fld_m]; exact HM.out)).mono ?_
              rintro e u3 ⟨rfl, hb⟩
              have B3 := Lib.hid (B2.out.next hb)
              clear hb c0 hlt
              have c0 := fun o => cell_of_row u3 _ o _ _ (0, 0) B3.out.box
              have hlt := B3.out.lt
              go_wp2_with fail
              go_ret
              exact ⟨ret_bool (by simp [AC.beyond, HN.out, HX.out, Z2.out, HS.out, Z3.out, HM.out]), B3.out.bel⟩
        · have HS := Lib.hid hS
          clear hS
          refine (field_is k 115 true _ (HR.out.below B1.out.bel) (by rw [show (115 : Nat).toUInt8 = 115 from rfl, fld_s]; exact HS.out)).mono ?_
          rintro e u2 ⟨rfl, hb⟩
          have B2 := Lib.hid (B1.out.next hb)
          clear hb c0 hlt
          have c0 := fun o => cell_of_row u2 _ o _ _ (0, 0) B2.out.box
          have hlt := B2.out.lt
          go_wp2_with fail
          cases hM : AC.hasM k
          · have HM := Lib.hid hM
            clear hM
            refine (field_is k 109 false _ (HR.out.below B2.out.bel) (by rw [show (109 : Nat).toUInt8 = 109 from rfl, fld_m]; exact HM.out)).mono ?_
            rintro e u3 ⟨rfl, hb⟩
            have B3 := Lib.hid (B2.out.next hb)
            clear hb c0 hlt
            have c0 := fun o => cell_of_row u3 _ o _ _ (0, 0) B3.out.box
            have hlt := B3.out.lt
            go_wp2_with fail
            refine (recSame_any m RC.zero A none c 0 _ HO.out.make RC.zero_ok (HI.out.below B3.out.bel) (Its.nil _ _) HL.out).mono ?_
            rintro e w9 ⟨rfl, hb⟩
            have B9 := Lib.hid (B3.out.next hb)
            clear hb c0 hlt
            go_wp2_with fail
            go_ret
            exact ⟨ret_bool (by simp [AC.beyond, HN.out, HX.out, Z2.out, HS.out, HM.out]), B9.out.bel⟩
          · have HM := Lib.hid hM
            clear hM
            refine (field_is k 109 true _ (HR.out.below B2.out.bel) (by rw [show (109 : Nat).toUInt8 = 109 from rfl, fld_m]; exact HM.out)).mono ?_
            rintro e u3 ⟨rfl, hb⟩
            have B3 := Lib.hid (B2.out.next hb)
            clear hb c0 hlt
            have c0 := fun o => cell_of_row u3 _ o _ _ (0, 0) B3.out.box
            have hlt := B3.out.lt
            go_wp2_with fail
            go_ret
            exact ⟨ret_bool (by simp [AC.beyond, HN.out, HX.out, Z2.out, HS.out, HM.out]), B3.out.bel⟩
    · have HX := Lib.hid hX
      clear hX
      refine (field_is k 120 true _ (HR.out.below B0.out.bel) (by rw [show (120 : Nat).toUInt8 = 120 from rfl, fld_x]; exact HX.out)).mono ?_
      rintro e u1 ⟨rfl, hb⟩
      have B1 := Lib.hid (B0.out.next hb)
      clear hb c0 hlt
      have c0 := fun o => cell_of_row u1 _ o _ _ (0, 0) B1.out.box
      have hlt := B1.out.lt
      go_wp2_with fail
      cases hS : AC.hasS k
      · have HS := Lib.hid hS
        clear hS
        refine (field_is k 115 false _ (HR.out.below B1.out.bel) (by rw [show (115 : Nat).toUInt8 = 115 from rfl, fld_s]; exact HS.out)).mono ?_
        rintro e u2 ⟨rfl, hb⟩
        have B2 := Lib.hid (B1.out.next hb)
        clear hb c0 hlt
        have c0 := fun o => cell_of_row u2 _ o _ _ (0, 0) B2.out.box
        have hlt := B2.out.lt
        cases hz : RC.strEq s ⟨#[]⟩
        · have Z3 := Lib.hid hz
          have z := str_no hz
          have z1 : s.toList.isEmpty = false := str_no2 hz
          clear hz
          go_wp2_with fail
          go_ret
          exact ⟨ret_bool (by simp [AC.beyond, HN.out, HX.out, HS.out, Z3.out]), B2.out.bel⟩
        · have Z3 := Lib.hid hz
          have z := str_yes hz
          have z1 : s.toList.isEmpty = true := str_yes2 hz
          clear hz
          go_wp2_with fail
          clear z z1
          cases hM : AC.hasM k
          · have HM := Lib.hid hM
            clear hM
            refine (field_is k 109 false _ (HR.out.below B2.out.bel) (by rw [show (109 : Nat).toUInt8 = 109 from rfl, fld_m]; exact HM.out)).mono ?_
            rintro e u3 ⟨rfl, hb⟩
            have B3 := Lib.hid (B2.out.next hb)
            clear hb c0 hlt
            have c0 := fun o => cell_of_row u3 _ o _ _ (0, 0) B3.out.box
            have hlt := B3.out.lt
            go_wp2_with fail
            refine (recSame_any m RC.zero A none c 0 _ HO.out.make RC.zero_ok (HI.out.below B3.out.bel) (Its.nil _ _) HL.out).mono ?_
            rintro e w9 ⟨rfl, hb⟩
            have B9 := Lib.hid (B3.out.next hb)
            clear hb c0 hlt
            go_wp2_with fail
            go_ret
            exact ⟨ret_bool (by simp [AC.beyond, HN.out, HX.out, HS.out, Z3.out, HM.out]), B9.out.bel⟩
          · have HM := Lib.hid hM
            clear hM
            refine (field_is k 109 true _ (HR.out.below B2.out.bel) (by rw [show (109 : Nat).toUInt8 = 109 from rfl, fld_m]; exact HM.out)).mono ?_
            rintro e u3 ⟨rfl, hb⟩
            have B3 := Lib.hid (B2.out.next hb)
            clear hb c0 hlt
            have c0 := fun o => cell_of_row u3 _ o _ _ (0, 0) B3.out.box
            have hlt := B3.out.lt
            go_wp2_with fail
            go_ret
            exact ⟨ret_bool (by simp [AC.beyond, HN.out, HX.out, HS.out, Z3.out, HM.out]), B3.out.bel⟩
      · have HS := Lib.hid hS
        clear hS
        refine (field_is k 115 true _ (HR.out.below B1.out.bel) (by rw [show (115 : Nat).toUInt8 = 115 from rfl, fld_s]; exact HS.out)).mono ?_
        rintro e u2 ⟨rfl, hb⟩
        have B2 := Lib.hid (B1.out.next hb)
        clear hb c0 hlt
        have c0 := fun o => cell_of_row u2 _ o _ _ (0, 0) B2.out.box
        have hlt := B2.out.lt
        go_wp2_with fail
        cases hM : AC.hasM k
        · have HM := Lib.hid hM
          clear hM
          refine (field_is k 109 false _ (HR.out.below B2.out.bel) (by rw [show (109 : Nat).toUInt8 = 109 from rfl, fld_m]; exact HM.out)).mono ?_
          rintro e u3 ⟨rfl, hb⟩
          have B3 := Lib.hid (B2.out.next hb)
          clear hb c0 hlt
          have c0 := fun o => cell_of_row u3 _ o _ _ (0, 0) B3.out.box
          have hlt := B3.out.lt
          go_wp2_with fail
          refine (recSame_any m RC.zero A none c 0 _ HO.out.make RC.zero_ok (HI.out.below B3.out.bel) (Its.nil _ _) HL.out).mono ?_
          rintro e w9 ⟨rfl, hb⟩
          have B9 := Lib.hid (B3.out.next hb)
          clear hb c0 hlt
          go_wp2_with fail
          go_ret
          exact ⟨ret_bool (by simp [AC.beyond, HN.out, HX.out, HS.out, HM.out]), B9.out.bel⟩
        · have HM := Lib.hid hM
          clear hM
          refine (field_is k 109 true _ (HR.out.below B2.out.bel) (by rw [show (109 : Nat).toUInt8 = 109 from rfl, fld_m]; exact HM.out)).mono ?_
          rintro e u3 ⟨rfl, hb⟩
          have B3 := Lib.hid (B2.out.next hb)
          clear hb c0 hlt
          have c0 := fun o => cell_of_row u3 _ o _ _ (0, 0) B3.out.box
          have hlt := B3.out.lt
          go_wp2_with fail
          go_ret
          exact ⟨ret_bool (by simp [AC.beyond, HN.out, HX.out, HS.out, HM.out]), B3.out.bel⟩
end Go.Proofs.YtbkcmnmbcldjoaaGreatDoor
namespace AC
theorem chk_kind {a : Ac} (h : known a.kind = false) : chk a = 5 := by unfold chk; rw [if_neg (by rw [h]; simp)]
theorem chk_key {a : Ac} (h : known a.kind = true) (h1 : ¬ (1 ≤ a.key.size ∧ a.key.size ≤ 24)) : chk a = 1 := by unfold chk; rw [if_pos h, if_neg h1]
theorem chk_form {a : Ac} (h : known a.kind = true) (h1 : 1 ≤ a.key.size ∧ a.key.size ≤ 24) (h2 : beyond a = true) : chk a = 4 := by unfold chk; rw [if_pos h, if_pos h1, if_pos h2]
theorem chk_long {a : Ac} (h : known a.kind = true) (h1 : 1 ≤ a.key.size ∧ a.key.size ≤ 24) (h2 : beyond a = false) (h3 : most a.kind < a.s.size) : chk a = 3 := by unfold chk; rw [if_pos h, if_pos h1, if_neg (by rw [h2]; simp), if_pos h3]
theorem chk_amount {a : Ac} (h : known a.kind = true) (h1 : 1 ≤ a.key.size ∧ a.key.size ≤ 24) (h2 : beyond a = false) (h3 : ¬ most a.kind < a.s.size) (h4 : amount a = false) : chk a = 1 := by unfold chk; rw [if_pos h, if_pos h1, if_neg (by rw [h2]; simp), if_neg h3, if_neg (by rw [h4]; simp)]
theorem chk_x {a : Ac} (h : known a.kind = true) (h1 : 1 ≤ a.key.size ∧ a.key.size ≤ 24) (h2 : beyond a = false) (h3 : ¬ most a.kind < a.s.size) (h4 : amount a = true) (h5 : MF.proper a.x = false) : chk a = 4 := by unfold chk; rw [if_pos h, if_pos h1, if_neg (by rw [h2]; simp), if_neg h3, if_pos h4, if_neg (by rw [h5]; simp)]
theorem chk_end {a : Ac} (h : known a.kind = true) (h1 : 1 ≤ a.key.size ∧ a.key.size ≤ 24) (h2 : beyond a = false) (h3 : ¬ most a.kind < a.s.size) (h4 : amount a = true) (h5 : MF.proper a.x = true) : chk a = endE a := by unfold chk; rw [if_pos h, if_pos h1, if_neg (by rw [h2]; simp), if_neg h3, if_pos h4, if_pos h5]
end AC
namespace Go.Proofs.YtbkcmnmbcldjoaaGreatDoor
open Go.RowKit MM
set_option maxHeartbeats 1000000 in
set_option maxRecDepth 100000 in
theorem amountFits_any (a : AC.Ac) (A : Option Addr) (c : Nat) (w : World) :
    Calls Tryz.prog 143 #[actV a A c] w fun e w' => e = .returned (.bool (AC.amount a)) ∧ Below w.heap.size w w' := by
  obtain ⟨k, key, n, x, s, m, must⟩ := a
  by_cases hk : k = 10 ∨ k = 11
  · have Hr := Lib.hid (show AC.amount ⟨k, key, n, x, s, m, must⟩ = decide (0 ≤ n ∧ n ≤ 2305843009213693952) by unfold AC.amount; rw [if_pos hk])
    by_cases h0 : 0 ≤ n
    · by_cases h1 : n ≤ 2305843009213693952
      all_goals
        rcases hk with rfl | rfl
        all_goals
          go_enter Tryz.func143, Tryz.ntmps143
          go_wp2_with fail
          go_ret
          exact ⟨ret_bool (by rw [Hr.out]; simp [h0, h1]), below1 w _⟩
    · rcases hk with rfl | rfl
      all_goals
        go_enter Tryz.func143, Tryz.ntmps143
        go_wp2_with fail
        go_ret
        exact ⟨ret_bool (by rw [Hr.out]; simp; omega), below1 w _⟩
  · have Hr := Lib.hid (show AC.amount ⟨k, key, n, x, s, m, must⟩ = true by unfold AC.amount; rw [if_neg hk])
    have q1 : (k != 10) = true := by simp; omega
    have q2 : (k != 11) = true := by simp; omega
    clear hk
    go_enter Tryz.func143, Tryz.ntmps143
    go_wp2_with fail
    go_ret
    exact ⟨ret_bool (by rw [Hr.out]), below1 w _⟩
theorem below_d {B : Nat} (w : World) (_h : B ≤ w.heap.size) : Below B w w.drew := ⟨rfl, rfl, rfl, Nat.le_refl _, fun _ _ => rfl⟩
set_option maxHeartbeats 4000000 in
set_option maxRecDepth 100000 in
theorem actCheck_any (a : AC.Ac) (A : Option Addr) (c : Nat) (w : World) (ha : a.ok) (hR : RowsAt w) (hI : Its w A a.make.list) (hL : Lim a.make.list.length) (hK : Lim a.key.size) (hS : Lim a.s.size) :
    Calls Tryz.prog 90 #[actV a A c] w (EPost (AC.chk a) w) := by
  have HO := Lib.hid ha
  have HR := Lib.hid hR
  have HI := Lib.hid hI
  have HL := Lib.hid hL
  have HH := Lib.hid (fun u (b : Below w.heap.size w u) => hasBeyond_any a A c u ha (hR.below b) (hI.below b) hL)
  have HA := Lib.hid (fun u => amountFits_any a A c u)
  unfold Lim at hK hS
  clear ha hR hI hL
  obtain ⟨k, key, n, x, s, m, must⟩ := a
  have hK' : (key.size : Int) ≤ 4294967296 := by show ((key.size : Nat) : Int) ≤ _; have : key.size < 4294967296 := hK; omega
  have hS' : (s.size : Int) ≤ 4294967296 := by have : s.size < 4294967296 := hS; omega
  have B := Lib.hid (AB.new 37 w (actC ⟨k, key, n, x, s, m, must⟩ A c))
  clear hK hS
  go_enter Tryz.func90, Tryz.ntmps90
  go_wp2_with fail
  refine (actKnown_any k _).mono ?_
  cases hk : AC.known k
  · have Hk := Lib.hid hk
    clear hk
    rintro e w' ⟨rfl, rfl⟩
    go_wp2_with fail
    go_ret
    exact EPost.mk (AC.chk_kind Hk.out) rfl B.out.bel
  · have Hk := Lib.hid hk
    clear hk
    rintro e w' ⟨rfl, rfl⟩
    by_cases h1 : key.size < 1
    · have q : (key.size : Int) < 1 := by omega
      have H1 := Lib.hid (show ¬ (1 ≤ key.size ∧ key.size ≤ 24) by omega)
      clear h1
      go_wp2_with fail
      go_ret
      exact EPost.mk (AC.chk_key Hk.out H1.out) rfl B.out.bel
    · have q : ¬ (key.size : Int) < 1 := by omega
      by_cases h2 : 24 < key.size
      · have q2 : (24 : Int) < (key.size : Int) := by omega
        have H1 := Lib.hid (show ¬ (1 ≤ key.size ∧ key.size ≤ 24) by omega)
        clear h1 h2
        go_wp2_with fail
        go_ret
        exact EPost.mk (AC.chk_key Hk.out H1.out) rfl B.out.bel
      · have q2 : ¬ (24 : Int) < (key.size : Int) := by omega
        have H1 := Lib.hid (show 1 ≤ key.size ∧ key.size ≤ 24 by omega)
        clear h1 h2
        go_wp2_with fail
        refine (HH.out _ B.out.bel).mono ?_
        cases hb : AC.beyond ⟨k, key, n, x, s, m, must⟩
        · have Hb := Lib.hid hb
          clear hb
          rintro e u1 ⟨rfl, hb⟩
          have B1 := Lib.hid (B.out.next hb)
          have c0 := fun o => cell_of_row u1 _ o _ _ (0, 0) B1.out.box
          have d0 : u1.cell? ⟨w.heap.size, 0, none⟩ = some (.int .i64 k) := (c0 0).trans rfl
          have d4 : u1.cell? ⟨w.heap.size, 4, none⟩ = some (.string s) := (c0 4).trans rfl
          have HM := Lib.hid (mostOfS_any k u1.drew (HR.out.below (B1.out.bel.trans (below_d u1 B1.out.bel.size))))
          have hm64 : AC.most k ≤ 64 := by unfold AC.most; split <;> (try split) <;> omega
          have hm64' : (AC.most k : Int) ≤ 64 := by omega
          clear hb c0 HH hm64
          go_wp2_with fail
          by_cases h3 : AC.most k < s.size
          · have q3 : (AC.most k : Int) < (s.size : Int) := by omega
            have H3 := Lib.hid h3
            clear h3
            go_region_held3 (fun w' => w'.cell? ⟨w.heap.size, 0, none⟩ = some (.int .i64 k) ∧ w'.cell? ⟨w.heap.size, 4, none⟩ = some (.string s))
              (first
                | (go_split_ands; exact ⟨by assumption, by assumption⟩)
                | (go_split_ands; exact ⟨below_keep hb2 (by assumption), below_keep hb2 (by assumption)⟩))
              ((go_at_call 142; refine HM.out.mono ?_; rintro e u2 ⟨rfl, hb2⟩))
            go_wp2_with fail
            go_ret
            exact EPost.mk (AC.chk_long Hk.out H1.out Hb.out H3.out) rfl (B1.out.bel.trans ((below_d u1 B1.out.bel.size).trans (hb2.mono B1.out.bel.size)))
          · have q3 : ¬ (AC.most k : Int) < (s.size : Int) := by omega
            have H3 := Lib.hid h3
            clear h3
            go_region_held3 (fun w' => w'.cell? ⟨w.heap.size, 0, none⟩ = some (.int .i64 k) ∧ w'.cell? ⟨w.heap.size, 4, none⟩ = some (.string s))
              (first
                | (go_split_ands; exact ⟨by assumption, by assumption⟩)
                | (go_split_ands; exact ⟨below_keep hb2 (by assumption), below_keep hb2 (by assumption)⟩))
              ((go_at_call 142; refine HM.out.mono ?_; rintro e u2 ⟨rfl, hb2⟩))
            have B2 := Lib.hid (B1.out.next (show Below u1.heap.size u1 u2 from (below_d u1 (Nat.le_refl _)).trans hb2))
            have c0 := fun o => cell_of_row u2 _ o _ _ (0, 0) B2.out.box
            clear hb2 HM d0 d4
            try (rename_i hH; clear hH)
            go_wp2_with fail
            refine (HA.out _).mono ?_
            cases hm : AC.amount ⟨k, key, n, x, s, m, must⟩
            · have H4 := Lib.hid hm
              clear hm
              rintro e u3 ⟨rfl, hb⟩
              have B3 := Lib.hid (B2.out.next hb)
              clear hb c0
              go_wp2_with fail
              go_ret
              exact EPost.mk (AC.chk_amount Hk.out H1.out Hb.out H3.out H4.out) rfl B3.out.bel
            · have H4 := Lib.hid hm
              clear hm
              rintro e u3 ⟨rfl, hb⟩
              have B3 := Lib.hid (B2.out.next hb)
              clear hb c0
              have c0 := fun o => cell_of_row u3 _ o _ _ (0, 0) B3.out.box
              go_wp2_with fail
              refine (proper_any x _).mono ?_
              cases hp : MF.proper x
              · have H5 := Lib.hid hp
                clear hp
                rintro e w' ⟨rfl, rfl⟩
                go_wp2_with fail
                go_ret
                exact EPost.mk (AC.chk_x Hk.out H1.out Hb.out H3.out H4.out H5.out) rfl B3.out.bel
              · have H5 := Lib.hid hp
                clear hp
                rintro e w' ⟨rfl, rfl⟩
                by_cases h6 : k = 1
                · have H6 := Lib.hid (show AC.endE ⟨k, key, n, x, s, m, must⟩ = RC.chk m by unfold AC.endE; rw [if_pos h6])
                  have q6 : (k == 1) = true := by simp [h6]
                  clear h6
                  go_wp2_with fail
                  refine (recCheck_any m A c _ HO.out.make (HI.out.below B3.out.bel) HL.out).mono ?_
                  rintro e u4 ⟨rfl, hb⟩
                  have B4 := Lib.hid (B3.out.next hb)
                  clear hb
                  go_wp2_with fail
                  go_ret
                  exact EPost.mk ((AC.chk_end Hk.out H1.out Hb.out H3.out H4.out H5.out).trans H6.out) rfl B4.out.bel
                · have H6 := Lib.hid (show AC.endE ⟨k, key, n, x, s, m, must⟩ = 0 by unfold AC.endE; rw [if_neg h6])
                  have q6 : (k == 1) = false := by simp [h6]
                  clear h6
                  go_wp2_with fail
                  go_ret
                  exact EPost.mk ((AC.chk_end Hk.out H1.out Hb.out H3.out H4.out H5.out).trans H6.out) rfl B3.out.bel
        · have Hb := Lib.hid hb
          clear hb
          rintro e u1 ⟨rfl, hb⟩
          have B1 := Lib.hid (B.out.next hb)
          clear hb
          go_wp2_with fail
          go_ret
          exact EPost.mk (AC.chk_form Hk.out H1.out Hb.out) rfl B1.out.bel
end Go.Proofs.YtbkcmnmbcldjoaaGreatDoor
