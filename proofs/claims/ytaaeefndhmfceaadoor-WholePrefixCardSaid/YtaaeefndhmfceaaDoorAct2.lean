/- Contracts of package act: what an act may not have; may it be? -/
import Derived.Test.YtaaeefndhmfceaaDoorAct1
import Derived.Test.YtaaeefndhmfceaaDoorRec4
namespace Go.Proofs.YtaaeefndhmfceaaDoor
open Go.RowKit MM

abbrev actC (a : AC.Ac) (A : Option Addr) (c : Nat) : Array Value := #[.int .i64 a.kind, .string a.key, .int .i64 a.n, .float .f64 a.x, .string a.s, .int .i64 a.make.kind, .int .i64 a.make.num, .int .i64 a.make.low, .int .i64 a.make.high, .float .f64 a.make.real, .int .i64 a.make.cap, .string a.make.text, .slice A a.make.list.length c, .bool a.must]
abbrev actV (a : AC.Ac) (A : Option Addr) (c : Nat) : Value := .agg (actC a A c)

/-- A struct that was handed in, boxed at the first new block. -/
structure AB (t : TypeId) (w : World) (cs : Array Value) (u : World) : Prop where
  box : u.heap[w.heap.size]? = some (.cells cs t (0, 0))
  bel : Below w.heap.size w u
section
variable {t : TypeId} {w u u' : World} {cs : Array Value}
theorem AB.new (t : TypeId) (w : World) (cs : Array Value) : AB t w cs (w.alloc (.cells cs t)) := ⟨heap_alloc_new w _, below1 w _⟩
theorem AB.next (h : AB t w cs u) (hb : Below u.heap.size u u') : AB t w cs u' := ⟨(hb.block _ (lt_of_heap h.box)).trans h.box, h.bel.trans (hb.mono h.bel.size)⟩
theorem empty_list : (⟨#[]⟩ : ByteArray).toList = [] := by rw [Lib.toList_data]
theorem str_no {s : ByteArray} (h : RC.strEq s ⟨#[]⟩ = false) : (s.toList == []) = false := by unfold RC.strEq at h; rw [empty_list] at h; exact h
theorem str_yes {s : ByteArray} (h : RC.strEq s ⟨#[]⟩ = true) : (s.toList == []) = true := by unfold RC.strEq at h; rw [empty_list] at h; exact h
theorem str_no2 {s : ByteArray} (h : RC.strEq s ⟨#[]⟩ = false) : s.toList.isEmpty = false := by have := str_no h; cases hs : s.toList <;> simp_all
theorem str_yes2 {s : ByteArray} (h : RC.strEq s ⟨#[]⟩ = true) : s.toList.isEmpty = true := by have := str_yes h; simp_all
theorem AB.lt (h : AB t w cs u) : w.heap.size < u.heap.size := lt_of_heap h.box
end

set_option maxHeartbeats 8000000 in
set_option maxRecDepth 100000 in
theorem hasBeyond_any (a : AC.Ac) (A : Option Addr) (c : Nat) (w : World) (ha : a.ok) (hR : RowsAt w) (hI : Its w A a.make.list) (hL : Lim a.make.list.length) :
    Calls Tryd.prog 104 #[actV a A c] w fun e w' => e = .returned (.bool (AC.beyond a)) ∧ Below w.heap.size w w' := by
  have HO := Lib.hid ha
  have HR := Lib.hid hR
  have HI := Lib.hid hI
  have HL := Lib.hid hL
  clear ha hR hI hL
  obtain ⟨k, key, n, x, s, m, must⟩ := a
  have B := Lib.hid (AB.new 31 w (actC ⟨k, key, n, x, s, m, must⟩ A c))
  go_enter Tryd.func104, Tryd.ntmps104
  go_wp2_with fail
  cases hN : AC.hasN k
  · have HN := Lib.hid hN
    clear hN
    refine (field_is k 110 false _ (HR.out.below B.out.bel) (by rw [show (110 : Nat).toUInt8 = 110 from rfl, fld_n]; exact HN.out)).mono ?_
    rintro e u0 ⟨rfl, hb⟩
    have B0 := Lib.hid (B.out.next hb)
    clear hb 
    have c0 := fun o => cell_of_row u0 _ o _ _ (0, 0) B0.out.box
    have hlt := B0.out.lt
    by_cases hz : n = 0
    · have z : (n != 0) = false := by simp [hz]
      have Z1 := Lib.hid z
      clear hz
      go_wp2_with fail
      clear z
      cases hX : AC.hasX k
      · have HX := Lib.hid hX
        clear hX
        refine (field_is k 120 false _ (HR.out.below B0.out.bel) (by rw [show (120 : Nat).toUInt8 = 120 from rfl, fld_x]; exact HX.out)).mono ?_
        rintro e u1 ⟨rfl, hb⟩
        have B1 := Lib.hid (B0.out.next hb)
        clear hb c0 hlt
        have c0 := fun o => cell_of_row u1 _ o _ _ (0, 0) B1.out.box
        have hlt := B1.out.lt
        go_wp2_with fail
        cases hz : MF.same x 0
        · have Z2 := Lib.hid hz
          clear hz
          refine (same_any x 0 _ HO.out.x (by unfold MF.W64; decide)).mono ?_
          rw [Z2.out]
          rintro e w' ⟨rfl, rfl⟩
          go_wp2_with fail
          go_ret
          exact ⟨ret_bool (by simp [AC.beyond, HN.out, Z1.out, HX.out, Z2.out]), B1.out.bel⟩
        · have Z2 := Lib.hid hz
          clear hz
          refine (same_any x 0 _ HO.out.x (by unfold MF.W64; decide)).mono ?_
          rw [Z2.out]
          rintro e w' ⟨rfl, rfl⟩
          go_wp2_with fail
          cases hS : AC.hasS k
          · have HS := Lib.hid hS
            clear hS
            refine (field_is k 115 false _ (HR.out.below B1.out.bel) (by rw [show (115 : Nat).toUInt8 = 115 from rfl, fld_s]; exact HS.out)).mono ?_
            rintro e u2 ⟨rfl, hb⟩
            have B2 := Lib.hid (B1.out.next hb)
            clear hb c0 hlt
            have c0 := fun o => cell_of_row u2 _ o _ _ (0, 0) B2.out.box
            have hlt := B2.out.lt
            cases hz : RC.strEq s ⟨#[]⟩
            · have Z3 := Lib.hid hz
              have z := str_no hz
              have z1 : s.toList.isEmpty = false := str_no2 hz
              clear hz
              go_wp2_with fail
              go_ret
              exact ⟨ret_bool (by simp [AC.beyond, HN.out, Z1.out, HX.out, Z2.out, HS.out, Z3.out]), B2.out.bel⟩
            · have Z3 := Lib.hid hz
              have z := str_yes hz
              have z1 : s.toList.isEmpty = true := str_yes2 hz
              clear hz
              go_wp2_with fail
              clear z z1
              cases hM : AC.hasM k
              · have HM := Lib.hid hM
                clear hM
                refine (field_is k 109 false _ (HR.out.below B2.out.bel) (by rw [show (109 : Nat).toUInt8 = 109 from rfl, fld_m]; exact HM.out)).mono ?_
                rintro e u3 ⟨rfl, hb⟩
                have B3 := Lib.hid (B2.out.next hb)
                clear hb c0 hlt
                have c0 := fun o => cell_of_row u3 _ o _ _ (0, 0) B3.out.box
                have hlt := B3.out.lt
                go_wp2_with fail
                refine (recSame_any m RC.zero A none c 0 _ HO.out.make RC.zero_ok (HI.out.below B3.out.bel) (Its.nil _ _) HL.out).mono ?_
                rintro e w9 ⟨rfl, hb⟩
                have B9 := Lib.hid (B3.out.next hb)
                clear hb c0 hlt
                go_wp2_with fail
                go_ret
                exact ⟨ret_bool (by simp [AC.beyond, HN.out, Z1.out, HX.out, Z2.out, HS.out, Z3.out, HM.out]), B9.out.bel⟩
              · have HM := Lib.hid hM
                clear hM
                refine (field_is k 109 true _ (HR.out.below B2.out.bel) (by rw [show (109 : Nat).toUInt8 = 109 from rfl, fld_m]; exact HM.out)).mono ?_
                rintro e u3 ⟨rfl, hb⟩
                have B3 := Lib.hid (B2.out.next hb)
                clear hb c0 hlt
                have c0 := fun o => cell_of_row u3 _ o _ _ (0, 0) B3.out.box
                have hlt := B3.out.lt
                go_wp2_with fail
                go_ret
                exact ⟨ret_bool (by simp [AC.beyond, HN.out, Z1.out, HX.out, Z2.out, HS.out, Z3.out, HM.out]), B3.out.bel⟩
          · have HS := Lib.hid hS
            clear hS
            refine (field_is k 115 true _ (HR.out.below B1.out.bel) (by rw [show (115 : Nat).toUInt8 = 115 from rfl, fld_s]; exact HS.out)).mono ?_
            rintro e u2 ⟨rfl, hb⟩
            have B2 := Lib.hid (B1.out.next hb)
            clear hb c0 hlt
            have c0 := fun o => cell_of_row u2 _ o _ _ (0, 0) B2.out.box
            have hlt := B2.out.lt
            go_wp2_with fail
            cases hM : AC.hasM k
            · have HM := Lib.hid hM
              clear hM
              refine (field_is k 109 false _ (HR.out.below B2.out.bel) (by rw [show (109 : Nat).toUInt8 = 109 from rfl, fld_m]; exact HM.out)).mono ?_
              rintro e u3 ⟨rfl, hb⟩
              have B3 := Lib.hid (B2.out.next hb)
              clear hb c0 hlt
              have c0 := fun o => cell_of_row u3 _ o _ _ (0, 0) B3.out.box
              have hlt := B3.out.lt
              go_wp2_with fail
              refine (recSame_any m RC.zero A none c 0 _ HO.out.make RC.zero_ok (HI.out.below B3.out.bel) (Its.nil _ _) HL.out).mono ?_
              rintro e w9 ⟨rfl, hb⟩
              have B9 := Lib.hid (B3.out.next hb)
              clear hb c0 hlt
              go_wp2_with fail
              go_ret
              exact ⟨ret_bool (by simp [AC.beyond, HN.out, Z1.out, HX.out, Z2.out, HS.out, HM.out]), B9.out.bel⟩
            · have HM := Lib.hid hM
              clear hM
              refine (field_is k 109 true _ (HR.out.below B2.out.bel) (by rw [show (109 : Nat).toUInt8 = 109 from rfl, fld_m]; exact HM.out)).mono ?_
              rintro e u3 ⟨rfl, hb⟩
              have B3 := Lib.hid (B2.out.next hb)
              clear hb c0 hlt
              have c0 := fun o => cell_of_row u3 _ o _ _ (0, 0) B3.out.box
              have hlt := B3.out.lt
              go_wp2_with fail
              go_ret
              exact ⟨ret_bool (by simp [AC.beyond, HN.out, Z1.out, HX.out, Z2.out, HS.out, HM.out]), B3.out.bel⟩
      · have HX := Lib.hid hX
        clear hX
        refine (field_is k 120 true _ (HR.out.below B0.out.bel) (by rw [show (120 : Nat).toUInt8 = 120 from rfl, fld_x]; exact HX.out)).mono ?_
        rintro e u1 ⟨rfl, hb⟩
        have B1 := Lib.hid (B0.out.next hb)
        clear hb c0 hlt
        have c0 := fun o => cell_of_row u1 _ o _ _ (0, 0) B1.out.box
        have hlt := B1.out.lt
        go_wp2_with fail
        cases hS : AC.hasS k
        · have HS := Lib.hid hS
          clear hS
          refine (field_is k 115 false _ (HR.out.below B1.out.bel) (by rw [show (115 : Nat).toUInt8 = 115 from rfl, fld_s]; exact HS.out)).mono ?_
          rintro e u2 ⟨rfl, hb⟩
          have B2 := Lib.hid (B1.out.next hb)
          clear hb c0 hlt
          have c0 := fun o => cell_of_row u2 _ o _ _ (0, 0) B2.out.box
          have hlt := B2.out.lt
          cases hz : RC.strEq s ⟨#[]⟩
          · have Z3 := Lib.hid hz
            have z := str_no hz
            have z1 : s.toList.isEmpty = false := str_no2 hz
            clear hz
            go_wp2_with fail
            go_ret
            exact ⟨ret_bool (by simp [AC.beyond, HN.out, Z1.out, HX.out, HS.out, Z3.out]), B2.out.bel⟩
          · have Z3 := Lib.hid hz
            have z := str_yes hz
            have z1 : s.toList.isEmpty = true := str_yes2 hz
            clear hz
            go_wp2_with fail
            clear z z1
            cases hM : AC.hasM k
            · have HM := Lib.hid hM
              clear hM
              refine (field_is k 109 false _ (HR.out.below B2.out.bel) (by rw [show (109 : Nat).toUInt8 = 109 from rfl, fld_m]; exact HM.out)).mono ?_
              rintro e u3 ⟨rfl, hb⟩
              have B3 := Lib.hid (B2.out.next hb)
              clear hb c0 hlt
              have c0 := fun o => cell_of_row u3 _ o _ _ (0, 0) B3.out.box
              have hlt := B3.out.lt
              go_wp2_with fail
              refine (recSame_any m RC.zero A none c 0 _ HO.out.make RC.zero_ok (HI.out.below B3.out.bel) (Its.nil _ _) HL.out).mono ?_
              rintro e w9 ⟨rfl, hb⟩
              have B9 := Lib.hid (B3.out.next hb)
              clear hb c0 hlt
              go_wp2_with fail
              go_ret
              exact ⟨ret_bool (by simp [AC.beyond, HN.out, Z1.out, HX.out, HS.out, Z3.out, HM.out]), B9.out.bel⟩
            · have HM := Lib.hid hM
              clear hM
              refine (field_is k 109 true _ (HR.out.below B2.out.bel) (by rw [show (109 : Nat).toUInt8 = 109 from rfl, fld_m]; exact HM.out)).mono ?_
              rintro e u3 ⟨rfl, hb⟩
              have B3 := Lib.hid (B2.out.next hb)
              clear hb c0 hlt
              have c0 := fun o => cell_of_row u3 _ o _ _ (0, 0) B3.out.box
              have hlt := B3.out.lt
              go_wp2_with fail
              go_ret
              exact ⟨ret_bool (by simp [AC.beyond, HN.out, Z1.out, HX.out, HS.out, Z3.out, HM.out]), B3.out.bel⟩
        · have HS := Lib.hid hS
          clear hS
          refine (field_is k 115 true _ (HR.out.below B1.out.bel) (by rw [show (115 : Nat).toUInt8 = 115 from rfl, fld_s]; exact HS.out)).mono ?_
          rintro e u2 ⟨rfl, hb⟩
          have B2 := Lib.hid (B1.out.next hb)
          clear hb c0 hlt
          have c0 := fun o => cell_of_row u2 _ o _ _ (0, 0) B2.out.box
          have hlt := B2.out.lt
          go_wp2_with fail
          cases hM : AC.hasM k
          · have HM := Lib.hid hM
            clear hM
            refine (field_is k 109 false _ (HR.out.below B2.out.bel) (by rw [show (109 : Nat).toUInt8 = 109 from rfl, fld_m]; exact HM.out)).mono ?_
            rintro e u3 ⟨rfl, hb⟩
            have B3 := Lib.hid (B2.out.next hb)
            clear hb c0 hlt
            have c0 := fun o => cell_of_row u3 _ o _ _ (0, 0) B3.out.box
            have hlt := B3.out.lt
            go_wp2_with fail
            refine (recSame_any m RC.zero A none c 0 _ HO.out.make RC.zero_ok (HI.out.below B3.out.bel) (Its.nil _ _) HL.out).mono ?_
            rintro e w9 ⟨rfl, hb⟩
            have B9 := Lib.hid (B3.out.next hb)
            clear hb c0 hlt
            go_wp2_with fail
            go_ret
            exact ⟨ret_bool (by simp [AC.beyond, HN.out, Z1.out, HX.out, HS.out, HM.out]), B9.out.bel⟩
          · have HM := Lib.hid hM
            clear hM
            refine (field_is k 109 true _ (HR.out.below B2.out.bel) (by rw [show (109 : Nat).toUInt8 = 109 from rfl, fld_m]; exact HM.out)).mono ?_
            rintro e u3 ⟨rfl, hb⟩
            have B3 := Lib.hid (B2.out.next hb)
            clear hb c0 hlt
            have c0 := fun o => cell_of_row u3 _ o _ _ (0, 0) B3.out.box
            have hlt := B3.out.lt
            go_wp2_with fail
            go_ret
            exact ⟨ret_bool (by simp [AC.beyond, HN.out, Z1.out, HX.out, HS.out, HM.out]), B3.out.bel⟩
    · have z : (n != 0) = true := by simp [hz]
      have Z1 := Lib.hid z
      clear hz
      go_wp2_with fail
      go_ret
      exact ⟨ret_bool (by simp [AC.beyond, HN.out, Z1.out]), B0.out.bel⟩
  · have HN := Lib.hid hN
    clear hN
    refine (field_is k 110 true _ (HR.out.below B.out.bel) (by rw [show (110 : Nat).toUInt8 = 110 from rfl, fld_n]; exact HN.out)).mono ?_
    rintro e u0 ⟨rfl, hb⟩
    have B0 := Lib.hid (B.out.next hb)
    clear hb 
    have c0 := fun o => cell_of_row u0 _ o _ _ (0, 0) B0.out.box
    have hlt := B0.out.lt
    go_wp2_with fail
    cases hX : AC.hasX k
    · have HX := Lib.hid hX
      clear hX
      refine (field_is k 120 false _ (HR.out.below B0.out.bel) (by rw [show (120 : Nat).toUInt8 = 120 from rfl, fld_x]; exact HX.out)).mono ?_
      rintro e u1 ⟨rfl, hb⟩
      have B1 := Lib.hid (B0.out.next hb)
      clear hb c0 hlt
      have c0 := fun o => cell_of_row u1 _ o _ _ (0, 0) B1.out.box
      have hlt := B1.out.lt
      go_wp2_with fail
      cases hz : MF.same x 0
      · have Z2 := Lib.hid hz
        clear hz
        refine (same_any x 0 _ HO.out.x (by unfold MF.W64; decide)).mono ?_
        rw [Z2.out]
        rintro e w' ⟨rfl, rfl⟩
        go_wp2_with fail
        go_ret
        exact ⟨ret_bool (by simp [AC.beyond, HN.out, HX.out, Z2.out]), B1.out.bel⟩
      · have Z2 := Lib.hid hz
        clear hz
        refine (same_any x 0 _ HO.out.x (by unfold MF.W64; decide)).mono ?_
        rw [Z2.out]
        rintro e w' ⟨rfl, rfl⟩
        go_wp2_with fail
        cases hS : AC.hasS k
        · have HS := Lib.hid hS
          clear hS
          refine (field_is k 115 false _ (HR.out.below B1.out.bel) (by rw [show (115 : Nat).toUInt8 = 115 from rfl, fld_s]; exact HS.out)).mono ?_
          rintro e u2 ⟨rfl, hb⟩
          have B2 := Lib.hid (B1.out.next hb)
          clear hb c0 hlt
          have c0 := fun o => cell_of_row u2 _ o _ _ (0, 0) B2.out.box
          have hlt := B2.out.lt
          cases hz : RC.strEq s ⟨#[]⟩
          · have Z3 := Lib.hid hz
            have z := str_no hz
            have z1 : s.toList.isEmpty = false := str_no2 hz
            clear hz
            go_wp2_with fail
            go_ret
            exact ⟨ret_bool (by simp [AC.beyond, HN.out, HX.out, Z2.out, HS.out, Z3.out]), B2.out.bel⟩
          · have Z3 := Lib.hid hz
            have z := str_yes hz
            have z1 : s.toList.isEmpty = true := str_yes2 hz
            clear hz
            go_wp2_with fail
            clear z z1
            cases hM : AC.hasM k
            · have HM := Lib.hid hM
              clear hM
              refine (field_is k 109 false _ (HR.out.below B2.out.bel) (by rw [show (109 : Nat).toUInt8 = 109 from rfl, fld_m]; exact HM.out)).mono ?_
              rintro e u3 ⟨rfl, hb⟩
              have B3 := Lib.hid (B2.out.next hb)
              clear hb c0 hlt
              have c0 := fun o => cell_of_row u3 _ o _ _ (0, 0) B3.out.box
              have hlt := B3.out.lt
              go_wp2_with fail
              refine (recSame_any m RC.zero A none c 0 _ HO.out.make RC.zero_ok (HI.out.below B3.out.bel) (Its.nil _ _) HL.out).mono ?_
              rintro e w9 ⟨rfl, hb⟩
              have B9 := Lib.hid (B3.out.next hb)
              clear hb c0 hlt
              go_wp2_with fail
              go_ret
              exact ⟨ret_bool (by simp [AC.beyond, HN.out, HX.out, Z2.out, HS.out, Z3.out, HM.out]), B9.out.bel⟩
            · have HM := Lib.hid hM
              clear hM
              refine (field_is k 109 true _ (HR.out.below B2.out.bel) (by rw [show (109 : Nat).toUInt8 = 109 from rfl, fld_m]; exact HM.out)).mono ?_
              rintro e u3 ⟨rfl, hb⟩
              have B3 := Lib.hid (B2.out.next hb)
              clear hb c0 hlt
              have c0 := fun o => cell_of_row u3 _ o _ _ (0, 0) B3.out.box
              have hlt := B3.out.lt
              go_wp2_with fail
              go_ret
              exact ⟨ret_bool (by simp [AC.beyond, HN.out, HX.out, Z2.out, HS.out, Z3.out, HM.out]), B3.out.bel⟩
        · have HS := Lib.hid hS
          clear hS
          refine (field_is k 115 true _ (HR.out.below B1.out.bel) (by rw [show (115 : Nat).toUInt8 = 115 from rfl, fld_s]; exact HS.out)).mono ?_
          rintro e u2 ⟨rfl, hb⟩
          have B2 := Lib.hid (B1.out.next hb)
          clear hb c0 hlt
          have c0 := fun o => cell_of_row u2 _ o _ _ (0, 0) B2.out.box
          have hlt := B2.out.lt
          go_wp2_with fail
          cases hM : AC.hasM k
          · have HM := Lib.hid hM
            clear hM
            refine (field_is k 109 false _ (HR.out.below B2.out.bel) (by rw [show (109 : Nat).toUInt8 = 109 from rfl, fld_m]; exact HM.out)).mono ?_
            rintro e u3 ⟨rfl, hb⟩
            have B3 := Lib.hid (B2.out.next hb)
            clear hb c0 hlt
            have c0 := fun o => cell_of_row u3 _ o _ _ (0, 0) B3.out.box
            have hlt := B3.out.lt
            go_wp2_with fail
            refine (recSame_any m RC.zero A none c 0 _ HO.out.make RC.zero_ok (HI.out.below B3.out.bel) (Its.nil _ _) HL.out).mono ?_
            rintro e w9 ⟨rfl, hb⟩
            have B9 := Lib.hid (B3.out.next hb)
            clear hb c0 hlt
            go_wp2_with fail
            go_ret
            exact ⟨ret_bool (by simp [AC.beyond, HN.out, HX.out, Z2.out, HS.out, HM.out]), B9.out.bel⟩
          · have HM := Lib.hid hM
            clear hM
            refine (field_is k 109 true _ (HR.out.below B2.out.bel) (by rw [show (109 : Nat).toUInt8 = 109 from rfl, fld_m]; exact HM.out)).mono ?_
            rintro e u3 ⟨rfl, hb⟩
            have B3 := Lib.hid (B2.out.next hb)
            clear hb c0 hlt
            have c0 := fun o => cell_of_row u3 _ o _ _ (0, 0) B3.out.box
            have hlt := B3.out.lt
            go_wp2_with fail
            go_ret
            exact ⟨ret_bool (by simp [AC.beyond, HN.out, HX.out, Z2.out, HS.out, HM.out]), B3.out.bel⟩
    · have HX := Lib.hid hX
      clear hX
      refine (field_is k 120 true _ (HR.out.below B0.out.bel) (by rw [show (120 : Nat).toUInt8 = 120 from rfl, fld_x]; exact HX.out)).mono ?_
      rintro e u1 ⟨rfl, hb⟩
      have B1 := Lib.hid (B0.out.next hb)
      clear hb c0 hlt
      have c0 := fun o => cell_of_row u1 _ o _ _ (0, 0) B1.out.box
      have hlt := B1.out.lt
      go_wp2_with fail
      cases hS : AC.hasS k
      · have HS := Lib.hid hS
        clear hS
        refine (field_is k 115 false _ (HR.out.below B1.out.bel) (by rw [show (115 : Nat).toUInt8 = 115 from rfl, fld_s]; exact HS.out)).mono ?_
        rintro e u2 ⟨rfl, hb⟩
        have B2 := Lib.hid (B1.out.next hb)
        clear hb c0 hlt
        have c0 := fun o => cell_of_row u2 _ o _ _ (0, 0) B2.out.box
        have hlt := B2.out.lt
        cases hz : RC.strEq s ⟨#[]⟩
        · have Z3 := Lib.hid hz
          have z := str_no hz
          have z1 : s.toList.isEmpty = false := str_no2 hz
          clear hz
          go_wp2_with fail
          go_ret
          exact ⟨ret_bool (by simp [AC.beyond, HN.out, HX.out, HS.out, Z3.out]), B2.out.bel⟩
        · have Z3 := Lib.hid hz
          have z := str_yes hz
          have z1 : s.toList.isEmpty = true := str_yes2 hz
          clear hz
          go_wp2_with fail
          clear z z1
          cases hM : AC.hasM k
          · have HM := Lib.hid hM
            clear hM
            refine (field_is k 109 false _ (HR.out.below B2.out.bel) (by rw [show (109 : Nat).toUInt8 = 109 from rfl, fld_m]; exact HM.out)).mono ?_
            rintro e u3 ⟨rfl, hb⟩
            have B3 := Lib.hid (B2.out.next hb)
            clear hb c0 hlt
            have c0 := fun o => cell_of_row u3 _ o _ _ (0, 0) B3.out.box
            have hlt := B3.out.lt
            go_wp2_with fail
            refine (recSame_any m RC.zero A none c 0 _ HO.out.make RC.zero_ok (HI.out.below B3.out.bel) (Its.nil _ _) HL.out).mono ?_
            rintro e w9 ⟨rfl, hb⟩
            have B9 := Lib.hid (B3.out.next hb)
            clear hb c0 hlt
            go_wp2_with fail
            go_ret
            exact ⟨ret_bool (by simp [AC.beyond, HN.out, HX.out, HS.out, Z3.out, HM.out]), B9.out.bel⟩
          · have HM := Lib.hid hM
            clear hM
            refine (field_is k 109 true _ (HR.out.below B2.out.bel) (by rw [show (109 : Nat).toUInt8 = 109 from rfl, fld_m]; exact HM.out)).mono ?_
            rintro e u3 ⟨rfl, hb⟩
            have B3 := Lib.hid (B2.out.next hb)
            clear hb c0 hlt
            have c0 := fun o => cell_of_row u3 _ o _ _ (0, 0) B3.out.box
            have hlt := B3.out.lt
            go_wp2_with fail
            go_ret
            exact ⟨ret_bool (by simp [AC.beyond, HN.out, HX.out, HS.out, Z3.out, HM.out]), B3.out.bel⟩
      · have HS := Lib.hid hS
        clear hS
        refine (field_is k 115 true _ (HR.out.below B1.out.bel) (by rw [show (115 : Nat).toUInt8 = 115 from rfl, fld_s]; exact HS.out)).mono ?_
        rintro e u2 ⟨rfl, hb⟩
        have B2 := Lib.hid (B1.out.next hb)
        clear hb c0 hlt
        have c0 := fun o => cell_of_row u2 _ o _ _ (0, 0) B2.out.box
        have hlt := B2.out.lt
        go_wp2_with fail
        cases hM : AC.hasM k
        · have HM := Lib.hid hM
          clear hM
          refine (field_is k 109 false _ (HR.out.below B2.out.bel) (by rw [show (109 : Nat).toUInt8 = 109 from rfl, fld_m]; exact HM.out)).mono ?_
          rintro e u3 ⟨rfl, hb⟩
          have B3 := Lib.hid (B2.out.next hb)
          clear hb c0 hlt
          have c0 := fun o => cell_of_row u3 _ o _ _ (0, 0) B3.out.box
          have hlt := B3.out.lt
          go_wp2_with fail
          refine (recSame_any m RC.zero A none c 0 _ HO.out.make RC.zero_ok (HI.out.below B3.out.bel) (Its.nil _ _) HL.out).mono ?_
          rintro e w9 ⟨rfl, hb⟩
          have B9 := Lib.hid (B3.out.next hb)
          clear hb c0 hlt
          go_wp2_with fail
          go_ret
          exact ⟨ret_bool (by simp [AC.beyond, HN.out, HX.out, HS.out, HM.out]), B9.out.bel⟩
        · have HM := Lib.hid hM
          clear hM
          refine (field_is k 109 true _ (HR.out.below B2.out.bel) (by rw [show (109 : Nat).toUInt8 = 109 from rfl, fld_m]; exact HM.out)).mono ?_
          rintro e u3 ⟨rfl, hb⟩
          have B3 := Lib.hid (B2.out.next hb)
          clear hb c0 hlt
          have c0 := fun o => cell_of_row u3 _ o _ _ (0, 0) B3.out.box
          have hlt := B3.out.lt
          go_wp2_with fail
          go_ret
          exact ⟨ret_bool (by simp [AC.beyond, HN.out, HX.out, HS.out, HM.out]), B3.out.bel⟩

end Go.Proofs.YtaaeefndhmfceaaDoor
