/- Contracts of package act: an act is written; its bytes. -/
import Derived.Test.YtaaeefndhmfceaaDoorAct4
namespace AC
/-- Which fields a kind has: none, or one of these five. -/
theorem kinds6 {k : Int} (h : 0 < k ∧ k < 22) : (hasN k = false ∧ hasX k = false ∧ hasS k = false ∧ hasM k = false) ∨ (hasN k = true ∧ hasX k = false ∧ hasS k = false ∧ hasM k = false) ∨ (hasN k = false ∧ hasX k = true ∧ hasS k = false ∧ hasM k = false) ∨ (hasN k = false ∧ hasX k = false ∧ hasS k = true ∧ hasM k = false) ∨ (hasN k = false ∧ hasX k = true ∧ hasS k = true ∧ hasM k = false) ∨ (hasN k = false ∧ hasX k = false ∧ hasS k = false ∧ hasM k = true) := by
  have h22 : ∀ j : Fin 22, (hasN (j.val : Int) = false ∧ hasX (j.val : Int) = false ∧ hasS (j.val : Int) = false ∧ hasM (j.val : Int) = false) ∨ (hasN (j.val : Int) = true ∧ hasX (j.val : Int) = false ∧ hasS (j.val : Int) = false ∧ hasM (j.val : Int) = false) ∨ (hasN (j.val : Int) = false ∧ hasX (j.val : Int) = true ∧ hasS (j.val : Int) = false ∧ hasM (j.val : Int) = false) ∨ (hasN (j.val : Int) = false ∧ hasX (j.val : Int) = false ∧ hasS (j.val : Int) = true ∧ hasM (j.val : Int) = false) ∨ (hasN (j.val : Int) = false ∧ hasX (j.val : Int) = true ∧ hasS (j.val : Int) = true ∧ hasM (j.val : Int) = false) ∨ (hasN (j.val : Int) = false ∧ hasX (j.val : Int) = false ∧ hasS (j.val : Int) = false ∧ hasM (j.val : Int) = true) := by decide +kernel
  have := h22 ⟨k.toNat, by omega⟩
  rwa [show ((k.toNat : Nat) : Int) = k by omega] at this
/-- How long the parts of an act are. -/
structure Bd (a : Ac) : Prop where
  kind : (PK.digits a.kind.toNat).length ≤ 10
  key : (PK.textB a.key.data.toList).length ≤ 34
  n : (PK.digits (PK.zig a.n)).length ≤ 10
  s : (PK.textB a.s.data.toList).length ≤ 74
end AC
namespace Go.Proofs.YtaaeefndhmfceaaDoor
open Go.RowKit MM

theorem act_bd (a : AC.Ac) (ha : a.ok) (hm : AC.May a) : AC.Bd a := by
  have d : ∀ n, n < 18446744073709551616 → (PK.digits n).length ≤ 10 := fun n h => PK.digits_length h
  have hk := hm.known
  refine ⟨d _ (by omega), ?_, d _ (PK.zag_zig a.n (wf_i64 ha.n)).2, ?_⟩
  · unfold PK.textB
    have := hm.key
    have h1 := d a.key.data.toList.length (by rw [sz_list]; omega)
    rw [List.length_append, sz_list]
    rw [sz_list] at h1
    omega
  · unfold PK.textB
    have hs := hm.most
    have hb : AC.most a.kind ≤ 64 := by unfold AC.most; split <;> (try split) <;> omega
    have h1 := d a.s.data.toList.length (by rw [sz_list]; omega)
    rw [List.length_append, sz_list]
    rw [sz_list] at h1
    omega
theorem WAt.new (a : AC.Ac) (L : Option Addr) (cl p : Nat) (A : Option Addr) (c : Nat) (xs : List UInt8) (w : World) (hw : Wr 5 w p A c xs) (hI : Its w L a.make.list) (hL : Beside a.make.list L p A) (hR : RowsAt w) (hp : p ≠ 0) (hA : ob A ≠ some 0) :
    WAt w a L cl p A A c xs (w.alloc (.cells (actC a L cl) 31)) :=
  ⟨heap_alloc_new w _, hw.alloc _, ⟨(Kp.refl _ w).alloc _, .inl rfl⟩, hI.alloc _, hL, hR.below (below1 w _), hp, hA, fun e => by have := wr_in hw _ e; omega⟩

set_option maxHeartbeats 8000000 in
set_option maxRecDepth 100000 in
theorem write_any4 (a : AC.Ac) (L : Option Addr) (cl : Nat) (p : Nat) (A : Option Addr) (c : Nat) (xs : List UInt8) (w : World) (ha : a.ok) (hm : AC.May a) (hI : Its w L a.make.list) (hw : Wr 5 w p A c xs)
    (hl : xs.length + 2200 < 4294967296) (hL : Beside a.make.list L p A) (hR : RowsAt w) (hp : p ≠ 0) (hA : ob A ≠ some 0) :
    Calls Tryd.prog 62 #[.pointer (some ⟨p, 0, none⟩), actV a L cl] w (WPost 5 p A (xs ++ AC.actB a) w) := by
  have S0 := WAt.new a L cl p A c xs w hw hI hL hR hp hA
  have HS0 := Lib.hid S0
  have hpl := hw.lt
  obtain ⟨b0, b1, b2, b3⟩ := act_bd a ha hm
  have HO := Lib.hid ha
  have HM := Lib.hid hm
  clear S0 hI hL hR hp hA hw
  rcases AC.kinds6 hm.known with ⟨gN, gX, gS, gM⟩ | ⟨gN, gX, gS, gM⟩ | ⟨gN, gX, gS, gM⟩ | ⟨gN, gX, gS, gM⟩ | ⟨gN, gX, gS, gM⟩ | ⟨gN, gX, gS, gM⟩
  · have HZ := Lib.hid (show AC.actB a = PK.digits a.kind.toNat ++ (PK.flagB a.must ++ (PK.textB a.key.data.toList ++ ([]))) by unfold AC.actB AC.fieldB AC.nB AC.xB AC.sB AC.mB; simp [gN, gX, gS, gM])
    have HN := Lib.hid gN
    have HX := Lib.hid gX
    have HSs := Lib.hid gS
    have HMm := Lib.hid gM
    clear gN gX gS gM hm ha
    obtain ⟨k, key, n, x, s, m, must⟩ := a
    have hk := HM.out.known
    obtain ⟨j, rfl⟩ : ∃ j : Nat, k = (j : Int) := ⟨k.toNat, by have : 0 < k ∧ k < 22 := hk; omega⟩
    have hj : j ≤ 21 := by have : 0 < (j : Int) ∧ (j : Int) < 22 := hk; omega
    have hwj := wrap_nat j (by omega)
    clear hk
    simp only [Int.toNat_natCast] at b0
    go_enter Tryd.func62, Tryd.ntmps62
    go_wp2_with fail
    refine (wu_any p A c xs j _ HS0.out.wr (by unfold Lim; omega)).mono ?_
    rintro e u1 ⟨rfl, A1, c1, hw, hs⟩
    have S := HS0.out.write hpl hw hs
    clear hw hs hwj
    have HS1 := Lib.hid S
    clear S
    have c0 := fun o => cell_of_row u1 _ o _ _ (0, 0) HS1.out.box
    go_wp2_with fail
    refine (flag_any p A1 c1 _ must _ HS1.out.wr (by unfold Lim; simp only [List.length_append]; omega)).mono ?_
    rintro e u2 ⟨rfl, A2, c2, hw, hs⟩
    have S := HS1.out.write hpl hw hs
    clear hw hs c0
    have HS2 := Lib.hid S
    clear S
    have c0 := fun o => cell_of_row u2 _ o _ _ (0, 0) HS2.out.box
    have l1 : (PK.flagB must).length = 1 := rfl
    go_wp2_with fail
    refine (ws_any p A2 c2 _ key _ HS2.out.wr (by unfold Lim; simp only [List.length_append]; omega)).mono ?_
    rintro e u3 ⟨rfl, A3, c3, hw, hs⟩
    have S := HS2.out.write hpl hw hs
    clear hw hs c0
    have HS3 := Lib.hid S
    clear S
    have c0 := fun o => cell_of_row u3 _ o _ _ (0, 0) HS3.out.box
    go_wp2_with fail
    refine (field_is (j : Int) 110 false _ HS3.out.rows (by rw [show (110 : Nat).toUInt8 = 110 from rfl, fld_n]; exact HN.out)).mono ?_
    rintro e u4 ⟨rfl, hb⟩
    have S := HS3.out.look hb
    clear hb c0
    have HS4 := Lib.hid S
    clear S
    have c0 := fun o => cell_of_row u4 _ o _ _ (0, 0) HS4.out.box
    go_wp2_with fail
    refine (field_is (j : Int) 120 false _ HS4.out.rows (by rw [show (120 : Nat).toUInt8 = 120 from rfl, fld_x]; exact HX.out)).mono ?_
    rintro e u5 ⟨rfl, hb⟩
    have S := HS4.out.look hb
    clear hb c0
    have HS5 := Lib.hid S
    clear S
    have c0 := fun o => cell_of_row u5 _ o _ _ (0, 0) HS5.out.box
    go_wp2_with fail
    refine (field_is (j : Int) 115 false _ HS5.out.rows (by rw [show (115 : Nat).toUInt8 = 115 from rfl, fld_s]; exact HSs.out)).mono ?_
    rintro e u6 ⟨rfl, hb⟩
    have S := HS5.out.look hb
    clear hb c0
    have HS6 := Lib.hid S
    clear S
    have c0 := fun o => cell_of_row u6 _ o _ _ (0, 0) HS6.out.box
    go_wp2_with fail
    refine (field_is (j : Int) 109 false _ HS6.out.rows (by rw [show (109 : Nat).toUInt8 = 109 from rfl, fld_m]; exact HMm.out)).mono ?_
    rintro e u7 ⟨rfl, hb⟩
    have S := HS6.out.look hb
    clear hb c0
    have HS7 := Lib.hid S
    clear S
    have c0 := fun o => cell_of_row u7 _ o _ _ (0, 0) HS7.out.box
    go_wp2_with fail
    go_end0
    refine ⟨rfl, A3, c3, ?_, HS7.out.ws⟩
    rw [HZ.out]
    have := HS7.out.wr
    simpa only [List.append_assoc, List.append_nil, Int.toNat_natCast] using this
  · have HZ := Lib.hid (show AC.actB a = PK.digits a.kind.toNat ++ (PK.flagB a.must ++ (PK.textB a.key.data.toList ++ (PK.digits (PK.zig a.n)))) by unfold AC.actB AC.fieldB AC.nB AC.xB AC.sB AC.mB; simp [gN, gX, gS, gM])
    have HN := Lib.hid gN
    have HX := Lib.hid gX
    have HSs := Lib.hid gS
    have HMm := Lib.hid gM
    clear gN gX gS gM hm ha
    obtain ⟨k, key, n, x, s, m, must⟩ := a
    have hk := HM.out.known
    obtain ⟨j, rfl⟩ : ∃ j : Nat, k = (j : Int) := ⟨k.toNat, by have : 0 < k ∧ k < 22 := hk; omega⟩
    have hj : j ≤ 21 := by have : 0 < (j : Int) ∧ (j : Int) < 22 := hk; omega
    have hwj := wrap_nat j (by omega)
    clear hk
    simp only [Int.toNat_natCast] at b0
    go_enter Tryd.func62, Tryd.ntmps62
    go_wp2_with fail
    refine (wu_any p A c xs j _ HS0.out.wr (by unfold Lim; omega)).mono ?_
    rintro e u1 ⟨rfl, A1, c1, hw, hs⟩
    have S := HS0.out.write hpl hw hs
    clear hw hs hwj
    have HS1 := Lib.hid S
    clear S
    have c0 := fun o => cell_of_row u1 _ o _ _ (0, 0) HS1.out.box
    go_wp2_with fail
    refine (flag_any p A1 c1 _ must _ HS1.out.wr (by unfold Lim; simp only [List.length_append]; omega)).mono ?_
    rintro e u2 ⟨rfl, A2, c2, hw, hs⟩
    have S := HS1.out.write hpl hw hs
    clear hw hs c0
    have HS2 := Lib.hid S
    clear S
    have c0 := fun o => cell_of_row u2 _ o _ _ (0, 0) HS2.out.box
    have l1 : (PK.flagB must).length = 1 := rfl
    go_wp2_with fail
    refine (ws_any p A2 c2 _ key _ HS2.out.wr (by unfold Lim; simp only [List.length_append]; omega)).mono ?_
    rintro e u3 ⟨rfl, A3, c3, hw, hs⟩
    have S := HS2.out.write hpl hw hs
    clear hw hs c0
    have HS3 := Lib.hid S
    clear S
    have c0 := fun o => cell_of_row u3 _ o _ _ (0, 0) HS3.out.box
    go_wp2_with fail
    refine (field_is (j : Int) 110 true _ HS3.out.rows (by rw [show (110 : Nat).toUInt8 = 110 from rfl, fld_n]; exact HN.out)).mono ?_
    rintro e u4 ⟨rfl, hb⟩
    have S := HS3.out.look hb
    clear hb c0
    have HS4 := Lib.hid S
    clear S
    have c0 := fun o => cell_of_row u4 _ o _ _ (0, 0) HS4.out.box
    go_wp2_with fail
    refine (wi_any p A3 c3 _ n _ HS4.out.wr HO.out.n (by unfold Lim; simp only [List.length_append]; omega)).mono ?_
    rintro e u5 ⟨rfl, A5, c5, hw, hs⟩
    have S := HS4.out.write hpl hw hs
    clear hw hs c0
    have HS5 := Lib.hid S
    clear S
    have c0 := fun o => cell_of_row u5 _ o _ _ (0, 0) HS5.out.box
    go_wp2_with fail
    refine (field_is (j : Int) 120 false _ HS5.out.rows (by rw [show (120 : Nat).toUInt8 = 120 from rfl, fld_x]; exact HX.out)).mono ?_
    rintro e u6 ⟨rfl, hb⟩
    have S := HS5.out.look hb
    clear hb c0
    have HS6 := Lib.hid S
    clear S
    have c0 := fun o => cell_of_row u6 _ o _ _ (0, 0) HS6.out.box
    go_wp2_with fail
    refine (field_is (j : Int) 115 false _ HS6.out.rows (by rw [show (115 : Nat).toUInt8 = 115 from rfl, fld_s]; exact HSs.out)).mono ?_
    rintro e u7 ⟨rfl, hb⟩
    have S := HS6.out.look hb
    clear hb c0
    have HS7 := Lib.hid S
    clear S
    have c0 := fun o => cell_of_row u7 _ o _ _ (0, 0) HS7.out.box
    go_wp2_with fail
    refine (field_is (j : Int) 109 false _ HS7.out.rows (by rw [show (109 : Nat).toUInt8 = 109 from rfl, fld_m]; exact HMm.out)).mono ?_
    rintro e u8 ⟨rfl, hb⟩
    have S := HS7.out.look hb
    clear hb c0
    have HS8 := Lib.hid S
    clear S
    have c0 := fun o => cell_of_row u8 _ o _ _ (0, 0) HS8.out.box
    go_wp2_with fail
    go_end0
    refine ⟨rfl, A5, c5, ?_, HS8.out.ws⟩
    rw [HZ.out]
    have := HS8.out.wr
    simpa only [List.append_assoc, List.append_nil, Int.toNat_natCast] using this
  · have HZ := Lib.hid (show AC.actB a = PK.digits a.kind.toNat ++ (PK.flagB a.must ++ (PK.textB a.key.data.toList ++ (PK.placeB (MF.key a.x)))) by unfold AC.actB AC.fieldB AC.nB AC.xB AC.sB AC.mB; simp [gN, gX, gS, gM])
    have HN := Lib.hid gN
    have HX := Lib.hid gX
    have HSs := Lib.hid gS
    have HMm := Lib.hid gM
    clear gN gX gS gM hm ha
    obtain ⟨k, key, n, x, s, m, must⟩ := a
    have hk := HM.out.known
    obtain ⟨j, rfl⟩ : ∃ j : Nat, k = (j : Int) := ⟨k.toNat, by have : 0 < k ∧ k < 22 := hk; omega⟩
    have hj : j ≤ 21 := by have : 0 < (j : Int) ∧ (j : Int) < 22 := hk; omega
    have hwj := wrap_nat j (by omega)
    clear hk
    simp only [Int.toNat_natCast] at b0
    go_enter Tryd.func62, Tryd.ntmps62
    go_wp2_with fail
    refine (wu_any p A c xs j _ HS0.out.wr (by unfold Lim; omega)).mono ?_
    rintro e u1 ⟨rfl, A1, c1, hw, hs⟩
    have S := HS0.out.write hpl hw hs
    clear hw hs hwj
    have HS1 := Lib.hid S
    clear S
    have c0 := fun o => cell_of_row u1 _ o _ _ (0, 0) HS1.out.box
    go_wp2_with fail
    refine (flag_any p A1 c1 _ must _ HS1.out.wr (by unfold Lim; simp only [List.length_append]; omega)).mono ?_
    rintro e u2 ⟨rfl, A2, c2, hw, hs⟩
    have S := HS1.out.write hpl hw hs
    clear hw hs c0
    have HS2 := Lib.hid S
    clear S
    have c0 := fun o => cell_of_row u2 _ o _ _ (0, 0) HS2.out.box
    have l1 : (PK.flagB must).length = 1 := rfl
    go_wp2_with fail
    refine (ws_any p A2 c2 _ key _ HS2.out.wr (by unfold Lim; simp only [List.length_append]; omega)).mono ?_
    rintro e u3 ⟨rfl, A3, c3, hw, hs⟩
    have S := HS2.out.write hpl hw hs
    clear hw hs c0
    have HS3 := Lib.hid S
    clear S
    have c0 := fun o => cell_of_row u3 _ o _ _ (0, 0) HS3.out.box
    go_wp2_with fail
    refine (field_is (j : Int) 110 false _ HS3.out.rows (by rw [show (110 : Nat).toUInt8 = 110 from rfl, fld_n]; exact HN.out)).mono ?_
    rintro e u4 ⟨rfl, hb⟩
    have S := HS3.out.look hb
    clear hb c0
    have HS4 := Lib.hid S
    clear S
    have c0 := fun o => cell_of_row u4 _ o _ _ (0, 0) HS4.out.box
    go_wp2_with fail
    refine (field_is (j : Int) 120 true _ HS4.out.rows (by rw [show (120 : Nat).toUInt8 = 120 from rfl, fld_x]; exact HX.out)).mono ?_
    rintro e u5 ⟨rfl, hb⟩
    have S := HS4.out.look hb
    clear hb c0
    have HS5 := Lib.hid S
    clear S
    have c0 := fun o => cell_of_row u5 _ o _ _ (0, 0) HS5.out.box
    go_wp2_with fail
    refine (wf_any p A3 c3 _ x _ HO.out.x HS5.out.wr (by unfold Lim; simp only [List.length_append]; omega)).mono ?_
    rintro e u6 ⟨rfl, A6, c6, hw, hs⟩
    have S := HS5.out.write hpl hw hs
    clear hw hs c0
    have HS6 := Lib.hid S
    clear S
    have c0 := fun o => cell_of_row u6 _ o _ _ (0, 0) HS6.out.box
    go_wp2_with fail
    refine (field_is (j : Int) 115 false _ HS6.out.rows (by rw [show (115 : Nat).toUInt8 = 115 from rfl, fld_s]; exact HSs.out)).mono ?_
    rintro e u7 ⟨rfl, hb⟩
    have S := HS6.out.look hb
    clear hb c0
    have HS7 := Lib.hid S
    clear S
    have c0 := fun o => cell_of_row u7 _ o _ _ (0, 0) HS7.out.box
    go_wp2_with fail
    refine (field_is (j : Int) 109 false _ HS7.out.rows (by rw [show (109 : Nat).toUInt8 = 109 from rfl, fld_m]; exact HMm.out)).mono ?_
    rintro e u8 ⟨rfl, hb⟩
    have S := HS7.out.look hb
    clear hb c0
    have HS8 := Lib.hid S
    clear S
    have c0 := fun o => cell_of_row u8 _ o _ _ (0, 0) HS8.out.box
    go_wp2_with fail
    go_end0
    refine ⟨rfl, A6, c6, ?_, HS8.out.ws⟩
    rw [HZ.out]
    have := HS8.out.wr
    simpa only [List.append_assoc, List.append_nil, Int.toNat_natCast] using this
  · have HZ := Lib.hid (show AC.actB a = PK.digits a.kind.toNat ++ (PK.flagB a.must ++ (PK.textB a.key.data.toList ++ (PK.textB a.s.data.toList))) by unfold AC.actB AC.fieldB AC.nB AC.xB AC.sB AC.mB; simp [gN, gX, gS, gM])
    have HN := Lib.hid gN
    have HX := Lib.hid gX
    have HSs := Lib.hid gS
    have HMm := Lib.hid gM
    clear gN gX gS gM hm ha
    obtain ⟨k, key, n, x, s, m, must⟩ := a
    have hk := HM.out.known
    obtain ⟨j, rfl⟩ : ∃ j : Nat, k = (j : Int) := ⟨k.toNat, by have : 0 < k ∧ k < 22 := hk; omega⟩
    have hj : j ≤ 21 := by have : 0 < (j : Int) ∧ (j : Int) < 22 := hk; omega
    have hwj := wrap_nat j (by omega)
    clear hk
    simp only [Int.toNat_natCast] at b0
    go_enter Tryd.func62, Tryd.ntmps62
    go_wp2_with fail
    refine (wu_any p A c xs j _ HS0.out.wr (by unfold Lim; omega)).mono ?_
    rintro e u1 ⟨rfl, A1, c1, hw, hs⟩
    have S := HS0.out.write hpl hw hs
    clear hw hs hwj
    have HS1 := Lib.hid S
    clear S
    have c0 := fun o => cell_of_row u1 _ o _ _ (0, 0) HS1.out.box
    go_wp2_with fail
    refine (flag_any p A1 c1 _ must _ HS1.out.wr (by unfold Lim; simp only [List.length_append]; omega)).mono ?_
    rintro e u2 ⟨rfl, A2, c2, hw, hs⟩
    have S := HS1.out.write hpl hw hs
    clear hw hs c0
    have HS2 := Lib.hid S
    clear S
    have c0 := fun o => cell_of_row u2 _ o _ _ (0, 0) HS2.out.box
    have l1 : (PK.flagB must).length = 1 := rfl
    go_wp2_with fail
    refine (ws_any p A2 c2 _ key _ HS2.out.wr (by unfold Lim; simp only [List.length_append]; omega)).mono ?_
    rintro e u3 ⟨rfl, A3, c3, hw, hs⟩
    have S := HS2.out.write hpl hw hs
    clear hw hs c0
    have HS3 := Lib.hid S
    clear S
    have c0 := fun o => cell_of_row u3 _ o _ _ (0, 0) HS3.out.box
    go_wp2_with fail
    refine (field_is (j : Int) 110 false _ HS3.out.rows (by rw [show (110 : Nat).toUInt8 = 110 from rfl, fld_n]; exact HN.out)).mono ?_
    rintro e u4 ⟨rfl, hb⟩
    have S := HS3.out.look hb
    clear hb c0
    have HS4 := Lib.hid S
    clear S
    have c0 := fun o => cell_of_row u4 _ o _ _ (0, 0) HS4.out.box
    go_wp2_with fail
    refine (field_is (j : Int) 120 false _ HS4.out.rows (by rw [show (120 : Nat).toUInt8 = 120 from rfl, fld_x]; exact HX.out)).mono ?_
    rintro e u5 ⟨rfl, hb⟩
    have S := HS4.out.look hb
    clear hb c0
    have HS5 := Lib.hid S
    clear S
    have c0 := fun o => cell_of_row u5 _ o _ _ (0, 0) HS5.out.box
    go_wp2_with fail
    refine (field_is (j : Int) 115 true _ HS5.out.rows (by rw [show (115 : Nat).toUInt8 = 115 from rfl, fld_s]; exact HSs.out)).mono ?_
    rintro e u6 ⟨rfl, hb⟩
    have S := HS5.out.look hb
    clear hb c0
    have HS6 := Lib.hid S
    clear S
    have c0 := fun o => cell_of_row u6 _ o _ _ (0, 0) HS6.out.box
    go_wp2_with fail
    refine (ws_any p A3 c3 _ s _ HS6.out.wr (by unfold Lim; simp only [List.length_append]; omega)).mono ?_
    rintro e u7 ⟨rfl, A7, c7, hw, hs⟩
    have S := HS6.out.write hpl hw hs
    clear hw hs c0
    have HS7 := Lib.hid S
    clear S
    have c0 := fun o => cell_of_row u7 _ o _ _ (0, 0) HS7.out.box
    go_wp2_with fail
    refine (field_is (j : Int) 109 false _ HS7.out.rows (by rw [show (109 : Nat).toUInt8 = 109 from rfl, fld_m]; exact HMm.out)).mono ?_
    rintro e u8 ⟨rfl, hb⟩
    have S := HS7.out.look hb
    clear hb c0
    have HS8 := Lib.hid S
    clear S
    have c0 := fun o => cell_of_row u8 _ o _ _ (0, 0) HS8.out.box
    go_wp2_with fail
    go_end0
    refine ⟨rfl, A7, c7, ?_, HS8.out.ws⟩
    rw [HZ.out]
    have := HS8.out.wr
    simpa only [List.append_assoc, List.append_nil, Int.toNat_natCast] using this
  · have HZ := Lib.hid (show AC.actB a = PK.digits a.kind.toNat ++ (PK.flagB a.must ++ (PK.textB a.key.data.toList ++ (PK.placeB (MF.key a.x) ++ PK.textB a.s.data.toList))) by unfold AC.actB AC.fieldB AC.nB AC.xB AC.sB AC.mB; simp [gN, gX, gS, gM])
    have HN := Lib.hid gN
    have HX := Lib.hid gX
    have HSs := Lib.hid gS
    have HMm := Lib.hid gM
    clear gN gX gS gM hm ha
    obtain ⟨k, key, n, x, s, m, must⟩ := a
    have hk := HM.out.known
    obtain ⟨j, rfl⟩ : ∃ j : Nat, k = (j : Int) := ⟨k.toNat, by have : 0 < k ∧ k < 22 := hk; omega⟩
    have hj : j ≤ 21 := by have : 0 < (j : Int) ∧ (j : Int) < 22 := hk; omega
    have hwj := wrap_nat j (by omega)
    clear hk
    simp only [Int.toNat_natCast] at b0
    go_enter Tryd.func62, Tryd.ntmps62
    go_wp2_with fail
    refine (wu_any p A c xs j _ HS0.out.wr (by unfold Lim; omega)).mono ?_
    rintro e u1 ⟨rfl, A1, c1, hw, hs⟩
    have S := HS0.out.write hpl hw hs
    clear hw hs hwj
    have HS1 := Lib.hid S
    clear S
    have c0 := fun o => cell_of_row u1 _ o _ _ (0, 0) HS1.out.box
    go_wp2_with fail
    refine (flag_any p A1 c1 _ must _ HS1.out.wr (by unfold Lim; simp only [List.length_append]; omega)).mono ?_
    rintro e u2 ⟨rfl, A2, c2, hw, hs⟩
    have S := HS1.out.write hpl hw hs
    clear hw hs c0
    have HS2 := Lib.hid S
    clear S
    have c0 := fun o => cell_of_row u2 _ o _ _ (0, 0) HS2.out.box
    have l1 : (PK.flagB must).length = 1 := rfl
    go_wp2_with fail
    refine (ws_any p A2 c2 _ key _ HS2.out.wr (by unfold Lim; simp only [List.length_append]; omega)).mono ?_
    rintro e u3 ⟨rfl, A3, c3, hw, hs⟩
    have S := HS2.out.write hpl hw hs
    clear hw hs c0
    have HS3 := Lib.hid S
    clear S
    have c0 := fun o => cell_of_row u3 _ o _ _ (0, 0) HS3.out.box
    go_wp2_with fail
    refine (field_is (j : Int) 110 false _ HS3.out.rows (by rw [show (110 : Nat).toUInt8 = 110 from rfl, fld_n]; exact HN.out)).mono ?_
    rintro e u4 ⟨rfl, hb⟩
    have S := HS3.out.look hb
    clear hb c0
    have HS4 := Lib.hid S
    clear S
    have c0 := fun o => cell_of_row u4 _ o _ _ (0, 0) HS4.out.box
    go_wp2_with fail
    refine (field_is (j : Int) 120 true _ HS4.out.rows (by rw [show (120 : Nat).toUInt8 = 120 from rfl, fld_x]; exact HX.out)).mono ?_
    rintro e u5 ⟨rfl, hb⟩
    have S := HS4.out.look hb
    clear hb c0
    have HS5 := Lib.hid S
    clear S
    have c0 := fun o => cell_of_row u5 _ o _ _ (0, 0) HS5.out.box
    go_wp2_with fail
    refine (wf_any p A3 c3 _ x _ HO.out.x HS5.out.wr (by unfold Lim; simp only [List.length_append]; omega)).mono ?_
    rintro e u6 ⟨rfl, A6, c6, hw, hs⟩
    have S := HS5.out.write hpl hw hs
    clear hw hs c0
    have HS6 := Lib.hid S
    clear S
    have c0 := fun o => cell_of_row u6 _ o _ _ (0, 0) HS6.out.box
    go_wp2_with fail
    refine (field_is (j : Int) 115 true _ HS6.out.rows (by rw [show (115 : Nat).toUInt8 = 115 from rfl, fld_s]; exact HSs.out)).mono ?_
    rintro e u7 ⟨rfl, hb⟩
    have S := HS6.out.look hb
    clear hb c0
    have HS7 := Lib.hid S
    clear S
    have c0 := fun o => cell_of_row u7 _ o _ _ (0, 0) HS7.out.box
    go_wp2_with fail
    refine (ws_any p A6 c6 _ s _ HS7.out.wr (by unfold Lim; simp only [List.length_append, PK.placeB_length]; omega)).mono ?_
    rintro e u8 ⟨rfl, A8, c8, hw, hs⟩
    have S := HS7.out.write hpl hw hs
    clear hw hs c0
    have HS8 := Lib.hid S
    clear S
    have c0 := fun o => cell_of_row u8 _ o _ _ (0, 0) HS8.out.box
    go_wp2_with fail
    refine (field_is (j : Int) 109 false _ HS8.out.rows (by rw [show (109 : Nat).toUInt8 = 109 from rfl, fld_m]; exact HMm.out)).mono ?_
    rintro e u9 ⟨rfl, hb⟩
    have S := HS8.out.look hb
    clear hb c0
    have HS9 := Lib.hid S
    clear S
    have c0 := fun o => cell_of_row u9 _ o _ _ (0, 0) HS9.out.box
    go_wp2_with fail
    go_end0
    refine ⟨rfl, A8, c8, ?_, HS9.out.ws⟩
    rw [HZ.out]
    have := HS9.out.wr
    simpa only [List.append_assoc, List.append_nil, Int.toNat_natCast] using this
  · have HZ := Lib.hid (show AC.actB a = PK.digits a.kind.toNat ++ (PK.flagB a.must ++ (PK.textB a.key.data.toList ++ (RC.recB a.make))) by unfold AC.actB AC.fieldB AC.nB AC.xB AC.sB AC.mB; simp [gN, gX, gS, gM])
    have HN := Lib.hid gN
    have HX := Lib.hid gX
    have HSs := Lib.hid gS
    have HMm := Lib.hid gM
    clear gN gX gS gM hm ha
    have hlm : (RC.recB a.make).length ≤ 2000 := recB_len a.make HO.out.make (RC.chk_may HO.out.make (HM.out.made HMm.out))
    obtain ⟨k, key, n, x, s, m, must⟩ := a
    have hk := HM.out.known
    obtain ⟨j, rfl⟩ : ∃ j : Nat, k = (j : Int) := ⟨k.toNat, by have : 0 < k ∧ k < 22 := hk; omega⟩
    have hj : j ≤ 21 := by have : 0 < (j : Int) ∧ (j : Int) < 22 := hk; omega
    have hwj := wrap_nat j (by omega)
    clear hk
    simp only [Int.toNat_natCast] at b0
    go_enter Tryd.func62, Tryd.ntmps62
    go_wp2_with fail
    refine (wu_any p A c xs j _ HS0.out.wr (by unfold Lim; omega)).mono ?_
    rintro e u1 ⟨rfl, A1, c1, hw, hs⟩
    have S := HS0.out.write hpl hw hs
    clear hw hs hwj
    have HS1 := Lib.hid S
    clear S
    have c0 := fun o => cell_of_row u1 _ o _ _ (0, 0) HS1.out.box
    go_wp2_with fail
    refine (flag_any p A1 c1 _ must _ HS1.out.wr (by unfold Lim; simp only [List.length_append]; omega)).mono ?_
    rintro e u2 ⟨rfl, A2, c2, hw, hs⟩
    have S := HS1.out.write hpl hw hs
    clear hw hs c0
    have HS2 := Lib.hid S
    clear S
    have c0 := fun o => cell_of_row u2 _ o _ _ (0, 0) HS2.out.box
    have l1 : (PK.flagB must).length = 1 := rfl
    go_wp2_with fail
    refine (ws_any p A2 c2 _ key _ HS2.out.wr (by unfold Lim; simp only [List.length_append]; omega)).mono ?_
    rintro e u3 ⟨rfl, A3, c3, hw, hs⟩
    have S := HS2.out.write hpl hw hs
    clear hw hs c0
    have HS3 := Lib.hid S
    clear S
    have c0 := fun o => cell_of_row u3 _ o _ _ (0, 0) HS3.out.box
    go_wp2_with fail
    refine (field_is (j : Int) 110 false _ HS3.out.rows (by rw [show (110 : Nat).toUInt8 = 110 from rfl, fld_n]; exact HN.out)).mono ?_
    rintro e u4 ⟨rfl, hb⟩
    have S := HS3.out.look hb
    clear hb c0
    have HS4 := Lib.hid S
    clear S
    have c0 := fun o => cell_of_row u4 _ o _ _ (0, 0) HS4.out.box
    go_wp2_with fail
    refine (field_is (j : Int) 120 false _ HS4.out.rows (by rw [show (120 : Nat).toUInt8 = 120 from rfl, fld_x]; exact HX.out)).mono ?_
    rintro e u5 ⟨rfl, hb⟩
    have S := HS4.out.look hb
    clear hb c0
    have HS5 := Lib.hid S
    clear S
    have c0 := fun o => cell_of_row u5 _ o _ _ (0, 0) HS5.out.box
    go_wp2_with fail
    refine (field_is (j : Int) 115 false _ HS5.out.rows (by rw [show (115 : Nat).toUInt8 = 115 from rfl, fld_s]; exact HSs.out)).mono ?_
    rintro e u6 ⟨rfl, hb⟩
    have S := HS5.out.look hb
    clear hb c0
    have HS6 := Lib.hid S
    clear S
    have c0 := fun o => cell_of_row u6 _ o _ _ (0, 0) HS6.out.box
    go_wp2_with fail
    refine (field_is (j : Int) 109 true _ HS6.out.rows (by rw [show (109 : Nat).toUInt8 = 109 from rfl, fld_m]; exact HMm.out)).mono ?_
    rintro e u7 ⟨rfl, hb⟩
    have S := HS6.out.look hb
    clear hb c0
    have HS7 := Lib.hid S
    clear S
    have c0 := fun o => cell_of_row u7 _ o _ _ (0, 0) HS7.out.box
    go_wp2_with fail
    refine (put_any m L cl p A3 c3 _ _ HO.out.make (RC.chk_may HO.out.make (HM.out.made HMm.out)) HS7.out.its HS7.out.wr (by unfold Lim; simp only [List.length_append]; omega) HS7.out.bes).mono ?_
    rintro e u8 ⟨rfl, A8, c8, hw, hs⟩
    have S := HS7.out.write hpl hw hs
    clear hw hs c0
    have HS8 := Lib.hid S
    clear S
    have c0 := fun o => cell_of_row u8 _ o _ _ (0, 0) HS8.out.box
    go_wp2_with fail
    go_end0
    refine ⟨rfl, A8, c8, ?_, HS8.out.ws⟩
    rw [HZ.out]
    have := HS8.out.wr
    simpa only [List.append_assoc, List.append_nil, Int.toNat_natCast] using this

/-- An act's bytes: none of one that may not be. -/
def bytesA (a : AC.Ac) : List UInt8 := if AC.chk a = 0 then AC.actB a else []

set_option maxHeartbeats 2000000 in
set_option maxRecDepth 100000 in
theorem actBytes_any (a : AC.Ac) (A : Option Addr) (c : Nat) (w : World) (ha : a.ok) (hR : RowsAt w) (hI : Its w A a.make.list) (hL : Lim a.make.list.length) (hK : Lim a.key.size) (hS : Lim a.s.size) :
    Calls Tryd.prog 28 #[actV a A c] w (Fresh 5 (bytesA a) w) := by
  have HC := Lib.hid (fun w (hR : RowsAt w) (hI : Its w A a.make.list) => actCheck_any a A c w ha hR hI hL hK hS)
  have HI := Lib.hid hI
  have HR := Lib.hid hR
  have B := Lib.hid (AB.new 31 w (actC a A c))
  rcases Nat.eq_zero_or_pos (AC.chk a) with hc | hc
  · have Hb := Lib.hid (show bytesA a = AC.actB a by unfold bytesA; rw [if_pos hc])
    have hm := AC.chk_may ha hc
    have HL := Lib.hid (actB_len a ha hm)
    have HP := Lib.hid (fun (p : Nat) (w : World) (hI : Its w A a.make.list) (hw : Wr 5 w p none 0 []) (hB : Beside a.make.list A p none) (hR : RowsAt w) (hp : p ≠ 0) => write_any4 a A c p none 0 [] w ha hm hI hw (by simp) hB hR hp (by intro e; cases e))
    have Hc := Lib.hid hc
    clear hc hm hI hR
    obtain ⟨k, key, n, x, s, m, must⟩ := a
    go_enter Tryd.func28, Tryd.ntmps28
    go_wp2_with fail
    refine (HC.out _ (HR.out.below B.out.bel) (HI.out.below B.out.bel)).mono ?_
    rintro e w1 ⟨rfl, hb1⟩
    rw [Hc.out]
    have B1 := Lib.hid (B.out.next hb1)
    have c0 := fun o => cell_of_row w1 _ o _ _ (0, 0) B1.out.box
    have hlt := B1.out.lt
    have hne : ¬ w.heap.size = w1.heap.size := by omega
    clear hb1
    go_wp2_with fail
    refine (HP.out _ _ ((HI.out.below B1.out.bel).alloc _) (Wr.new' _ _ _ _ rfl) ?_ ((HR.out.below B1.out.bel).below (below1 _ _)) (by have := rows_lt HR.out; omega)).mono ?_
    · rcases HI.out.below B1.out.bel with e | ⟨b, off, e, hb, _⟩
      · exact .inl e
      · refine .inr fun ad e2 => ⟨?_, fun e => by cases e⟩
        rw [e] at e2
        injection e2 with e2
        subst e2
        show b ≠ _
        omega
    rintro e w2 ⟨rfl, A2, c2, hw2, hs2⟩
    rw [List.nil_append] at hw2
    go_wp2_with fail
    refine (bytes_any _ A2 c2 _ w2 hw2 (by have := HL.out; unfold Lim; omega)).mono ?_
    rintro e w3 ⟨A3, c3, rfl, ho3, hk3, hb3⟩
    have hb2 := (hs2.below (B := w.heap.size) (by have := B1.out.bel.size; simp; omega) (by have := B1.out.bel.size; omega) (fun k e => by cases e)).1
    have hB : Below w.heap.size w w2 := (B1.out.bel.alloc B1.out.bel.size _).trans hb2
    go_wp2
    go_ret
    rw [Hb.out]
    exact ⟨A3, c3, rfl, ho3, fun k e => Nat.le_trans hB.size (hk3 k e), hB.trans (hb3.mono hB.size)⟩
  · have Hb := Lib.hid (show bytesA a = [] by unfold bytesA; rw [if_neg (Nat.ne_of_gt hc)])
    generalize AC.chk a = E at *
    have hE : ((E : Int) != 0) = true := by simp; omega
    clear hI hR
    obtain ⟨k, key, n, x, s, m, must⟩ := a
    go_enter Tryd.func28, Tryd.ntmps28
    go_wp2_with fail
    refine (HC.out _ (HR.out.below B.out.bel) (HI.out.below B.out.bel)).mono ?_
    rintro e w1 ⟨rfl, hb1⟩
    go_wp2_with fail
    go_ret
    rw [Hb.out]
    exact ⟨none, 0, rfl, World.ownsRow_nil _ _ _ _, (fun k e => by cases e), (B.out.next hb1).bel⟩

end Go.Proofs.YtaaeefndhmfceaaDoor
