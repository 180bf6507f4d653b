/- Contracts of the document's own answers for layer 4: may an act be? -/
import Derived.Test.YtbkcmnmbcldjoaaGreatDoorRef4amP7d
import Derived.Test.YtbkcmnmbcldjoaaGreatDoorAct5mP7d
import Derived.Test.YtbkcmnmbcldjoaaGreatDoorRefMP7d
namespace Go.Proofs.YtbkcmnmbcldjoaaGreatDoor
open Go.RowKit MM
theorem on_one (k : Int) (h0 : 0 < k) (h1 : k < 22) : ((rowAt k).on == 1) = decide (k = 5 ∨ k = 6) :=
  at22 (fun k => ((rowAt k).on == 1) = decide (k = 5 ∨ k = 6)) (by decide +kernel) k (by omega) h1
theorem most_s (k : Int) : AC.most k = if k = 5 ∨ k = 6 then 64 else if 18 ≤ k ∧ k ≤ 21 then 16 else 0 := rfl
set_option maxHeartbeats 8000000 in
set_option maxRecDepth 100000 in
theorem rcheck4_any (a : AC.Ac) (A : Option Addr) (c : Nat) (w : World) (ha : a.ok) (hI : Its w A a.make.list) (hL : Lim a.make.list.length) (hK : Lim a.key.size) (hS : Lim a.s.size) :
    Calls Tryz.prog 30 #[actV a A c] w (EPost (AC.chk a) w) := by
  have HO := Lib.hid ha
  have HI := Lib.hid hI
  have HL := Lib.hid hL
  unfold Lim at hK hS
  clear ha hI hL
  obtain ⟨k, key, n, x, s, m, must⟩ := a
  have hK' : (key.size : Int) ≤ 4294967296 := by have : key.size < 4294967296 := hK; omega
  have hS' : (s.size : Int) ≤ 4294967296 := by have : s.size < 4294967296 := hS; omega
  have B := Lib.hid (AB.new 37 w (actC ⟨k, key, n, x, s, m, must⟩ A c))
  have hX : MF.W64 x := HO.out.x
  clear hK hS
  cases hk : AC.known k
  · have Hk := Lib.hid hk
    have hk' : k < 1 ∨ 21 < k := by unfold AC.known at hk; simp at hk; omega
    clear hk
    rcases hk' with h | h
    · go_enter Tryz.func30, Tryz.ntmps30
      go_wp2_with fail
      go_ret
      exact EPost.mk (AC.chk_kind Hk.out) rfl B.out.bel
    · have h1 : ¬ k < 1 := by omega
      go_enter Tryz.func30, Tryz.ntmps30
      go_wp2_with fail
      go_ret
      exact EPost.mk (AC.chk_kind Hk.out) rfl B.out.bel
  have Hk := Lib.hid hk
  have hk2 : 0 < k ∧ k < 22 := by unfold AC.known at hk; simpa using hk
  obtain ⟨hk0, hk1⟩ := hk2
  have p0 : ¬ k < 1 := by omega
  have p1 : ¬ (21 : Int) < k := by omega
  clear hk
  by_cases h1 : key.size < 1
  · have q : (key.size : Int) < 1 := by omega
    have H1 := Lib.hid (show ¬ (1 ≤ key.size ∧ key.size ≤ 24) by omega)
    clear h1
    go_enter Tryz.func30, Tryz.ntmps30
    go_wp2_with fail
    go_ret
    exact EPost.mk (AC.chk_key Hk.out H1.out) rfl B.out.bel
  have q : ¬ (key.size : Int) < 1 := by omega
  by_cases h2 : 24 < key.size
  · have q2 : (24 : Int) < (key.size : Int) := by omega
    have H1 := Lib.hid (show ¬ (1 ≤ key.size ∧ key.size ≤ 24) by omega)
    clear h1 h2
    go_enter Tryz.func30, Tryz.ntmps30
    go_wp2_with fail
    go_ret
    exact EPost.mk (AC.chk_key Hk.out H1.out) rfl B.out.bel
  have q2 : ¬ (24 : Int) < (key.size : Int) := by omega
  have H1 := Lib.hid (show 1 ≤ key.size ∧ key.size ≤ 24 by omega)
  clear h1 h2
  rcases AC.kinds6 ⟨hk0, hk1⟩ with ⟨gN, gX, gS, gM⟩ | ⟨gN, gX, gS, gM⟩ | ⟨gN, gX, gS, gM⟩ | ⟨gN, gX, gS, gM⟩ | ⟨gN, gX, gS, gM⟩ | ⟨gN, gX, gS, gM⟩
  · have GN := Lib.hid gN
    have GX := Lib.hid gX
    have GS := Lib.hid gS
    have GM := Lib.hid gM
    have hrng : 2 ≤ k ∧ k ≤ 4 := by unfold AC.hasN at gN; unfold AC.hasX at gX; unfold AC.hasS at gS; unfold AC.hasM at gM; simp only [decide_eq_false_iff_not] at gN gX gS gM; omega
    clear gN gX gS gM
    have m1 : (k != 1) = true := by simp; omega
    go_enter Tryz.func30, Tryz.ntmps30
    go_wp2_with fail
    refine (rHas_is k 110 false _ (by omega) (by rw [show (110 : Nat).toUInt8 = 110 from rfl, fld_n]; exact GN.out)).mono ?_
    rintro e u1 ⟨rfl, hb⟩
    have B1 := Lib.hid (B.out.next hb)
    clear hb
    have c0 := fun o => cell_of_row u1 _ o _ _ (0, 0) B1.out.box
    have hlt := B1.out.lt
    by_cases hz : n = 0
    case neg =>
      have z : (n != 0) = true := by simp [hz]
      have Z := Lib.hid z
      go_wp2_with fail
      go_ret
      exact EPost.mk (AC.chk_form Hk.out H1.out (by simp [AC.beyond, Z.out, GN.out])) rfl B1.out.bel
    subst hz
    go_wp2_with fail
    refine (rHas_is k 120 false _ (by omega) (by rw [show (120 : Nat).toUInt8 = 120 from rfl, fld_x]; exact GX.out)).mono ?_
    rintro e u2 ⟨rfl, hb⟩
    clear c0 hlt
    have B2 := Lib.hid (B1.out.next hb)
    clear hb
    have c0 := fun o => cell_of_row u2 _ o _ _ (0, 0) B2.out.box
    have hlt := B2.out.lt
    go_wp2_with fail
    refine (rsame_any x 0 _ hX (by unfold MF.W64; decide)).mono ?_
    cases hz : MF.same x 0
    case false =>
      have Z := Lib.hid hz
      clear hz
      rintro e w' ⟨rfl, rfl⟩
      go_wp2_with fail
      go_ret
      exact EPost.mk (AC.chk_form Hk.out H1.out (by simp [AC.beyond, Z.out, GN.out, GX.out])) rfl B2.out.bel
    obtain rfl := RC.zero_of_same hX hz
    clear hz
    rintro e w' ⟨rfl, rfl⟩
    go_wp2_with fail
    refine (rHas_is k 115 false _ (by omega) (by rw [show (115 : Nat).toUInt8 = 115 from rfl, fld_s]; exact GS.out)).mono ?_
    rintro e u3 ⟨rfl, hb⟩
    clear c0 hlt
    have B3 := Lib.hid (B2.out.next hb)
    clear hb
    have c0 := fun o => cell_of_row u3 _ o _ _ (0, 0) B3.out.box
    have hlt := B3.out.lt
    cases hz : RC.strEq s ⟨#[]⟩
    case false =>
      have Z := Lib.hid hz
      have z := str_no hz
      have z1 := str_no2 hz
      clear hz
      go_wp2_with fail
      go_ret
      exact EPost.mk (AC.chk_form Hk.out H1.out (by simp [AC.beyond, Z.out, GN.out, GX.out, GS.out])) rfl B3.out.bel
    obtain rfl := (RC.strEq_iff s ⟨#[]⟩).1 hz
    clear hz
    go_wp2_with fail
    refine (rsame3_any m RC.zero A none c 0 _ HO.out.make RC.zero_ok (HI.out.below B3.out.bel) (Its.nil _ _) HL.out (by unfold Lim; decide)).mono ?_
    cases hz : RC.same m RC.zero
    case false =>
      have Z := Lib.hid hz
      clear hz
      rintro e u4 ⟨rfl, hb⟩
      have B9 := Lib.hid (B3.out.next hb)
      clear hb
      rw [Z.out]
      go_wp2_with fail
      go_ret
      exact EPost.mk (AC.chk_form Hk.out H1.out (by simp [AC.beyond, Z.out, GN.out, GX.out, GS.out, GM.out])) rfl B9.out.bel
    have ZM := Lib.hid hz
    clear hz
    rintro e u4 ⟨rfl, hb⟩
    rw [ZM.out]
    clear c0 hlt
    have B4 := Lib.hid (B3.out.next hb)
    clear hb
    have c0 := fun o => cell_of_row u4 _ o _ _ (0, 0) B4.out.box
    have hlt := B4.out.lt
    have Hb := Lib.hid (show AC.beyond ⟨k, key, 0, 0, ⟨#[]⟩, m, must⟩ = false by simp [AC.beyond, ZM.out, RC.same_refl, RC.strEq_refl, GN.out, GX.out, GS.out, GM.out])
    go_wp2_with fail
    have o1 : ((rowAt k).on == 1) = false := by rw [on_one k hk0 hk1]; simp; omega
    have o2 : ((rowAt k).on != 1) = true := by simp [bne, o1]
    refine (rOn_any k _).mono ?_
    rintro e u5 ⟨rfl, hb⟩
    clear c0 hlt
    have B5 := Lib.hid (B4.out.next hb)
    clear hb
    have c0 := fun o => cell_of_row u5 _ o _ _ (0, 0) B5.out.box
    have hlt := B5.out.lt
    have H3 := Lib.hid (show ¬ AC.most k < (⟨#[]⟩ : ByteArray).size by exact Nat.not_lt_zero _)
    go_wp2_with fail
    refine (rOn_any k _).mono ?_
    rintro e u6 ⟨rfl, hb⟩
    clear c0 hlt
    have B6 := Lib.hid (B5.out.next hb)
    clear hb
    have c0 := fun o => cell_of_row u6 _ o _ _ (0, 0) B6.out.box
    have hlt := B6.out.lt
    have a1 : (k == 10) = false := by simp; omega
    have a2 : (k == 11) = false := by simp; omega
    have H4 := Lib.hid (show AC.amount ⟨k, key, 0, 0, ⟨#[]⟩, m, must⟩ = true by unfold AC.amount; rw [if_neg (by simp only; omega)])
    go_wp2_with fail
    refine (rproper_any 0 _).mono ?_
    have H5 := Lib.hid RC.proper_zero
    rw [H5.out]
    rintro e w' ⟨rfl, rfl⟩
    have e1 : (k == 1) = false := by simp; omega
    have H6 := Lib.hid (show AC.endE ⟨k, key, 0, 0, ⟨#[]⟩, m, must⟩ = 0 by unfold AC.endE; rw [if_neg (by simp only; omega)])
    go_wp2_with fail
    go_ret
    exact EPost.mk ((AC.chk_end Hk.out H1.out Hb.out H3.out H4.out H5.out).trans H6.out) rfl B6.out.bel
  · have GN := Lib.hid gN
    have GX := Lib.hid gX
    have GS := Lib.hid gS
    have GM := Lib.hid gM
    have hrng : 7 ≤ k ∧ k ≤ 12 := by unfold AC.hasN at gN; unfold AC.hasX at gX; unfold AC.hasS at gS; unfold AC.hasM at gM; simp only [decide_eq_true_eq, decide_eq_false_iff_not] at gN gX gS gM; omega
    clear gN gX gS gM
    have m1 : (k != 1) = true := by simp; omega
    go_enter Tryz.func30, Tryz.ntmps30
    go_wp2_with fail
    refine (rHas_is k 110 true _ (by omega) (by rw [show (110 : Nat).toUInt8 = 110 from rfl, fld_n]; exact GN.out)).mono ?_
    rintro e u1 ⟨rfl, hb⟩
    have B1 := Lib.hid (B.out.next hb)
    clear hb
    have c0 := fun o => cell_of_row u1 _ o _ _ (0, 0) B1.out.box
    have hlt := B1.out.lt
    go_wp2_with fail
    refine (rHas_is k 120 false _ (by omega) (by rw [show (120 : Nat).toUInt8 = 120 from rfl, fld_x]; exact GX.out)).mono ?_
    rintro e u2 ⟨rfl, hb⟩
    clear c0 hlt
    have B2 := Lib.hid (B1.out.next hb)
    clear hb
    have c0 := fun o => cell_of_row u2 _ o _ _ (0, 0) B2.out.box
    have hlt := B2.out.lt
    go_wp2_with fail
    refine (rsame_any x 0 _ hX (by unfold MF.W64; decide)).mono ?_
    cases hz : MF.same x 0
    case false =>
      have Z := Lib.hid hz
      clear hz
      rintro e w' ⟨rfl, rfl⟩
      go_wp2_with fail
      go_ret
      exact EPost.mk (AC.chk_form Hk.out H1.out (by simp [AC.beyond, Z.out, GN.out, GX.out])) rfl B2.out.bel
    obtain rfl := RC.zero_of_same hX hz
    clear hz
    rintro e w' ⟨rfl, rfl⟩
    go_wp2_with fail
    refine (rHas_is k 115 false _ (by omega) (by rw [show (115 : Nat).toUInt8 = 115 from rfl, fld_s]; exact GS.out)).mono ?_
    rintro e u3 ⟨rfl, hb⟩
    clear c0 hlt
    have B3 := Lib.hid (B2.out.next hb)
    clear hb
    have c0 := fun o => cell_of_row u3 _ o _ _ (0, 0) B3.out.box
    have hlt := B3.out.lt
    cases hz : RC.strEq s ⟨#[]⟩
    case false =>
      have Z := Lib.hid hz
      have z := str_no hz
      have z1 := str_no2 hz
      clear hz
      go_wp2_with fail
      go_ret
      exact EPost.mk (AC.chk_form Hk.out H1.out (by simp [AC.beyond, Z.out, GN.out, GX.out, GS.out])) rfl B3.out.bel
    obtain rfl := (RC.strEq_iff s ⟨#[]⟩).1 hz
    clear hz
    go_wp2_with fail
    refine (rsame3_any m RC.zero A none c 0 _ HO.out.make RC.zero_ok (HI.out.below B3.out.bel) (Its.nil _ _) HL.out (by unfold Lim; decide)).mono ?_
    cases hz : RC.same m RC.zero
    case false =>
      have Z := Lib.hid hz
      clear hz
      rintro e u4 ⟨rfl, hb⟩
      have B9 := Lib.hid (B3.out.next hb)
      clear hb
      rw [Z.out]
      go_wp2_with fail
      go_ret
      exact EPost.mk (AC.chk_form Hk.out H1.out (by simp [AC.beyond, Z.out, GN.out, GX.out, GS.out, GM.out])) rfl B9.out.bel
    have ZM := Lib.hid hz
    clear hz
    rintro e u4 ⟨rfl, hb⟩
    rw [ZM.out]
    clear c0 hlt
    have B4 := Lib.hid (B3.out.next hb)
    clear hb
    have c0 := fun o => cell_of_row u4 _ o _ _ (0, 0) B4.out.box
    have hlt := B4.out.lt
    have Hb := Lib.hid (show AC.beyond ⟨k, key, n, 0, ⟨#[]⟩, m, must⟩ = false by simp [AC.beyond, ZM.out, RC.same_refl, RC.strEq_refl, GN.out, GX.out, GS.out, GM.out])
    go_wp2_with fail
    have o1 : ((rowAt k).on == 1) = false := by rw [on_one k hk0 hk1]; simp; omega
    have o2 : ((rowAt k).on != 1) = true := by simp [bne, o1]
    refine (rOn_any k _).mono ?_
    rintro e u5 ⟨rfl, hb⟩
    clear c0 hlt
    have B5 := Lib.hid (B4.out.next hb)
    clear hb
    have c0 := fun o => cell_of_row u5 _ o _ _ (0, 0) B5.out.box
    have hlt := B5.out.lt
    have H3 := Lib.hid (show ¬ AC.most k < (⟨#[]⟩ : ByteArray).size by exact Nat.not_lt_zero _)
    go_wp2_with fail
    refine (rOn_any k _).mono ?_
    rintro e u6 ⟨rfl, hb⟩
    clear c0 hlt
    have B6 := Lib.hid (B5.out.next hb)
    clear hb
    have c0 := fun o => cell_of_row u6 _ o _ _ (0, 0) B6.out.box
    have hlt := B6.out.lt
    by_cases hk10 : k = 10 ∨ k = 11
    case neg =>
      have a1 : (k == 10) = false := by simp; omega
      have a2 : (k == 11) = false := by simp; omega
      have H4 := Lib.hid (show AC.amount ⟨k, key, n, 0, ⟨#[]⟩, m, must⟩ = true by unfold AC.amount; rw [if_neg hk10])
      clear hk10
      go_wp2_with fail
      refine (rproper_any 0 _).mono ?_
      have H5 := Lib.hid RC.proper_zero
      rw [H5.out]
      rintro e w' ⟨rfl, rfl⟩
      have e1 : (k == 1) = false := by simp; omega
      have H6 := Lib.hid (show AC.endE ⟨k, key, n, 0, ⟨#[]⟩, m, must⟩ = 0 by unfold AC.endE; rw [if_neg (by simp only; omega)])
      go_wp2_with fail
      go_ret
      exact EPost.mk ((AC.chk_end Hk.out H1.out Hb.out H3.out H4.out H5.out).trans H6.out) rfl B6.out.bel
    have H4a := Lib.hid (show AC.amount ⟨k, key, n, 0, ⟨#[]⟩, m, must⟩ = decide (0 ≤ n ∧ n ≤ 2305843009213693952) by unfold AC.amount; rw [if_pos hk10])
    have a0 : ((k == 10) = true) ∨ ((k == 10) = false ∧ (k == 11) = true) := by simp; omega
    clear hk10
    rcases a0 with a1 | ⟨a1, a2⟩
    · by_cases g0 : n < 0
      · have H4 := Lib.hid (show AC.amount ⟨k, key, n, 0, ⟨#[]⟩, m, must⟩ = false by rw [H4a.out]; simp; omega)
        go_wp2_with fail
        go_ret
        exact EPost.mk (AC.chk_amount Hk.out H1.out Hb.out H3.out H4.out) rfl B6.out.bel
      by_cases g1 : 2305843009213693952 < n
      · have H4 := Lib.hid (show AC.amount ⟨k, key, n, 0, ⟨#[]⟩, m, must⟩ = false by rw [H4a.out]; simp; omega)
        go_wp2_with fail
        go_ret
        exact EPost.mk (AC.chk_amount Hk.out H1.out Hb.out H3.out H4.out) rfl B6.out.bel
      have H4 := Lib.hid (show AC.amount ⟨k, key, n, 0, ⟨#[]⟩, m, must⟩ = true by rw [H4a.out]; simp; omega)
      go_wp2_with fail
      refine (rproper_any 0 _).mono ?_
      have H5 := Lib.hid RC.proper_zero
      rw [H5.out]
      rintro e w' ⟨rfl, rfl⟩
      have e1 : (k == 1) = false := by simp; omega
      have H6 := Lib.hid (show AC.endE ⟨k, key, n, 0, ⟨#[]⟩, m, must⟩ = 0 by unfold AC.endE; rw [if_neg (by simp only; omega)])
      go_wp2_with fail
      go_ret
      exact EPost.mk ((AC.chk_end Hk.out H1.out Hb.out H3.out H4.out H5.out).trans H6.out) rfl B6.out.bel
    · by_cases g0 : n < 0
      · have H4 := Lib.hid (show AC.amount ⟨k, key, n, 0, ⟨#[]⟩, m, must⟩ = false by rw [H4a.out]; simp; omega)
        go_wp2_with fail
        go_ret
        exact EPost.mk (AC.chk_amount Hk.out H1.out Hb.out H3.out H4.out) rfl B6.out.bel
      by_cases g1 : 2305843009213693952 < n
      · have H4 := Lib.hid (show AC.amount ⟨k, key, n, 0, ⟨#[]⟩, m, must⟩ = false by rw [H4a.out]; simp; omega)
        go_wp2_with fail
        go_ret
        exact EPost.mk (AC.chk_amount Hk.out H1.out Hb.out H3.out H4.out) rfl B6.out.bel
      have H4 := Lib.hid (show AC.amount ⟨k, key, n, 0, ⟨#[]⟩, m, must⟩ = true by rw [H4a.out]; simp; omega)
      go_wp2_with fail
      refine (rproper_any 0 _).mono ?_
      have H5 := Lib.hid RC.proper_zero
      rw [H5.out]
      rintro e w' ⟨rfl, rfl⟩
      have e1 : (k == 1) = false := by simp; omega
      have H6 := Lib.hid (show AC.endE ⟨k, key, n, 0, ⟨#[]⟩, m, must⟩ = 0 by unfold AC.endE; rw [if_neg (by simp only; omega)])
      go_wp2_with fail
      go_ret
      exact EPost.mk ((AC.chk_end Hk.out H1.out Hb.out H3.out H4.out H5.out).trans H6.out) rfl B6.out.bel
  · have GN := Lib.hid gN
    have GX := Lib.hid gX
    have GS := Lib.hid gS
    have GM := Lib.hid gM
    have hrng : 13 ≤ k ∧ k ≤ 17 := by unfold AC.hasN at gN; unfold AC.hasX at gX; unfold AC.hasS at gS; unfold AC.hasM at gM; simp only [decide_eq_true_eq, decide_eq_false_iff_not] at gN gX gS gM; omega
    clear gN gX gS gM
    have m1 : (k != 1) = true := by simp; omega
    go_enter Tryz.func30, Tryz.ntmps30
    go_wp2_with fail
    refine (rHas_is k 110 false _ (by omega) (by rw [show (110 : Nat).toUInt8 = 110 from rfl, fld_n]; exact GN.out)).mono ?_
    rintro e u1 ⟨rfl, hb⟩
    have B1 := Lib.hid (B.out.next hb)
    clear hb
    have c0 := fun o => cell_of_row u1 _ o _ _ (0, 0) B1.out.box
    have hlt := B1.out.lt
    by_cases hz : n = 0
    case neg =>
      have z : (n != 0) = true := by simp [hz]
      have Z := Lib.hid z
      go_wp2_with fail
      go_ret
      exact EPost.mk (AC.chk_form Hk.out H1.out (by simp [AC.beyond, Z.out, GN.out])) rfl B1.out.bel
    subst hz
    go_wp2_with fail
    refine (rHas_is k 120 true _ (by omega) (by rw [show (120 : Nat).toUInt8 = 120 from rfl, fld_x]; exact GX.out)).mono ?_
    rintro e u2 ⟨rfl, hb⟩
    clear c0 hlt
    have B2 := Lib.hid (B1.out.next hb)
    clear hb
    have c0 := fun o => cell_of_row u2 _ o _ _ (0, 0) B2.out.box
    have hlt := B2.out.lt
    go_wp2_with fail
    refine (rHas_is k 115 false _ (by omega) (by rw [show (115 : Nat).toUInt8 = 115 from rfl, fld_s]; exact GS.out)).mono ?_
    rintro e u3 ⟨rfl, hb⟩
    clear c0 hlt
    have B3 := Lib.hid (B2.out.next hb)
    clear hb
    have c0 := fun o => cell_of_row u3 _ o _ _ (0, 0) B3.out.box
    have hlt := B3.out.lt
    cases hz : RC.strEq s ⟨#[]⟩
    case false =>
      have Z := Lib.hid hz
      have z := str_no hz
      have z1 := str_no2 hz
      clear hz
      go_wp2_with fail
      go_ret
      exact EPost.mk (AC.chk_form Hk.out H1.out (by simp [AC.beyond, Z.out, GN.out, GX.out, GS.out])) rfl B3.out.bel
    obtain rfl := (RC.strEq_iff s ⟨#[]⟩).1 hz
    clear hz
    go_wp2_with fail
    refine (rsame3_any m RC.zero A none c 0 _ HO.out.make RC.zero_ok (HI.out.below B3.out.bel) (Its.nil _ _) HL.out (by unfold Lim; decide)).mono ?_
    cases hz : RC.same m RC.zero
    case false =>
      have Z := Lib.hid hz
      clear hz
      rintro e u4 ⟨rfl, hb⟩
      have B9 := Lib.hid (B3.out.next hb)
      clear hb
      rw [Z.out]
      go_wp2_with fail
      go_ret
      exact EPost.mk (AC.chk_form Hk.out H1.out (by simp [AC.beyond, Z.out, GN.out, GX.out, GS.out, GM.out])) rfl B9.out.bel
    have ZM := Lib.hid hz
    clear hz
    rintro e u4 ⟨rfl, hb⟩
    rw [ZM.out]
    clear c0 hlt
    have B4 := Lib.hid (B3.out.next hb)
    clear hb
    have c0 := fun o => cell_of_row u4 _ o _ _ (0, 0) B4.out.box
    have hlt := B4.out.lt
    have Hb := Lib.hid (show AC.beyond ⟨k, key, 0, x, ⟨#[]⟩, m, must⟩ = false by simp [AC.beyond, ZM.out, RC.strEq_refl, GN.out, GX.out, GS.out, GM.out])
    go_wp2_with fail
    have o1 : ((rowAt k).on == 1) = false := by rw [on_one k hk0 hk1]; simp; omega
    have o2 : ((rowAt k).on != 1) = true := by simp [bne, o1]
    refine (rOn_any k _).mono ?_
    rintro e u5 ⟨rfl, hb⟩
    clear c0 hlt
    have B5 := Lib.hid (B4.out.next hb)
    clear hb
    have c0 := fun o => cell_of_row u5 _ o _ _ (0, 0) B5.out.box
    have hlt := B5.out.lt
    have H3 := Lib.hid (show ¬ AC.most k < (⟨#[]⟩ : ByteArray).size by exact Nat.not_lt_zero _)
    go_wp2_with fail
    refine (rOn_any k _).mono ?_
    rintro e u6 ⟨rfl, hb⟩
    clear c0 hlt
    have B6 := Lib.hid (B5.out.next hb)
    clear hb
    have c0 := fun o => cell_of_row u6 _ o _ _ (0, 0) B6.out.box
    have hlt := B6.out.lt
    have a1 : (k == 10) = false := by simp; omega
    have a2 : (k == 11) = false := by simp; omega
    have H4 := Lib.hid (show AC.amount ⟨k, key, 0, x, ⟨#[]⟩, m, must⟩ = true by unfold AC.amount; rw [if_neg (by simp only; omega)])
    go_wp2_with fail
    refine (rproper_any x _).mono ?_
    cases hp : MF.proper x
    case false =>
      have H5 := Lib.hid hp
      clear hp
      rintro e w' ⟨rfl, rfl⟩
      go_wp2_with fail
      go_ret
      exact EPost.mk (AC.chk_x Hk.out H1.out Hb.out H3.out H4.out H5.out) rfl B6.out.bel
    have H5 := Lib.hid hp
    clear hp
    rintro e w' ⟨rfl, rfl⟩
    have e1 : (k == 1) = false := by simp; omega
    have H6 := Lib.hid (show AC.endE ⟨k, key, 0, x, ⟨#[]⟩, m, must⟩ = 0 by unfold AC.endE; rw [if_neg (by simp only; omega)])
    go_wp2_with fail
    go_ret
    exact EPost.mk ((AC.chk_end Hk.out H1.out Hb.out H3.out H4.out H5.out).trans H6.out) rfl B6.out.bel
  · have GN := Lib.hid gN
    have GX := Lib.hid gX
    have GS := Lib.hid gS
    have GM := Lib.hid gM
    have hrng : (5 ≤ k ∧ k ≤ 6) ∨ (18 ≤ k ∧ k ≤ 20) := by unfold AC.hasN at gN; unfold AC.hasX at gX; unfold AC.hasS at gS; unfold AC.hasM at gM; simp only [decide_eq_true_eq, decide_eq_false_iff_not] at gN gX gS gM; omega
    clear gN gX gS gM
    have m1 : (k != 1) = true := by simp; omega
    go_enter Tryz.func30, Tryz.ntmps30
    go_wp2_with fail
    refine (rHas_is k 110 false _ (by omega) (by rw [show (110 : Nat).toUInt8 = 110 from rfl, fld_n]; exact GN.out)).mono ?_
    rintro e u1 ⟨rfl, hb⟩
    have B1 := Lib.hid (B.out.next hb)
    clear hb
    have c0 := fun o => cell_of_row u1 _ o _ _ (0, 0) B1.out.box
    have hlt := B1.out.lt
    by_cases hz : n = 0
    case neg =>
      have z : (n != 0) = true := by simp [hz]
      have Z := Lib.hid z
      go_wp2_with fail
      go_ret
      exact EPost.mk (AC.chk_form Hk.out H1.out (by simp [AC.beyond, Z.out, GN.out])) rfl B1.out.bel
    subst hz
    go_wp2_with fail
    refine (rHas_is k 120 false _ (by omega) (by rw [show (120 : Nat).toUInt8 = 120 from rfl, fld_x]; exact GX.out)).mono ?_
    rintro e u2 ⟨rfl, hb⟩
    clear c0 hlt
    have B2 := Lib.hid (B1.out.next hb)
    clear hb
    have c0 := fun o => cell_of_row u2 _ o _ _ (0, 0) B2.out.box
    have hlt := B2.out.lt
    go_wp2_with fail
    refine (rsame_any x 0 _ hX (by unfold MF.W64; decide)).mono ?_
    cases hz : MF.same x 0
    case false =>
      have Z := Lib.hid hz
      clear hz
      rintro e w' ⟨rfl, rfl⟩
      go_wp2_with fail
      go_ret
      exact EPost.mk (AC.chk_form Hk.out H1.out (by simp [AC.beyond, Z.out, GN.out, GX.out])) rfl B2.out.bel
    obtain rfl := RC.zero_of_same hX hz
    clear hz
    rintro e w' ⟨rfl, rfl⟩
    go_wp2_with fail
    refine (rHas_is k 115 true _ (by omega) (by rw [show (115 : Nat).toUInt8 = 115 from rfl, fld_s]; exact GS.out)).mono ?_
    rintro e u3 ⟨rfl, hb⟩
    clear c0 hlt
    have B3 := Lib.hid (B2.out.next hb)
    clear hb
    have c0 := fun o => cell_of_row u3 _ o _ _ (0, 0) B3.out.box
    have hlt := B3.out.lt
    go_wp2_with fail
    refine (rsame3_any m RC.zero A none c 0 _ HO.out.make RC.zero_ok (HI.out.below B3.out.bel) (Its.nil _ _) HL.out (by unfold Lim; decide)).mono ?_
    cases hz : RC.same m RC.zero
    case false =>
      have Z := Lib.hid hz
      clear hz
      rintro e u4 ⟨rfl, hb⟩
      have B9 := Lib.hid (B3.out.next hb)
      clear hb
      rw [Z.out]
      go_wp2_with fail
      go_ret
      exact EPost.mk (AC.chk_form Hk.out H1.out (by simp [AC.beyond, Z.out, GN.out, GX.out, GS.out, GM.out])) rfl B9.out.bel
    have ZM := Lib.hid hz
    clear hz
    rintro e u4 ⟨rfl, hb⟩
    rw [ZM.out]
    clear c0 hlt
    have B4 := Lib.hid (B3.out.next hb)
    clear hb
    have c0 := fun o => cell_of_row u4 _ o _ _ (0, 0) B4.out.box
    have hlt := B4.out.lt
    have Hb := Lib.hid (show AC.beyond ⟨k, key, 0, 0, s, m, must⟩ = false by simp [AC.beyond, ZM.out, RC.same_refl, GN.out, GX.out, GS.out, GM.out])
    go_wp2_with fail
    rcases hrng with hrng | hrng
    · skip
      have o1 : ((rowAt k).on == 1) = true := by rw [on_one k hk0 hk1]; simp; omega
      have o2 : ((rowAt k).on != 1) = false := by simp [bne, o1]
      refine (rOn_any k _).mono ?_
      rintro e u5 ⟨rfl, hb⟩
      clear c0 hlt
      have B5 := Lib.hid (B4.out.next hb)
      clear hb
      have c0 := fun o => cell_of_row u5 _ o _ _ (0, 0) B5.out.box
      have hlt := B5.out.lt
      have Hm := Lib.hid (show AC.most k = 64 by rw [most_s]; rw [if_pos (by omega)])
      by_cases h3 : 64 < s.size
      · have q3 : (64 : Int) < (s.size : Int) := by omega
        have H3 := Lib.hid (show AC.most k < s.size by rw [Hm.out]; exact h3)
        clear h3
        go_wp2_with fail
        go_ret
        exact EPost.mk (AC.chk_long Hk.out H1.out Hb.out H3.out) rfl B5.out.bel
      have q3 : ¬ (64 : Int) < (s.size : Int) := by omega
      have H3 := Lib.hid (show ¬ AC.most k < s.size by rw [Hm.out]; exact h3)
      clear h3
      go_wp2_with fail
      refine (rOn_any k _).mono ?_
      rintro e u6 ⟨rfl, hb⟩
      clear c0 hlt
      have B6 := Lib.hid (B5.out.next hb)
      clear hb
      have c0 := fun o => cell_of_row u6 _ o _ _ (0, 0) B6.out.box
      have hlt := B6.out.lt
      have a1 : (k == 10) = false := by simp; omega
      have a2 : (k == 11) = false := by simp; omega
      have H4 := Lib.hid (show AC.amount ⟨k, key, 0, 0, s, m, must⟩ = true by unfold AC.amount; rw [if_neg (by simp only; omega)])
      go_wp2_with fail
      refine (rproper_any 0 _).mono ?_
      have H5 := Lib.hid RC.proper_zero
      rw [H5.out]
      rintro e w' ⟨rfl, rfl⟩
      have e1 : (k == 1) = false := by simp; omega
      have H6 := Lib.hid (show AC.endE ⟨k, key, 0, 0, s, m, must⟩ = 0 by unfold AC.endE; rw [if_neg (by simp only; omega)])
      go_wp2_with fail
      go_ret
      exact EPost.mk ((AC.chk_end Hk.out H1.out Hb.out H3.out H4.out H5.out).trans H6.out) rfl B6.out.bel
    · skip
      have o1 : ((rowAt k).on == 1) = false := by rw [on_one k hk0 hk1]; simp; omega
      have o2 : ((rowAt k).on != 1) = true := by simp [bne, o1]
      refine (rOn_any k _).mono ?_
      rintro e u5 ⟨rfl, hb⟩
      clear c0 hlt
      have B5 := Lib.hid (B4.out.next hb)
      clear hb
      have c0 := fun o => cell_of_row u5 _ o _ _ (0, 0) B5.out.box
      have hlt := B5.out.lt
      have Hm := Lib.hid (show AC.most k = 16 by rw [most_s]; rw [if_neg (by omega), if_pos (by omega)])
      by_cases h3 : 16 < s.size
      · have q3 : (16 : Int) < (s.size : Int) := by omega
        have H3 := Lib.hid (show AC.most k < s.size by rw [Hm.out]; exact h3)
        clear h3
        go_wp2_with fail
        refine (rOn_any k _).mono ?_
        rintro e u6 ⟨rfl, hb⟩
        clear c0 hlt
        have B6 := Lib.hid (B5.out.next hb)
        clear hb
        have c0 := fun o => cell_of_row u6 _ o _ _ (0, 0) B6.out.box
        have hlt := B6.out.lt
        go_wp2_with fail
        go_ret
        exact EPost.mk (AC.chk_long Hk.out H1.out Hb.out H3.out) rfl B6.out.bel
      have q3 : ¬ (16 : Int) < (s.size : Int) := by omega
      have H3 := Lib.hid (show ¬ AC.most k < s.size by rw [Hm.out]; exact h3)
      clear h3
      go_wp2_with fail
      refine (rOn_any k _).mono ?_
      rintro e u6 ⟨rfl, hb⟩
      clear c0 hlt
      have B6 := Lib.hid (B5.out.next hb)
      clear hb
      have c0 := fun o => cell_of_row u6 _ o _ _ (0, 0) B6.out.box
      have hlt := B6.out.lt
      have a1 : (k == 10) = false := by simp; omega
      have a2 : (k == 11) = false := by simp; omega
      have H4 := Lib.hid (show AC.amount ⟨k, key, 0, 0, s, m, must⟩ = true by unfold AC.amount; rw [if_neg (by simp only; omega)])
      go_wp2_with fail
      refine (rproper_any 0 _).mono ?_
      have H5 := Lib.hid RC.proper_zero
      rw [H5.out]
      rintro e w' ⟨rfl, rfl⟩
      have e1 : (k == 1) = false := by simp; omega
      have H6 := Lib.hid (show AC.endE ⟨k, key, 0, 0, s, m, must⟩ = 0 by unfold AC.endE; rw [if_neg (by simp only; omega)])
      go_wp2_with fail
      go_ret
      exact EPost.mk ((AC.chk_end Hk.out H1.out Hb.out H3.out H4.out H5.out).trans H6.out) rfl B6.out.bel
  · have GN := Lib.hid gN
    have GX := Lib.hid gX
    have GS := Lib.hid gS
    have GM := Lib.hid gM
    have hrng : 21 ≤ k ∧ k ≤ 21 := by unfold AC.hasN at gN; unfold AC.hasX at gX; unfold AC.hasS at gS; unfold AC.hasM at gM; simp only [decide_eq_true_eq, decide_eq_false_iff_not] at gN gX gS gM; omega
    clear gN gX gS gM
    have m1 : (k != 1) = true := by simp; omega
    go_enter Tryz.func30, Tryz.ntmps30
    go_wp2_with fail
    refine (rHas_is k 110 false _ (by omega) (by rw [show (110 : Nat).toUInt8 = 110 from rfl, fld_n]; exact GN.out)).mono ?_
    rintro e u1 ⟨rfl, hb⟩
    have B1 := Lib.hid (B.out.next hb)
    clear hb
    have c0 := fun o => cell_of_row u1 _ o _ _ (0, 0) B1.out.box
    have hlt := B1.out.lt
    by_cases hz : n = 0
    case neg =>
      have z : (n != 0) = true := by simp [hz]
      have Z := Lib.hid z
      go_wp2_with fail
      go_ret
      exact EPost.mk (AC.chk_form Hk.out H1.out (by simp [AC.beyond, Z.out, GN.out])) rfl B1.out.bel
    subst hz
    go_wp2_with fail
    refine (rHas_is k 120 true _ (by omega) (by rw [show (120 : Nat).toUInt8 = 120 from rfl, fld_x]; exact GX.out)).mono ?_
    rintro e u2 ⟨rfl, hb⟩
    clear c0 hlt
    have B2 := Lib.hid (B1.out.next hb)
    clear hb
    have c0 := fun o => cell_of_row u2 _ o _ _ (0, 0) B2.out.box
    have hlt := B2.out.lt
    go_wp2_with fail
    refine (rHas_is k 115 true _ (by omega) (by rw [show (115 : Nat).toUInt8 = 115 from rfl, fld_s]; exact GS.out)).mono ?_
    rintro e u3 ⟨rfl, hb⟩
    clear c0 hlt
    have B3 := Lib.hid (B2.out.next hb)
    clear hb
    have c0 := fun o => cell_of_row u3 _ o _ _ (0, 0) B3.out.box
    have hlt := B3.out.lt
    go_wp2_with fail
    refine (rsame3_any m RC.zero A none c 0 _ HO.out.make RC.zero_ok (HI.out.below B3.out.bel) (Its.nil _ _) HL.out (by unfold Lim; decide)).mono ?_
    cases hz : RC.same m RC.zero
    case false =>
      have Z := Lib.hid hz
      clear hz
      rintro e u4 ⟨rfl, hb⟩
      have B9 := Lib.hid (B3.out.next hb)
      clear hb
      rw [Z.out]
      go_wp2_with fail
      go_ret
      exact EPost.mk (AC.chk_form Hk.out H1.out (by simp [AC.beyond, Z.out, GN.out, GX.out, GS.out, GM.out])) rfl B9.out.bel
    have ZM := Lib.hid hz
    clear hz
    rintro e u4 ⟨rfl, hb⟩
    rw [ZM.out]
    clear c0 hlt
    have B4 := Lib.hid (B3.out.next hb)
    clear hb
    have c0 := fun o => cell_of_row u4 _ o _ _ (0, 0) B4.out.box
    have hlt := B4.out.lt
    have Hb := Lib.hid (show AC.beyond ⟨k, key, 0, x, s, m, must⟩ = false by simp [AC.beyond, ZM.out, GN.out, GX.out, GS.out, GM.out])
    go_wp2_with fail
    have o1 : ((rowAt k).on == 1) = false := by rw [on_one k hk0 hk1]; simp; omega
    have o2 : ((rowAt k).on != 1) = true := by simp [bne, o1]
    refine (rOn_any k _).mono ?_
    rintro e u5 ⟨rfl, hb⟩
    clear c0 hlt
    have B5 := Lib.hid (B4.out.next hb)
    clear hb
    have c0 := fun o => cell_of_row u5 _ o _ _ (0, 0) B5.out.box
    have hlt := B5.out.lt
    have Hm := Lib.hid (show AC.most k = 16 by rw [most_s]; rw [if_neg (by omega), if_pos (by omega)])
    by_cases h3 : 16 < s.size
    · have q3 : (16 : Int) < (s.size : Int) := by omega
      have H3 := Lib.hid (show AC.most k < s.size by rw [Hm.out]; exact h3)
      clear h3
      go_wp2_with fail
      refine (rOn_any k _).mono ?_
      rintro e u6 ⟨rfl, hb⟩
      clear c0 hlt
      have B6 := Lib.hid (B5.out.next hb)
      clear hb
      have c0 := fun o => cell_of_row u6 _ o _ _ (0, 0) B6.out.box
      have hlt := B6.out.lt
      go_wp2_with fail
      go_ret
      exact EPost.mk (AC.chk_long Hk.out H1.out Hb.out H3.out) rfl B6.out.bel
    have q3 : ¬ (16 : Int) < (s.size : Int) := by omega
    have H3 := Lib.hid (show ¬ AC.most k < s.size by rw [Hm.out]; exact h3)
    clear h3
    go_wp2_with fail
    refine (rOn_any k _).mono ?_
    rintro e u6 ⟨rfl, hb⟩
    clear c0 hlt
    have B6 := Lib.hid (B5.out.next hb)
    clear hb
    have c0 := fun o => cell_of_row u6 _ o _ _ (0, 0) B6.out.box
    have hlt := B6.out.lt
    have a1 : (k == 10) = false := by simp; omega
    have a2 : (k == 11) = false := by simp; omega
    have H4 := Lib.hid (show AC.amount ⟨k, key, 0, x, s, m, must⟩ = true by unfold AC.amount; rw [if_neg (by simp only; omega)])
    go_wp2_with fail
    refine (rproper_any x _).mono ?_
    cases hp : MF.proper x
    case false =>
      have H5 := Lib.hid hp
      clear hp
      rintro e w' ⟨rfl, rfl⟩
      go_wp2_with fail
      go_ret
      exact EPost.mk (AC.chk_x Hk.out H1.out Hb.out H3.out H4.out H5.out) rfl B6.out.bel
    have H5 := Lib.hid hp
    clear hp
    rintro e w' ⟨rfl, rfl⟩
    have e1 : (k == 1) = false := by simp; omega
    have H6 := Lib.hid (show AC.endE ⟨k, key, 0, x, s, m, must⟩ = 0 by unfold AC.endE; rw [if_neg (by simp only; omega)])
    go_wp2_with fail
    go_ret
    exact EPost.mk ((AC.chk_end Hk.out H1.out Hb.out H3.out H4.out H5.out).trans H6.out) rfl B6.out.bel
  · have GN := Lib.hid gN
    have GX := Lib.hid gX
    have GS := Lib.hid gS
    have GM := Lib.hid gM
    have hrng : 1 ≤ k ∧ k ≤ 1 := by unfold AC.hasN at gN; unfold AC.hasX at gX; unfold AC.hasS at gS; unfold AC.hasM at gM; simp only [decide_eq_true_eq, decide_eq_false_iff_not] at gN gX gS gM; omega
    clear gN gX gS gM
    have m1 : (k != 1) = false := by simp; omega
    go_enter Tryz.func30, Tryz.ntmps30
    go_wp2_with fail
    refine (rHas_is k 110 false _ (by omega) (by rw [show (110 : Nat).toUInt8 = 110 from rfl, fld_n]; exact GN.out)).mono ?_
    rintro e u1 ⟨rfl, hb⟩
    have B1 := Lib.hid (B.out.next hb)
    clear hb
    have c0 := fun o => cell_of_row u1 _ o _ _ (0, 0) B1.out.box
    have hlt := B1.out.lt
    by_cases hz : n = 0
    case neg =>
      have z : (n != 0) = true := by simp [hz]
      have Z := Lib.hid z
      go_wp2_with fail
      go_ret
      exact EPost.mk (AC.chk_form Hk.out H1.out (by simp [AC.beyond, Z.out, GN.out])) rfl B1.out.bel
    subst hz
    go_wp2_with fail
    refine (rHas_is k 120 false _ (by omega) (by rw [show (120 : Nat).toUInt8 = 120 from rfl, fld_x]; exact GX.out)).mono ?_
    rintro e u2 ⟨rfl, hb⟩
    clear c0 hlt
    have B2 := Lib.hid (B1.out.next hb)
    clear hb
    have c0 := fun o => cell_of_row u2 _ o _ _ (0, 0) B2.out.box
    have hlt := B2.out.lt
    go_wp2_with fail
    refine (rsame_any x 0 _ hX (by unfold MF.W64; decide)).mono ?_
    cases hz : MF.same x 0
    case false =>
      have Z := Lib.hid hz
      clear hz
      rintro e w' ⟨rfl, rfl⟩
      go_wp2_with fail
      go_ret
      exact EPost.mk (AC.chk_form Hk.out H1.out (by simp [AC.beyond, Z.out, GN.out, GX.out])) rfl B2.out.bel
    obtain rfl := RC.zero_of_same hX hz
    clear hz
    rintro e w' ⟨rfl, rfl⟩
    go_wp2_with fail
    refine (rHas_is k 115 false _ (by omega) (by rw [show (115 : Nat).toUInt8 = 115 from rfl, fld_s]; exact GS.out)).mono ?_
    rintro e u3 ⟨rfl, hb⟩
    clear c0 hlt
    have B3 := Lib.hid (B2.out.next hb)
    clear hb
    have c0 := fun o => cell_of_row u3 _ o _ _ (0, 0) B3.out.box
    have hlt := B3.out.lt
    cases hz : RC.strEq s ⟨#[]⟩
    case false =>
      have Z := Lib.hid hz
      have z := str_no hz
      have z1 := str_no2 hz
      clear hz
      go_wp2_with fail
      go_ret
      exact EPost.mk (AC.chk_form Hk.out H1.out (by simp [AC.beyond, Z.out, GN.out, GX.out, GS.out])) rfl B3.out.bel
    obtain rfl := (RC.strEq_iff s ⟨#[]⟩).1 hz
    clear hz
    go_wp2_with fail
    have Hb := Lib.hid (show AC.beyond ⟨k, key, 0, 0, ⟨#[]⟩, m, must⟩ = false by simp [AC.beyond, RC.same_refl, RC.strEq_refl, GN.out, GX.out, GS.out, GM.out])
    have o1 : ((rowAt k).on == 1) = false := by rw [on_one k hk0 hk1]; simp; omega
    have o2 : ((rowAt k).on != 1) = true := by simp [bne, o1]
    refine (rOn_any k _).mono ?_
    rintro e u4 ⟨rfl, hb⟩
    clear c0 hlt
    have B4 := Lib.hid (B3.out.next hb)
    clear hb
    have c0 := fun o => cell_of_row u4 _ o _ _ (0, 0) B4.out.box
    have hlt := B4.out.lt
    have H3 := Lib.hid (show ¬ AC.most k < (⟨#[]⟩ : ByteArray).size by exact Nat.not_lt_zero _)
    go_wp2_with fail
    refine (rOn_any k _).mono ?_
    rintro e u5 ⟨rfl, hb⟩
    clear c0 hlt
    have B5 := Lib.hid (B4.out.next hb)
    clear hb
    have c0 := fun o => cell_of_row u5 _ o _ _ (0, 0) B5.out.box
    have hlt := B5.out.lt
    have a1 : (k == 10) = false := by simp; omega
    have a2 : (k == 11) = false := by simp; omega
    have H4 := Lib.hid (show AC.amount ⟨k, key, 0, 0, ⟨#[]⟩, m, must⟩ = true by unfold AC.amount; rw [if_neg (by simp only; omega)])
    go_wp2_with fail
    refine (rproper_any 0 _).mono ?_
    have H5 := Lib.hid RC.proper_zero
    rw [H5.out]
    rintro e w' ⟨rfl, rfl⟩
    have e1 : (k == 1) = true := by simp; omega
    have H6 := Lib.hid (show AC.endE ⟨k, key, 0, 0, ⟨#[]⟩, m, must⟩ = RC.chk m by unfold AC.endE; rw [if_pos (by simp only; omega)])
    go_wp2_with fail
    refine (rcheck_any m A c _ HO.out.make (HI.out.below B5.out.bel) HL.out).mono ?_
    rintro e u6 ⟨rfl, hb⟩
    have B9 := Lib.hid (B5.out.next hb)
    clear hb
    go_wp2_with fail
    go_ret
    exact EPost.mk ((AC.chk_end Hk.out H1.out Hb.out H3.out H4.out H5.out).trans H6.out) rfl B9.out.bel
end Go.Proofs.YtbkcmnmbcldjoaaGreatDoor
