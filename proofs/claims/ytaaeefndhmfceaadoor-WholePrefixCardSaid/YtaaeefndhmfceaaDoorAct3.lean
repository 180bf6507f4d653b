/- Contracts of package act: may an act be? are two the same? -/
import Derived.Test.YtaaeefndhmfceaaDoorAct2
import Derived.Deep.RegionHeld3
namespace AC
theorem chk_kind {a : Ac} (h : known a.kind = false) : chk a = 5 := by unfold chk; rw [if_neg (by rw [h]; simp)]
theorem chk_key {a : Ac} (h : known a.kind = true) (h1 : ¬ (1 ≤ a.key.size ∧ a.key.size ≤ 24)) : chk a = 1 := by unfold chk; rw [if_pos h, if_neg h1]
theorem chk_form {a : Ac} (h : known a.kind = true) (h1 : 1 ≤ a.key.size ∧ a.key.size ≤ 24) (h2 : beyond a = true) : chk a = 4 := by unfold chk; rw [if_pos h, if_pos h1, if_pos h2]
theorem chk_long {a : Ac} (h : known a.kind = true) (h1 : 1 ≤ a.key.size ∧ a.key.size ≤ 24) (h2 : beyond a = false) (h3 : most a.kind < a.s.size) : chk a = 3 := by unfold chk; rw [if_pos h, if_pos h1, if_neg (by rw [h2]; simp), if_pos h3]
theorem chk_amount {a : Ac} (h : known a.kind = true) (h1 : 1 ≤ a.key.size ∧ a.key.size ≤ 24) (h2 : beyond a = false) (h3 : ¬ most a.kind < a.s.size) (h4 : amount a = false) : chk a = 1 := by unfold chk; rw [if_pos h, if_pos h1, if_neg (by rw [h2]; simp), if_neg h3, if_neg (by rw [h4]; simp)]
theorem chk_x {a : Ac} (h : known a.kind = true) (h1 : 1 ≤ a.key.size ∧ a.key.size ≤ 24) (h2 : beyond a = false) (h3 : ¬ most a.kind < a.s.size) (h4 : amount a = true) (h5 : MF.proper a.x = false) : chk a = 4 := by unfold chk; rw [if_pos h, if_pos h1, if_neg (by rw [h2]; simp), if_neg h3, if_pos h4, if_neg (by rw [h5]; simp)]
theorem chk_end {a : Ac} (h : known a.kind = true) (h1 : 1 ≤ a.key.size ∧ a.key.size ≤ 24) (h2 : beyond a = false) (h3 : ¬ most a.kind < a.s.size) (h4 : amount a = true) (h5 : MF.proper a.x = true) : chk a = endE a := by unfold chk; rw [if_pos h, if_pos h1, if_neg (by rw [h2]; simp), if_neg h3, if_pos h4, if_pos h5]
end AC
namespace Go.Proofs.YtaaeefndhmfceaaDoor
open Go.RowKit MM

set_option maxHeartbeats 1000000 in
set_option maxRecDepth 100000 in
theorem amountFits_any (a : AC.Ac) (A : Option Addr) (c : Nat) (w : World) :
    Calls Tryd.prog 106 #[actV a A c] w fun e w' => e = .returned (.bool (AC.amount a)) ∧ Below w.heap.size w w' := by
  obtain ⟨k, key, n, x, s, m, must⟩ := a
  by_cases hk : k = 10 ∨ k = 11
  · have Hr := Lib.hid (show AC.amount ⟨k, key, n, x, s, m, must⟩ = decide (0 ≤ n ∧ n ≤ 2305843009213693952) by unfold AC.amount; rw [if_pos hk])
    by_cases h0 : 0 ≤ n
    · by_cases h1 : n ≤ 2305843009213693952
      all_goals
        rcases hk with rfl | rfl
        all_goals
          go_enter Tryd.func106, Tryd.ntmps106
          go_wp2_with fail
          go_ret
          exact ⟨ret_bool (by rw [Hr.out]; simp [h0, h1]), below1 w _⟩
    · rcases hk with rfl | rfl
      all_goals
        go_enter Tryd.func106, Tryd.ntmps106
        go_wp2_with fail
        go_ret
        exact ⟨ret_bool (by rw [Hr.out]; simp; omega), below1 w _⟩
  · have Hr := Lib.hid (show AC.amount ⟨k, key, n, x, s, m, must⟩ = true by unfold AC.amount; rw [if_neg hk])
    have q1 : (k != 10) = true := by simp; omega
    have q2 : (k != 11) = true := by simp; omega
    clear hk
    go_enter Tryd.func106, Tryd.ntmps106
    go_wp2_with fail
    go_ret
    exact ⟨ret_bool (by rw [Hr.out]), below1 w _⟩

theorem below_d {B : Nat} (w : World) (_h : B ≤ w.heap.size) : Below B w w.drew := ⟨rfl, rfl, rfl, Nat.le_refl _, fun _ _ => rfl⟩

set_option maxHeartbeats 4000000 in
set_option maxRecDepth 100000 in
theorem actCheck_any (a : AC.Ac) (A : Option Addr) (c : Nat) (w : World) (ha : a.ok) (hR : RowsAt w) (hI : Its w A a.make.list) (hL : Lim a.make.list.length) (hK : Lim a.key.size) (hS : Lim a.s.size) :
    Calls Tryd.prog 61 #[actV a A c] w (EPost (AC.chk a) w) := by
  have HO := Lib.hid ha
  have HR := Lib.hid hR
  have HI := Lib.hid hI
  have HL := Lib.hid hL
  have HH := Lib.hid (fun u (b : Below w.heap.size w u) => hasBeyond_any a A c u ha (hR.below b) (hI.below b) hL)
  have HA := Lib.hid (fun u => amountFits_any a A c u)
  unfold Lim at hK hS
  clear ha hR hI hL
  obtain ⟨k, key, n, x, s, m, must⟩ := a
  have hK' : (key.size : Int) ≤ 4294967296 := by show ((key.size : Nat) : Int) ≤ _; have : key.size < 4294967296 := hK; omega
  have hS' : (s.size : Int) ≤ 4294967296 := by have : s.size < 4294967296 := hS; omega
  have B := Lib.hid (AB.new 31 w (actC ⟨k, key, n, x, s, m, must⟩ A c))
  clear hK hS
  go_enter Tryd.func61, Tryd.ntmps61
  go_wp2_with fail
  refine (actKnown_any k _).mono ?_
  cases hk : AC.known k
  · have Hk := Lib.hid hk
    clear hk
    rintro e w' ⟨rfl, rfl⟩
    go_wp2_with fail
    go_ret
    exact EPost.mk (AC.chk_kind Hk.out) rfl B.out.bel
  · have Hk := Lib.hid hk
    clear hk
    rintro e w' ⟨rfl, rfl⟩
    by_cases h1 : key.size < 1
    · have q : (key.size : Int) < 1 := by omega
      have H1 := Lib.hid (show ¬ (1 ≤ key.size ∧ key.size ≤ 24) by omega)
      clear h1
      go_wp2_with fail
      go_ret
      exact EPost.mk (AC.chk_key Hk.out H1.out) rfl B.out.bel
    · have q : ¬ (key.size : Int) < 1 := by omega
      by_cases h2 : 24 < key.size
      · have q2 : (24 : Int) < (key.size : Int) := by omega
        have H1 := Lib.hid (show ¬ (1 ≤ key.size ∧ key.size ≤ 24) by omega)
        clear h1 h2
        go_wp2_with fail
        go_ret
        exact EPost.mk (AC.chk_key Hk.out H1.out) rfl B.out.bel
      · have q2 : ¬ (24 : Int) < (key.size : Int) := by omega
        have H1 := Lib.hid (show 1 ≤ key.size ∧ key.size ≤ 24 by omega)
        clear h1 h2
        go_wp2_with fail
        refine (HH.out _ B.out.bel).mono ?_
        cases hb : AC.beyond ⟨k, key, n, x, s, m, must⟩
        · have Hb := Lib.hid hb
          clear hb
          rintro e u1 ⟨rfl, hb⟩
          have B1 := Lib.hid (B.out.next hb)
          have c0 := fun o => cell_of_row u1 _ o _ _ (0, 0) B1.out.box
          have d0 : u1.cell? ⟨w.heap.size, 0, none⟩ = some (.int .i64 k) := (c0 0).trans rfl
          have d4 : u1.cell? ⟨w.heap.size, 4, none⟩ = some (.string s) := (c0 4).trans rfl
          have HM := Lib.hid (mostOfS_any k u1.drew (HR.out.below (B1.out.bel.trans (below_d u1 B1.out.bel.size))))
          have hm64 : AC.most k ≤ 64 := by unfold AC.most; split <;> (try split) <;> omega
          have hm64' : (AC.most k : Int) ≤ 64 := by omega
          clear hb c0 HH hm64
          go_wp2_with fail
          by_cases h3 : AC.most k < s.size
          · have q3 : (AC.most k : Int) < (s.size : Int) := by omega
            have H3 := Lib.hid h3
            clear h3
            go_region_held3 (fun w' => w'.cell? ⟨w.heap.size, 0, none⟩ = some (.int .i64 k) ∧ w'.cell? ⟨w.heap.size, 4, none⟩ = some (.string s))
              (first
                | (go_split_ands; exact ⟨by assumption, by assumption⟩)
                | (go_split_ands; exact ⟨below_keep hb2 (by assumption), below_keep hb2 (by assumption)⟩))
              ((go_at_call 105; refine HM.out.mono ?_; rintro e u2 ⟨rfl, hb2⟩))
            go_wp2_with fail
            go_ret
            exact EPost.mk (AC.chk_long Hk.out H1.out Hb.out H3.out) rfl (B1.out.bel.trans ((below_d u1 B1.out.bel.size).trans (hb2.mono B1.out.bel.size)))
          · have q3 : ¬ (AC.most k : Int) < (s.size : Int) := by omega
            have H3 := Lib.hid h3
            clear h3
            go_region_held3 (fun w' => w'.cell? ⟨w.heap.size, 0, none⟩ = some (.int .i64 k) ∧ w'.cell? ⟨w.heap.size, 4, none⟩ = some (.string s))
              (first
                | (go_split_ands; exact ⟨by assumption, by assumption⟩)
                | (go_split_ands; exact ⟨below_keep hb2 (by assumption), below_keep hb2 (by assumption)⟩))
              ((go_at_call 105; refine HM.out.mono ?_; rintro e u2 ⟨rfl, hb2⟩))
            have B2 := Lib.hid (B1.out.next (show Below u1.heap.size u1 u2 from (below_d u1 (Nat.le_refl _)).trans hb2))
            have c0 := fun o => cell_of_row u2 _ o _ _ (0, 0) B2.out.box
            clear hb2 HM d0 d4
            try (rename_i hH; clear hH)
            go_wp2_with fail
            refine (HA.out _).mono ?_
            cases hm : AC.amount ⟨k, key, n, x, s, m, must⟩
            · have H4 := Lib.hid hm
              clear hm
              rintro e u3 ⟨rfl, hb⟩
              have B3 := Lib.hid (B2.out.next hb)
              clear hb c0
              go_wp2_with fail
              go_ret
              exact EPost.mk (AC.chk_amount Hk.out H1.out Hb.out H3.out H4.out) rfl B3.out.bel
            · have H4 := Lib.hid hm
              clear hm
              rintro e u3 ⟨rfl, hb⟩
              have B3 := Lib.hid (B2.out.next hb)
              clear hb c0
              have c0 := fun o => cell_of_row u3 _ o _ _ (0, 0) B3.out.box
              go_wp2_with fail
              refine (proper_any x _).mono ?_
              cases hp : MF.proper x
              · have H5 := Lib.hid hp
                clear hp
                rintro e w' ⟨rfl, rfl⟩
                go_wp2_with fail
                go_ret
                exact EPost.mk (AC.chk_x Hk.out H1.out Hb.out H3.out H4.out H5.out) rfl B3.out.bel
              · have H5 := Lib.hid hp
                clear hp
                rintro e w' ⟨rfl, rfl⟩
                by_cases h6 : k = 1
                · have H6 := Lib.hid (show AC.endE ⟨k, key, n, x, s, m, must⟩ = RC.chk m by unfold AC.endE; rw [if_pos h6])
                  have q6 : (k == 1) = true := by simp [h6]
                  clear h6
                  go_wp2_with fail
                  refine (recCheck_any m A c _ HO.out.make (HI.out.below B3.out.bel) HL.out).mono ?_
                  rintro e u4 ⟨rfl, hb⟩
                  have B4 := Lib.hid (B3.out.next hb)
                  clear hb
                  go_wp2_with fail
                  go_ret
                  exact EPost.mk ((AC.chk_end Hk.out H1.out Hb.out H3.out H4.out H5.out).trans H6.out) rfl B4.out.bel
                · have H6 := Lib.hid (show AC.endE ⟨k, key, n, x, s, m, must⟩ = 0 by unfold AC.endE; rw [if_neg h6])
                  have q6 : (k == 1) = false := by simp [h6]
                  clear h6
                  go_wp2_with fail
                  go_ret
                  exact EPost.mk ((AC.chk_end Hk.out H1.out Hb.out H3.out H4.out H5.out).trans H6.out) rfl B3.out.bel
        · have Hb := Lib.hid hb
          clear hb
          rintro e u1 ⟨rfl, hb⟩
          have B1 := Lib.hid (B.out.next hb)
          clear hb
          go_wp2_with fail
          go_ret
          exact EPost.mk (AC.chk_form Hk.out H1.out Hb.out) rfl B1.out.bel

end Go.Proofs.YtaaeefndhmfceaaDoor
