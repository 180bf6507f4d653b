/- The document's own of layer 6: do two acts change places, do rows; the walk of PairKinds. -/
import Derived.Test.YtlpecaldodganaaDoorSp6
import Derived.Test.YtlpecaldodganaaDoorRef6
namespace Go.Proofs.YtlpecaldodganaaDoor
open Go.RowKit MM
set_option linter.unusedVariables false
set_option linter.unusedSimpArgs false

theorem kinds6_comm (k l : Int) : RU.kinds6 k l = RU.kinds6 l k := by
  unfold RU.kinds6
  by_cases h1 : k < 3 ∨ 21 < k ∨ l < 3 ∨ 21 < l
  · have h1' : l < 3 ∨ 21 < l ∨ k < 3 ∨ 21 < k := by omega
    rw [if_pos h1, if_pos h1']
  have h1' : ¬ (l < 3 ∨ 21 < l ∨ k < 3 ∨ 21 < k) := by omega
  rw [if_neg h1, if_neg h1', Bool.and_comm (RU.reads6 l)]
  by_cases h2 : (RU.reads6 k && RU.reads6 l) = true
  · rw [if_pos h2, if_pos h2]
  rw [if_neg h2, if_neg h2]
  by_cases h3 : k = 3 ∨ l = 3
  · have h3' : l = 3 ∨ k = 3 := by omega
    rw [if_pos h3, if_pos h3']
  have h3' : ¬ (l = 3 ∨ k = 3) := by omega
  rw [if_neg h3, if_neg h3']
  by_cases h4 : k = 4 ∨ l = 4
  · have h4' : l = 4 ∨ k = 4 := by omega
    rw [if_pos h4, if_pos h4']
  have h4' : ¬ (l = 4 ∨ k = 4) := by omega
  rw [if_neg h4, if_neg h4']
  by_cases h5 : (rowAt k).on ≠ (rowAt l).on
  · have h5' : (rowAt l).on ≠ (rowAt k).on := fun e => h5 e.symm
    rw [if_pos h5, if_pos h5']
  have h5' : ¬ (rowAt l).on ≠ (rowAt k).on := fun h => h5 (fun e => h e.symm)
  rw [if_neg h5, if_neg h5']
  by_cases h6 : k = l
  · subst h6; rfl
  · rw [show (k == l) = false from beq_eq_false_iff_ne.2 h6, show (l == k) = false from beq_eq_false_iff_ne.2 (fun e => h6 e.symm)]
    rfl

set_option maxHeartbeats 2000000 in
theorem r6commute_any (a b : AC.Ac) (A B : Option Addr) (c d : Nat) (w : World) :
    Calls Tryd.prog 10 #[actV a A c, actV b B d] w fun e w' => e = .returned (.bool (RU.comm a b)) ∧ Below w.heap.size w w' := by
  have HS := Lib.hid (fun u => r6kinds_any a.kind b.kind u)
  go_enter Tryd.func10, Tryd.ntmps10
  cases he : RC.strEq a.key b.key
  · have he' : (a.key.toList == b.key.toList) = false := he
    have HV := Lib.hid (show RU.comm a b = true by unfold RU.comm; rw [he]; rfl)
    clear he
    go_wp2_with fail
    go_ret
    exact ⟨by rw [HV.out]; rfl, below2 w _ _⟩
  · have he' : (a.key.toList == b.key.toList) = true := he
    have HV := Lib.hid (show RU.comm a b = RU.kinds6 a.kind b.kind by unfold RU.comm; rw [he]; rfl)
    clear he
    go_wp2_with fail
    refine (HS.out _).mono ?_
    rintro e w' ⟨rfl, hb⟩
    have HB := Lib.hid (show Below w.heap.size w w' from (below2 w _ _).trans (hb.mono (by simp only [World.size_alloc]; omega)))
    clear hb
    go_wp2_with fail
    go_ret
    exact ⟨by rw [HV.out]; rfl, HB.out⟩

theorem range_cells {w : World} {b o : Nat} {a : AC.Ac} {A : Option Addr} {c : Nat} (h : w.rangeAt b o (actC a A c).toList) (j : Nat) (v : Value) (hv : (actC a A c)[j]? = some v) : w.cell? ⟨b, o + j, none⟩ = some v := h j v (by rw [Array.getElem?_toList]; exact hv)

set_option maxHeartbeats 8000000 in
set_option maxRecDepth 100000 in
theorem r6rows_any (l m : List Al) (L M : Option Addr) (cl cm : Nat) (w : World) (hl : ActsIn w L l) (hm : ActsIn w M m) (nl : l.length ≤ 1000) (nm : m.length ≤ 1000) :
    Calls Tryd.prog 8 #[.slice L l.length cl, .slice M m.length cm] w fun e w' => e = .returned (.bool (RU.rows6 (l.map (·.r)) (m.map (·.r)))) ∧ Below w.heap.size w w' := by
  have HL := Lib.hid hl
  have HM := Lib.hid hm
  have HV := Lib.hid (show RU.rows6 (l.map (·.r)) (m.map (·.r)) = l.all fun a => m.all fun b => RU.comm a.r b.r by unfold RU.rows6; rw [List.all_map]; congr 1; funext a; show (m.map (·.r)).all _ = _; rw [List.all_map]; rfl)
  clear hl hm
  generalize RU.rows6 (l.map (·.r)) (m.map (·.r)) = V at *
  go_enter Tryd.func8, Tryd.ntmps8
  go_wp2_with fail
  go_loopw [5] (fun t5 wr => ∃ i : Nat, t5 = .int .i64 i ∧ i ≤ l.length ∧ ((l.take i).all fun a => m.all fun b => RU.comm a.r b.r) = true ∧ Below w.heap.size w wr) (fun t5 _ => l.length - (intOf t5).toNat)
  case atStart => exact ⟨0, rfl, Nat.zero_le _, rfl, Below.refl _ _⟩
  case round =>
    obtain ⟨i, rfl, hi, hyes, hbr⟩ := hrel
    generalize wr = wq at *
    have HY := Lib.hid hyes
    have BR := Lib.hid hbr
    clear hyes hbr
    by_cases hlt : i < l.length
    · have hi1 : (i : Int) < (l.length : Int) := by omega
      obtain ⟨b1, o1, rfl, hr1⟩ := acts_range9 HL.out hlt
      have HT := Lib.hid (fun (h : (m.all fun b => RU.comm l[i].r b.r) = true) => all_take hlt (f := fun a : Al => m.all fun b => RU.comm a.r b.r) HY.out h)
      have HF := Lib.hid (fun (h : (m.all fun b => RU.comm l[i].r b.r) = false) => all_no hlt (f := fun a : Al => m.all fun b => RU.comm a.r b.r) h)
      generalize l[i] = a at *
      have HR0 := Lib.hid (range_keep9 BR.out hr1)
      clear hr1
      go_wp2_with fail
      go_loopw [6] (fun t6 wr => ∃ j : Nat, t6 = .int .i64 j ∧ j ≤ m.length ∧ ((m.take j).all fun b => RU.comm a.r b.r) = true ∧ Below wq.heap.size wq wr) (fun t6 _ => m.length - (intOf t6).toNat)
      case atStart => exact ⟨0, rfl, Nat.zero_le _, rfl, Below.refl _ _⟩
      case round =>
        obtain ⟨j, rfl, hj, hyes, hbr⟩ := hrel
        generalize wr = ws at *
        have HY2 := Lib.hid hyes
        have BR2 := Lib.hid hbr
        clear hyes hbr
        by_cases hlt2 : j < m.length
        · have hj1 : (j : Int) < (m.length : Int) := by omega
          obtain ⟨b2, o2, rfl, hr2⟩ := acts_range9 HM.out hlt2
          have HT2 := Lib.hid (fun (h : RU.comm a.r m[j].r = true) => all_take hlt2 (f := fun b : Al => RU.comm a.r b.r) HY2.out h)
          have HF2 := Lib.hid (fun (h : RU.comm a.r m[j].r = false) => all_no hlt2 (f := fun b : Al => RU.comm a.r b.r) h)
          generalize m[j] = b at *
          have HR2 := Lib.hid (range_keep9 (BR.out.trans (BR2.out.mono BR.out.size)) hr2)
          have HR1 := Lib.hid (range_keep9 BR2.out HR0.out)
          clear hr2
          have ra0 : ws.cell? ⟨b1, o1 + i * 14, none⟩ = some (.int .i64 a.r.kind) := range_cells HR1.out 0 _ rfl
          have ra1 : ws.cell? ⟨b1, o1 + i * 14 + 1, none⟩ = some (.string a.r.key) := range_cells HR1.out 1 _ rfl
          have ra2 : ws.cell? ⟨b1, o1 + i * 14 + 2, none⟩ = some (.int .i64 a.r.n) := range_cells HR1.out 2 _ rfl
          have ra3 : ws.cell? ⟨b1, o1 + i * 14 + 3, none⟩ = some (.float .f64 a.r.x) := range_cells HR1.out 3 _ rfl
          have ra4 : ws.cell? ⟨b1, o1 + i * 14 + 4, none⟩ = some (.string a.r.s) := range_cells HR1.out 4 _ rfl
          have ra5 : ws.cell? ⟨b1, o1 + i * 14 + 5, none⟩ = some (.int .i64 a.r.make.kind) := range_cells HR1.out 5 _ rfl
          have ra6 : ws.cell? ⟨b1, o1 + i * 14 + 6, none⟩ = some (.int .i64 a.r.make.num) := range_cells HR1.out 6 _ rfl
          have ra7 : ws.cell? ⟨b1, o1 + i * 14 + 7, none⟩ = some (.int .i64 a.r.make.low) := range_cells HR1.out 7 _ rfl
          have ra8 : ws.cell? ⟨b1, o1 + i * 14 + 8, none⟩ = some (.int .i64 a.r.make.high) := range_cells HR1.out 8 _ rfl
          have ra9 : ws.cell? ⟨b1, o1 + i * 14 + 9, none⟩ = some (.float .f64 a.r.make.real) := range_cells HR1.out 9 _ rfl
          have ra10 : ws.cell? ⟨b1, o1 + i * 14 + 10, none⟩ = some (.int .i64 a.r.make.cap) := range_cells HR1.out 10 _ rfl
          have ra11 : ws.cell? ⟨b1, o1 + i * 14 + 11, none⟩ = some (.string a.r.make.text) := range_cells HR1.out 11 _ rfl
          have ra12 : ws.cell? ⟨b1, o1 + i * 14 + 12, none⟩ = some (.slice a.A a.r.make.list.length a.c) := range_cells HR1.out 12 _ rfl
          have ra13 : ws.cell? ⟨b1, o1 + i * 14 + 13, none⟩ = some (.bool a.r.must) := range_cells HR1.out 13 _ rfl
          have rb0 : ws.cell? ⟨b2, o2 + j * 14, none⟩ = some (.int .i64 b.r.kind) := range_cells HR2.out 0 _ rfl
          have rb1 : ws.cell? ⟨b2, o2 + j * 14 + 1, none⟩ = some (.string b.r.key) := range_cells HR2.out 1 _ rfl
          have rb2 : ws.cell? ⟨b2, o2 + j * 14 + 2, none⟩ = some (.int .i64 b.r.n) := range_cells HR2.out 2 _ rfl
          have rb3 : ws.cell? ⟨b2, o2 + j * 14 + 3, none⟩ = some (.float .f64 b.r.x) := range_cells HR2.out 3 _ rfl
          have rb4 : ws.cell? ⟨b2, o2 + j * 14 + 4, none⟩ = some (.string b.r.s) := range_cells HR2.out 4 _ rfl
          have rb5 : ws.cell? ⟨b2, o2 + j * 14 + 5, none⟩ = some (.int .i64 b.r.make.kind) := range_cells HR2.out 5 _ rfl
          have rb6 : ws.cell? ⟨b2, o2 + j * 14 + 6, none⟩ = some (.int .i64 b.r.make.num) := range_cells HR2.out 6 _ rfl
          have rb7 : ws.cell? ⟨b2, o2 + j * 14 + 7, none⟩ = some (.int .i64 b.r.make.low) := range_cells HR2.out 7 _ rfl
          have rb8 : ws.cell? ⟨b2, o2 + j * 14 + 8, none⟩ = some (.int .i64 b.r.make.high) := range_cells HR2.out 8 _ rfl
          have rb9 : ws.cell? ⟨b2, o2 + j * 14 + 9, none⟩ = some (.float .f64 b.r.make.real) := range_cells HR2.out 9 _ rfl
          have rb10 : ws.cell? ⟨b2, o2 + j * 14 + 10, none⟩ = some (.int .i64 b.r.make.cap) := range_cells HR2.out 10 _ rfl
          have rb11 : ws.cell? ⟨b2, o2 + j * 14 + 11, none⟩ = some (.string b.r.make.text) := range_cells HR2.out 11 _ rfl
          have rb12 : ws.cell? ⟨b2, o2 + j * 14 + 12, none⟩ = some (.slice b.A b.r.make.list.length b.c) := range_cells HR2.out 12 _ rfl
          have rb13 : ws.cell? ⟨b2, o2 + j * 14 + 13, none⟩ = some (.bool b.r.must) := range_cells HR2.out 13 _ rfl
          have HCx := Lib.hid (fun u (h : Below ws.heap.size ws u) => r6commute_any a.r b.r a.A b.A a.c b.c u)
          generalize hv : RU.comm a.r b.r = v at *
          go_upto_region 7 with fail
          cases v
          case false =>
            refine wp_region_held_drew (S := fun W => Below ws.heap.size ws W) (by kernel_rfl) (below_drew (Below.refl _ _)) (fun hHeld => ?_)
            refine wpAnyH_take (i := 0) (oi := ⟨_, _, _, _, _, _⟩) (v := ?_) rfl (by kernel_rfl) (by kernel_rfl) (by kernel_rfl) (fun _ _ _ h => h) (Or.inl ⟨by kernel_rfl, ?_⟩) hHeld ?_
            rotate_left 1
            · intro W hW; first | (go_simp; done) | (go_simp; with_reducible rfl)
            try simp only [Act.put, List.setIfInBounds_toArray, List.set_cons_zero, List.set_cons_succ]
            refine wpAnyH_take (i := 1) (oi := ⟨_, _, _, _, _, _⟩) (v := ?_) rfl (by kernel_rfl) (by kernel_rfl) (by kernel_rfl) (fun _ _ _ h => h) (Or.inl ⟨by kernel_rfl, ?_⟩) hHeld ?_
            rotate_left 1
            · intro W hW; first | (go_simp; done) | (go_simp; with_reducible rfl)
            try simp only [Act.put, List.setIfInBounds_toArray, List.set_cons_zero, List.set_cons_succ]
            refine wpAnyH_take (i := 2) (oi := ⟨_, _, _, _, _, _⟩) (v := ?_) rfl (by kernel_rfl) (by kernel_rfl) (by kernel_rfl) (fun _ _ _ h => h) (Or.inl ⟨by kernel_rfl, ?_⟩) hHeld ?_
            rotate_left 1
            · intro W hW; first | (go_simp; done) | (go_simp; with_reducible rfl)
            try simp only [Act.put, List.setIfInBounds_toArray, List.set_cons_zero, List.set_cons_succ]
            refine wpAnyH_take (i := 3) (oi := ⟨_, _, _, _, _, _⟩) (v := ?_) rfl (by kernel_rfl) (by kernel_rfl) (by kernel_rfl) (fun _ _ _ h => h) (Or.inl ⟨by kernel_rfl, ?_⟩) hHeld ?_
            rotate_left 1
            · intro W hW; have k0 := below_keep hW ra0; have k1 := below_keep hW ra1; have k2 := below_keep hW ra2; have k3 := below_keep hW ra3; have k4 := below_keep hW ra4; have k5 := below_keep hW ra5; have k6 := below_keep hW ra6; have k7 := below_keep hW ra7; have k8 := below_keep hW ra8; have k9 := below_keep hW ra9; have k10 := below_keep hW ra10; have k11 := below_keep hW ra11; have k12 := below_keep hW ra12; have k13 := below_keep hW ra13; first | (go_simp; done) | (go_simp; with_reducible rfl)
            try simp only [Act.put, List.setIfInBounds_toArray, List.set_cons_zero, List.set_cons_succ]
            refine wpAnyH_take (i := 4) (oi := ⟨_, _, _, _, _, _⟩) (v := ?_) rfl (by kernel_rfl) (by kernel_rfl) (by kernel_rfl) (fun _ _ _ h => h) (Or.inl ⟨by kernel_rfl, ?_⟩) hHeld ?_
            rotate_left 1
            · intro W hW; first | (go_simp; done) | (go_simp; with_reducible rfl)
            try simp only [Act.put, List.setIfInBounds_toArray, List.set_cons_zero, List.set_cons_succ]
            refine wpAnyH_take (i := 5) (oi := ⟨_, _, _, _, _, _⟩) (v := ?_) rfl (by kernel_rfl) (by kernel_rfl) (by kernel_rfl) (fun _ _ _ h => h) (Or.inl ⟨by kernel_rfl, ?_⟩) hHeld ?_
            rotate_left 1
            · intro W hW; first | (go_simp; done) | (go_simp; with_reducible rfl)
            try simp only [Act.put, List.setIfInBounds_toArray, List.set_cons_zero, List.set_cons_succ]
            refine wpAnyH_take (i := 6) (oi := ⟨_, _, _, _, _, _⟩) (v := ?_) rfl (by kernel_rfl) (by kernel_rfl) (by kernel_rfl) (fun _ _ _ h => h) (Or.inl ⟨by kernel_rfl, ?_⟩) hHeld ?_
            rotate_left 1
            · intro W hW; first | (go_simp; done) | (go_simp; with_reducible rfl)
            try simp only [Act.put, List.setIfInBounds_toArray, List.set_cons_zero, List.set_cons_succ]
            refine wpAnyH_take (i := 7) (oi := ⟨_, _, _, _, _, _⟩) (v := ?_) rfl (by kernel_rfl) (by kernel_rfl) (by kernel_rfl) (fun _ _ _ h => h) (Or.inl ⟨by kernel_rfl, ?_⟩) hHeld ?_
            rotate_left 1
            · intro W hW; have k0 := below_keep hW rb0; have k1 := below_keep hW rb1; have k2 := below_keep hW rb2; have k3 := below_keep hW rb3; have k4 := below_keep hW rb4; have k5 := below_keep hW rb5; have k6 := below_keep hW rb6; have k7 := below_keep hW rb7; have k8 := below_keep hW rb8; have k9 := below_keep hW rb9; have k10 := below_keep hW rb10; have k11 := below_keep hW rb11; have k12 := below_keep hW rb12; have k13 := below_keep hW rb13; first | (go_simp; done) | (go_simp; with_reducible rfl)
            try simp only [Act.put, List.setIfInBounds_toArray, List.set_cons_zero, List.set_cons_succ]
            refine wpAnyH_ready (rs := [8]) (by kernel_rfl) (by simp) ?_
            refine AllReadyH.cons rfl (fun K hK => ?_) AllReadyH.nil
            go_simp
            refine (HCx.out _ hHeld).mono ?_
            rintro e wv ⟨rfl, hbv⟩
            go_wp2_with fail
            refine hK.out _ _ ?_ (fun hHelda => ?_)
            · exact hHeld.trans (hbv.mono hHeld.size)
            clear hK K
            try simp only [Act.put, List.setIfInBounds_toArray, List.set_cons_zero, List.set_cons_succ]
            clear hbv
            refine wpAnyH_take (i := 9) (oi := ⟨_, _, _, _, _, _⟩) (v := ?_) rfl (by kernel_rfl) (by kernel_rfl) (by kernel_rfl) (fun _ _ _ h => h) (Or.inl ⟨by kernel_rfl, ?_⟩) hHelda ?_
            rotate_left 1
            · intro W hW; first | (go_simp; done) | (go_simp; with_reducible rfl)
            try simp only [Act.put, List.setIfInBounds_toArray, List.set_cons_zero, List.set_cons_succ]
            refine wpAnyH_done (by kernel_rfl) ?_ _
            have HVf := Lib.hid (show V = false by rw [HV.out]; exact HF.out (HF2.out (by simp)))
            have BZ := Lib.hid (BR.out.trans ((BR2.out.trans (hHelda.mono BR2.out.size)).mono BR.out.size))
            clear HV
            go_wp2_with fail
            go_ret
            exact ⟨by rw [HVf.out]; rfl, BZ.out⟩
          refine wp_region_held_drew (S := fun W => Below ws.heap.size ws W) (by kernel_rfl) (below_drew (Below.refl _ _)) (fun hHeld => ?_)
          refine wpAnyH_take (i := 0) (oi := ⟨_, _, _, _, _, _⟩) (v := ?_) rfl (by kernel_rfl) (by kernel_rfl) (by kernel_rfl) (fun _ _ _ h => h) (Or.inl ⟨by kernel_rfl, ?_⟩) hHeld ?_
          rotate_left 1
          · intro W hW; first | (go_simp; done) | (go_simp; with_reducible rfl)
          try simp only [Act.put, List.setIfInBounds_toArray, List.set_cons_zero, List.set_cons_succ]
          refine wpAnyH_take (i := 1) (oi := ⟨_, _, _, _, _, _⟩) (v := ?_) rfl (by kernel_rfl) (by kernel_rfl) (by kernel_rfl) (fun _ _ _ h => h) (Or.inl ⟨by kernel_rfl, ?_⟩) hHeld ?_
          rotate_left 1
          · intro W hW; first | (go_simp; done) | (go_simp; with_reducible rfl)
          try simp only [Act.put, List.setIfInBounds_toArray, List.set_cons_zero, List.set_cons_succ]
          refine wpAnyH_take (i := 2) (oi := ⟨_, _, _, _, _, _⟩) (v := ?_) rfl (by kernel_rfl) (by kernel_rfl) (by kernel_rfl) (fun _ _ _ h => h) (Or.inl ⟨by kernel_rfl, ?_⟩) hHeld ?_
          rotate_left 1
          · intro W hW; first | (go_simp; done) | (go_simp; with_reducible rfl)
          try simp only [Act.put, List.setIfInBounds_toArray, List.set_cons_zero, List.set_cons_succ]
          refine wpAnyH_take (i := 3) (oi := ⟨_, _, _, _, _, _⟩) (v := ?_) rfl (by kernel_rfl) (by kernel_rfl) (by kernel_rfl) (fun _ _ _ h => h) (Or.inl ⟨by kernel_rfl, ?_⟩) hHeld ?_
          rotate_left 1
          · intro W hW; have k0 := below_keep hW ra0; have k1 := below_keep hW ra1; have k2 := below_keep hW ra2; have k3 := below_keep hW ra3; have k4 := below_keep hW ra4; have k5 := below_keep hW ra5; have k6 := below_keep hW ra6; have k7 := below_keep hW ra7; have k8 := below_keep hW ra8; have k9 := below_keep hW ra9; have k10 := below_keep hW ra10; have k11 := below_keep hW ra11; have k12 := below_keep hW ra12; have k13 := below_keep hW ra13; first | (go_simp; done) | (go_simp; with_reducible rfl)
          try simp only [Act.put, List.setIfInBounds_toArray, List.set_cons_zero, List.set_cons_succ]
          refine wpAnyH_take (i := 4) (oi := ⟨_, _, _, _, _, _⟩) (v := ?_) rfl (by kernel_rfl) (by kernel_rfl) (by kernel_rfl) (fun _ _ _ h => h) (Or.inl ⟨by kernel_rfl, ?_⟩) hHeld ?_
          rotate_left 1
          · intro W hW; first | (go_simp; done) | (go_simp; with_reducible rfl)
          try simp only [Act.put, List.setIfInBounds_toArray, List.set_cons_zero, List.set_cons_succ]
          refine wpAnyH_take (i := 5) (oi := ⟨_, _, _, _, _, _⟩) (v := ?_) rfl (by kernel_rfl) (by kernel_rfl) (by kernel_rfl) (fun _ _ _ h => h) (Or.inl ⟨by kernel_rfl, ?_⟩) hHeld ?_
          rotate_left 1
          · intro W hW; first | (go_simp; done) | (go_simp; with_reducible rfl)
          try simp only [Act.put, List.setIfInBounds_toArray, List.set_cons_zero, List.set_cons_succ]
          refine wpAnyH_take (i := 6) (oi := ⟨_, _, _, _, _, _⟩) (v := ?_) rfl (by kernel_rfl) (by kernel_rfl) (by kernel_rfl) (fun _ _ _ h => h) (Or.inl ⟨by kernel_rfl, ?_⟩) hHeld ?_
          rotate_left 1
          · intro W hW; first | (go_simp; done) | (go_simp; with_reducible rfl)
          try simp only [Act.put, List.setIfInBounds_toArray, List.set_cons_zero, List.set_cons_succ]
          refine wpAnyH_take (i := 7) (oi := ⟨_, _, _, _, _, _⟩) (v := ?_) rfl (by kernel_rfl) (by kernel_rfl) (by kernel_rfl) (fun _ _ _ h => h) (Or.inl ⟨by kernel_rfl, ?_⟩) hHeld ?_
          rotate_left 1
          · intro W hW; have k0 := below_keep hW rb0; have k1 := below_keep hW rb1; have k2 := below_keep hW rb2; have k3 := below_keep hW rb3; have k4 := below_keep hW rb4; have k5 := below_keep hW rb5; have k6 := below_keep hW rb6; have k7 := below_keep hW rb7; have k8 := below_keep hW rb8; have k9 := below_keep hW rb9; have k10 := below_keep hW rb10; have k11 := below_keep hW rb11; have k12 := below_keep hW rb12; have k13 := below_keep hW rb13; first | (go_simp; done) | (go_simp; with_reducible rfl)
          try simp only [Act.put, List.setIfInBounds_toArray, List.set_cons_zero, List.set_cons_succ]
          refine wpAnyH_ready (rs := [8]) (by kernel_rfl) (by simp) ?_
          refine AllReadyH.cons rfl (fun K hK => ?_) AllReadyH.nil
          go_simp
          refine (HCx.out _ hHeld).mono ?_
          rintro e wv ⟨rfl, hbv⟩
          go_wp2_with fail
          refine hK.out _ _ ?_ (fun hHelda => ?_)
          · exact hHeld.trans (hbv.mono hHeld.size)
          clear hK K
          try simp only [Act.put, List.setIfInBounds_toArray, List.set_cons_zero, List.set_cons_succ]
          clear hbv
          refine wpAnyH_take (i := 9) (oi := ⟨_, _, _, _, _, _⟩) (v := ?_) rfl (by kernel_rfl) (by kernel_rfl) (by kernel_rfl) (fun _ _ _ h => h) (Or.inl ⟨by kernel_rfl, ?_⟩) hHelda ?_
          rotate_left 1
          · intro W hW; first | (go_simp; done) | (go_simp; with_reducible rfl)
          try simp only [Act.put, List.setIfInBounds_toArray, List.set_cons_zero, List.set_cons_succ]
          refine wpAnyH_done (by kernel_rfl) ?_ _
          have BZ := Lib.hid (BR2.out.trans (hHelda.mono BR2.out.size))
          go_wp2_with fail
          go_roundw
          case rel => exact ⟨j + 1, by go_num, by omega, HT2.out (by simp), BZ.out⟩
          case measure => simp [intOf]; omega
        · have hj' : j = m.length := by omega
          have hj1 : ¬ (j : Int) < (m.length : Int) := by omega
          have HAll := Lib.hid (show (m.all fun b => RU.comm a.r b.r) = true by have := HY2.out; rw [hj', List.take_length] at this; exact this)
          have BZ := Lib.hid (BR.out.trans (BR2.out.mono BR.out.size))
          clear hlt2 hj hj'
          go_wp2_with fail
          go_roundw
          case rel => exact ⟨i + 1, by go_num, by omega, HT.out HAll.out, BZ.out⟩
          case measure => simp [intOf]; omega
    · have hi' : i = l.length := by omega
      have hi1 : ¬ (i : Int) < (l.length : Int) := by omega
      have HVt := Lib.hid (show V = true by rw [HV.out]; have := HY.out; rw [hi', List.take_length] at this; exact this)
      clear hlt hi hi' HV
      go_wp2_with fail
      go_ret
      exact ⟨by rw [HVt.out]; rfl, BR.out⟩

set_option maxHeartbeats 8000000 in
set_option maxRecDepth 100000 in
theorem pairKindsL_any (k l : Int) (A : Option Addr) (ca : Nat) (aa : List Al) (B : Option Addr) (cb : Nat) (bb : List Al) (w : World) (hk0 : (Lit.int .i64 k).wf = true) (hl0 : (Lit.int .i64 l).wf = true) (hA : ActsIn w A aa) (hB : ActsIn w B bb) (hR : RowsAt w) :
    Calls Tryd.prog 3 #[.agg #[.int .i64 k, .int .i64 l], .slice A aa.length ca, .slice B bb.length cb] w fun e w' => e = .returned (.bool true) ∧ Below w.heap.size w w' := by
  have HR := Lib.hid hR
  have HA := Lib.hid hA
  have HB := Lib.hid hB
  have hla := hA.len
  have hlb := hB.len
  unfold maxLen at hla hlb
  clear hR hA hB hk0 hl0
  go_enter Tryd.func3, Tryd.ntmps3
  go_wp2_with fail
  refine (speaks6_any _ (HR.out.below (below1 w _))).mono ?_
  rintro e w1 ⟨rfl, hb1⟩
  have hs1 := hb1.size
  simp only [World.size_alloc] at hs1
  have E0 := Lib.hid (show w1.heap[w.heap.size]? = _ from (hb1.block w.heap.size (by simp only [World.size_alloc]; omega)).trans (heap_alloc_new w _))
  have HB1 := Lib.hid (show Below w.heap.size w w1 from (below1 w _).trans (hb1.mono (by simp only [World.size_alloc]; omega)))
  clear hb1
  have p0 := cell_of_row w1 _ 0 _ _ (0, 0) E0.out
  have p1 := cell_of_row w1 _ 1 _ _ (0, 0) E0.out
  by_cases n1 : (30 : Int) < (aa.length : Int)
  · go_wp2_with fail
    go_ret
    exact ⟨rfl, HB1.out⟩
  by_cases n2 : (30 : Int) < (bb.length : Int)
  · go_wp2_with fail
    go_ret
    exact ⟨rfl, HB1.out⟩
  have HP := Lib.hid (fun k l u (h : Below w.heap.size w u) => pairKinds_any k l u (HR.out.below h))
  have HQ := Lib.hid (fun k l u => r6kinds_any k l u)
  have HPr := Lib.hid (fun u (h : Below w.heap.size w u) => prows_any aa bb A B ca cb u (HA.out.keep h) (HB.out.keep h) (by omega) (by omega) (HR.out.below h))
  have HQr := Lib.hid (fun u (h : Below w.heap.size w u) => r6rows_any aa bb A B ca cb u (HA.out.keep h) (HB.out.keep h) (by omega) (by omega))
  have HS := Lib.hid (kinds6_comm l k)
  go_upto_region 5 with fail
  refine wp_region_held_drew (S := fun W => Below w1.heap.size w1 W) (by kernel_rfl) (below_drew (Below.refl _ _)) (fun hHeld => ?_)
  refine wpAnyH_take (i := 0) (oi := ⟨_, _, _, _, _, _⟩) (v := ?_) rfl (by kernel_rfl) (by kernel_rfl) (by kernel_rfl) (fun _ _ _ h => h) (Or.inl ⟨by kernel_rfl, ?_⟩) hHeld ?_
  rotate_left 1
  · intro W hW; first | (go_simp; done) | (go_simp; with_reducible rfl)
  try simp only [Act.put, List.setIfInBounds_toArray, List.set_cons_zero, List.set_cons_succ]
  refine wpAnyH_take (i := 1) (oi := ⟨_, _, _, _, _, _⟩) (v := ?_) rfl (by kernel_rfl) (by kernel_rfl) (by kernel_rfl) (fun _ _ _ h => h) (Or.inl ⟨by kernel_rfl, ?_⟩) hHeld ?_
  rotate_left 1
  · intro W hW; have k0 := below_keep hW p0; first | (go_simp; done) | (go_simp; with_reducible rfl)
  try simp only [Act.put, List.setIfInBounds_toArray, List.set_cons_zero, List.set_cons_succ]
  refine wpAnyH_take (i := 2) (oi := ⟨_, _, _, _, _, _⟩) (v := ?_) rfl (by kernel_rfl) (by kernel_rfl) (by kernel_rfl) (fun _ _ _ h => h) (Or.inl ⟨by kernel_rfl, ?_⟩) hHeld ?_
  rotate_left 1
  · intro W hW; first | (go_simp; done) | (go_simp; with_reducible rfl)
  try simp only [Act.put, List.setIfInBounds_toArray, List.set_cons_zero, List.set_cons_succ]
  refine wpAnyH_take (i := 3) (oi := ⟨_, _, _, _, _, _⟩) (v := ?_) rfl (by kernel_rfl) (by kernel_rfl) (by kernel_rfl) (fun _ _ _ h => h) (Or.inl ⟨by kernel_rfl, ?_⟩) hHeld ?_
  rotate_left 1
  · intro W hW; have k0 := below_keep hW p1; first | (go_simp; done) | (go_simp; with_reducible rfl)
  try simp only [Act.put, List.setIfInBounds_toArray, List.set_cons_zero, List.set_cons_succ]
  refine wpAnyH_take (i := 4) (oi := ⟨_, _, _, _, _, _⟩) (v := ?_) rfl (by kernel_rfl) (by kernel_rfl) (by kernel_rfl) (fun _ _ _ h => h) (Or.inl ⟨by kernel_rfl, ?_⟩) hHeld ?_
  rotate_left 1
  · intro W hW; first | (go_simp; done) | (go_simp; with_reducible rfl)
  try simp only [Act.put, List.setIfInBounds_toArray, List.set_cons_zero, List.set_cons_succ]
  refine wpAnyH_take (i := 5) (oi := ⟨_, _, _, _, _, _⟩) (v := ?_) rfl (by kernel_rfl) (by kernel_rfl) (by kernel_rfl) (fun _ _ _ h => h) (Or.inl ⟨by kernel_rfl, ?_⟩) hHeld ?_
  rotate_left 1
  · intro W hW; first | (go_simp; done) | (go_simp; with_reducible rfl)
  try simp only [Act.put, List.setIfInBounds_toArray, List.set_cons_zero, List.set_cons_succ]
  refine wpAnyH_done (by kernel_rfl) ?_ _
  go_upto_region 6 with fail
  generalize World.drew w1 = wq at *
  have HB1 := Lib.hid (HB1.out.trans (hHeld.mono HB1.out.size))
  clear p0 p1 hHeld E0
  go_cut [48] (fun t48 wx => t48 = .bool false ∧ Below wq.heap.size wq wx)
  case first =>
    go_wp2_with fail
    refine (HP.out k l _ HB1.out).mono ?_
    rw [← HS.out]
    generalize hV : RU.kinds6 l k = V at *
    rintro e w2 ⟨rfl, hb⟩
    have C2 := Lib.hid hb
    have HB2 := Lib.hid (HB1.out.trans (hb.mono HB1.out.size))
    clear hb
    go_wp2_with fail
    refine (HQ.out k l _).mono ?_
    rw [← HS.out]
    rintro e w3 ⟨rfl, hb⟩
    have C3 := Lib.hid (C2.out.trans (hb.mono C2.out.size))
    have HB3 := Lib.hid (HB2.out.trans (hb.mono HB2.out.size))
    clear hb
    have hVV : (V != V) = false := by simp
    have HP2 := Lib.hid (fun u (h : Below w.heap.size w u) => show Calls Tryd.prog 5 #[.int .i64 l, .int .i64 k] u (fun e w' => e = .returned (.bool V) ∧ Below u.heap.size u w') from by have := HP.out l k u h; rw [hV] at this; exact this)
    have HP1 := Lib.hid (fun u (h : Below w.heap.size w u) => show Calls Tryd.prog 5 #[.int .i64 k, .int .i64 l] u (fun e w' => e = .returned (.bool V) ∧ Below u.heap.size u w') from by have := HP.out k l u h; rw [← HS.out] at this; exact this)
    clear HP HQ hV HS
    cases V
    all_goals
      go_wp2_with fail
      refine (HP2.out _ HB3.out).mono ?_
      rintro e w4 ⟨rfl, hb⟩
      have C4 := Lib.hid (C3.out.trans (hb.mono C3.out.size))
      have HB4 := Lib.hid (HB3.out.trans (hb.mono HB3.out.size))
      clear hb
      go_wp2_with fail
      refine (HP1.out _ HB4.out).mono ?_
      rintro e w5 ⟨rfl, hb⟩
      have C5 := Lib.hid (C4.out.trans (hb.mono C4.out.size))
      have HB5 := Lib.hid (HB4.out.trans (hb.mono HB4.out.size))
      clear hb
      go_wp2_with fail
      refine (HPr.out _ HB5.out).mono ?_
      rintro e w6 ⟨rfl, hb⟩
      have C6 := Lib.hid (C5.out.trans (hb.mono C5.out.size))
      have HB6 := Lib.hid (HB5.out.trans (hb.mono HB5.out.size))
      clear hb
      go_wp2_with fail
      refine (HQr.out _ HB6.out).mono ?_
      rintro e w7 ⟨rfl, hb⟩
      have C7 := Lib.hid (C6.out.trans (hb.mono C6.out.size))
      clear hb
      generalize RU.rows6 (aa.map (·.r)) (bb.map (·.r)) = V2 at *
      cases V2
      all_goals
        go_wp2_with fail
        go_meet
        exact ⟨rfl, C7.out⟩
  case rest =>
  obtain ⟨rfl, hb⟩ := hcut
  generalize hwc : wc = w7 at *
  clear hwc
  have HB7 := Lib.hid (HB1.out.trans (hb.mono HB1.out.size))
  clear hb HP HQ HPr HQr HS HB1
  go_wp2_with fail
  go_loopw [54] (fun t54 wr => ∃ i : Nat, t54 = .int .i64 i ∧ i ≤ aa.length ∧ i ≤ bb.length ∧ Below w.heap.size w wr) (fun t54 _ => aa.length - (intOf t54).toNat)
  case atStart => exact ⟨0, rfl, Nat.zero_le _, Nat.zero_le _, HB7.out⟩
  case round =>
    obtain ⟨i, rfl, hi, hi2, hbr⟩ := hrel
    generalize wr = ws at *
    have BR := Lib.hid hbr
    clear hbr
    by_cases hlt : i < aa.length ∧ i < bb.length
    · obtain ⟨hl1, hl2⟩ := hlt
      have hi1 : (i : Int) < (aa.length : Int) := by omega
      have hj1 : (i : Int) < (bb.length : Int) := by omega
      have hmn : (i : Int) < min (aa.length : Int) (bb.length : Int) := by omega
      obtain ⟨b1, o1, rfl, hr1⟩ := acts_range9 HA.out hl1
      obtain ⟨b2, o2, rfl, hr2⟩ := acts_range9 HB.out hl2
      have HR1 := Lib.hid (range_keep9 BR.out hr1)
      have HR2 := Lib.hid (range_keep9 BR.out hr2)
      clear hr1 hr2
      generalize aa[i] = a at *
      generalize bb[i] = b at *
      have ra0 : ws.cell? ⟨b1, o1 + i * 14, none⟩ = some (.int .i64 a.r.kind) := range_cells HR1.out 0 _ rfl
      have ra1 : ws.cell? ⟨b1, o1 + i * 14 + 1, none⟩ = some (.string a.r.key) := range_cells HR1.out 1 _ rfl
      have ra2 : ws.cell? ⟨b1, o1 + i * 14 + 2, none⟩ = some (.int .i64 a.r.n) := range_cells HR1.out 2 _ rfl
      have ra3 : ws.cell? ⟨b1, o1 + i * 14 + 3, none⟩ = some (.float .f64 a.r.x) := range_cells HR1.out 3 _ rfl
      have ra4 : ws.cell? ⟨b1, o1 + i * 14 + 4, none⟩ = some (.string a.r.s) := range_cells HR1.out 4 _ rfl
      have ra5 : ws.cell? ⟨b1, o1 + i * 14 + 5, none⟩ = some (.int .i64 a.r.make.kind) := range_cells HR1.out 5 _ rfl
      have ra6 : ws.cell? ⟨b1, o1 + i * 14 + 6, none⟩ = some (.int .i64 a.r.make.num) := range_cells HR1.out 6 _ rfl
      have ra7 : ws.cell? ⟨b1, o1 + i * 14 + 7, none⟩ = some (.int .i64 a.r.make.low) := range_cells HR1.out 7 _ rfl
      have ra8 : ws.cell? ⟨b1, o1 + i * 14 + 8, none⟩ = some (.int .i64 a.r.make.high) := range_cells HR1.out 8 _ rfl
      have ra9 : ws.cell? ⟨b1, o1 + i * 14 + 9, none⟩ = some (.float .f64 a.r.make.real) := range_cells HR1.out 9 _ rfl
      have ra10 : ws.cell? ⟨b1, o1 + i * 14 + 10, none⟩ = some (.int .i64 a.r.make.cap) := range_cells HR1.out 10 _ rfl
      have ra11 : ws.cell? ⟨b1, o1 + i * 14 + 11, none⟩ = some (.string a.r.make.text) := range_cells HR1.out 11 _ rfl
      have ra12 : ws.cell? ⟨b1, o1 + i * 14 + 12, none⟩ = some (.slice a.A a.r.make.list.length a.c) := range_cells HR1.out 12 _ rfl
      have ra13 : ws.cell? ⟨b1, o1 + i * 14 + 13, none⟩ = some (.bool a.r.must) := range_cells HR1.out 13 _ rfl
      have rb0 : ws.cell? ⟨b2, o2 + i * 14, none⟩ = some (.int .i64 b.r.kind) := range_cells HR2.out 0 _ rfl
      have rb1 : ws.cell? ⟨b2, o2 + i * 14 + 1, none⟩ = some (.string b.r.key) := range_cells HR2.out 1 _ rfl
      have rb2 : ws.cell? ⟨b2, o2 + i * 14 + 2, none⟩ = some (.int .i64 b.r.n) := range_cells HR2.out 2 _ rfl
      have rb3 : ws.cell? ⟨b2, o2 + i * 14 + 3, none⟩ = some (.float .f64 b.r.x) := range_cells HR2.out 3 _ rfl
      have rb4 : ws.cell? ⟨b2, o2 + i * 14 + 4, none⟩ = some (.string b.r.s) := range_cells HR2.out 4 _ rfl
      have rb5 : ws.cell? ⟨b2, o2 + i * 14 + 5, none⟩ = some (.int .i64 b.r.make.kind) := range_cells HR2.out 5 _ rfl
      have rb6 : ws.cell? ⟨b2, o2 + i * 14 + 6, none⟩ = some (.int .i64 b.r.make.num) := range_cells HR2.out 6 _ rfl
      have rb7 : ws.cell? ⟨b2, o2 + i * 14 + 7, none⟩ = some (.int .i64 b.r.make.low) := range_cells HR2.out 7 _ rfl
      have rb8 : ws.cell? ⟨b2, o2 + i * 14 + 8, none⟩ = some (.int .i64 b.r.make.high) := range_cells HR2.out 8 _ rfl
      have rb9 : ws.cell? ⟨b2, o2 + i * 14 + 9, none⟩ = some (.float .f64 b.r.make.real) := range_cells HR2.out 9 _ rfl
      have rb10 : ws.cell? ⟨b2, o2 + i * 14 + 10, none⟩ = some (.int .i64 b.r.make.cap) := range_cells HR2.out 10 _ rfl
      have rb11 : ws.cell? ⟨b2, o2 + i * 14 + 11, none⟩ = some (.string b.r.make.text) := range_cells HR2.out 11 _ rfl
      have rb12 : ws.cell? ⟨b2, o2 + i * 14 + 12, none⟩ = some (.slice b.A b.r.make.list.length b.c) := range_cells HR2.out 12 _ rfl
      have rb13 : ws.cell? ⟨b2, o2 + i * 14 + 13, none⟩ = some (.bool b.r.must) := range_cells HR2.out 13 _ rfl
      have HCp := Lib.hid (fun u (h : Below ws.heap.size ws u) => pcommute_any a.r b.r a.A b.A a.c b.c u (HR.out.below (BR.out.trans (h.mono BR.out.size))))
      have HCx := Lib.hid (fun u (h : Below ws.heap.size ws u) => r6commute_any a.r b.r a.A b.A a.c b.c u)
      generalize RU.comm a.r b.r = v at *
      go_upto_region 11 with fail
      cases v
      all_goals
        refine wp_region_held_drew (S := fun W => Below ws.heap.size ws W) (by kernel_rfl) (below_drew (Below.refl _ _)) (fun hHeld => ?_)
        refine wpAnyH_take (i := 0) (oi := ⟨_, _, _, _, _, _⟩) (v := ?_) rfl (by kernel_rfl) (by kernel_rfl) (by kernel_rfl) (fun _ _ _ h => h) (Or.inl ⟨by kernel_rfl, ?_⟩) hHeld ?_
        rotate_left 1
        · intro W hW; first | (go_simp; done) | (go_simp; with_reducible rfl)
        try simp only [Act.put, List.setIfInBounds_toArray, List.set_cons_zero, List.set_cons_succ]
        refine wpAnyH_take (i := 1) (oi := ⟨_, _, _, _, _, _⟩) (v := ?_) rfl (by kernel_rfl) (by kernel_rfl) (by kernel_rfl) (fun _ _ _ h => h) (Or.inl ⟨by kernel_rfl, ?_⟩) hHeld ?_
        rotate_left 1
        · intro W hW; first | (go_simp; done) | (go_simp; with_reducible rfl)
        try simp only [Act.put, List.setIfInBounds_toArray, List.set_cons_zero, List.set_cons_succ]
        refine wpAnyH_take (i := 2) (oi := ⟨_, _, _, _, _, _⟩) (v := ?_) rfl (by kernel_rfl) (by kernel_rfl) (by kernel_rfl) (fun _ _ _ h => h) (Or.inl ⟨by kernel_rfl, ?_⟩) hHeld ?_
        rotate_left 1
        · intro W hW; first | (go_simp; done) | (go_simp; with_reducible rfl)
        try simp only [Act.put, List.setIfInBounds_toArray, List.set_cons_zero, List.set_cons_succ]
        refine wpAnyH_take (i := 3) (oi := ⟨_, _, _, _, _, _⟩) (v := ?_) rfl (by kernel_rfl) (by kernel_rfl) (by kernel_rfl) (fun _ _ _ h => h) (Or.inl ⟨by kernel_rfl, ?_⟩) hHeld ?_
        rotate_left 1
        · intro W hW; have k0 := below_keep hW ra0; have k1 := below_keep hW ra1; have k2 := below_keep hW ra2; have k3 := below_keep hW ra3; have k4 := below_keep hW ra4; have k5 := below_keep hW ra5; have k6 := below_keep hW ra6; have k7 := below_keep hW ra7; have k8 := below_keep hW ra8; have k9 := below_keep hW ra9; have k10 := below_keep hW ra10; have k11 := below_keep hW ra11; have k12 := below_keep hW ra12; have k13 := below_keep hW ra13; first | (go_simp; done) | (go_simp; with_reducible rfl)
        try simp only [Act.put, List.setIfInBounds_toArray, List.set_cons_zero, List.set_cons_succ]
        refine wpAnyH_take (i := 4) (oi := ⟨_, _, _, _, _, _⟩) (v := ?_) rfl (by kernel_rfl) (by kernel_rfl) (by kernel_rfl) (fun _ _ _ h => h) (Or.inl ⟨by kernel_rfl, ?_⟩) hHeld ?_
        rotate_left 1
        · intro W hW; first | (go_simp; done) | (go_simp; with_reducible rfl)
        try simp only [Act.put, List.setIfInBounds_toArray, List.set_cons_zero, List.set_cons_succ]
        refine wpAnyH_take (i := 5) (oi := ⟨_, _, _, _, _, _⟩) (v := ?_) rfl (by kernel_rfl) (by kernel_rfl) (by kernel_rfl) (fun _ _ _ h => h) (Or.inl ⟨by kernel_rfl, ?_⟩) hHeld ?_
        rotate_left 1
        · intro W hW; first | (go_simp; done) | (go_simp; with_reducible rfl)
        try simp only [Act.put, List.setIfInBounds_toArray, List.set_cons_zero, List.set_cons_succ]
        refine wpAnyH_take (i := 6) (oi := ⟨_, _, _, _, _, _⟩) (v := ?_) rfl (by kernel_rfl) (by kernel_rfl) (by kernel_rfl) (fun _ _ _ h => h) (Or.inl ⟨by kernel_rfl, ?_⟩) hHeld ?_
        rotate_left 1
        · intro W hW; first | (go_simp; done) | (go_simp; with_reducible rfl)
        try simp only [Act.put, List.setIfInBounds_toArray, List.set_cons_zero, List.set_cons_succ]
        refine wpAnyH_take (i := 7) (oi := ⟨_, _, _, _, _, _⟩) (v := ?_) rfl (by kernel_rfl) (by kernel_rfl) (by kernel_rfl) (fun _ _ _ h => h) (Or.inl ⟨by kernel_rfl, ?_⟩) hHeld ?_
        rotate_left 1
        · intro W hW; have k0 := below_keep hW rb0; have k1 := below_keep hW rb1; have k2 := below_keep hW rb2; have k3 := below_keep hW rb3; have k4 := below_keep hW rb4; have k5 := below_keep hW rb5; have k6 := below_keep hW rb6; have k7 := below_keep hW rb7; have k8 := below_keep hW rb8; have k9 := below_keep hW rb9; have k10 := below_keep hW rb10; have k11 := below_keep hW rb11; have k12 := below_keep hW rb12; have k13 := below_keep hW rb13; first | (go_simp; done) | (go_simp; with_reducible rfl)
        try simp only [Act.put, List.setIfInBounds_toArray, List.set_cons_zero, List.set_cons_succ]
        refine wpAnyH_take (i := 9) (oi := ⟨_, _, _, _, _, _⟩) (v := ?_) rfl (by kernel_rfl) (by kernel_rfl) (by kernel_rfl) (fun _ _ _ h => h) (Or.inl ⟨by kernel_rfl, ?_⟩) hHeld ?_
        rotate_left 1
        · intro W hW; first | (go_simp; done) | (go_simp; with_reducible rfl)
        try simp only [Act.put, List.setIfInBounds_toArray, List.set_cons_zero, List.set_cons_succ]
        refine wpAnyH_take (i := 10) (oi := ⟨_, _, _, _, _, _⟩) (v := ?_) rfl (by kernel_rfl) (by kernel_rfl) (by kernel_rfl) (fun _ _ _ h => h) (Or.inl ⟨by kernel_rfl, ?_⟩) hHeld ?_
        rotate_left 1
        · intro W hW; first | (go_simp; done) | (go_simp; with_reducible rfl)
        try simp only [Act.put, List.setIfInBounds_toArray, List.set_cons_zero, List.set_cons_succ]
        refine wpAnyH_take (i := 11) (oi := ⟨_, _, _, _, _, _⟩) (v := ?_) rfl (by kernel_rfl) (by kernel_rfl) (by kernel_rfl) (fun _ _ _ h => h) (Or.inl ⟨by kernel_rfl, ?_⟩) hHeld ?_
        rotate_left 1
        · intro W hW; first | (go_simp; done) | (go_simp; with_reducible rfl)
        try simp only [Act.put, List.setIfInBounds_toArray, List.set_cons_zero, List.set_cons_succ]
        refine wpAnyH_take (i := 12) (oi := ⟨_, _, _, _, _, _⟩) (v := ?_) rfl (by kernel_rfl) (by kernel_rfl) (by kernel_rfl) (fun _ _ _ h => h) (Or.inl ⟨by kernel_rfl, ?_⟩) hHeld ?_
        rotate_left 1
        · intro W hW; have k0 := below_keep hW ra0; have k1 := below_keep hW ra1; have k2 := below_keep hW ra2; have k3 := below_keep hW ra3; have k4 := below_keep hW ra4; have k5 := below_keep hW ra5; have k6 := below_keep hW ra6; have k7 := below_keep hW ra7; have k8 := below_keep hW ra8; have k9 := below_keep hW ra9; have k10 := below_keep hW ra10; have k11 := below_keep hW ra11; have k12 := below_keep hW ra12; have k13 := below_keep hW ra13; first | (go_simp; done) | (go_simp; with_reducible rfl)
        try simp only [Act.put, List.setIfInBounds_toArray, List.set_cons_zero, List.set_cons_succ]
        refine wpAnyH_take (i := 13) (oi := ⟨_, _, _, _, _, _⟩) (v := ?_) rfl (by kernel_rfl) (by kernel_rfl) (by kernel_rfl) (fun _ _ _ h => h) (Or.inl ⟨by kernel_rfl, ?_⟩) hHeld ?_
        rotate_left 1
        · intro W hW; first | (go_simp; done) | (go_simp; with_reducible rfl)
        try simp only [Act.put, List.setIfInBounds_toArray, List.set_cons_zero, List.set_cons_succ]
        refine wpAnyH_take (i := 14) (oi := ⟨_, _, _, _, _, _⟩) (v := ?_) rfl (by kernel_rfl) (by kernel_rfl) (by kernel_rfl) (fun _ _ _ h => h) (Or.inl ⟨by kernel_rfl, ?_⟩) hHeld ?_
        rotate_left 1
        · intro W hW; first | (go_simp; done) | (go_simp; with_reducible rfl)
        try simp only [Act.put, List.setIfInBounds_toArray, List.set_cons_zero, List.set_cons_succ]
        refine wpAnyH_take (i := 15) (oi := ⟨_, _, _, _, _, _⟩) (v := ?_) rfl (by kernel_rfl) (by kernel_rfl) (by kernel_rfl) (fun _ _ _ h => h) (Or.inl ⟨by kernel_rfl, ?_⟩) hHeld ?_
        rotate_left 1
        · intro W hW; first | (go_simp; done) | (go_simp; with_reducible rfl)
        try simp only [Act.put, List.setIfInBounds_toArray, List.set_cons_zero, List.set_cons_succ]
        refine wpAnyH_take (i := 16) (oi := ⟨_, _, _, _, _, _⟩) (v := ?_) rfl (by kernel_rfl) (by kernel_rfl) (by kernel_rfl) (fun _ _ _ h => h) (Or.inl ⟨by kernel_rfl, ?_⟩) hHeld ?_
        rotate_left 1
        · intro W hW; have k0 := below_keep hW rb0; have k1 := below_keep hW rb1; have k2 := below_keep hW rb2; have k3 := below_keep hW rb3; have k4 := below_keep hW rb4; have k5 := below_keep hW rb5; have k6 := below_keep hW rb6; have k7 := below_keep hW rb7; have k8 := below_keep hW rb8; have k9 := below_keep hW rb9; have k10 := below_keep hW rb10; have k11 := below_keep hW rb11; have k12 := below_keep hW rb12; have k13 := below_keep hW rb13; first | (go_simp; done) | (go_simp; with_reducible rfl)
        try simp only [Act.put, List.setIfInBounds_toArray, List.set_cons_zero, List.set_cons_succ]
        refine wpAnyH_ready (rs := [8]) (by kernel_rfl) (by simp) ?_
        refine AllReadyH.cons rfl (fun K hK => ?_) AllReadyH.nil
        go_simp
        refine (HCp.out _ hHeld).mono ?_
        rintro e wv ⟨rfl, hbv⟩
        go_wp2_with fail
        refine hK.out _ _ ?_ (fun hHelda => ?_)
        · exact hHeld.trans (hbv.mono hHeld.size)
        clear hK K
        try simp only [Act.put, List.setIfInBounds_toArray, List.set_cons_zero, List.set_cons_succ]
        clear hbv
        refine wpAnyH_ready (rs := [17]) (by kernel_rfl) (by simp) ?_
        refine AllReadyH.cons rfl (fun K hK => ?_) AllReadyH.nil
        go_simp
        refine (HCx.out _ hHelda).mono ?_
        rintro e wv ⟨rfl, hbv⟩
        go_wp2_with fail
        refine hK.out _ _ ?_ (fun hHeldaa => ?_)
        · exact hHelda.trans (hbv.mono hHelda.size)
        clear hK K
        try simp only [Act.put, List.setIfInBounds_toArray, List.set_cons_zero, List.set_cons_succ]
        clear hbv
        refine wpAnyH_take (i := 18) (oi := ⟨_, _, _, _, _, _⟩) (v := ?_) rfl (by kernel_rfl) (by kernel_rfl) (by kernel_rfl) (fun _ _ _ h => h) (Or.inl ⟨by kernel_rfl, ?_⟩) hHeldaa ?_
        rotate_left 1
        · intro W hW; first | (go_simp; done) | (go_simp; with_reducible rfl)
        try simp only [Act.put, List.setIfInBounds_toArray, List.set_cons_zero, List.set_cons_succ]
        refine wpAnyH_done (by kernel_rfl) ?_ _
        have BZ := Lib.hid (BR.out.trans (hHeldaa.mono BR.out.size))
        go_wp2_with fail
        go_roundw
        case rel => exact ⟨i + 1, by go_num, by omega, by omega, BZ.out⟩
        case measure => simp [intOf]; omega
    · have hmn : ¬ (i : Int) < min (aa.length : Int) (bb.length : Int) := by omega
      go_wp2_with fail
      go_ret
      exact ⟨rfl, BR.out⟩

end Go.Proofs.YtlpecaldodganaaDoor
