/- Contracts of package pair: which kinds change places. -/
import Derived.Test.YtlpecaldodganaaDoorRuW
import Derived.Test.YtlpecaldodganaaDoorActM
import Derived.Test.YtlpecaldodganaaDoorRuQ
namespace Go.Proofs.YtlpecaldodganaaDoor
open Go.RowKit MM
set_option linter.unusedVariables false
set_option linter.unusedSimpArgs false

def RU.gath (k : Int) : Bool := k == 7 || k == 13 || k == 14 || k == 19 || k == 21
def RU.ren (k : Int) : Bool := k == 1 || k == 2
theorem kinds_in {k : Int} (h : 3 ≤ k ∧ k ≤ 21) : (rowAt k).reads = RU.reads6 k := by
  have hx : k = 3 ∨ k = 4 ∨ k = 5 ∨ k = 6 ∨ k = 7 ∨ k = 8 ∨ k = 9 ∨ k = 10 ∨ k = 11 ∨ k = 12 ∨ k = 13 ∨ k = 14 ∨ k = 15 ∨ k = 16 ∨ k = 17 ∨ k = 18 ∨ k = 19 ∨ k = 20 ∨ k = 21 := by omega
  rcases hx with rfl | rfl | rfl | rfl | rfl | rfl | rfl | rfl | rfl | rfl | rfl | rfl | rfl | rfl | rfl | rfl | rfl | rfl | rfl <;> rfl
/-- As the program goes about it. -/
theorem kinds6_eq (k l : Int) : RU.kinds6 k l = if AC.known k = false ∨ AC.known l = false then false else if RU.ren k = true ∨ RU.ren l = true then false else if ((rowAt k).reads = true ∧ (rowAt l).reads = true) ∨ (k == 3) = true ∨ (l == 3) = true then true else if (k == 4) = true ∨ (l == 4) = true then false else if (rowAt k).on ≠ (rowAt l).on then true else (k == l && RU.gath k) := by
  by_cases h : k < 3 ∨ 21 < k ∨ l < 3 ∨ 21 < l
  · unfold RU.kinds6
    rw [if_pos h]
    by_cases h1 : AC.known k = false ∨ AC.known l = false
    · rw [if_pos h1]
    · rw [if_neg h1, if_pos]
      simp only [not_or, Bool.not_eq_false] at h1
      obtain ⟨h1, h2⟩ := h1
      unfold AC.known at h1 h2
      have h1 := of_decide_eq_true h1
      have h2 := of_decide_eq_true h2
      unfold RU.ren
      have : (k = 1 ∨ k = 2) ∨ (l = 1 ∨ l = 2) := by omega
      rcases this with (h | h) | (h | h)
      · exact .inl (by rw [h]; rfl)
      · exact .inl (by rw [h]; rfl)
      · exact .inr (by rw [h]; rfl)
      · exact .inr (by rw [h]; rfl)
  · have hk : 3 ≤ k ∧ k ≤ 21 := by omega
    have hl : 3 ≤ l ∧ l ≤ 21 := by omega
    have e1 : AC.known k = true := decide_eq_true (by omega)
    have e2 : AC.known l = true := decide_eq_true (by omega)
    have n1 : RU.ren k = false := by unfold RU.ren; simp; omega
    have n2 : RU.ren l = false := by unfold RU.ren; simp; omega
    rw [if_neg (by rw [e1, e2]; simp), if_neg (by rw [n1, n2]; simp), kinds_in hk, kinds_in hl]
    unfold RU.kinds6 RU.gath
    rw [if_neg h]
    generalize (rowAt k).on = o1
    generalize (rowAt l).on = o2
    cases RU.reads6 k <;> cases RU.reads6 l <;> simp only [Bool.and_true, Bool.and_false, Bool.false_and, Bool.true_and, beq_iff_eq, if_true, if_false, Bool.false_eq_true, false_and, and_false, true_and, and_true, false_or, true_or, and_self]

set_option maxHeartbeats 1000000 in
theorem pknown_any (k : Int) (w : World) :
    Calls Tryd.prog 13 #[.int .i64 k] w fun e w' => e = .returned (.bool (AC.known k)) ∧ w = w' := by
  go_enter Tryd.func13, Tryd.ntmps13
  by_cases h : 0 < k
  · by_cases h2 : k < 22
    · have hv : AC.known k = true := decide_eq_true ⟨h, h2⟩
      have Hv := Lib.hid hv
      clear hv
      go_wp2_with fail
      go_ret
      exact ⟨by rw [Hv.out]; rfl, rfl⟩
    · have hv : AC.known k = false := decide_eq_false (fun x => h2 x.2)
      have Hv := Lib.hid hv
      clear hv
      go_wp2_with fail
      go_ret
      exact ⟨by rw [Hv.out]; rfl, rfl⟩
  · have hv : AC.known k = false := decide_eq_false (fun x => h x.1)
    have Hv := Lib.hid hv
    clear hv
    go_wp2_with fail
    go_ret
    exact ⟨by rw [Hv.out]; rfl, rfl⟩

set_option maxHeartbeats 1000000 in
theorem prenews_any (k : Int) (w : World) :
    Calls Tryd.prog 14 #[.int .i64 k] w fun e w' => e = .returned (.bool (RU.ren k)) ∧ w = w' := by
  go_enter Tryd.func14, Tryd.ntmps14
  by_cases h : k = 1
  · subst h
    go_wp2_with fail
    go_ret
    exact ⟨rfl, rfl⟩
  · have b1 : (k == 1) = false := by simpa using h
    cases b2 : (k == 2)
    · have Hv := Lib.hid (show RU.ren k = false by unfold RU.ren; rw [b1, b2]; rfl)
      go_wp2_with fail
      go_ret
      exact ⟨by rw [Hv.out]; rfl, rfl⟩
    · have Hv := Lib.hid (show RU.ren k = true by unfold RU.ren; rw [b1, b2]; rfl)
      go_wp2_with fail
      go_ret
      exact ⟨by rw [Hv.out]; rfl, rfl⟩

set_option maxHeartbeats 2000000 in
theorem pgathers_any (k : Int) (w : World) :
    Calls Tryd.prog 17 #[.int .i64 k] w fun e w' => e = .returned (.bool (RU.gath k)) ∧ w = w' := by
  go_enter Tryd.func17, Tryd.ntmps17
  by_cases h7 : k = 7
  · subst h7
    go_wp2_with fail
    go_ret
    exact ⟨rfl, rfl⟩
  by_cases h13 : k = 13
  · subst h13
    go_wp2_with fail
    go_ret
    exact ⟨rfl, rfl⟩
  by_cases h14 : k = 14
  · subst h14
    go_wp2_with fail
    go_ret
    exact ⟨rfl, rfl⟩
  by_cases h19 : k = 19
  · subst h19
    go_wp2_with fail
    go_ret
    exact ⟨rfl, rfl⟩
  by_cases h21 : k = 21
  · subst h21
    go_wp2_with fail
    go_ret
    exact ⟨rfl, rfl⟩
  have b1 : (k == 7) = false := by simpa using h7
  have b2 : (k == 13) = false := by simpa using h13
  have b3 : (k == 14) = false := by simpa using h14
  have b4 : (k == 19) = false := by simpa using h19
  have b5 : (k == 21) = false := by simpa using h21
  have Hv := Lib.hid (show RU.gath k = false by unfold RU.gath; rw [b1, b2, b3, b4, b5]; rfl)
  go_wp2_with fail
  go_ret
  exact ⟨by rw [Hv.out]; rfl, rfl⟩

set_option maxHeartbeats 4000000 in
theorem pairKinds_any (k l : Int) (w : World) (hR : RowsAt w) :
    Calls Tryd.prog 5 #[.int .i64 k, .int .i64 l] w fun e w' => e = .returned (.bool (RU.kinds6 k l)) ∧ Below w.heap.size w w' := by
  have HE := Lib.hid (kinds6_eq k l)
  have HK := Lib.hid (fun u => pknown_any k u)
  have HL := Lib.hid (fun u => pknown_any l u)
  have HN := Lib.hid (fun u => prenews_any k u)
  have HM := Lib.hid (fun u => prenews_any l u)
  have HRk := Lib.hid (fun u (b : Below w.heap.size w u) => actReads_any k u (hR.below b))
  have HRl := Lib.hid (fun u (b : Below w.heap.size w u) => actReads_any l u (hR.below b))
  have HOk := Lib.hid (fun u (b : Below w.heap.size w u) => actOn_any k u (hR.below b))
  have HOl := Lib.hid (fun u (b : Below w.heap.size w u) => actOn_any l u (hR.below b))
  have HG := Lib.hid (fun u => pgathers_any k u)
  clear hR
  generalize RU.kinds6 k l = V at *
  generalize AC.known k = a1 at *
  generalize AC.known l = a2 at *
  generalize RU.ren k = n1 at *
  generalize RU.ren l = n2 at *
  generalize (rowAt k).reads = r1 at *
  generalize (rowAt l).reads = r2 at *
  generalize (rowAt k).on = o1 at *
  generalize (rowAt l).on = o2 at *
  generalize RU.gath k = g at *
  go_enter Tryd.func5, Tryd.ntmps5
  go_wp2_with fail
  refine (HK.out _).mono ?_
  rintro e w' ⟨rfl, rfl⟩
  cases a1
  case false =>
    have HV := Lib.hid (show V = false by rw [HE.out, if_pos (.inl rfl)])
    clear HE
    go_wp2_with fail
    go_ret
    exact ⟨by rw [HV.out]; rfl, Below.refl _ _⟩
  go_wp2_with fail
  refine (HL.out _).mono ?_
  rintro e w' ⟨rfl, rfl⟩
  cases a2
  case false =>
    have HV := Lib.hid (show V = false by rw [HE.out, if_pos (.inr rfl)])
    clear HE
    go_wp2_with fail
    go_ret
    exact ⟨by rw [HV.out]; rfl, Below.refl _ _⟩
  go_wp2_with fail
  refine (HN.out _).mono ?_
  rintro e w' ⟨rfl, rfl⟩
  cases n1
  case true =>
    have HV := Lib.hid (show V = false by rw [HE.out, if_neg (by simp), if_pos (.inl rfl)])
    clear HE
    go_wp2_with fail
    go_ret
    exact ⟨by rw [HV.out]; rfl, Below.refl _ _⟩
  go_wp2_with fail
  refine (HM.out _).mono ?_
  rintro e w' ⟨rfl, rfl⟩
  cases n2
  case true =>
    have HV := Lib.hid (show V = false by rw [HE.out, if_neg (by simp), if_pos (.inr rfl)])
    clear HE
    go_wp2_with fail
    go_ret
    exact ⟨by rw [HV.out]; rfl, Below.refl _ _⟩
  go_wp2_with fail
  refine (HRk.out _ (Below.refl _ w)).mono ?_
  rintro e w1 ⟨rfl, hb1⟩
  have HB1 := Lib.hid (show Below w.heap.size w w1 from hb1)
  clear hb1
  cases r1
  case false =>
    cases h3 : (k == 3)
    case true =>
      have HV := Lib.hid (show V = true by rw [HE.out, if_neg (by simp), if_neg (by simp), if_pos (by simp [h3])])
      clear HE
      go_wp2_with fail
      go_ret
      exact ⟨by rw [HV.out]; rfl, HB1.out⟩
    cases h3' : (l == 3)
    case true =>
      have HV := Lib.hid (show V = true by rw [HE.out, if_neg (by simp), if_neg (by simp), if_pos (by simp [h3'])])
      clear HE
      go_wp2_with fail
      go_ret
      exact ⟨by rw [HV.out]; rfl, HB1.out⟩
    cases h4 : (k == 4)
    case true =>
      have HV := Lib.hid (show V = false by rw [HE.out, if_neg (by simp), if_neg (by simp), if_neg (by simp [h3, h3']), if_pos (by simp [h4])])
      clear HE
      go_wp2_with fail
      go_ret
      exact ⟨by rw [HV.out]; rfl, HB1.out⟩
    cases h4' : (l == 4)
    case true =>
      have HV := Lib.hid (show V = false by rw [HE.out, if_neg (by simp), if_neg (by simp), if_neg (by simp [h3, h3']), if_pos (by simp [h4'])])
      clear HE
      go_wp2_with fail
      go_ret
      exact ⟨by rw [HV.out]; rfl, HB1.out⟩
    go_wp2_with fail
    refine (HOk.out _ HB1.out).mono ?_
    rintro e w2 ⟨rfl, hb2⟩
    have HB2 := Lib.hid (show Below w.heap.size w w2 from HB1.out.trans (hb2.mono HB1.out.size))
    clear hb2
    go_wp2_with fail
    refine (HOl.out _ HB2.out).mono ?_
    rintro e w3 ⟨rfl, hb3⟩
    have HB3 := Lib.hid (show Below w.heap.size w w3 from HB2.out.trans (hb3.mono HB2.out.size))
    clear hb3
    by_cases ho : o1 = o2
    case neg =>
      have ho' : (o1 != o2) = true := by simpa using ho
      have HV := Lib.hid (show V = true by rw [HE.out, if_neg (by simp), if_neg (by simp), if_neg (by simp [h3, h3']), if_neg (by simp [h4, h4']), if_pos ho])
      clear HE
      go_wp2_with fail
      go_ret
      exact ⟨by rw [HV.out]; rfl, HB3.out⟩
    subst ho
    cases hkl : (k == l)
    case false =>
      have HV := Lib.hid (show V = false by rw [HE.out, if_neg (by simp), if_neg (by simp), if_neg (by simp [h3, h3']), if_neg (by simp [h4, h4']), if_neg (by simp), hkl]; rfl)
      clear HE
      go_wp2_with fail
      go_ret
      exact ⟨by rw [HV.out]; rfl, HB3.out⟩
    have HV := Lib.hid (show V = g by rw [HE.out, if_neg (by simp), if_neg (by simp), if_neg (by simp [h3, h3']), if_neg (by simp [h4, h4']), if_neg (by simp), hkl]; rfl)
    clear HE
    go_wp2_with fail
    refine (HG.out _).mono ?_
    rintro e w' ⟨rfl, rfl⟩
    go_wp2_with fail
    go_ret
    exact ⟨by rw [HV.out]; rfl, HB3.out⟩
  go_wp2_with fail
  refine (HRl.out _ HB1.out).mono ?_
  rintro e w4 ⟨rfl, hb4⟩
  have HB4 := Lib.hid (show Below w.heap.size w w4 from HB1.out.trans (hb4.mono HB1.out.size))
  clear hb4
  cases r2
  case true =>
    have HV := Lib.hid (show V = true by rw [HE.out, if_neg (by simp), if_neg (by simp), if_pos (by simp)])
    clear HE
    go_wp2_with fail
    go_ret
    exact ⟨by rw [HV.out]; rfl, HB4.out⟩
  cases h3 : (k == 3)
  case true =>
    have HV := Lib.hid (show V = true by rw [HE.out, if_neg (by simp), if_neg (by simp), if_pos (by simp [h3])])
    clear HE
    go_wp2_with fail
    go_ret
    exact ⟨by rw [HV.out]; rfl, HB4.out⟩
  cases h3' : (l == 3)
  case true =>
    have HV := Lib.hid (show V = true by rw [HE.out, if_neg (by simp), if_neg (by simp), if_pos (by simp [h3'])])
    clear HE
    go_wp2_with fail
    go_ret
    exact ⟨by rw [HV.out]; rfl, HB4.out⟩
  cases h4 : (k == 4)
  case true =>
    have HV := Lib.hid (show V = false by rw [HE.out, if_neg (by simp), if_neg (by simp), if_neg (by simp [h3, h3']), if_pos (by simp [h4])])
    clear HE
    go_wp2_with fail
    go_ret
    exact ⟨by rw [HV.out]; rfl, HB4.out⟩
  cases h4' : (l == 4)
  case true =>
    have HV := Lib.hid (show V = false by rw [HE.out, if_neg (by simp), if_neg (by simp), if_neg (by simp [h3, h3']), if_pos (by simp [h4'])])
    clear HE
    go_wp2_with fail
    go_ret
    exact ⟨by rw [HV.out]; rfl, HB4.out⟩
  go_wp2_with fail
  refine (HOk.out _ HB4.out).mono ?_
  rintro e w5 ⟨rfl, hb5⟩
  have HB5 := Lib.hid (show Below w.heap.size w w5 from HB4.out.trans (hb5.mono HB4.out.size))
  clear hb5
  go_wp2_with fail
  refine (HOl.out _ HB5.out).mono ?_
  rintro e w6 ⟨rfl, hb6⟩
  have HB6 := Lib.hid (show Below w.heap.size w w6 from HB5.out.trans (hb6.mono HB5.out.size))
  clear hb6
  by_cases ho : o1 = o2
  case neg =>
    have ho' : (o1 != o2) = true := by simpa using ho
    have HV := Lib.hid (show V = true by rw [HE.out, if_neg (by simp), if_neg (by simp), if_neg (by simp [h3, h3']), if_neg (by simp [h4, h4']), if_pos ho])
    clear HE
    go_wp2_with fail
    go_ret
    exact ⟨by rw [HV.out]; rfl, HB6.out⟩
  subst ho
  cases hkl : (k == l)
  case false =>
    have HV := Lib.hid (show V = false by rw [HE.out, if_neg (by simp), if_neg (by simp), if_neg (by simp [h3, h3']), if_neg (by simp [h4, h4']), if_neg (by simp), hkl]; rfl)
    clear HE
    go_wp2_with fail
    go_ret
    exact ⟨by rw [HV.out]; rfl, HB6.out⟩
  have HV := Lib.hid (show V = g by rw [HE.out, if_neg (by simp), if_neg (by simp), if_neg (by simp [h3, h3']), if_neg (by simp [h4, h4']), if_neg (by simp), hkl]; rfl)
  clear HE
  go_wp2_with fail
  refine (HG.out _).mono ?_
  rintro e w' ⟨rfl, rfl⟩
  go_wp2_with fail
  go_ret
  exact ⟨by rw [HV.out]; rfl, HB6.out⟩

end Go.Proofs.YtlpecaldodganaaDoor
