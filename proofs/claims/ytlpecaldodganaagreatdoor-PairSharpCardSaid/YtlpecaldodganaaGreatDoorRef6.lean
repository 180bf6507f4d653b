/- Contracts of the document's own answers for layer 6: which kinds change places. -/
import Derived.Test.YtlpecaldodganaaGreatDoorPrB
import Derived.Test.YtlpecaldodganaaGreatDoorRef4am
namespace Go.Proofs.YtlpecaldodganaaGreatDoor
open Go.RowKit MM
set_option linter.unusedVariables false
set_option linter.unusedSimpArgs false

set_option maxHeartbeats 2000000 in
theorem r6reads_any (k : Int) (w : World) :
    Calls Tryz.prog 62 #[.int .i64 k] w fun e w' => e = .returned (.bool (RU.reads6 k)) ∧ w = w' := by
  go_enter Tryz.func62, Tryz.ntmps62
  by_cases h3 : k = 3
  · subst h3
    go_wp2_with fail
    go_ret
    exact ⟨rfl, rfl⟩
  by_cases h4 : k = 4
  · subst h4
    go_wp2_with fail
    go_ret
    exact ⟨rfl, rfl⟩
  by_cases h9 : k = 9
  · subst h9
    go_wp2_with fail
    go_ret
    exact ⟨rfl, rfl⟩
  by_cases h12 : k = 12
  · subst h12
    go_wp2_with fail
    go_ret
    exact ⟨rfl, rfl⟩
  by_cases h20 : k = 20
  · subst h20
    go_wp2_with fail
    go_ret
    exact ⟨rfl, rfl⟩
  have b1 : (k == 3) = false := by simpa using h3
  have b2 : (k == 4) = false := by simpa using h4
  have b3 : (k == 9) = false := by simpa using h9
  have b4 : (k == 12) = false := by simpa using h12
  have b5 : (k == 20) = false := by simpa using h20
  have Hv := Lib.hid (show RU.reads6 k = false by unfold RU.reads6; rw [b1, b2, b3, b4, b5]; rfl)
  go_wp2_with fail
  go_ret
  exact ⟨by rw [Hv.out]; rfl, rfl⟩

set_option maxHeartbeats 4000000 in
theorem r6kinds_out (k l : Int) (w : World) (h : k < 3 ∨ 21 < k ∨ l < 3 ∨ 21 < l) :
    Calls Tryz.prog 20 #[.int .i64 k, .int .i64 l] w fun e w' => e = .returned (.bool (RU.kinds6 k l)) ∧ Below w.heap.size w w' := by
  have HV := Lib.hid (show RU.kinds6 k l = false by unfold RU.kinds6; rw [if_pos h])
  go_enter Tryz.func20, Tryz.ntmps20
  by_cases h1 : k < 3
  · clear h
    go_wp2_with fail
    go_ret
    exact ⟨by rw [HV.out]; rfl, Below.refl _ _⟩
  by_cases h2 : 21 < k
  · clear h
    go_wp2_with fail
    go_ret
    exact ⟨by rw [HV.out]; rfl, Below.refl _ _⟩
  by_cases h3 : l < 3
  · clear h
    go_wp2_with fail
    go_ret
    exact ⟨by rw [HV.out]; rfl, Below.refl _ _⟩
  have h4 : 21 < l := by omega
  clear h
  go_wp2_with fail
  go_ret
  exact ⟨by rw [HV.out]; rfl, Below.refl _ _⟩

/-- Behind both bounds. -/
theorem kinds6_in {k l : Int} (h : ¬ (k < 3 ∨ 21 < k ∨ l < 3 ∨ 21 < l)) : RU.kinds6 k l = if (RU.reads6 k = true ∧ RU.reads6 l = true) then true else if (k == 3) = true ∨ (l == 3) = true then true else if (k == 4) = true ∨ (l == 4) = true then false else if (rowAt k).on ≠ (rowAt l).on then true else (k == l && RU.gath k) := by
  unfold RU.kinds6 RU.gath
  rw [if_neg h]
  generalize (rowAt k).on = o1
  generalize (rowAt l).on = o2
  cases RU.reads6 k <;> cases RU.reads6 l <;> simp only [Bool.and_true, Bool.and_false, Bool.false_and, Bool.true_and, beq_iff_eq, if_true, if_false, Bool.false_eq_true, false_and, and_false, true_and, and_true, and_self]

set_option maxHeartbeats 4000000 in
theorem r6kinds_in (k l : Int) (w : World) (h : ¬ (k < 3 ∨ 21 < k ∨ l < 3 ∨ 21 < l)) :
    Calls Tryz.prog 20 #[.int .i64 k, .int .i64 l] w fun e w' => e = .returned (.bool (RU.kinds6 k l)) ∧ Below w.heap.size w w' := by
  have HE := Lib.hid (kinds6_in h)
  have HRk := Lib.hid (fun u => r6reads_any k u)
  have HRl := Lib.hid (fun u => r6reads_any l u)
  have HOk := Lib.hid (fun u => rOn_any k u)
  have HOl := Lib.hid (fun u => rOn_any l u)
  have g1 : ¬ k < 3 := by omega
  have g2 : ¬ 21 < k := by omega
  have g3 : ¬ l < 3 := by omega
  have g4 : ¬ 21 < l := by omega
  clear h
  generalize RU.kinds6 k l = V at *
  generalize RU.reads6 k = r1 at *
  generalize RU.reads6 l = r2 at *
  generalize (rowAt k).on = o1 at *
  generalize (rowAt l).on = o2 at *
  go_enter Tryz.func20, Tryz.ntmps20
  go_wp2_with fail
  refine (HRk.out _).mono ?_
  rintro e w' ⟨rfl, rfl⟩
  cases r1
  case false =>
    cases h3 : (k == 3)
    case true =>
      have HV := Lib.hid (show V = true by rw [HE.out, if_neg (by simp), if_pos (by simp [h3])])
      clear HE
      go_wp2_with fail
      go_ret
      exact ⟨by rw [HV.out]; rfl, Below.refl _ _⟩
    cases h3' : (l == 3)
    case true =>
      have HV := Lib.hid (show V = true by rw [HE.out, if_neg (by simp), if_pos (by simp [h3'])])
      clear HE
      go_wp2_with fail
      go_ret
      exact ⟨by rw [HV.out]; rfl, Below.refl _ _⟩
    cases h4 : (k == 4)
    case true =>
      have HV := Lib.hid (show V = false by rw [HE.out, if_neg (by simp), if_neg (by simp [h3, h3']), if_pos (by simp [h4])])
      clear HE
      go_wp2_with fail
      go_ret
      exact ⟨by rw [HV.out]; rfl, Below.refl _ _⟩
    cases h4' : (l == 4)
    case true =>
      have HV := Lib.hid (show V = false by rw [HE.out, if_neg (by simp), if_neg (by simp [h3, h3']), if_pos (by simp [h4'])])
      clear HE
      go_wp2_with fail
      go_ret
      exact ⟨by rw [HV.out]; rfl, Below.refl _ _⟩
    go_wp2_with fail
    refine (HOk.out _).mono ?_
    rintro e w1 ⟨rfl, hb1⟩
    have HB1 := Lib.hid hb1
    clear hb1
    go_wp2_with fail
    refine (HOl.out _).mono ?_
    rintro e w2 ⟨rfl, hb2⟩
    have HB2 := Lib.hid (HB1.out.trans (hb2.mono HB1.out.size))
    clear hb2
    by_cases ho : o1 = o2
    case neg =>
      have ho' : (o1 != o2) = true := by simpa using ho
      have HV := Lib.hid (show V = true by rw [HE.out, if_neg (by simp), if_neg (by simp [h3, h3']), if_neg (by simp [h4, h4']), if_pos ho])
      clear HE
      go_wp2_with fail
      go_ret
      exact ⟨by rw [HV.out]; rfl, HB2.out⟩
    subst ho
    cases hkl : (k == l)
    case false =>
      have HV := Lib.hid (show V = false by rw [HE.out, if_neg (by simp), if_neg (by simp [h3, h3']), if_neg (by simp [h4, h4']), if_neg (by simp), hkl]; rfl)
      clear HE
      go_wp2_with fail
      go_ret
      exact ⟨by rw [HV.out]; rfl, HB2.out⟩
    have HV := Lib.hid (show V = RU.gath k by rw [HE.out, if_neg (by simp), if_neg (by simp [h3, h3']), if_neg (by simp [h4, h4']), if_neg (by simp), hkl]; rfl)
    clear HE
    cases q7 : (k == 7)
    case true =>
      have HW := Lib.hid (show V = true by rw [HV.out]; unfold RU.gath; simp [q7])
      clear HV
      go_wp2_with fail
      go_ret
      exact ⟨by rw [HW.out]; rfl, HB2.out⟩
    cases q13 : (k == 13)
    case true =>
      have HW := Lib.hid (show V = true by rw [HV.out]; unfold RU.gath; simp [q13])
      clear HV
      go_wp2_with fail
      go_ret
      exact ⟨by rw [HW.out]; rfl, HB2.out⟩
    cases q14 : (k == 14)
    case true =>
      have HW := Lib.hid (show V = true by rw [HV.out]; unfold RU.gath; simp [q14])
      clear HV
      go_wp2_with fail
      go_ret
      exact ⟨by rw [HW.out]; rfl, HB2.out⟩
    cases q19 : (k == 19)
    case true =>
      have HW := Lib.hid (show V = true by rw [HV.out]; unfold RU.gath; simp [q19])
      clear HV
      go_wp2_with fail
      go_ret
      exact ⟨by rw [HW.out]; rfl, HB2.out⟩
    cases q21 : (k == 21)
    case true =>
      have HW := Lib.hid (show V = true by rw [HV.out]; unfold RU.gath; simp [q21])
      clear HV
      go_wp2_with fail
      go_ret
      exact ⟨by rw [HW.out]; rfl, HB2.out⟩
    have HW := Lib.hid (show V = false by rw [HV.out]; unfold RU.gath; rw [q7, q13, q14, q19, q21]; rfl)
    clear HV
    go_wp2_with fail
    go_ret
    exact ⟨by rw [HW.out]; rfl, HB2.out⟩
  go_wp2_with fail
  refine (HRl.out _).mono ?_
  rintro e w' ⟨rfl, rfl⟩
  cases r2
  case true =>
    have HV := Lib.hid (show V = true by rw [HE.out, if_pos (by simp)])
    clear HE
    go_wp2_with fail
    go_ret
    exact ⟨by rw [HV.out]; rfl, Below.refl _ _⟩
  cases h3 : (k == 3)
  case true =>
    have HV := Lib.hid (show V = true by rw [HE.out, if_neg (by simp), if_pos (by simp [h3])])
    clear HE
    go_wp2_with fail
    go_ret
    exact ⟨by rw [HV.out]; rfl, Below.refl _ _⟩
  cases h3' : (l == 3)
  case true =>
    have HV := Lib.hid (show V = true by rw [HE.out, if_neg (by simp), if_pos (by simp [h3'])])
    clear HE
    go_wp2_with fail
    go_ret
    exact ⟨by rw [HV.out]; rfl, Below.refl _ _⟩
  cases h4 : (k == 4)
  case true =>
    have HV := Lib.hid (show V = false by rw [HE.out, if_neg (by simp), if_neg (by simp [h3, h3']), if_pos (by simp [h4])])
    clear HE
    go_wp2_with fail
    go_ret
    exact ⟨by rw [HV.out]; rfl, Below.refl _ _⟩
  cases h4' : (l == 4)
  case true =>
    have HV := Lib.hid (show V = false by rw [HE.out, if_neg (by simp), if_neg (by simp [h3, h3']), if_pos (by simp [h4'])])
    clear HE
    go_wp2_with fail
    go_ret
    exact ⟨by rw [HV.out]; rfl, Below.refl _ _⟩
  go_wp2_with fail
  refine (HOk.out _).mono ?_
  rintro e w1 ⟨rfl, hb1⟩
  have HB1 := Lib.hid hb1
  clear hb1
  go_wp2_with fail
  refine (HOl.out _).mono ?_
  rintro e w2 ⟨rfl, hb2⟩
  have HB2 := Lib.hid (HB1.out.trans (hb2.mono HB1.out.size))
  clear hb2
  by_cases ho : o1 = o2
  case neg =>
    have ho' : (o1 != o2) = true := by simpa using ho
    have HV := Lib.hid (show V = true by rw [HE.out, if_neg (by simp), if_neg (by simp [h3, h3']), if_neg (by simp [h4, h4']), if_pos ho])
    clear HE
    go_wp2_with fail
    go_ret
    exact ⟨by rw [HV.out]; rfl, HB2.out⟩
  subst ho
  cases hkl : (k == l)
  case false =>
    have HV := Lib.hid (show V = false by rw [HE.out, if_neg (by simp), if_neg (by simp [h3, h3']), if_neg (by simp [h4, h4']), if_neg (by simp), hkl]; rfl)
    clear HE
    go_wp2_with fail
    go_ret
    exact ⟨by rw [HV.out]; rfl, HB2.out⟩
  have HV := Lib.hid (show V = RU.gath k by rw [HE.out, if_neg (by simp), if_neg (by simp [h3, h3']), if_neg (by simp [h4, h4']), if_neg (by simp), hkl]; rfl)
  clear HE
  cases q7 : (k == 7)
  case true =>
    have HW := Lib.hid (show V = true by rw [HV.out]; unfold RU.gath; simp [q7])
    clear HV
    go_wp2_with fail
    go_ret
    exact ⟨by rw [HW.out]; rfl, HB2.out⟩
  cases q13 : (k == 13)
  case true =>
    have HW := Lib.hid (show V = true by rw [HV.out]; unfold RU.gath; simp [q13])
    clear HV
    go_wp2_with fail
    go_ret
    exact ⟨by rw [HW.out]; rfl, HB2.out⟩
  cases q14 : (k == 14)
  case true =>
    have HW := Lib.hid (show V = true by rw [HV.out]; unfold RU.gath; simp [q14])
    clear HV
    go_wp2_with fail
    go_ret
    exact ⟨by rw [HW.out]; rfl, HB2.out⟩
  cases q19 : (k == 19)
  case true =>
    have HW := Lib.hid (show V = true by rw [HV.out]; unfold RU.gath; simp [q19])
    clear HV
    go_wp2_with fail
    go_ret
    exact ⟨by rw [HW.out]; rfl, HB2.out⟩
  cases q21 : (k == 21)
  case true =>
    have HW := Lib.hid (show V = true by rw [HV.out]; unfold RU.gath; simp [q21])
    clear HV
    go_wp2_with fail
    go_ret
    exact ⟨by rw [HW.out]; rfl, HB2.out⟩
  have HW := Lib.hid (show V = false by rw [HV.out]; unfold RU.gath; rw [q7, q13, q14, q19, q21]; rfl)
  clear HV
  go_wp2_with fail
  go_ret
  exact ⟨by rw [HW.out]; rfl, HB2.out⟩

theorem r6kinds_any (k l : Int) (w : World) :
    Calls Tryz.prog 20 #[.int .i64 k, .int .i64 l] w fun e w' => e = .returned (.bool (RU.kinds6 k l)) ∧ Below w.heap.size w w' := by
  by_cases h : k < 3 ∨ 21 < k ∨ l < 3 ∨ 21 < l
  · exact r6kinds_out k l w h
  · exact r6kinds_in k l w h

end Go.Proofs.YtlpecaldodganaaGreatDoor
