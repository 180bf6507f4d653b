/- Contracts: big, same (over entries); moietyref19.Sectors. -/
import Derived.Test.YtlaecnggbcagcaaRl13
namespace Go.Proofs.Ytlaecnggbcagcaa
open Go.RowKit MM
set_option linter.unusedVariables false
set_option linter.unusedSimpArgs false

/-- More than is looked at. -/
def bigE (es : List (List UInt8)) : Bool := decide (20 < es.length) || es.any fun x => decide (5000 < x.length)
theorem bigE_no {es : List (List UInt8)} (h : bigE es = false) : es.length ≤ 20 ∧ ∀ x ∈ es, x.length ≤ 5000 := by
  simp only [bigE, Bool.or_eq_false_iff, decide_eq_false_iff_not, List.any_eq_false, decide_eq_true_eq] at h
  exact ⟨by omega, fun x hx => by have := h.2 x hx; omega⟩

set_option maxHeartbeats 1000000 in
set_option maxRecDepth 100000 in
theorem big19_any (A : Option Addr) (c : Nat) (es : List (List UInt8)) (w : World) (h : EntsA w A es) (hl : es.length ≤ 9223372036854775807) (hx : ∀ x ∈ es, x.length ≤ 9223372036854775807) :
    Calls Try.prog 46 #[.slice A es.length c] w fun e w' => e = .returned (.bool (bigE es)) ∧ w' = w := by
  have H := Lib.hid h
  have HX := Lib.hid hx
  have hl' : (es.length : Int) ≤ 9223372036854775807 := by omega
  obtain ⟨r, hr⟩ : ∃ r, r = bigE es := ⟨_, rfl⟩
  rw [← hr]
  have HR := Lib.hid hr
  clear h hx hr
  by_cases hb : 20 < es.length
  · have HT := Lib.hid (show r = true by rw [HR.out]; simp [bigE, hb])
    have hb' : (20 : Int) < (es.length : Int) := by omega
    go_enter Try.func46, Try.ntmps46
    go_wp2_with fail
    go_ret
    rw [HT.out]
    exact ⟨rfl, rfl⟩
  have hb' : ¬ (20 : Int) < (es.length : Int) := by omega
  have hl2 : (es.length : Int) ≤ 20 := by omega
  go_enter Try.func46, Try.ntmps46
  go_wp2_with fail
  go_loopw [10] (fun t wr => ∃ i : Nat, t = .int .i64 i ∧ i ≤ es.length ∧ (∀ x ∈ es.take i, x.length ≤ 5000) ∧ wr = w) (fun t _ => es.length - (intOf t).toNat)
  case atStart => exact ⟨0, rfl, Nat.zero_le _, fun x hx => by simp at hx, by first | rfl | trivial⟩
  case round =>
    obtain ⟨i, rfl, hi, h1, rfl⟩ := hrel
    have H1 := Lib.hid h1
    clear h1
    by_cases hlt : i < es.length
    · have hlt' : (i : Int) < (es.length : Int) := by omega
      have hx0 : es[i]? = some es[i] := List.getElem?_eq_getElem hlt
      obtain ⟨x, hxx⟩ : ∃ x, x = es[i] := ⟨_, rfl⟩
      rw [← hxx] at hx0
      obtain ⟨g, o, a, c1, rfl, hg, hcl, -, -, -⟩ := H.out.at_ hx0
      have HM := Lib.hid (show es.take (i + 1) = es.take i ++ [x] by rw [List.take_add_one, hx0]; rfl)
      have HXl := Lib.hid (HX.out x (List.mem_of_getElem? hx0))
      have hxl : (x.length : Int) ≤ 9223372036854775807 := by have := HXl.out; omega
      have HIn := Lib.hid (List.mem_of_getElem? hx0)
      clear hxx hx0
      by_cases hbx : 5000 < x.length
      · have hbx' : (5000 : Int) < (x.length : Int) := by omega
        have HT := Lib.hid (show r = true by
          rw [HR.out, bigE, Bool.or_eq_true]
          right
          exact List.any_eq_true.2 ⟨x, HIn.out, decide_eq_true hbx⟩)
        go_wp2_with fail
        go_ret
        rw [HT.out]
        exact ⟨rfl, rfl⟩
      · have hbx' : ¬ (5000 : Int) < (x.length : Int) := by omega
        go_wp2_with fail
        go_roundw
        case rel => exact ⟨i + 1, by go_num, by omega, fun y hy => by rw [HM.out] at hy; rcases List.mem_append.1 hy with z | z; exact H1.out y z; (have : y = x := by simpa using z); rw [this]; omega, by first | rfl | trivial⟩
        case measure => simp [intOf]; omega
    · obtain rfl : i = es.length := by omega
      have HF := Lib.hid (show r = false by
        rw [HR.out, bigE, Bool.or_eq_false_iff]
        refine ⟨decide_eq_false hb, List.any_eq_false.2 fun x hx => ?_⟩
        have := H1.out x (by rw [List.take_length]; exact hx)
        simp
        omega)
      go_wp2_with fail
      go_ret
      rw [HF.out]
      exact ⟨rfl, rfl⟩

set_option maxHeartbeats 2000000 in
set_option maxRecDepth 100000 in
theorem same19_any (A B : Option Addr) (c c' : Nat) (es fs : List (List UInt8)) (w : World) (h : EntsA w A es) (h' : EntsA w B fs) (hl : es.length ≤ 100000) (hl' : fs.length ≤ 100000) :
    Calls Try.prog 44 #[.slice A es.length c, .slice B fs.length c'] w fun e w' => e = .returned (.bool (decide (es = fs))) ∧ Below w.heap.size w w' := by
  have H := Lib.hid h
  have H' := Lib.hid h'
  have hle : (es.length : Int) ≤ 100000 := by omega
  have hlf : (fs.length : Int) ≤ 100000 := by omega
  obtain ⟨r, hr⟩ : ∃ r, r = decide (es = fs) := ⟨_, rfl⟩
  rw [← hr]
  have HR := Lib.hid hr
  clear h h' hr
  go_enter Try.func44, Try.ntmps44
  go_wp2_with fail
  go_loopw [8] (fun t wr => ∃ i : Nat, t = .int .i64 i ∧ i ≤ es.length ∧ i ≤ fs.length ∧ es.take i = fs.take i ∧ Below w.heap.size w wr) (fun t _ => es.length - (intOf t).toNat)
  case atStart => exact ⟨0, rfl, Nat.zero_le _, Nat.zero_le _, rfl, Below.refl _ _⟩
  case round =>
    obtain ⟨i, rfl, hi, hi', h1, h2⟩ := hrel
    have H1 := Lib.hid h1
    have H2 := Lib.hid h2
    clear h1 h2
    by_cases hlt : i < es.length
    · have hlt1 : (i : Int) < (es.length : Int) := by omega
      have hx0 : es[i]? = some es[i] := List.getElem?_eq_getElem hlt
      obtain ⟨x, hxx⟩ : ∃ x, x = es[i] := ⟨_, rfl⟩
      rw [← hxx] at hx0
      by_cases hlf2 : i < fs.length
      · have hlt2 : ¬ (fs.length : Int) ≤ (i : Int) := by omega
        have hlt3 : (i : Int) < (fs.length : Int) := by omega
        have hd : decide ((fs.length : Int) ≤ (i : Int)) = false := decide_eq_false hlt2
        have hy0 : fs[i]? = some fs[i] := List.getElem?_eq_getElem hlf2
        obtain ⟨y, hyy⟩ : ∃ y, y = fs[i] := ⟨_, rfl⟩
        rw [← hyy] at hy0
        obtain ⟨g, o, a, c1, rfl, hg, hcl, hbt, -, -⟩ := (H.out.below H2.out).at_ hx0
        obtain ⟨g', o', a', c1', rfl, hg', hcl', hbt', -, -⟩ := (H'.out.below H2.out).at_ hy0
        obtain ⟨sa, hsa⟩ : ∃ sa : ByteArray, sa = ⟨x.toArray⟩ := ⟨_, rfl⟩
        obtain ⟨sb, hsb⟩ : ∃ sb : ByteArray, sb = ⟨y.toArray⟩ := ⟨_, rfl⟩
        have hs1 : ∀ u, (convert 51 9 (.slice a x.length c1)).run Try.prog (wr.drewN u) = .ok (.string sa) (wr.drewN u) := fun u => run_str (hbt.drewN u) rfl hsa
        have hs2 : ∀ u, (convert 51 9 (.slice a' y.length c1')).run Try.prog (wr.drewN u) = .ok (.string sb) (wr.drewN u) := fun u => run_str (hbt'.drewN u) rfl hsb
        have HQ := Lib.hid (show sa = sb ↔ x = y by
          rw [hsa, hsb]
          constructor
          · intro e
            have := congrArg ByteArray.data e
            simpa using this
          · intro e; rw [e])
        have HX0 := Lib.hid hx0
        have HY0 := Lib.hid hy0
        clear hxx hyy hx0 hy0 hsa hsb hbt hbt'
        by_cases hxy : sa = sb
        · have HXY := Lib.hid (HQ.out.1 hxy)
          subst hxy
          go_upto_region 4 with fail
          go_quiet (fail)
          go_wp2
          go_roundw
          case rel => exact ⟨i + 1, by go_num, by omega, by omega, by rw [List.take_add_one, List.take_add_one, H1.out, HX0.out, HY0.out, HXY.out], below_drewN' H2.out _⟩
          case measure => simp [intOf]; omega
        · have HXY := Lib.hid (show r = false by
            rw [HR.out]
            refine decide_eq_false fun e => hxy (HQ.out.2 ?_)
            have h1 := HX0.out
            rw [e, HY0.out] at h1
            injection h1 with h1
            exact h1.symm)
          have hz : (sa.toList == sb.toList) = false := by
            refine beq_false_of_ne fun e => hxy ?_
            rw [ByteArray.toList_eq, ByteArray.toList_eq] at e
            cases sa; cases sb
            simpa [Array.toList_inj] using e
          go_upto_region 4 with fail
          go_quiet (fail)
          go_wp2
          go_ret
          rw [HXY.out]
          exact ⟨rfl, below_drewN' H2.out _⟩
      · have hlt2 : (fs.length : Int) ≤ (i : Int) := by omega
        have hd : decide ((fs.length : Int) ≤ (i : Int)) = true := decide_eq_true hlt2
        have HXY := Lib.hid (show r = false by
          rw [HR.out]
          refine decide_eq_false fun e => ?_
          rw [e] at hlt
          omega)
        clear hxx hx0
        go_upto_region 4 with fail
        go_quiet (fail)
        go_wp2
        go_ret
        rw [HXY.out]
        exact ⟨rfl, below_drewN' H2.out _⟩
    · obtain rfl : i = es.length := by omega
      by_cases hq : es.length = fs.length
      · have HXY := Lib.hid (show r = true by
          rw [HR.out]
          refine decide_eq_true ?_
          have := H1.out
          rwa [List.take_length, hq, List.take_length] at this)
        have hq' : (es.length : Int) = (fs.length : Int) := by omega
        clear hq
        go_wp2_with fail
        go_ret
        rw [HXY.out]
        exact ⟨rfl, H2.out⟩
      · have HXY := Lib.hid (show r = false by
          rw [HR.out]
          exact decide_eq_false fun e => hq (by rw [e]))
        have hq' : ¬ (es.length : Int) = (fs.length : Int) := by omega
        clear hq
        go_wp2_with fail
        go_ret
        rw [HXY.out]
        refine ⟨?_, H2.out⟩
        show Ending.returned (.bool ((es.length : Int) == (fs.length : Int))) = _
        rw [beq_false_of_ne hq']

end Go.Proofs.Ytlaecnggbcagcaa
