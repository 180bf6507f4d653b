/- Contracts of package pair: which kinds change places. -/
import Derived.Test.YtlpecaldodganaaGreatDoorRuWq
import Derived.Test.YtlpecaldodganaaGreatDoorActMq
import Derived.Test.YtlpecaldodganaaGreatDoorRuQq
import Derived.Test.YtlpecaldodganaaGreatDoorOpn4rmq
import Derived.Deep.MidRow
import Derived.Deep.WholeRow
import Derived.Laws.Rows
namespace Go.Proofs.YtlpecaldodganaaGreatDoor
open Go.RowKit MM
set_option linter.unusedVariables false
set_option linter.unusedSimpArgs false
def RU.gath (k : Int) : Bool := k == 7 || k == 13 || k == 14 || k == 19 || k == 21
def RU.ren (k : Int) : Bool := k == 1 || k == 2
theorem kinds_in {k : Int} (h : 3 ≤ k ∧ k ≤ 21) : (rowAt k).reads = RU.reads6 k := by
  have hx : k = 3 ∨ k = 4 ∨ k = 5 ∨ k = 6 ∨ k = 7 ∨ k = 8 ∨ k = 9 ∨ k = 10 ∨ k = 11 ∨ k = 12 ∨ k = 13 ∨ k = 14 ∨ k = 15 ∨ k = 16 ∨ k = 17 ∨ k = 18 ∨ k = 19 ∨ k = 20 ∨ k = 21 := by omega
  rcases hx with rfl | rfl | rfl | rfl | rfl | rfl | rfl | rfl | rfl | rfl | rfl | rfl | rfl | rfl | rfl | rfl | rfl | rfl | rfl <;> rfl
/-- As the program goes about it. -/
theorem kinds6_eq (k l : Int) : RU.kinds6 k l = if AC.known k = false ∨ AC.known l = false then false else if RU.ren k = true ∨ RU.ren l = true then false else if ((rowAt k).reads = true ∧ (rowAt l).reads = true) ∨ (k == 3) = true ∨ (l == 3) = true then true else if (k == 4) = true ∨ (l == 4) = true then false else if (rowAt k).on ≠ (rowAt l).on then true else (k == l && RU.gath k) := by
  by_cases h : k < 3 ∨ 21 < k ∨ l < 3 ∨ 21 < l
  · unfold RU.kinds6
    rw [if_pos h]
    by_cases h1 : AC.known k = false ∨ AC.known l = false
    · rw [if_pos h1]
    · rw [if_neg h1, if_pos]
      simp only [not_or, Bool.not_eq_false] at h1
      obtain ⟨h1, h2⟩ := h1
      unfold AC.known at h1 h2
      have h1 := of_decide_eq_true h1
      have h2 := of_decide_eq_true h2
      unfold RU.ren
      have : (k = 1 ∨ k = 2) ∨ (l = 1 ∨ l = 2) := by omega
      rcases this with (h | h) | (h | h)
      · exact .inl (by rw [h]; rfl)
      · exact .inl (by rw [h]; rfl)
      · exact .inr (by rw [h]; rfl)
      · exact .inr (by rw [h]; rfl)
  · have hk : 3 ≤ k ∧ k ≤ 21 := by omega
    have hl : 3 ≤ l ∧ l ≤ 21 := by omega
    have e1 : AC.known k = true := decide_eq_true (by omega)
    have e2 : AC.known l = true := decide_eq_true (by omega)
    have n1 : RU.ren k = false := by unfold RU.ren; simp; omega
    have n2 : RU.ren l = false := by unfold RU.ren; simp; omega
    rw [if_neg (by rw [e1, e2]; simp), if_neg (by rw [n1, n2]; simp), kinds_in hk, kinds_in hl]
    unfold RU.kinds6 RU.gath
    rw [if_neg h]
    generalize (rowAt k).on = o1
    generalize (rowAt l).on = o2
    cases RU.reads6 k <;> cases RU.reads6 l <;> simp only [Bool.and_true, Bool.and_false, Bool.false_and, Bool.true_and, beq_iff_eq, if_true, if_false, Bool.false_eq_true, false_and, and_false, true_and, and_true, false_or, true_or, and_self]
set_option maxHeartbeats 1000000 in
theorem pknown_any (k : Int) (w : World) :
    Calls Tryz.prog 55 #[.int .i64 k] w fun e w' => e = .returned (.bool (AC.known k)) ∧ w = w' := by
  go_enter Tryz.func55, Tryz.ntmps55
  by_cases h : 0 < k
  · by_cases h2 : k < 22
    · have hv : AC.known k = true := decide_eq_true ⟨h, h2⟩
      have Hv := Lib.hid hv
      clear hv
      go_wp2_with fail
      go_ret
      exact ⟨by rw [Hv.out]; rfl, rfl⟩
    · have hv : AC.known k = false := decide_eq_false (fun x => h2 x.2)
      have Hv := Lib.hid hv
      clear hv
      go_wp2_with fail
      go_ret
      exact ⟨by rw [Hv.out]; rfl, rfl⟩
  · have hv : AC.known k = false := decide_eq_false (fun x => h x.1)
    have Hv := Lib.hid hv
    clear hv
    go_wp2_with fail
    go_ret
    exact ⟨by rw [Hv.out]; rfl, rfl⟩
set_option maxHeartbeats 1000000 in
theorem prenews_any (k : Int) (w : World) :
    Calls Tryz.prog 56 #[.int .i64 k] w fun e w' => e = .returned (.bool (RU.ren k)) ∧ w = w' := by
  go_enter Tryz.func56, Tryz.ntmps56
  by_cases h : k = 1
  · subst h
    go_wp2_with fail
    go_ret
    exact ⟨rfl, rfl⟩
  · have b1 : (k == 1) = false := by simpa using h
    cases b2 : (k == 2)
    · have Hv := Lib.hid (show RU.ren k = false by unfold RU.ren; rw [b1, b2]; rfl)
      go_wp2_with fail
      go_ret
      exact ⟨by rw [Hv.out]; rfl, rfl⟩
    · have Hv := Lib.hid (show RU.ren k = true by unfold RU.ren; rw [b1, b2]; rfl)
      go_wp2_with fail
      go_ret
      exact ⟨by rw [Hv.out]; rfl, rfl⟩
set_option maxHeartbeats 2000000 in
theorem pgathers_any (k : Int) (w : World) :
    Calls Tryz.prog 59 #[.int .i64 k] w fun e w' => e = .returned (.bool (RU.gath k)) ∧ w = w' := by
  go_enter Tryz.func59, Tryz.ntmps59
  by_cases h7 : k = 7
  · subst h7
    go_wp2_with fail
    go_ret
    exact ⟨rfl, rfl⟩
  by_cases h13 : k = 13
  · subst h13
    go_wp2_with fail
    go_ret
    exact ⟨rfl, rfl⟩
  by_cases h14 : k = 14
  · subst h14
    go_wp2_with fail
    go_ret
    exact ⟨rfl, rfl⟩
  by_cases h19 : k = 19
  · subst h19
    go_wp2_with fail
    go_ret
    exact ⟨rfl, rfl⟩
  by_cases h21 : k = 21
  · subst h21
    go_wp2_with fail
    go_ret
    exact ⟨rfl, rfl⟩
  have b1 : (k == 7) = false := by simpa using h7
  have b2 : (k == 13) = false := by simpa using h13
  have b3 : (k == 14) = false := by simpa using h14
  have b4 : (k == 19) = false := by simpa using h19
  have b5 : (k == 21) = false := by simpa using h21
  have Hv := Lib.hid (show RU.gath k = false by unfold RU.gath; rw [b1, b2, b3, b4, b5]; rfl)
  go_wp2_with fail
  go_ret
  exact ⟨by rw [Hv.out]; rfl, rfl⟩
set_option maxHeartbeats 4000000 in
theorem pairKinds_any (k l : Int) (w : World) (hR : RowsAt w) :
    Calls Tryz.prog 18 #[.int .i64 k, .int .i64 l] w fun e w' => e = .returned (.bool (RU.kinds6 k l)) ∧ Below w.heap.size w w' := by
  have HE := Lib.hid (kinds6_eq k l)
  have HK := Lib.hid (fun u => pknown_any k u)
  have HL := Lib.hid (fun u => pknown_any l u)
  have HN := Lib.hid (fun u => prenews_any k u)
  have HM := Lib.hid (fun u => prenews_any l u)
  have HRk := Lib.hid (fun u (b : Below w.heap.size w u) => actReads_any k u (hR.below b))
  have HRl := Lib.hid (fun u (b : Below w.heap.size w u) => actReads_any l u (hR.below b))
  have HOk := Lib.hid (fun u (b : Below w.heap.size w u) => actOn_any k u (hR.below b))
  have HOl := Lib.hid (fun u (b : Below w.heap.size w u) => actOn_any l u (hR.below b))
  have HG := Lib.hid (fun u => pgathers_any k u)
  clear hR
  generalize RU.kinds6 k l = V at *
  generalize AC.known k = a1 at *
  generalize AC.known l = a2 at *
  generalize RU.ren k = n1 at *
  generalize RU.ren l = n2 at *
  generalize (rowAt k).reads = r1 at *
  generalize (rowAt l).reads = r2 at *
  generalize (rowAt k).on = o1 at *
  generalize (rowAt l).on = o2 at *
  generalize RU.gath k = g at *
  go_enter Tryz.func18, Tryz.ntmps18
  go_wp2_with fail
  refine (HK.out _).mono ?_
  rintro e w' ⟨rfl, rfl⟩
  cases a1
  case false =>
    have HV := Lib.hid (show V = false by rw [HE.out, if_pos (.inl rfl)])
    clear HE
    go_wp2_with fail
    go_ret
    exact ⟨by rw [HV.out]; rfl, Below.refl _ _⟩
  go_wp2_with fail
  refine (HL.out _).mono ?_
  rintro e w' ⟨rfl, rfl⟩
  cases a2
  case false =>
    have HV := Lib.hid (show V = false by rw [HE.out, if_pos (.inr rfl)])
    clear HE
    go_wp2_with fail
    go_ret
    exact ⟨by rw [HV.out]; rfl, Below.refl _ _⟩
  go_wp2_with fail
  refine (HN.out _).mono ?_
  rintro e w' ⟨rfl, rfl⟩
  cases n1
  case true =>
    have HV := Lib.hid (show V = false by rw [HE.out, if_neg (by simp), if_pos (.inl rfl)])
    clear HE
    go_wp2_with fail
    go_ret
    exact ⟨by rw [HV.out]; rfl, Below.refl _ _⟩
  go_wp2_with fail
  refine (HM.out _).mono ?_
  rintro e w' ⟨rfl, rfl⟩
  cases n2
  case true =>
    have HV := Lib.hid (show V = false by rw [HE.out, if_neg (by simp), if_pos (.inr rfl)])
    clear HE
    go_wp2_with fail
    go_ret
    exact ⟨by rw [HV.out]; rfl, Below.refl _ _⟩
  go_wp2_with fail
  refine (HRk.out _ (Below.refl _ w)).mono ?_
  rintro e w1 ⟨rfl, hb1⟩
  have HB1 := Lib.hid (show Below w.heap.size w w1 from hb1)
  clear hb1
  cases r1
  case false =>
    cases h3 : (k == 3)
    case true =>
      have HV := Lib.hid (show V = true by rw [HE.out, if_neg (by simp), if_neg (by simp), if_pos (by simp [h3])])
      clear HE
      go_wp2_with fail
      go_ret
      exact ⟨by rw [HV.out]; rfl, HB1.out⟩
    cases h3' : (l == 3)
    case true =>
      have HV := Lib.hid (show V = true by rw [HE.out, if_neg (by simp), if_neg (by simp), if_pos (by simp [h3'])])
      clear HE
      go_wp2_with fail
      go_ret
      exact ⟨by rw [HV.out]; rfl, HB1.out⟩
    cases h4 : (k == 4)
    case true =>
      have HV := Lib.hid (show V = false by rw [HE.out, if_neg (by simp), if_neg (by simp), if_neg (by simp [h3, h3']), if_pos (by simp [h4])])
      clear HE
      go_wp2_with fail
      go_ret
      exact ⟨by rw [HV.out]; rfl, HB1.out⟩
    cases h4' : (l == 4)
    case true =>
      have HV := Lib.hid (show V = false by rw [HE.out, if_neg (by simp), if_neg (by simp), if_neg (by simp [h3, h3']), if_pos (by simp [h4'])])
      clear HE
      go_wp2_with fail
      go_ret
      exact ⟨by rw [HV.out]; rfl, HB1.out⟩
    go_wp2_with fail
    refine (HOk.out _ HB1.out).mono ?_
    rintro e w2 ⟨rfl, hb2⟩
    have HB2 := Lib.hid (show Below w.heap.size w w2 from HB1.out.trans (hb2.mono HB1.out.size))
    clear hb2
    go_wp2_with fail
    refine (HOl.out _ HB2.out).mono ?_
    rintro e w3 ⟨rfl, hb3⟩
    have HB3 := Lib.hid (show Below w.heap.size w w3 from HB2.out.trans (hb3.mono HB2.out.size))
    clear hb3
    by_cases ho : o1 = o2
    case neg =>
      have ho' : (o1 != o2) = true := by simpa using ho
      have HV := Lib.hid (show V = true by rw [HE.out, if_neg (by simp), if_neg (by simp), if_neg (by simp [h3, h3']), if_neg (by simp [h4, h4']), if_pos ho])
      clear HE
      go_wp2_with fail
      go_ret
      exact ⟨by rw [HV.out]; rfl, HB3.out⟩
    subst ho
    cases hkl : (k == l)
    case false =>
      have HV := Lib.hid (show V = false by rw [HE.out, if_neg (by simp), if_neg (by simp), if_neg (by simp [h3, h3']), if_neg (by simp [h4, h4']), if_neg (by simp), hkl]; rfl)
      clear HE
      go_wp2_with fail
      go_ret
      exact ⟨by rw [HV.out]; rfl, HB3.out⟩
    have HV := Lib.hid (show V = g by rw [HE.out, if_neg (by simp), if_neg (by simp), if_neg (by simp [h3, h3']), if_neg (by simp [h4, h4']), if_neg (by simp), hkl]; rfl)
    clear HE
    go_wp2_with fail
    refine (HG.out _).mono ?_
    rintro e w' ⟨rfl, rfl⟩
    go_wp2_with fail
    go_ret
    exact ⟨by rw [HV.out]; rfl, HB3.out⟩
  go_wp2_with fail
  refine (HRl.out _ HB1.out).mono ?_
  rintro e w4 ⟨rfl, hb4⟩
  have HB4 := Lib.hid (show Below w.heap.size w w4 from HB1.out.trans (hb4.mono HB1.out.size))
  clear hb4
  cases r2
  case true =>
    have HV := Lib.hid (show V = true by rw [HE.out, if_neg (by simp), if_neg (by simp), if_pos (by simp)])
    clear HE
    go_wp2_with fail
    go_ret
    exact ⟨by rw [HV.out]; rfl, HB4.out⟩
  cases h3 : (k == 3)
  case true =>
    have HV := Lib.hid (show V = true by rw [HE.out, if_neg (by simp), if_neg (by simp), if_pos (by simp [h3])])
    clear HE
    go_wp2_with fail
    go_ret
    exact ⟨by rw [HV.out]; rfl, HB4.out⟩
  cases h3' : (l == 3)
  case true =>
    have HV := Lib.hid (show V = true by rw [HE.out, if_neg (by simp), if_neg (by simp), if_pos (by simp [h3'])])
    clear HE
    go_wp2_with fail
    go_ret
    exact ⟨by rw [HV.out]; rfl, HB4.out⟩
  cases h4 : (k == 4)
  case true =>
    have HV := Lib.hid (show V = false by rw [HE.out, if_neg (by simp), if_neg (by simp), if_neg (by simp [h3, h3']), if_pos (by simp [h4])])
    clear HE
    go_wp2_with fail
    go_ret
    exact ⟨by rw [HV.out]; rfl, HB4.out⟩
  cases h4' : (l == 4)
  case true =>
    have HV := Lib.hid (show V = false by rw [HE.out, if_neg (by simp), if_neg (by simp), if_neg (by simp [h3, h3']), if_pos (by simp [h4'])])
    clear HE
    go_wp2_with fail
    go_ret
    exact ⟨by rw [HV.out]; rfl, HB4.out⟩
  go_wp2_with fail
  refine (HOk.out _ HB4.out).mono ?_
  rintro e w5 ⟨rfl, hb5⟩
  have HB5 := Lib.hid (show Below w.heap.size w w5 from HB4.out.trans (hb5.mono HB4.out.size))
  clear hb5
  go_wp2_with fail
  refine (HOl.out _ HB5.out).mono ?_
  rintro e w6 ⟨rfl, hb6⟩
  have HB6 := Lib.hid (show Below w.heap.size w w6 from HB5.out.trans (hb6.mono HB5.out.size))
  clear hb6
  by_cases ho : o1 = o2
  case neg =>
    have ho' : (o1 != o2) = true := by simpa using ho
    have HV := Lib.hid (show V = true by rw [HE.out, if_neg (by simp), if_neg (by simp), if_neg (by simp [h3, h3']), if_neg (by simp [h4, h4']), if_pos ho])
    clear HE
    go_wp2_with fail
    go_ret
    exact ⟨by rw [HV.out]; rfl, HB6.out⟩
  subst ho
  cases hkl : (k == l)
  case false =>
    have HV := Lib.hid (show V = false by rw [HE.out, if_neg (by simp), if_neg (by simp), if_neg (by simp [h3, h3']), if_neg (by simp [h4, h4']), if_neg (by simp), hkl]; rfl)
    clear HE
    go_wp2_with fail
    go_ret
    exact ⟨by rw [HV.out]; rfl, HB6.out⟩
  have HV := Lib.hid (show V = g by rw [HE.out, if_neg (by simp), if_neg (by simp), if_neg (by simp [h3, h3']), if_neg (by simp [h4, h4']), if_neg (by simp), hkl]; rfl)
  clear HE
  go_wp2_with fail
  refine (HG.out _).mono ?_
  rintro e w' ⟨rfl, rfl⟩
  go_wp2_with fail
  go_ret
  exact ⟨by rw [HV.out]; rfl, HB6.out⟩
end Go.Proofs.YtlpecaldodganaaGreatDoor
namespace Go.Proofs.YtlpecaldodganaaGreatDoor
open Go.RowKit MM
set_option linter.unusedVariables false
set_option linter.unusedSimpArgs false
def RU.comm (a b : AC.Ac) : Bool := !RC.strEq a.key b.key || RU.kinds6 a.kind b.kind
set_option maxHeartbeats 2000000 in
theorem pcommute_any (a b : AC.Ac) (A B : Option Addr) (c d : Nat) (w : World) (hR : RowsAt w) :
    Calls Tryz.prog 46 #[actV a A c, actV b B d] w fun e w' => e = .returned (.bool (RU.comm a b)) ∧ Below w.heap.size w w' := by
  have HS := Lib.hid (fun u (h : Below w.heap.size w u) => pairKinds_any a.kind b.kind u (hR.below h))
  clear hR
  go_enter Tryz.func46, Tryz.ntmps46
  cases he : RC.strEq a.key b.key
  · have he' : (a.key.toList == b.key.toList) = false := he
    have HV := Lib.hid (show RU.comm a b = true by unfold RU.comm; rw [he]; rfl)
    clear he
    go_wp2_with fail
    go_ret
    exact ⟨by rw [HV.out]; rfl, below2 w _ _⟩
  · have he' : (a.key.toList == b.key.toList) = true := he
    have HV := Lib.hid (show RU.comm a b = RU.kinds6 a.kind b.kind by unfold RU.comm; rw [he]; rfl)
    clear he
    go_wp2_with fail
    refine (HS.out _ (below2 w _ _)).mono ?_
    rintro e w' ⟨rfl, hb⟩
    have HB := Lib.hid (show Below w.heap.size w w' from (below2 w _ _).trans (hb.mono (by simp only [World.size_alloc]; omega)))
    clear hb
    go_wp2_with fail
    go_ret
    exact ⟨by rw [HV.out]; rfl, HB.out⟩
theorem act_inf9 : (Tryz.prog.info? 27).map (fun i => i.size) = some 14 := by kernel_rfl
theorem range_keep9 {w w' : World} {b o : Nat} {cs : List Value} (hb : Below w.heap.size w w') (h : w.rangeAt b o cs) : w'.rangeAt b o cs := fun j v hv => below_keep hb (h j v hv)
theorem acts_range9 {w : World} {L : Option Addr} {P : List Al} (h : ActsIn w L P) {i : Nat} (hi : i < P.length) : ∃ b off, L = some ⟨b, off, none⟩ ∧ w.rangeAt b (off + i * 14) (actC P[i].r P[i].A P[i].c).toList := by
  rcases h.rows with h0 | ⟨b, off, rfl, hb, hr⟩
  · subst h0
    simp at hi
  · exact ⟨b, off, rfl, fun j v hv => hr i P[i] (List.getElem?_eq_getElem hi) j v (by show (actC P[i].r P[i].A P[i].c)[j]? = some v; rw [← Array.getElem?_toList]; exact hv)⟩
def RU.rows6 (l m : List AC.Ac) : Bool := l.all fun a => m.all fun b => RU.comm a b
theorem all_take {α : Type} {l : List α} {i : Nat} (hi : i < l.length) {f : α → Bool} (h : (l.take i).all f = true) (h2 : f l[i] = true) : (l.take (i + 1)).all f = true := by
  rw [List.take_add_one, List.getElem?_eq_getElem hi, List.all_append, h]
  simp [h2]
theorem all_no {α : Type} {l : List α} {i : Nat} (hi : i < l.length) {f : α → Bool} (h2 : f l[i] = false) : l.all f = false := by
  rw [List.all_eq_false]
  exact ⟨l[i], List.getElem_mem hi, by rw [h2]; simp⟩
set_option maxHeartbeats 8000000 in
set_option maxRecDepth 100000 in
theorem prows_any (l m : List Al) (L M : Option Addr) (cl cm : Nat) (w : World) (hl : ActsIn w L l) (hm : ActsIn w M m) (nl : l.length ≤ 1000) (nm : m.length ≤ 1000) (hR : RowsAt w) :
    Calls Tryz.prog 50 #[.slice L l.length cl, .slice M m.length cm] w fun e w' => e = .returned (.bool (RU.rows6 (l.map (·.r)) (m.map (·.r)))) ∧ Below w.heap.size w w' := by
  have HL := Lib.hid hl
  have HM := Lib.hid hm
  have HC := Lib.hid (fun a b A B c d u (h : Below w.heap.size w u) => pcommute_any a b A B c d u (hR.below h))
  have HV := Lib.hid (show RU.rows6 (l.map (·.r)) (m.map (·.r)) = l.all fun a => m.all fun b => RU.comm a.r b.r by unfold RU.rows6; rw [List.all_map]; congr 1; funext a; show (m.map (·.r)).all _ = _; rw [List.all_map]; rfl)
  clear hl hm hR
  generalize RU.rows6 (l.map (·.r)) (m.map (·.r)) = V at *
  go_enter Tryz.func50, Tryz.ntmps50
  go_wp2_with fail
  go_loopw [11] (fun t11 wr => ∃ i : Nat, t11 = .int .i64 i ∧ i ≤ l.length ∧ ((l.take i).all fun a => m.all fun b => RU.comm a.r b.r) = true ∧ Below w.heap.size w wr) (fun t11 _ => l.length - (intOf t11).toNat)
  case atStart => exact ⟨0, rfl, Nat.zero_le _, rfl, Below.refl _ _⟩
  case round =>
    obtain ⟨i, rfl, hi, hyes, hbr⟩ := hrel
    have HY := Lib.hid hyes
    have BR := Lib.hid hbr
    clear hyes hbr
    by_cases hlt : i < l.length
    · have hi1 : (i : Int) < (l.length : Int) := by omega
      obtain ⟨b1, o1, rfl, hr1⟩ := acts_range9 HL.out hlt
      have HT := Lib.hid (fun (h : (m.all fun b => RU.comm l[i].r b.r) = true) => all_take hlt (f := fun a : Al => m.all fun b => RU.comm a.r b.r) HY.out h)
      have HF := Lib.hid (fun (h : (m.all fun b => RU.comm l[i].r b.r) = false) => all_no hlt (f := fun a : Al => m.all fun b => RU.comm a.r b.r) h)
      generalize l[i] = a at *
      have HR1 := Lib.hid (range_keep9 BR.out hr1)
      clear hr1
      go_wp2_with (first
        | (refine wpList_load_mid rfl _ _ rfl b1 (o1 + i * 14) rfl (actC a.r a.A a.c).toList _ HR1.out Tryz.underlying27 rfl act_inf9 ?_)
        | (refine wpList_store_row rfl _ _ _ rfl _ (actC a.r a.A a.c) rfl rfl 27 _ (heap_alloc_new _ _) act_inf9 rfl (by kernel_rfl) ?_))
      rw [World.setRow_alloc_new]
      generalize hwb : World.alloc wr _ = wb
      have R6 := Lib.hid (show wb.heap[wr.heap.size]? = some (.cells (actC a.r a.A a.c) 27 (0, 0)) by rw [← hwb]; exact heap_alloc_new wr _)
      have BB := Lib.hid (show Below w.heap.size w wb by rw [← hwb]; exact BR.out.trans ((below1 wr _).mono BR.out.size))
      generalize hg6 : wr.heap.size = g6 at *
      clear hwb HR1 hg6
      go_loopw [17] (fun t17 wr => ∃ j : Nat, t17 = .int .i64 j ∧ j ≤ m.length ∧ ((m.take j).all fun b => RU.comm a.r b.r) = true ∧ Below wb.heap.size wb wr) (fun t17 _ => m.length - (intOf t17).toNat)
      case atStart => exact ⟨0, rfl, Nat.zero_le _, rfl, Below.refl _ _⟩
      case round =>
        obtain ⟨j, rfl, hj, hyes, hbr⟩ := hrel
        generalize wr = ws at *
        have HY2 := Lib.hid hyes
        have BR2 := Lib.hid hbr
        clear hyes hbr
        by_cases hlt2 : j < m.length
        · have hj1 : (j : Int) < (m.length : Int) := by omega
          obtain ⟨b2, o2, rfl, hr2⟩ := acts_range9 HM.out hlt2
          have HT2 := Lib.hid (fun (h : RU.comm a.r m[j].r = true) => all_take hlt2 (f := fun b : Al => RU.comm a.r b.r) HY2.out h)
          have HF2 := Lib.hid (fun (h : RU.comm a.r m[j].r = false) => all_no hlt2 (f := fun b : Al => RU.comm a.r b.r) h)
          generalize m[j] = b at *
          have BW := Lib.hid (BB.out.trans (BR2.out.mono BB.out.size))
          have HR2 := Lib.hid (range_keep9 BW.out hr2)
          have R6s := Lib.hid ((BR2.out.block _ (lt_of_heap R6.out)).trans R6.out)
          clear hr2
          go_upto_region 7 with (first
            | (refine wpList_load_mid rfl _ _ rfl b2 (o2 + j * 14) rfl (actC b.r b.A b.c).toList _ HR2.out Tryz.underlying27 rfl act_inf9 ?_)
            | (refine wpList_store_row rfl _ _ _ rfl _ (actC b.r b.A b.c) rfl rfl 27 _ (heap_alloc_new _ _) act_inf9 rfl (by kernel_rfl) ?_))
          rw [World.setRow_alloc_new]
          generalize hwc : World.alloc ws _ = wc
          have R8 := Lib.hid (show wc.heap[ws.heap.size]? = some (.cells (actC b.r b.A b.c) 27 (0, 0)) by rw [← hwc]; exact heap_alloc_new ws _)
          have hbc : Below ws.heap.size ws wc := by rw [← hwc]; exact below1 ws _
          have R6c := Lib.hid ((hbc.block _ (lt_of_heap R6s.out)).trans R6s.out)
          have BC := Lib.hid (BR2.out.trans (hbc.mono BR2.out.size))
          have BWc := Lib.hid (BB.out.trans (BC.out.mono BB.out.size))
          generalize hg8 : ws.heap.size = g8 at *
          clear hwc hbc HR2 hg8 R6s
          go_wp2_with (first
            | (refine wpList_load_row rfl _ _ rfl g6 rfl 27 _ (0, 0) _ R6c.out Tryz.underlying27 rfl act_inf9 ?_)
            | (refine wpList_load_row rfl _ _ rfl g8 rfl 27 _ (0, 0) _ R8.out Tryz.underlying27 rfl act_inf9 ?_))
          refine (HC.out a.r b.r a.A b.A a.c b.c _ BWc.out).mono ?_
          generalize hv : RU.comm a.r b.r = v at *
          rintro e w9 ⟨rfl, hb9⟩
          have B9 := Lib.hid (BC.out.trans (hb9.mono BC.out.size))
          clear hb9
          cases v
          case false =>
            have HVf := Lib.hid (show V = false by rw [HV.out]; exact HF.out (HF2.out (by simp)))
            have BZ := Lib.hid (BB.out.trans (B9.out.mono BB.out.size))
            clear HV
            go_wp2_with fail
            go_ret
            exact ⟨by rw [HVf.out]; rfl, BZ.out⟩
          go_wp2_with fail
          go_roundw
          case rel => exact ⟨j + 1, by go_num, by omega, HT2.out (by simp), B9.out⟩
          case measure => simp [intOf]; omega
        · have hj' : j = m.length := by omega
          have hj1 : ¬ (j : Int) < (m.length : Int) := by omega
          have HAll := Lib.hid (show (m.all fun b => RU.comm a.r b.r) = true by have := HY2.out; rw [hj', List.take_length] at this; exact this)
          have BZ := Lib.hid (BB.out.trans (BR2.out.mono BB.out.size))
          clear hlt2 hj hj'
          go_wp2_with fail
          go_roundw
          case rel => exact ⟨i + 1, by go_num, by omega, HT.out HAll.out, BZ.out⟩
          case measure => simp [intOf]; omega
    · have hi' : i = l.length := by omega
      have hi1 : ¬ (i : Int) < (l.length : Int) := by omega
      have HVt := Lib.hid (show V = true by rw [HV.out]; have := HY.out; rw [hi', List.take_length] at this; exact this)
      clear hlt hi hi' HV
      go_wp2_with fail
      go_ret
      exact ⟨by rw [HVt.out]; rfl, BR.out⟩
end Go.Proofs.YtlpecaldodganaaGreatDoor
