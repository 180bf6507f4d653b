/- The walk of WholePrefix. -/
import Derived.Test.YtaaeefndhmfceaaDoorSp3
import Derived.Test.YtaaeefndhmfceaaDoorBig4
import Derived.Test.YtaaeefndhmfceaaDoorRef4b
import Derived.Test.YtaaeefndhmfceaaDoorOpn4
import Derived.Test.YtaaeefndhmfceaaDoorRec10
import Derived.Deep.RegionHeld3
namespace Go.Proofs.YtaaeefndhmfceaaDoor
open Go.RowKit MM

/-- What holds of an act that isn't too big. -/
theorem act_smallP {w : World} {a : AC.Ac} {A : Option Addr} {c : Nat} (_h : ActIn w a A c) (hb : AC.big a = false) : Lim a.make.list.length ∧ Lim a.key.size ∧ Lim a.s.size := by
  obtain ⟨h1, h2, h3⟩ := AC.big_not hb
  have := (big_not h3).1
  unfold Lim
  omega
def d4 : AC.Ac := ⟨2, ⟨#[97]⟩, 0, 0, ⟨#[]⟩, RC.zero, false⟩
theorem d4_ok : d4.ok := ⟨rfl, rfl, w0, RC.zero_ok⟩
theorem d4_bytes : bytesA d4 = [2, 0, 1, 97] := by
  unfold bytesA
  rw [if_pos (by decide +kernel)]
  show PK.digits 2 ++ ([0] ++ ((PK.digits 1 ++ [97]) ++ ([] ++ ([] ++ ([] ++ []))))) = _
  rw [dsm 2 (by omega), dsm 1 (by omega)]
  rfl
def s2 : RC.Rc := ⟨2, 0, 0, 0, 0, 0, ⟨#[]⟩, []⟩
theorem s2_ok : s2.ok := ⟨rfl, rfl, rfl, rfl, w0, rfl, fun x h => by cases h⟩
theorem s2_bytes : bytesOf s2 = [2, 0] := by
  unfold bytesOf
  rw [if_pos (by decide +kernel)]
  show PK.digits 2 ++ PK.digits 0 = _
  rw [dsm 2 (by omega), dsm 0 (by omega)]
  rfl
/-- No act's bytes begin another one's. -/
theorem actB_begins {a b : AC.Ac} (ha : a.ok) (hb : b.ok) (ca : AC.chk a = 0) (cb : AC.chk b = 0) (h : (AC.actB b).take (AC.actB a).length = AC.actB a) : a = b := by
  have h1 := actR_actB a ((AC.actB b).drop (AC.actB a).length) ha ca
  have h2 := actR_actB b [] hb cb
  have e : AC.actB a ++ (AC.actB b).drop (AC.actB a).length = AC.actB b := by
    have := List.take_append_drop (AC.actB a).length (AC.actB b)
    rw [h] at this
    exact this
  rw [e] at h1
  rw [List.append_nil, h1] at h2
  injection h2
theorem prefix_three {a b : AC.Ac} (ha : a.ok) (hb : b.ok) (ca : AC.chk a = 0) (cb : AC.chk b = 0) : (bytesA b).length < (bytesA a).length ∨ ((bytesA a).length ≤ (bytesA b).length ∧ (bytesA b).take (bytesA a).length ≠ bytesA a) ∨ ((bytesA a).length ≤ (bytesA b).length ∧ (bytesA b).take (bytesA a).length = bytesA a ∧ AC.same a b = true) := by
  have ea : bytesA a = AC.actB a := by unfold bytesA; rw [if_pos ca]
  have eb : bytesA b = AC.actB b := by unfold bytesA; rw [if_pos cb]
  rcases Nat.lt_or_ge (bytesA b).length (bytesA a).length with h | h
  · exact .inl h
  · refine .inr ?_
    by_cases ht : (bytesA b).take (bytesA a).length = bytesA a
    · refine .inr ⟨h, ht, ?_⟩
      rw [ea, eb] at ht
      rw [actB_begins ha hb ca cb ht]
      exact AC.same_refl' b
    · exact .inl ⟨h, ht⟩
theorem made_end {a : AC.Ac} (ha : a.ok) (ca : AC.chk a = 0) (hk : a.kind = 1) : (bytesOf a.make).length < (bytesA a).length ∧ (bytesA a).drop ((bytesA a).length - (bytesOf a.make).length) = bytesOf a.make := by
  have hm := AC.chk_may ha ca
  have hM : AC.hasM a.kind = true := by rw [hk]; rfl
  have e1 : bytesOf a.make = RC.recB a.make := by unfold bytesOf; rw [if_pos (hm.made hM)]
  have e2 : bytesA a = AC.actB a := by unfold bytesA; rw [if_pos ca]
  have e3 : AC.actB a = (PK.digits a.kind.toNat ++ (PK.flagB a.must ++ PK.textB a.key.data.toList)) ++ RC.recB a.make := by
    unfold AC.actB AC.fieldB AC.nB AC.xB AC.sB AC.mB
    rw [hk]
    simp [AC.hasN, AC.hasX, AC.hasS, AC.hasM]
  have e4 : 0 < (PK.digits a.kind.toNat).length := by
    rw [hk, show (1 : Int).toNat = 1 from rfl, dsm 1 (by omega)]; simp
  rw [e1, e2, e3]
  simp only [List.length_append]
  refine ⟨by omega, ?_⟩
  rw [show (PK.digits a.kind.toNat).length + ((PK.flagB a.must).length + (PK.textB a.key.data.toList).length) + (RC.recB a.make).length - (RC.recB a.make).length = (PK.digits a.kind.toNat ++ (PK.flagB a.must ++ PK.textB a.key.data.toList)).length by simp only [List.length_append]; omega]
  exact List.drop_left
theorem ext_take (xs : List UInt8) (n : Nat) : (⟨xs.toArray⟩ : ByteArray).extract 0 n = ⟨(xs.take n).toArray⟩ := by
  apply ByteArray.ext
  rw [ByteArray.data_extract]
  simp
theorem ext_drop (xs : List UInt8) (n : Nat) : (⟨xs.toArray⟩ : ByteArray).extract n xs.length = ⟨(xs.drop n).toArray⟩ := by
  apply ByteArray.ext
  rw [ByteArray.data_extract]
  simp
  exact List.take_of_length_le (by simp)
theorem str_to (xs : List UInt8) (n : Nat) (h : n ≤ xs.length) (w : World) : (Instr.slice 9 (.string ⟨xs.toArray⟩) none (some (.int .i64 (n : Int))) none).run Tryd.prog w = .ok (.string ⟨(xs.take n).toArray⟩) w := by
  have h1 : (n : Int) ≤ (xs.length : Int) := by omega
  have h0 : (0 : Int) ≤ (n : Int) := by omega
  rw [← ext_take]
  go_simp
theorem str_from (xs : List UInt8) (n : Nat) (h : n ≤ xs.length) (w : World) : (Instr.slice 9 (.string ⟨xs.toArray⟩) (some (.int .i64 (n : Int))) none none).run Tryd.prog w = .ok (.string ⟨(xs.drop n).toArray⟩) w := by
  have h1 : (n : Int) ≤ (xs.length : Int) := by omega
  have h0 : (0 : Int) ≤ (n : Int) := by omega
  rw [← ext_drop]
  go_simp
theorem arr_eqP (xs ys : List UInt8) : ((⟨xs.toArray⟩ : ByteArray).toList == (⟨ys.toArray⟩ : ByteArray).toList) = decide (xs = ys) := by
  rw [Lib.toList_data, Lib.toList_data, Bool.eq_iff_iff]
  simp
theorem prefix_keep {w1 w w' : World} {b : Nat} {f : Nat → Option Value} (hb : Below w.heap.size w w') (hB : Below w1.heap.size w1 w) (hl : b < w1.heap.size) (h : ∀ o, w.cell? ⟨b, o, none⟩ = f o) : ∀ o, w'.cell? ⟨b, o, none⟩ = f o :=
  fun o => (hb.cell (p := ⟨b, o, none⟩) (Nat.lt_of_lt_of_le hl hB.size)).trans (h o)

end Go.Proofs.YtaaeefndhmfceaaDoor
