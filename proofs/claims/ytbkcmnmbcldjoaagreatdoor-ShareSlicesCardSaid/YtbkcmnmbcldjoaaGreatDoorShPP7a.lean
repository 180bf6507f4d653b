/- Layer 7, plain: with empty slices a record is as it was. -/
import Derived.Test.YtbkcmnmbcldjoaaGreatDoorSh5P7a
namespace Go.Proofs.YtbkcmnmbcldjoaaGreatDoor
open Go.RowKit MM
set_option linter.unusedVariables false
set_option linter.unusedSimpArgs false
theorem w64_id {n : Int} (h : RC.I64 n) : RU.w64 n = n := by
  have h1 : IntKind.i64.min = -9223372036854775808 := by decide
  have h2 : IntKind.i64.max = 9223372036854775807 := by decide
  unfold RC.I64 at h
  simp only [Lit.wf, Bool.and_eq_true, decide_eq_true_eq, h1, h2] at h
  unfold RU.w64 wrap64
  omega
theorem SH.slice_chk {r : RC.Rc} (h : (SH.slice r).2 = true) : RC.chk r = 0 := by
  unfold SH.slice at h
  split at h
  · cases h
  · rename_i hn; exact Decidable.of_not_not hn
theorem SH.slice_empty {r : RC.Rc} (h : RC.chk r = 0) : SH.slice r = SH.empty r.kind r.cap := by
  unfold SH.slice
  rw [if_neg (by rw [h]; simp)]
theorem SH.empty_list (k c : Int) : (SH.empty k c).1.list = [] := by
  unfold SH.empty
  split
  · rfl
  · split
    · rfl
    · split
      · rfl
      · split
        · rfl
        · split <;> rfl
theorem SH.slice_list (r : RC.Rc) : (SH.slice r).1.list = [] := by
  unfold SH.slice
  split
  · rfl
  · exact SH.empty_list _ _
theorem SH.empty_ok {k c : Int} (hc : RC.I64 c) : (SH.empty k c).1.ok := by
  have z : ∀ x ∈ ([] : List RC.It), MF.W64 x.score := fun x h => by cases h
  have w0 : MF.W64 0 := by unfold MF.W64; decide
  unfold SH.empty
  split
  · exact ⟨rfl, rfl, rfl, rfl, w0, rfl, z⟩
  · split
    · exact ⟨rfl, rfl, rfl, rfl, MF.w_down, rfl, z⟩
    · split
      · exact ⟨rfl, rfl, rfl, rfl, MF.w_nn, rfl, z⟩
      · split
        · exact ⟨rfl, rfl, rfl, rfl, w0, rfl, z⟩
        · split
          · exact ⟨rfl, rfl, rfl, rfl, w0, hc, z⟩
          · exact RC.zero_ok
theorem SH.slice_ok {r : RC.Rc} (hr : r.ok) : (SH.slice r).1.ok := by
  unfold SH.slice
  split
  · exact RC.zero_ok
  · exact SH.empty_ok hr.cap
theorem SH.regains_nil (kind : Int) (l : List RC.Rc) (h : ∀ p ∈ l, p.list = []) : SH.regains kind l = [] := by
  unfold SH.regains
  split
  · rw [List.flatMap_eq_nil_iff]
    intro p hp
    rw [h p hp]
    rfl
  · rfl
theorem SH.put_slice {r : RC.Rc} (hr : r.ok) (hc : RC.chk r = 0) : SH.put r.kind r (SH.empty r.kind r.cap).1 = r := by
  have hm := RC.chk_may hr hc
  have h9 := RC.kind9 hm.known
  have hn := w64_id hr.num
  have hp := RC.proper_eq hm.real
  unfold SH.put
  split
  · rename_i h
    unfold SH.empty
    rw [if_pos h]
    show ({ r with num := RU.w64 (r.num + 0) } : RC.Rc) = r
    rw [Int.add_zero, hn]
  · split
    · rename_i h0 h
      unfold SH.empty
      rw [if_neg h0, if_pos h]
      show ({ r with real := MF.mx r.real 18442240474082181120 } : RC.Rc) = r
      have hx : MF.mx r.real 18442240474082181120 = r.real := by
        rw [MF.mx_no, hp]
        unfold MF.less
        have := (MF.key_bd hr.real).2
        rw [MF.key_down]
        exact decide_eq_false (by omega)
      rw [hx]
    · split
      · rename_i h0 h1 h
        unfold SH.empty
        rw [if_neg h0, if_neg h1, if_pos h]
        show ({ r with real := MF.mn r.real 9221120237041090561 } : RC.Rc) = r
        have hx : MF.mn r.real 9221120237041090561 = r.real := by
          rw [MF.mn_no, hp]
          unfold MF.less
          have := (MF.key_bd hr.real).1
          rw [MF.key_nn]
          exact decide_eq_false (by omega)
        rw [hx]
      · rfl
theorem put_many {r p : RC.Rc} (h : SH.put r.kind r p = r) : ∀ n, (List.replicate n p).foldl (SH.put r.kind) r = r
  | 0 => rfl
  | n + 1 => by
    rw [List.replicate_succ, List.foldl_cons, h]
    exact put_many h n
/-- With empty slices a record is as it was. -/
theorem SH.merge_slices {r : RC.Rc} (hr : r.ok) (h : (SH.slice r).2 = true) (n : Nat) : SH.merge r (List.replicate n (SH.slice r).1) = r := by
  have hc := SH.slice_chk h
  unfold SH.merge
  rw [SH.regains_nil _ _ (fun p hp => by rw [List.eq_of_mem_replicate hp]; exact SH.slice_list r)]
  show (List.replicate n (SH.slice r).1).foldl (SH.put r.kind) r = r
  refine put_many ?_ n
  rw [SH.slice_empty hc]
  exact SH.put_slice hr hc
end Go.Proofs.YtbkcmnmbcldjoaaGreatDoor
