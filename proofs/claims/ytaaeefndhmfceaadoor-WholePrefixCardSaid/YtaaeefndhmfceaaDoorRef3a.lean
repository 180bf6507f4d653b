/- Contracts of the document's own answers for layer 3: items in order. -/
import Derived.Test.YtaaeefndhmfceaaDoorSp3
namespace RC
theorem less_same {a b : Nat} (h : MF.same a b = true) : MF.less a b = false := by
  unfold MF.same at h; unfold MF.less
  have h := of_decide_eq_true h
  simp; omega
theorem better_eq (a b : It) : better a b = (MF.less b.score a.score || (MF.same a.score b.score && strLt a.name b.name)) := by
  unfold better
  cases hs : MF.same a.score b.score
  · simp
  · rw [less_same (by rw [same_comm]; exact hs)]; simp
theorem better_irrefl (a : It) : better a a = false := by
  unfold better; rw [if_pos (same_refl _), strLt_irrefl]
theorem better_iff (a b : It) : better a b = true ↔ (MF.key b.score < MF.key a.score ∨ (MF.key a.score = MF.key b.score ∧ strLt a.name b.name = true)) := by
  rw [better_eq]; unfold MF.less MF.same; simp
theorem better_asymm {a b : It} (h : better a b = true) : better b a = false := by
  rw [Bool.eq_false_iff]; intro k
  rw [better_iff] at h k
  rcases h with h | ⟨h, h'⟩ <;> rcases k with k | ⟨k, k'⟩
  · omega
  · omega
  · omega
  · rw [strLt_asymm h'] at k'; cases k'
theorem better_trans {a b c : It} (h : better a b = true) (k : better b c = true) : better a c = true := by
  rw [better_iff] at *
  rcases h with h | ⟨h, h'⟩ <;> rcases k with k | ⟨k, k'⟩
  · exact .inl (by omega)
  · exact .inl (by omega)
  · exact .inl (by omega)
  · exact .inr ⟨by omega, strLt_trans h' k'⟩
end RC
namespace Go.Proofs.YtaaeefndhmfceaaDoor
open Go.RowKit MM

theorem below_a (w : World) : Below w.heap.size w w.drew := below_drew (Below.refl _ _)

set_option maxHeartbeats 1000000 in
set_option maxRecDepth 100000 in
theorem rahead_any (a b : RC.It) (w : World) (ha : MF.W64 a.score) (hb : MF.W64 b.score) :
    Calls Tryd.prog 68 #[itV a, itV b] w fun e w' => e = .returned (.bool (RC.better a b)) ∧ Below w.heap.size w w' := by
  have HB := Lib.hid (RC.better_eq a b)
  obtain ⟨sa, na⟩ := a
  obtain ⟨sb, nb⟩ := b
  replace ha : MF.W64 sa := ha
  replace hb : MF.W64 sb := hb
  cases h1 : MF.less sb sa
  all_goals cases h2 : MF.same sa sb
  all_goals
    have H1 := Lib.hid h1
    have H2 := Lib.hid h2
    clear h1 h2
    go_enter Tryd.func68, Tryd.ntmps68
    go_wp2_with (first
      | (go_at_call 101; refine (rless_any sb sa _ hb ha).mono ?_; rw [H1.out]; rintro e w' ⟨rfl, rfl⟩)
      | (go_at_call 51; refine (rsame_any sa sb _ ha hb).mono ?_; rw [H2.out]; rintro e w' ⟨rfl, rfl⟩))
    go_ret
    exact ⟨ret_bool (by rw [HB.out, H1.out, H2.out]; rfl), below2 w _ _⟩

end Go.Proofs.YtaaeefndhmfceaaDoor
