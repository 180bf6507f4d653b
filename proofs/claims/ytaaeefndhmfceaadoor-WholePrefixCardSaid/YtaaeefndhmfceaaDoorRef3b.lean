/- Contracts of the document's own answers for layer 3: may a record be? -/
import Derived.Test.YtaaeefndhmfceaaDoorRef3a
namespace RC
/-- Has a record no other fields than those? -/
def onlyB (t n b r l : Bool) (q : Rc) : Bool :=
  (t || (q.text.toList == (⟨#[]⟩ : ByteArray).toList)) && ((n || q.num == 0) && ((b || q.low == 0) && ((b || q.high == 0) && ((r || MF.same q.real 0) && (l || (q.cap == 0 && ((q.list.length : Int) == 0)))))))
end RC
namespace Go.Proofs.YtaaeefndhmfceaaDoor
open Go.RowKit MM

theorem proper_none (x : Nat) : MF.proper x = (!MF.nan x || x == 9221120237041090561) := by
  unfold MF.proper
  cases h : MF.nan x
  · rw [MF.canon_eq x false h]; simp
  · rw [MF.canon_eq x true h]; rfl

set_option maxHeartbeats 1000000 in
theorem rproper_any (x : Nat) (w : World) :
    Calls Tryd.prog 35 #[.float .f64 x] w fun e w' => e = .returned (.bool (MF.proper x)) ∧ w = w' := by
  have HP := Lib.hid (proper_none x)
  cases h : MF.nan x
  all_goals
    have Hn := Lib.hid h
    go_enter Tryd.func35, Tryd.ntmps35
    go_wp2_with (first
      | (go_at_call 66; refine (rnone_any x _ _ h).mono ?_; rintro e w' ⟨rfl, rfl⟩))
    go_ret
    exact ⟨ret_bool (by rw [HP.out, Hn.out]; first | rfl | (rw [Bool.eq_iff_iff]; simp; try omega)), rfl⟩

set_option maxHeartbeats 1000000 in
theorem rzero_any (x : Nat) (w : World) (hx : MF.W64 x) :
    Calls Tryd.prog 65 #[.float .f64 x] w fun e w' => e = .returned (.bool (MF.same x 0)) ∧ w = w' := by
  have h0 : MF.W64 0 := w0
  go_enter Tryd.func65, Tryd.ntmps65
  go_wp2_with (first
    | (go_at_call 51; refine (rsame_any x 0 _ hx h0).mono ?_; rintro e w' ⟨rfl, rfl⟩))
  go_ret
  exact ⟨rfl, rfl⟩

end Go.Proofs.YtaaeefndhmfceaaDoor
