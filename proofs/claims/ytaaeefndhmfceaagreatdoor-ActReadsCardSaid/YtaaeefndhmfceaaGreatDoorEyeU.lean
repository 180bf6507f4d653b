/- Contracts of the document's own answers for layer 2: an eye's numbers, faults and end. -/
import Derived.Test.YtaaeefndhmfceaaGreatDoorEyeQ
namespace Go.Proofs.YtaaeefndhmfceaaGreatDoor
open Go.RowKit MM

theorem Ey.drewN {w : World} {p : Nat} {A : Option Addr} {c : Nat} {bs : List UInt8} {at_ E : Nat} (h : Ey w p A c bs at_ E) (n : Nat) : Ey (w.drewN n) p A c bs at_ E := ⟨h.row, h.bts.drewN n, h.ne, h.cap, h.le, h.lim⟩
theorem kp2 (w : World) (p : Nat) (v : Value) : Kp (fun k => k = p) w (w.setCell ⟨p, 2, none⟩ v) := Kp.setCell (S := fun k => k = p) (p := ⟨p, 2, none⟩) (Kp.refl _ w) (.inl rfl) _
theorem Ey.set2 {w : World} {p : Nat} {A : Option Addr} {c : Nat} {bs : List UInt8} {at_ E : Nat} (h : Ey w p A c bs at_ E) (E' : Nat) : Ey (w.setCell ⟨p, 2, none⟩ (.int .i64 E')) p A c bs at_ E' :=
  ⟨heap_setCell_same _ p 2 _ _ _ h.row, Bts.set (p := p) h.bts h.ne (kp2 w p _), h.ne, h.cap, h.le, h.lim⟩

def KEy (p : Nat) (A : Option Addr) (c : Nat) (bs : List UInt8) (at_ E : Nat) (w : World) (e : Ending) (w' : World) : Prop := e = .returned (.tuple #[]) ∧ Ey w' p A c bs at_ E ∧ Kp (fun k => k = p) w w'

set_option maxHeartbeats 1000000 in
set_option maxRecDepth 100000 in
theorem efail_yes (p : Nat) (A : Option Addr) (c : Nat) (bs : List UInt8) (at_ code : Nat) (w : World) (he : Ey w p A c bs at_ 0) :
    Calls Tryz.prog 86 #[.pointer (some ⟨p, 0, none⟩), .int .i64 code] w (KEy p A c bs at_ code w) := by
  have HE := Lib.hid he
  have c0 := fun o => cell_of_row w _ o _ _ (0, 0) he.row
  have f0 : ∀ o, w.frozen? ⟨p, o, none⟩ = false := fun o => frozen_of_row _ _ o _ _ he.row
  clear he
  go_enter Tryz.func86, Tryz.ntmps86
  go_wp2_with fail
  go_end0
  exact ⟨rfl, HE.out.set2 code, kp2 w p _⟩

set_option maxHeartbeats 1000000 in
set_option maxRecDepth 100000 in
theorem efail_no (p : Nat) (A : Option Addr) (c : Nat) (bs : List UInt8) (at_ E code : Nat) (w : World) (hE : 0 < E) (he : Ey w p A c bs at_ E) :
    Calls Tryz.prog 86 #[.pointer (some ⟨p, 0, none⟩), .int .i64 code] w (KEy p A c bs at_ E w) := by
  have HE := Lib.hid he
  have c0 := fun o => cell_of_row w _ o _ _ (0, 0) he.row
  have h1 : ((E : Int) == 0) = false := by simp; omega
  clear he
  go_enter Tryz.func86, Tryz.ntmps86
  go_wp2_with fail
  go_end0
  exact ⟨rfl, HE.out, Kp.refl _ w⟩

set_option maxHeartbeats 1000000 in
set_option maxRecDepth 100000 in
/-- All was read, or what is left is too long; where something was wrong ahead it stays so. -/
theorem eend_any (p : Nat) (A : Option Addr) (c : Nat) (bs : List UInt8) (at_ E E' : Nat) (w : World) (he : Ey w p A c bs at_ E) (h : (bs.length ≤ at_ ∧ E' = E) ∨ (at_ < bs.length ∧ E = 0 ∧ E' = 3) ∨ (0 < E ∧ E' = E)) :
    Calls Tryz.prog 45 #[.pointer (some ⟨p, 0, none⟩)] w (KEy p A c bs at_ E' w) := by
  have HE := Lib.hid he
  have c0 := fun o => cell_of_row w _ o _ _ (0, 0) he.row
  have q0 : w.cell? ⟨p, 0, none⟩ = some (.slice A bs.length c) := (c0 0).trans rfl
  have q1 : w.cell? ⟨p, 1, none⟩ = some (.int .i64 at_) := (c0 1).trans rfl
  clear c0
  have hlb : (bs.length : Int) ≤ 4294967296 := by have := he.lim; unfold Lim at this; omega
  by_cases hlt : at_ < bs.length
  · rcases h with ⟨h, _⟩ | ⟨_, h0, h3⟩ | ⟨hE, h3⟩
    · omega
    · subst h0 h3
      have HF := Lib.hid (fun w' (he' : Ey w' p A c bs at_ 0) => efail_yes p A c bs at_ 3 w' he')
      clear he
      go_enter Tryz.func45, Tryz.ntmps45
      go_wp2_with fail
      go_quiet (fail)
      go_wp2_with fail
      refine (HF.out _ (HE.out.drewN _)).mono ?_
      rintro e w1 ⟨rfl, h1, h2⟩
      go_wp2_with fail
      go_end0
      exact ⟨rfl, h1, ((Kp.refl _ w).drewN _).same h2⟩
    · subst h3
      have HF := Lib.hid (fun w' (he' : Ey w' p A c bs at_ E') => efail_no p A c bs at_ E' 3 w' hE he')
      clear he
      go_enter Tryz.func45, Tryz.ntmps45
      go_wp2_with fail
      go_quiet (fail)
      go_wp2_with fail
      refine (HF.out _ (HE.out.drewN _)).mono ?_
      rintro e w1 ⟨rfl, h1, h2⟩
      go_wp2_with fail
      go_end0
      exact ⟨rfl, h1, ((Kp.refl _ w).drewN _).same h2⟩
  · obtain rfl : E' = E := by rcases h with ⟨_, h⟩ | ⟨h, _⟩ | ⟨_, h⟩; exact h; omega; exact h
    have hlt' : decide ((at_ : Int) < (bs.length : Int)) = false := by simp; omega
    clear he h
    go_enter Tryz.func45, Tryz.ntmps45
    go_wp2_with fail
    go_quiet (fail)
    go_wp2_with fail
    go_end0
    exact ⟨rfl, HE.out.drewN _, (Kp.refl _ w).drewN _⟩

/-- What Upto answers. -/
def UPost (p : Nat) (A : Option Addr) (c : Nat) (bs : List UInt8) (at_ : Nat) (r : Res Nat) (w : World) (e : Ending) (w' : World) : Prop :=
  Kp (fun k => k = p) w w' ∧ match r with
  | .ok x n => e = .returned (.int .i64 (x : Nat)) ∧ Ey w' p A c bs (at_ + n) 0
  | .bad code n => e = .returned (.int .i64 0) ∧ Ey w' p A c bs (at_ + n) code

set_option maxHeartbeats 1000000 in
set_option maxRecDepth 100000 in
theorem eupto_no (p : Nat) (A : Option Addr) (c : Nat) (bs : List UInt8) (at_ E : Nat) (m : Nat) (w : World) (hE : 0 < E) (he : Ey w p A c bs at_ E) :
    Calls Tryz.prog 85 #[.pointer (some ⟨p, 0, none⟩), .int .i64 m] w fun e w' => e = .returned (.int .i64 0) ∧ Below w.heap.size w w' := by
  have HP := Lib.hid (epart_no p A c bs at_ E 117 0 w hE he)
  have HE := Lib.hid he
  have h1 : ((E : Int) == 0) = false := by simp; omega
  have h2 : ((E : Int) != 0) = true := by simp; omega
  clear he
  go_enter Tryz.func85, Tryz.ntmps85
  go_wp2_with fail
  refine HP.out.mono ?_
  rintro e w1 ⟨rfl, hb1⟩
  have c0 := fun o => cell_of_row w1 _ o _ _ (0, 0) (HE.out.below hb1).row
  have hp1 := lt_of_heap (HE.out.below hb1).row
  go_wp2_with fail
  go_ret
  exact ⟨rfl, hb1.alloc hb1.size _⟩

set_option maxHeartbeats 1000000 in
set_option maxRecDepth 100000 in
theorem eupto_any (p : Nat) (A : Option Addr) (c : Nat) (bs : List UInt8) (at_ : Nat) (m : Nat) (w : World) (hm : m ≤ 1000) (he : Ey w p A c bs at_ 0) :
    Calls Tryz.prog 85 #[.pointer (some ⟨p, 0, none⟩), .int .i64 m] w (UPost p A c bs at_ (uptoR m (bs.drop at_)) w) := by
  have hP := epart_any p A c bs at_ 117 0 w (by omega) rfl he
  have hU : partR 117 0 (bs.drop at_) = Res.map (fun n => { PK.zeroPt 117 with u := n }) (numR (bs.drop at_)) := rfl
  rw [hU] at hP
  unfold uptoR
  cases hN : numR (bs.drop at_) with
  | bad code n =>
    rw [hN] at hP
    have hc := numR_bad_pos hN
    have HP := Lib.hid hP
    have h1 : ((code : Int) == 0) = false := by simp; omega
    have h2 : ((code : Int) != 0) = true := by simp; omega
    clear hP hU hN he
    go_enter Tryz.func85, Tryz.ntmps85
    go_wp2_with fail
    refine HP.out.mono ?_
    rintro e w1 ⟨hk1, rfl, he1⟩
    have HE := Lib.hid he1
    have c0 := fun o => cell_of_row w1 _ o _ _ (0, 0) he1.row
    have hp1 := lt_of_heap he1.row
    clear he1
    go_wp2_with fail
    go_ret
    exact ⟨hk1.alloc _, rfl, HE.out.below (below1 _ _)⟩
  | ok x n =>
    rw [hN] at hP
    have HP := Lib.hid hP
    have hw := numR_w hN
    have hW := Lib.hid (wrap_nat m hm)
    clear hP hU hN he
    by_cases ht : m < x
    · have ht' : decide ((m : Int) < (x : Int)) = true := by simp; omega
      simp only
      rw [if_pos (show tooB x (m : Int) = true by unfold tooB; simp; omega)]
      go_enter Tryz.func85, Tryz.ntmps85
      go_wp2_with fail
      refine HP.out.mono ?_
      rintro e w1 ⟨hk1, ⟨k, u, i, q, t, b, hpl, rfl⟩, he1⟩
      have hu : u = x := congrArg PK.Rp.u hpl
      subst hu
      have HE := Lib.hid he1
      have c0 := fun o => cell_of_row w1 _ o _ _ (0, 0) he1.row
      have f0 : ∀ o, w1.frozen? ⟨p, o, none⟩ = false := fun o => frozen_of_row _ _ o _ _ he1.row
      have hp1 := lt_of_heap he1.row
      have hp2 : ¬ p = w1.heap.size := by omega
      clear he1 hpl
      go_wp2_with fail
      go_ret
      exact ⟨(hk1.same (kp2 w1 p _)).alloc _, rfl, (HE.out.set2 1).below (below1 _ _)⟩
    · have ht' : decide ((m : Int) < (x : Int)) = false := by simp; omega
      have hx : (x : Int) ≤ 1000 := by omega
      simp only
      rw [if_neg (show ¬ tooB x (m : Int) = true by unfold tooB; simp; omega)]
      go_enter Tryz.func85, Tryz.ntmps85
      go_wp2_with fail
      refine HP.out.mono ?_
      rintro e w1 ⟨hk1, ⟨k, u, i, q, t, b, hpl, rfl⟩, he1⟩
      have hu : u = x := congrArg PK.Rp.u hpl
      subst hu
      have HE := Lib.hid he1
      have c0 := fun o => cell_of_row w1 _ o _ _ (0, 0) he1.row
      have hp1 := lt_of_heap he1.row
      have hp2 : ¬ p = w1.heap.size := by omega
      clear he1 hpl
      go_wp2_with fail
      go_ret
      exact ⟨hk1.alloc _, rfl, HE.out.below (below1 _ _)⟩

end Go.Proofs.YtaaeefndhmfceaaGreatDoor
