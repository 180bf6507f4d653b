/- Contracts of the document's own answers for layer 5: what an act does, whatever its kind. -/
import Derived.Test.YtbkcmnmbcldjoaaGreatDoorRef5fP7b
import Derived.Test.YtbkcmnmbcldjoaaGreatDoorR5XP7b
import Derived.Test.YtbkcmnmbcldjoaaGreatDoorRuWP7b
import Derived.Test.YtbkcmnmbcldjoaaGreatDoorRef5nP7b
import Derived.Test.YtbkcmnmbcldjoaaGreatDoorRef5oP7b
namespace Go.Proofs.YtbkcmnmbcldjoaaGreatDoor
open Go.RowKit MM
set_option linter.unusedVariables false
set_option linter.unusedSimpArgs false
theorem RU.laidG_congr {f f' g g' : RC.It → Bool} (x : RC.It) : ∀ (l : List RC.It) (d : Bool), (∀ y ∈ l, f y = f' y ∧ g y = g' y) → RU.laidG f g x l d = RU.laidG f' g' x l d
  | [], _, _ => rfl
  | y :: l, d, h => by
    have h0 := h y (List.mem_cons_self ..)
    have ih := fun d => RU.laidG_congr (f := f) (f' := f') (g := g) (g' := g') x l d (fun z hz => h z (List.mem_cons_of_mem _ hz))
    show (if !d && !f y then (if g y then y :: RU.laidG f g x l true else x :: y :: RU.laidG f g x l true) else y :: RU.laidG f g x l d) = (if !d && !f' y then (if g' y then y :: RU.laidG f' g' x l true else x :: y :: RU.laidG f' g' x l true) else y :: RU.laidG f' g' x l d)
    rw [ih, ih, h0.1, h0.2]
theorem RU.laid_set (s : ByteArray) (l : List RC.It) (h0 : ∀ y ∈ l, y.score = 0) : RU.laidG (fun y => RC.strLt y.name s) (fun y => RC.strEq y.name s) ⟨0, s⟩ l false = if RU.at_ l ⟨0, s⟩ then l else RU.lay l ⟨0, s⟩ := by
  rw [← RU.laid_better]
  refine RU.laidG_congr _ l false fun y hy => ?_
  have hy0 := h0 y hy
  obtain ⟨ys, yn⟩ := y
  have hy0 : ys = 0 := hy0
  subst hy0
  refine ⟨(RU.better0 _ _).symm, ?_⟩
  show RC.strEq yn s = (RC.strEq yn s && MF.same 0 0)
  rw [RC.same_refl, Bool.and_true]
theorem RU.joined_set {q : RC.Rc} {a : AC.Ac} (h0 : ∀ y ∈ q.list, y.score = 0) : ({ q with list := RU.laidG (fun y => RC.strLt y.name a.s) (fun y => RC.strEq y.name a.s) ⟨0, a.s⟩ q.list false } : RC.Rc) = RU.joined q a := by
  rw [RU.laid_set _ _ h0]
  unfold RU.joined
  cases RU.at_ q.list ⟨0, a.s⟩ <;> rfl
/-- What is known of a record, and of an act that is done to it. -/
structure Do5 (q : RC.Rc) (a : AC.Ac) : Prop where
  hq : q.ok
  ha : a.ok
  c : RC.chk q = 0
  ca : AC.chk a = 0
  on : (rowAt a.kind).on = q.kind
theorem Do5.set {q : RC.Rc} {a : AC.Ac} (h : Do5 q a) (hk : q.kind = 8) : (∀ y ∈ q.list, y.score = 0) ∧ RC.itemsE 8 none q.list = 0 ∧ RU.hasN q.list a.s = RU.at_ q.list ⟨0, a.s⟩ := by
  have hs := (list_of h.c (.inl hk)).1
  rw [hk] at hs
  have h0 : ∀ y ∈ q.list, y.score = 0 := fun y hy => (RC.fits_proper (h.hq.list y hy) ((RC.itemsE_zero hs y hy).2)).2 rfl
  exact ⟨h0, hs, RU.has_sorted a.s q.list none h0 hs⟩
theorem do5k_5 (q : RC.Rc) (a : AC.Ac) (A L : Option Addr) (c cl : Nat) (w : World) (h : Do5 q a) (hk : a.kind = 5) (hA : Its w A q.list) :
    Calls Tryz.prog 87 #[recV q A c, actV a L cl] w (D5Post (RU.doR q a).1 (RU.doR q a).2 w) := by
  obtain ⟨k, key, n, x, s, m, must⟩ := a
  have hk' : k = 5 := hk
  subst hk'
  have hd : RU.doR q ⟨5, key, n, x, s, m, must⟩ = ({ q with text := s }, RU.err 0) := by unfold RU.doR; simp
  rw [hd]
  exact do5_5 q key n x s m must A L c cl w hA
theorem do5k_6 (q : RC.Rc) (a : AC.Ac) (A L : Option Addr) (c cl : Nat) (w : World) (h : Do5 q a) (hk : a.kind = 6) (hA : Its w A q.list) :
    Calls Tryz.prog 87 #[recV q A c, actV a L cl] w (D5Post (RU.doR q a).1 (RU.doR q a).2 w) := by
  obtain ⟨k, key, n, x, s, m, must⟩ := a
  have hk' : k = 6 := hk
  subst hk'
  have hd : RU.doR q ⟨6, key, n, x, s, m, must⟩ = ({ q with text := s }, ⟨0, 0, q⟩) := by unfold RU.doR; simp
  rw [hd]
  exact do5_6 q key n x s m must A L c cl w hA (by have := (RC.chk_may h.hq h.c).len; unfold Lim; omega) _ _ rfl rfl
theorem do5k_7 (q : RC.Rc) (a : AC.Ac) (A L : Option Addr) (c cl : Nat) (w : World) (h : Do5 q a) (hk : a.kind = 7) (hA : Its w A q.list) :
    Calls Tryz.prog 87 #[recV q A c, actV a L cl] w (D5Post (RU.doR q a).1 (RU.doR q a).2 w) := by
  obtain ⟨k, key, n, x, s, m, must⟩ := a
  have hk' : k = 7 := hk
  subst hk'
  have hd : RU.doR q ⟨7, key, n, x, s, m, must⟩ = ({ q with num := RU.w64 (q.num + n) }, RU.err 0) := by unfold RU.doR; simp
  rw [hd]
  exact do5_7 q key n x s m must A L c cl w hA
theorem do5k_8 (q : RC.Rc) (a : AC.Ac) (A L : Option Addr) (c cl : Nat) (w : World) (h : Do5 q a) (hk : a.kind = 8) (hA : Its w A q.list) :
    Calls Tryz.prog 87 #[recV q A c, actV a L cl] w (D5Post (RU.doR q a).1 (RU.doR q a).2 w) := by
  obtain ⟨k, key, n, x, s, m, must⟩ := a
  have hk' : k = 8 := hk
  subst hk'
  have hd : RU.doR q ⟨8, key, n, x, s, m, must⟩ = if RU.plusOver q n = true then (q, RU.err 9) else ({ q with num := RU.w64 (q.num + n) }, RU.err 0) := by unfold RU.doR; simp
  rw [hd]
  have ho := overN_plus q n h.hq.num h.ha.n (i64_bd h.hq.num) (i64_bd h.ha.n)
  by_cases hc : RU.plusOver q n = true
  · rw [if_pos hc]
    exact do5_8no q key n x s m must A L c cl w hA (ho.trans hc)
  · rw [if_neg hc]
    exact do5_8ok q key n x s m must A L c cl w hA (ho.trans (by simpa using hc))
theorem do5k_9 (q : RC.Rc) (a : AC.Ac) (A L : Option Addr) (c cl : Nat) (w : World) (h : Do5 q a) (hk : a.kind = 9) (hA : Its w A q.list) :
    Calls Tryz.prog 87 #[recV q A c, actV a L cl] w (D5Post (RU.doR q a).1 (RU.doR q a).2 w) := by
  obtain ⟨k, key, n, x, s, m, must⟩ := a
  have hk' : k = 9 := hk
  subst hk'
  have hd : RU.doR q ⟨9, key, n, x, s, m, must⟩ = if n ≤ q.num then (q, RU.err 0) else (q, RU.err 11) := by unfold RU.doR; simp
  rw [hd]
  by_cases hc : n ≤ q.num
  · rw [if_pos hc]
    exact do5_9ok q key n x s m must A L c cl w hA (by omega)
  · rw [if_neg hc]
    exact do5_9no q key n x s m must A L c cl w hA (by omega)
theorem do5k_12 (q : RC.Rc) (a : AC.Ac) (A L : Option Addr) (c cl : Nat) (w : World) (h : Do5 q a) (hk : a.kind = 12) (hA : Its w A q.list) :
    Calls Tryz.prog 87 #[recV q A c, actV a L cl] w (D5Post (RU.doR q a).1 (RU.doR q a).2 w) := by
  obtain ⟨k, key, n, x, s, m, must⟩ := a
  have hk' : k = 12 := hk
  subst hk'
  have hd : RU.doR q ⟨12, key, n, x, s, m, must⟩ = if n ≤ q.num then (q, RU.err 0) else (q, RU.err 11) := by unfold RU.doR; simp
  rw [hd]
  by_cases hc : n ≤ q.num
  · rw [if_pos hc]
    exact do5_12ok q key n x s m must A L c cl w hA (by omega)
  · rw [if_neg hc]
    exact do5_12no q key n x s m must A L c cl w hA (by omega)
theorem do5k_10 (q : RC.Rc) (a : AC.Ac) (A L : Option Addr) (c cl : Nat) (w : World) (h : Do5 q a) (hk : a.kind = 10) (hA : Its w A q.list) :
    Calls Tryz.prog 87 #[recV q A c, actV a L cl] w (D5Post (RU.doR q a).1 (RU.doR q a).2 w) := by
  obtain ⟨k, key, n, x, s, m, must⟩ := a
  have hk' : k = 10 := hk
  subst hk'
  have hd : RU.doR q ⟨10, key, n, x, s, m, must⟩ = if q.high < RU.w64 (q.num + n) then (q, RU.err 9) else ({ q with num := RU.w64 (q.num + n) }, RU.err 0) := by unfold RU.doR; simp
  rw [hd]
  by_cases hc : q.high < RU.w64 (q.num + n)
  · rw [if_pos hc]
    exact do5_10no q key n x s m must A L c cl w hA hc
  · rw [if_neg hc]
    exact do5_10ok q key n x s m must A L c cl w hA hc
theorem do5k_11 (q : RC.Rc) (a : AC.Ac) (A L : Option Addr) (c cl : Nat) (w : World) (h : Do5 q a) (hk : a.kind = 11) (hA : Its w A q.list) :
    Calls Tryz.prog 87 #[recV q A c, actV a L cl] w (D5Post (RU.doR q a).1 (RU.doR q a).2 w) := by
  obtain ⟨k, key, n, x, s, m, must⟩ := a
  have hk' : k = 11 := hk
  subst hk'
  have hd : RU.doR q ⟨11, key, n, x, s, m, must⟩ = if RU.w64 (q.num - n) < q.low then (q, RU.err 10) else ({ q with num := RU.w64 (q.num - n) }, RU.err 0) := by unfold RU.doR; simp
  rw [hd]
  by_cases hc : RU.w64 (q.num - n) < q.low
  · rw [if_pos hc]
    exact do5_11no q key n x s m must A L c cl w hA hc
  · rw [if_neg hc]
    exact do5_11ok q key n x s m must A L c cl w hA hc
theorem do5k_13 (q : RC.Rc) (a : AC.Ac) (A L : Option Addr) (c cl : Nat) (w : World) (h : Do5 q a) (hk : a.kind = 13) (hA : Its w A q.list) :
    Calls Tryz.prog 87 #[recV q A c, actV a L cl] w (D5Post (RU.doR q a).1 (RU.doR q a).2 w) := by
  obtain ⟨k, key, n, x, s, m, must⟩ := a
  have hk' : k = 13 := hk
  subst hk'
  have hd : RU.doR q ⟨13, key, n, x, s, m, must⟩ = ({ q with real := MF.mx q.real x }, RU.err 0) := by unfold RU.doR; simp
  rw [hd]
  exact do5_13 q key n x s m must A L c cl w hA h.hq.real h.ha.x (RC.chk_may h.hq h.c).real (AC.chk_may h.ha h.ca).proper
theorem do5k_14 (q : RC.Rc) (a : AC.Ac) (A L : Option Addr) (c cl : Nat) (w : World) (h : Do5 q a) (hk : a.kind = 14) (hA : Its w A q.list) :
    Calls Tryz.prog 87 #[recV q A c, actV a L cl] w (D5Post (RU.doR q a).1 (RU.doR q a).2 w) := by
  obtain ⟨k, key, n, x, s, m, must⟩ := a
  have hk' : k = 14 := hk
  subst hk'
  have hd : RU.doR q ⟨14, key, n, x, s, m, must⟩ = ({ q with real := MF.mn q.real x }, RU.err 0) := by unfold RU.doR; simp
  rw [hd]
  exact do5_14 q key n x s m must A L c cl w hA h.hq.real h.ha.x (RC.chk_may h.hq h.c).real (AC.chk_may h.ha h.ca).proper
theorem do5k_15 (q : RC.Rc) (a : AC.Ac) (A L : Option Addr) (c cl : Nat) (w : World) (h : Do5 q a) (hk : a.kind = 15) (hA : Its w A q.list) :
    Calls Tryz.prog 87 #[recV q A c, actV a L cl] w (D5Post (RU.doR q a).1 (RU.doR q a).2 w) := by
  obtain ⟨k, key, n, x, s, m, must⟩ := a
  have hk' : k = 15 := hk
  subst hk'
  have hd : RU.doR q ⟨15, key, n, x, s, m, must⟩ = ({ q with real := MF.plus q.real x }, RU.err 0) := by unfold RU.doR; simp
  rw [hd]
  cases hs : Ieee.double.add q.real x with
  | none => exact do5_15none q key n x s m must A L c cl w hA hs _ _ rfl rfl
  | some z => exact do5_15some q key n x s m must A L c cl w hA z (MF.add_w hs) hs
theorem do5k_16 (q : RC.Rc) (a : AC.Ac) (A L : Option Addr) (c cl : Nat) (w : World) (h : Do5 q a) (hk : a.kind = 16) (hA : Its w A q.list) :
    Calls Tryz.prog 87 #[recV q A c, actV a L cl] w (D5Post (RU.doR q a).1 (RU.doR q a).2 w) := by
  obtain ⟨k, key, n, x, s, m, must⟩ := a
  have hk' : k = 16 := hk
  subst hk'
  have hd : RU.doR q ⟨16, key, n, x, s, m, must⟩ = ({ q with real := MF.times q.real x }, RU.err 0) := by unfold RU.doR; simp
  rw [hd]
  cases hs : Ieee.double.mul q.real x with
  | none => exact do5_16none q key n x s m must A L c cl w hA hs _ _ rfl rfl
  | some z => exact do5_16some q key n x s m must A L c cl w hA z (MF.mul_w hs) hs
theorem do5k_17 (q : RC.Rc) (a : AC.Ac) (A L : Option Addr) (c cl : Nat) (w : World) (h : Do5 q a) (hk : a.kind = 17) (hA : Its w A q.list) :
    Calls Tryz.prog 87 #[recV q A c, actV a L cl] w (D5Post (RU.doR q a).1 (RU.doR q a).2 w) := by
  obtain ⟨k, key, n, x, s, m, must⟩ := a
  have hk' : k = 17 := hk
  subst hk'
  have hd : RU.doR q ⟨17, key, n, x, s, m, must⟩ = ({ q with real := x }, RU.err 0) := by unfold RU.doR; simp
  rw [hd]
  exact do5_17 q key n x s m must A L c cl w hA
theorem do5k_18 (q : RC.Rc) (a : AC.Ac) (A L : Option Addr) (c cl : Nat) (w : World) (h : Do5 q a) (hk : a.kind = 18) (hA : Its w A q.list) :
    Calls Tryz.prog 87 #[recV q A c, actV a L cl] w (D5Post (RU.doR q a).1 (RU.doR q a).2 w) := by
  obtain ⟨k, key, n, x, s, m, must⟩ := a
  have hk' : k = 18 := hk
  subst hk'
  have hd : RU.doR q ⟨18, key, n, x, s, m, must⟩ = if RU.at_ q.list ⟨0, s⟩ = true ∨ (q.list.length : Int) < q.cap then (RU.joined q ⟨18, key, n, x, s, m, must⟩, RU.err 0) else (q, RU.err 8) := by unfold RU.doR; simp
  rw [hd]
  have h8 : q.kind = 8 := h.on.symm.trans (by rfl)
  obtain ⟨h0, hs, hh⟩ := h.set h8
  have hj := RU.joined_set (q := q) (a := ⟨18, key, n, x, s, m, must⟩) h0
  by_cases ha : RU.at_ q.list ⟨0, s⟩ = true
  · rw [if_pos (.inl ha)]
    exact do5_18has q key n x s m must A L c cl w hA (by have := (RC.chk_may h.hq h.c).len; omega) (hh.trans ha) _ _ hj.symm rfl
  · have hf : RU.hasN q.list s = false := hh.trans (by simpa using ha)
    by_cases hl : (q.list.length : Int) < q.cap
    · rw [if_pos (.inr hl)]
      exact do5_18ok q key n x s m must A L c cl w hA (by have := (RC.chk_may h.hq h.c).len; omega) hf (by omega) _ _ hj.symm rfl
    · rw [if_neg (by rintro (x | x); exact ha x; exact hl x)]
      exact do5_18no q key n x s m must A L c cl w hA (by have := (RC.chk_may h.hq h.c).len; unfold Lim; omega) hf (by omega) _ _ rfl rfl
theorem do5k_19 (q : RC.Rc) (a : AC.Ac) (A L : Option Addr) (c cl : Nat) (w : World) (h : Do5 q a) (hk : a.kind = 19) (hA : Its w A q.list) :
    Calls Tryz.prog 87 #[recV q A c, actV a L cl] w (D5Post (RU.doR q a).1 (RU.doR q a).2 w) := by
  obtain ⟨k, key, n, x, s, m, must⟩ := a
  have hk' : k = 19 := hk
  subst hk'
  have hd : RU.doR q ⟨19, key, n, x, s, m, must⟩ = (RU.left q ⟨19, key, n, x, s, m, must⟩, RU.err 0) := by unfold RU.doR; simp
  rw [hd]
  have h8 : q.kind = 8 := h.on.symm.trans (by rfl)
  obtain ⟨h0, hs, hh⟩ := h.set h8
  exact do5_19 q key n x s m must A L c cl w hA (by have := (RC.chk_may h.hq h.c).len; omega) _ _ (left_filter (a := ⟨19, key, n, x, s, m, must⟩) h0 hs) rfl
theorem do5k_20 (q : RC.Rc) (a : AC.Ac) (A L : Option Addr) (c cl : Nat) (w : World) (h : Do5 q a) (hk : a.kind = 20) (hA : Its w A q.list) :
    Calls Tryz.prog 87 #[recV q A c, actV a L cl] w (D5Post (RU.doR q a).1 (RU.doR q a).2 w) := by
  obtain ⟨k, key, n, x, s, m, must⟩ := a
  have hk' : k = 20 := hk
  subst hk'
  have hd : RU.doR q ⟨20, key, n, x, s, m, must⟩ = if RU.at_ q.list ⟨0, s⟩ = true then (q, RU.err 0) else (q, RU.err 11) := by unfold RU.doR; simp
  rw [hd]
  have h8 : q.kind = 8 := h.on.symm.trans (by rfl)
  obtain ⟨h0, hs, hh⟩ := h.set h8
  by_cases ha : RU.at_ q.list ⟨0, s⟩ = true
  · rw [if_pos ha]
    exact do5_20ok q key n x s m must A L c cl w hA (by have := (RC.chk_may h.hq h.c).len; unfold Lim; omega) (hh.trans ha)
  · rw [if_neg ha]
    exact do5_20no q key n x s m must A L c cl w hA (by have := (RC.chk_may h.hq h.c).len; unfold Lim; omega) (hh.trans (by simpa using ha))
theorem do5k_21 (q : RC.Rc) (a : AC.Ac) (A L : Option Addr) (c cl : Nat) (w : World) (h : Do5 q a) (hk : a.kind = 21) (hA : Its w A q.list) :
    Calls Tryz.prog 87 #[recV q A c, actV a L cl] w (D5Post (RU.doR q a).1 (RU.doR q a).2 w) := by
  obtain ⟨k, key, n, x, s, m, must⟩ := a
  have hk' : k = 21 := hk
  subst hk'
  have hd : RU.doR q ⟨21, key, n, x, s, m, must⟩ = (RU.offered q ⟨21, key, n, x, s, m, must⟩, RU.err 0) := by unfold RU.doR; simp
  rw [hd]
  have h9 : q.kind = 9 := h.on.symm.trans (by rfl)
  have hl := (list_of h.c (.inr h9)).2
  have hcap := (RC.chk_may h.hq h.c).cap
  have hi := RU.laid_better ⟨x, s⟩ q.list
  rw [← RU.ins_eq] at hi
  have ho := offered_ins (r := q) (a := ⟨21, key, n, x, s, m, must⟩) hl
  generalize hl2 : RU.ins ⟨x, s⟩ q.list = l2 at *
  have ho : RU.offered q ⟨21, key, n, x, s, m, must⟩ = { q with list := l2.take q.cap.toNat } := by rw [ho, ← hl2]
  by_cases hc : q.cap < (l2.length : Int)
  · exact do5_21cut q key n x s m must A L c cl w hA (by have := (RC.chk_may h.hq h.c).len; omega) h.hq.list h.ha.x l2 hi hcap.1 hc _ _ ho rfl
  · rw [List.take_of_length_le (by omega)] at ho
    exact do5_21ok q key n x s m must A L c cl w hA (by have := (RC.chk_may h.hq h.c).len; omega) h.hq.list h.ha.x l2 hi hc _ _ ho rfl
theorem do5_any (q : RC.Rc) (a : AC.Ac) (A L : Option Addr) (c cl : Nat) (w : World) (h : Do5 q a) (hk : 5 ≤ a.kind) (hA : Its w A q.list) :
    Calls Tryz.prog 87 #[recV q A c, actV a L cl] w (D5Post (RU.doR q a).1 (RU.doR q a).2 w) := by
  have hkn := (AC.chk_may h.ha h.ca).known
  have hx : a.kind = 5 ∨ a.kind = 6 ∨ a.kind = 7 ∨ a.kind = 8 ∨ a.kind = 9 ∨ a.kind = 10 ∨ a.kind = 11 ∨ a.kind = 12 ∨ a.kind = 13 ∨ a.kind = 14 ∨ a.kind = 15 ∨ a.kind = 16 ∨ a.kind = 17 ∨ a.kind = 18 ∨ a.kind = 19 ∨ a.kind = 20 ∨ a.kind = 21 := by omega
  rcases hx with hx | hx | hx | hx | hx | hx | hx | hx | hx | hx | hx | hx | hx | hx | hx | hx | hx
  · exact do5k_5 q a A L c cl w h hx hA
  · exact do5k_6 q a A L c cl w h hx hA
  · exact do5k_7 q a A L c cl w h hx hA
  · exact do5k_8 q a A L c cl w h hx hA
  · exact do5k_9 q a A L c cl w h hx hA
  · exact do5k_10 q a A L c cl w h hx hA
  · exact do5k_11 q a A L c cl w h hx hA
  · exact do5k_12 q a A L c cl w h hx hA
  · exact do5k_13 q a A L c cl w h hx hA
  · exact do5k_14 q a A L c cl w h hx hA
  · exact do5k_15 q a A L c cl w h hx hA
  · exact do5k_16 q a A L c cl w h hx hA
  · exact do5k_17 q a A L c cl w h hx hA
  · exact do5k_18 q a A L c cl w h hx hA
  · exact do5k_19 q a A L c cl w h hx hA
  · exact do5k_20 q a A L c cl w h hx hA
  · exact do5k_21 q a A L c cl w h hx hA
end Go.Proofs.YtbkcmnmbcldjoaaGreatDoor
namespace Go.Proofs.YtbkcmnmbcldjoaaGreatDoor
open Go.RowKit MM
set_option linter.unusedVariables false
set_option linter.unusedSimpArgs false
set_option maxHeartbeats 4000000 in
set_option maxRecDepth 100000 in
theorem r5apply_do (r : RC.Rc) (k : Int) (key : ByteArray) (n : Int) (x : Nat) (s : ByteArray) (m : RC.Rc) (must : Bool) (A L : Option Addr) (c cl : Nat) (w : World) (hr : r.ok) (ha : (⟨k, key, n, x, s, m, must⟩ : AC.Ac).ok) (hA : Its w A r.list) (hL : Its w L m.list) (n1 : Lim r.list.length) (n2 : Lim m.list.length) (n3 : Lim key.size) (n4 : Lim s.size) (hca : AC.chk ⟨k, key, n, x, s, m, must⟩ = 0) (hc3 : RC.chk r = 0) (hk : 5 ≤ k) (hon : (rowAt k).on = r.kind) (hr0 : ¬ r.kind = 0) (p : RC.Rc) (y : RU.Ans) (hd : RU.doR r ⟨k, key, n, x, s, m, must⟩ = (p, y)) :
    Calls Tryz.prog 50 #[recV r A c, .bool true, actV ⟨k, key, n, x, s, m, must⟩ L cl] w (R5Post p true y w) := by
  have b0 : (r.kind != 0) = true := by simpa using hr0
  have b1 : (k == 1) = false := by simp; omega
  have b2 : (k == 2) = false := by simp; omega
  have b3 : (k == 3) = false := by simp; omega
  have b4 : (k == 4) = false := by simp; omega
  have HX := Lib.hid (fun u A' c' (h : Its u A' r.list) => (show Calls Tryz.prog 87 #[recV r A' c', actV ⟨k, key, n, x, s, m, must⟩ L cl] u (D5Post p y u) from (by have := do5_any r ⟨k, key, n, x, s, m, must⟩ A' L c' cl u ⟨hr, ha, hc3, hca, hon⟩ hk h; rw [hd] at this; exact this)))
  clear hk hr0 hd
  have HC := Lib.hid (fun u (b : Below w.heap.size w u) => rcheck4_any ⟨k, key, n, x, s, m, must⟩ L cl u ha (hL.below b) n2 n3 n4)
  have HLm := Lib.hid hL
  have HN2 := Lib.hid n2
  have HO := Lib.hid (fun u (b : Below w.heap.size w u) => copied_any r A c u (hA.below b) n1)
  have HD := Lib.hid (fun u A' c' (h : Its u A' r.list) => rcheck_any r A' c' u hr h n1)
  have HN1 := Lib.hid n1
  have HAo := Lib.hid ha
  have HRo := Lib.hid hr
  clear hr ha hA hL n1 n2 n3 n4
  go_enter Tryz.func50, Tryz.ntmps50
  go_wp2_with fail
  refine (HO.out _ (below4 w _ _ _ _)).mono ?_
  rintro e w1 ⟨A1, k1, rfl, ho, hn, hb⟩
  have hs1 := hb.size
  simp only [World.size_alloc] at hs1 hn
  have e0 := (hb.block w.heap.size (by simp only [World.size_alloc]; omega)).trans (A5.row0 _ _ _ _ w)
  have e1 := (hb.block (w.heap.size + 1) (by simp only [World.size_alloc]; omega)).trans (A5.row1 _ _ _ _ w)
  have e2 := (hb.block (w.heap.size + 1 + 1) (by simp only [World.size_alloc]; omega)).trans (A5.row2 _ _ _ _ w)
  have e3 := (hb.block (w.heap.size + 1 + 1 + 1) (by simp only [World.size_alloc]; omega)).trans (A5.row3 _ _ _ _ w)
  have HB := Lib.hid (show Below w.heap.size w w1 from (below4 w _ _ _ _).trans (hb.mono (by simp only [World.size_alloc]; omega)))
  have E0 := Lib.hid e0
  have E1 := Lib.hid e1
  have E2 := Lib.hid e2
  have E3 := Lib.hid e3
  have HW := Lib.hid ho
  have HN := Lib.hid (show ∀ k, ob A1 = some k → w.heap.size + 4 ≤ k from fun k e => by have := hn k e; omega)
  have d0 := fun o => cell_of_row w1 _ o _ _ (0, 0) e0
  have d1 := fun o => cell_of_row w1 _ o _ _ (0, 0) e1
  have g0 : ∀ o, w1.frozen? ⟨w.heap.size, o, none⟩ = false := fun o => frozen_of_row _ _ o _ _ e0
  have z1 : w.heap.size + 1 < w1.heap.size := by omega
  clear hb e0 e1 e2 e3 ho hn
  go_wp2_with fail
  generalize hwz : World.setCell _ _ _ = wz
  have HA5 := Lib.hid (show A5 w r A1 k1 (actC ⟨k, key, n, x, s, m, must⟩ L cl) wz by
    have hkz : Kp (fun k => k = w.heap.size) w1 wz := by rw [← hwz]; exact kp8g (Kp.refl _ _) (Or.inl rfl)
    refine ⟨by rw [← hwz]; exact rec_stores E0.out, (hkz.block _ (lt_of_heap E1.out) (by omega)).trans E1.out, (hkz.block _ (lt_of_heap E2.out) (by omega)).trans E2.out, (hkz.block _ (lt_of_heap E3.out) (by omega)).trans E3.out, (Its.own HW.out).kp hkz (fun ad e x => by subst e; have := HN.out ad.block rfl; omega), HN.out, HB.out.trans (hkz.below (by omega) (fun i hi x => by omega))⟩)
  clear hwz d0 d1 g0 z1 E0 E1 E2 E3 HW HN HB hs1 HO
  refine (HC.out _ HA5.out.below).mono ?_
  rw [hca]
  rintro e w2 ⟨rfl, hb⟩
  have HA5 := Lib.hid (HA5.out.look hb)
  clear hb hca
  generalize w2 = wz at *
  have c0 := fun o => cell_of_row wz _ o _ _ (0, 0) HA5.out.r0
  have c1 := fun o => cell_of_row wz _ o _ _ (0, 0) HA5.out.r1
  go_wp2_with fail
  refine (HD.out _ _ _ HA5.out.its).mono ?_
  rw [hc3]
  rintro e w2 ⟨rfl, hb⟩
  have HA5 := Lib.hid (HA5.out.look hb)
  clear hb c0 c1 hc3
  generalize w2 = wz at *
  have c0 := fun o => cell_of_row wz _ o _ _ (0, 0) HA5.out.r0
  have c1 := fun o => cell_of_row wz _ o _ _ (0, 0) HA5.out.r1
  go_wp2_with fail
  refine (rOn_any k _).mono ?_
  rw [hon]
  clear hon
  rintro e w3 ⟨rfl, hb⟩
  have HA5 := Lib.hid (HA5.out.look hb)
  clear hb c0 c1
  generalize w3 = wz at *
  have c0 := fun o => cell_of_row wz _ o _ _ (0, 0) HA5.out.r0
  have c1 := fun o => cell_of_row wz _ o _ _ (0, 0) HA5.out.r1
  go_wp2_with fail
  refine (HX.out _ _ _ HA5.out.its).mono ?_
  rintro e w3 ⟨A2, k2, B2, b2, rfl, ho1, ho2, hb⟩
  have HA5 := Lib.hid (HA5.out.look hb)
  have HO1 := Lib.hid (show Its w3 A2 p.list from ho1)
  have HO2 := Lib.hid (show Its w3 B2 y.rc.list from ho2)
  have HH := Lib.hid hb
  clear hb c0 c1 ho1 ho2
  go_upto_region 26 with fail
  generalize hw4 : World.alloc (World.alloc w3 _) _ = w4
  have hb4 : Below w3.heap.size w3 w4 := by rw [← hw4]; exact below2 w3 _ _
  have S3 := Lib.hid (show w.heap.size + 1 + 1 + 1 < w3.heap.size from lt_of_heap HA5.out.r3)
  have F11 : w4.heap[w3.heap.size]? = some (.cells (recC p.kind p.num p.low p.high p.real p.cap p.text (.slice A2 p.list.length k2)) 25 (0, 0)) := by rw [← hw4]; exact heap_alloc2_old w3 _ _
  have F12 : w4.heap[w3.heap.size + 1]? = some (.cells (ansC y.code y.num y.rc B2 b2) 82 (0, 0)) := by rw [← hw4]; exact heap_alloc2_new w3 _ _
  have HA5 := Lib.hid (HA5.out.look hb4)
  have HO1 := Lib.hid (HO1.out.below hb4)
  have HO2 := Lib.hid (HO2.out.below hb4)
  have c0 := fun o => cell_of_row w4 _ o _ _ (0, 0) F11
  have c1 := fun o => cell_of_row w4 _ o _ _ (0, 0) F12
  have zz : w.heap.size + 1 + 1 + 1 < w3.heap.size := by rw [show w3.heap.size = w3.heap.size from rfl]; exact S3.out
  generalize hg : w3.heap.size = g3 at *
  have za : g3 ≠ w.heap.size + 1 + 1 := by omega
  have zb : w.heap.size + 1 + 1 ≠ g3 := by omega
  have zc : g3 + 1 ≠ w.heap.size + 1 + 1 := by omega
  have zd : w.heap.size + 1 + 1 ≠ g3 + 1 := by omega
  have ze : g3 ≠ w.heap.size + 1 + 1 + 1 := by omega
  have zf : w.heap.size + 1 + 1 + 1 ≠ g3 := by omega
  have zg : g3 + 1 ≠ w.heap.size + 1 + 1 + 1 := by omega
  have zh : w.heap.size + 1 + 1 + 1 ≠ g3 + 1 := by omega
  clear hw4 hb4 F11 F12 HH hg
  have c2 := fun o => cell_of_row w4 _ o _ _ (0, 0) HA5.out.r2
  have c3 := fun o => cell_of_row w4 _ o _ _ (0, 0) HA5.out.r3
  have f2 : ∀ o, w4.frozen? ⟨w.heap.size + 1 + 1, o, none⟩ = false := fun o => frozen_of_row _ _ o _ _ HA5.out.r2
  have f3 : ∀ o, w4.frozen? ⟨w.heap.size + 1 + 1 + 1, o, none⟩ = false := fun o => frozen_of_row _ _ o _ _ HA5.out.r3
  have HS2 := Lib.hid HA5.out.r2
  have HS3 := Lib.hid HA5.out.r3
  go_region_with (fail)
  all_goals
    go_wp2_with fail
    generalize hwf : World.drew _ = wf
    have X2 : wf.heap[w.heap.size + 1 + 1]? = some (.cells (recC p.kind p.num p.low p.high p.real p.cap p.text (.slice A2 p.list.length k2)) 25 (0, 0)) := by
      rw [← hwf, heap_drew]
      exact (ans_other (by omega)).trans (rec_stores HS2.out)
    have X3 : wf.heap[w.heap.size + 1 + 1 + 1]? = some (.cells (ansC y.code y.num y.rc B2 b2) 82 (0, 0)) := by
      rw [← hwf, heap_drew]
      exact ans_all ((rec_stores_other (by omega)).trans HS3.out)
    have hk : Kp (fun k => k = w.heap.size + 1 + 1 ∨ k = w.heap.size + 1 + 1 + 1) w4 wf := by
      rw [← hwf]
      exact (kp10 (kp8g (Kp.refl _ _) (Or.inl (Or.inl rfl))) (Or.inl (Or.inr rfl))).drew
    have HI := Lib.hid (HA5.out.lay hk HO1.out)
    have HJ := Lib.hid (HA5.out.lay hk HO2.out)
    have HB := Lib.hid (HA5.out.bel hk)
    have q2 := fun o => cell_of_row wf _ o _ _ (0, 0) X2
    have q3 := fun o => cell_of_row wf _ o _ _ (0, 0) X3
    clear hwf X2 X3 hk c0 c1 c2 c3 f2 f3
    exact bodyPost_ret (v := .tuple #[recV p A2 k2, .bool true, ansV y.code y.num y.rc B2 b2]) (by simp [results, Tryz.results50, go_sem, q2, q3]) rfl ⟨_, _, _, _, rfl, HI.out, HJ.out, HB.out⟩
end Go.Proofs.YtbkcmnmbcldjoaaGreatDoor
namespace Go.Proofs.YtbkcmnmbcldjoaaGreatDoor
open Go.RowKit MM
set_option linter.unusedVariables false
set_option linter.unusedSimpArgs false
theorem r5apply_any (r : RC.Rc) (there : Bool) (a : AC.Ac) (A L : Option Addr) (c cl : Nat) (w : World) (hr : r.ok) (ha : a.ok) (hA : Its w A r.list) (hL : Its w L a.make.list) (n1 : Lim r.list.length) (n2 : Lim a.make.list.length) (n3 : Lim a.key.size) (n4 : Lim a.s.size) :
    Calls Tryz.prog 50 #[recV r A c, .bool there, actV a L cl] w (R5Post (RU.apply r there a).1 (RU.apply r there a).2.1 (RU.apply r there a).2.2 w) := by
  obtain ⟨k, key, n, x, s, m, must⟩ := a
  cases there
  · have hd : RU.apply r false ⟨k, key, n, x, s, m, must⟩ = if refE RC.zero false ⟨k, key, n, x, s, m, must⟩ = 0 then ((RU.doR RC.zero ⟨k, key, n, x, s, m, must⟩).1, (RU.doR RC.zero ⟨k, key, n, x, s, m, must⟩).1.kind != 0, (RU.doR RC.zero ⟨k, key, n, x, s, m, must⟩).2) else (RC.zero, false, RU.err (refE RC.zero false ⟨k, key, n, x, s, m, must⟩)) := rfl
    have he : refE RC.zero false ⟨k, key, n, x, s, m, must⟩ = if AC.chk ⟨k, key, n, x, s, m, must⟩ ≠ 0 then AC.chk ⟨k, key, n, x, s, m, must⟩ else noneE k := rfl
    by_cases hca : AC.chk ⟨k, key, n, x, s, m, must⟩ = 0
    · rw [if_neg (by simp [hca])] at he
      by_cases h1 : k = 1
      · have hz : noneE k = 0 := by unfold noneE; rw [if_pos (.inl h1)]
        have hD : RU.doR RC.zero ⟨k, key, n, x, s, m, must⟩ = (m, RU.err 0) := by unfold RU.doR; simp [h1]
        have hm := (AC.chk_may ha hca).made (by unfold AC.hasM; simp [h1])
        rw [hd, he, hz, if_pos rfl, hD, show (m.kind != 0) = true by simpa using known_ne hm]
        exact r5apply_new r k key n x s m must A L c cl w hr ha hA hL n1 n2 n3 n4 hca h1
      by_cases h3 : k = 3
      · have hz : noneE k = 0 := by unfold noneE; rw [if_pos (.inr h3)]
        have hD : RU.doR RC.zero ⟨k, key, n, x, s, m, must⟩ = (RC.zero, ⟨0, RC.zero.kind, RC.zero⟩) := by unfold RU.doR; simp [h3]
        rw [hd, he, hz, if_pos rfl, hD]
        exact r5apply_is_f r k key n x s m must A L c cl w hr ha hA hL n1 n2 n3 n4 hca h3
      · have hz : noneE k = 6 := by unfold noneE; rw [if_neg (by rintro (x | x); exact h1 x; exact h3 x)]
        rw [hd, he, hz, if_neg (by omega)]
        exact r5apply_none r k key n x s m must A L c cl w hr ha hA hL n1 n2 n3 n4 hca h1 h3
    · rw [if_pos hca] at he
      rw [hd, he, if_neg hca]
      exact r5apply_bada_f r k key n x s m must A L c cl w hr ha hA hL n1 n2 n3 n4 hca
  · have hd : RU.apply r true ⟨k, key, n, x, s, m, must⟩ = if refE r true ⟨k, key, n, x, s, m, must⟩ = 0 then ((RU.doR r ⟨k, key, n, x, s, m, must⟩).1, (RU.doR r ⟨k, key, n, x, s, m, must⟩).1.kind != 0, (RU.doR r ⟨k, key, n, x, s, m, must⟩).2) else (r, true, RU.err (refE r true ⟨k, key, n, x, s, m, must⟩)) := rfl
    have he : refE r true ⟨k, key, n, x, s, m, must⟩ = if AC.chk ⟨k, key, n, x, s, m, must⟩ ≠ 0 then AC.chk ⟨k, key, n, x, s, m, must⟩ else if RC.chk r ≠ 0 then RC.chk r else kindE r.kind k := rfl
    by_cases hca : AC.chk ⟨k, key, n, x, s, m, must⟩ = 0
    case neg =>
      rw [if_pos hca] at he
      rw [hd, he, if_neg hca]
      exact r5apply_bada_t r k key n x s m must A L c cl w hr ha hA hL n1 n2 n3 n4 hca
    rw [if_neg (by simp [hca])] at he
    by_cases hc3 : RC.chk r = 0
    case neg =>
      rw [if_pos hc3] at he
      rw [hd, he, if_neg hc3]
      exact r5apply_badr r k key n x s m must A L c cl w hr ha hA hL n1 n2 n3 n4 hca hc3
    rw [if_neg (by simp [hc3])] at he
    have hkn : 0 < k ∧ k < 22 := (AC.chk_may ha hca).known
    have hrk := known_ne hc3
    by_cases h1 : k = 1
    · have hz : kindE r.kind k = 7 := by unfold kindE; rw [if_pos h1]
      rw [hd, he, hz, if_neg (by omega)]
      exact r5apply_there r k key n x s m must A L c cl w hr ha hA hL n1 n2 n3 n4 hca hc3 h1
    by_cases hon : (rowAt k).on ≠ 0 ∧ (rowAt k).on ≠ r.kind
    · have hz : kindE r.kind k = 5 := by unfold kindE; rw [if_neg h1, if_pos hon]
      rw [hd, he, hz, if_neg (by omega)]
      exact r5apply_kind r k key n x s m must A L c cl w hr ha hA hL n1 n2 n3 n4 hca hc3 h1 _ rfl hon.1 hon.2
    have hz : kindE r.kind k = 0 := by unfold kindE; rw [if_neg h1, if_neg hon]
    rw [hd, he, hz, if_pos rfl]
    by_cases h2 : k = 2
    · have hD : RU.doR r ⟨k, key, n, x, s, m, must⟩ = (RC.zero, RU.err 0) := by unfold RU.doR; simp [h2]
      rw [hD]
      exact r5apply_drop r k key n x s m must A L c cl w hr ha hA hL n1 n2 n3 n4 hca hc3 h2
    have hK : ((RU.doR r ⟨k, key, n, x, s, m, must⟩).1.kind != 0) = true := by rw [doR_kind (by show 3 ≤ k; omega)]; simpa using hrk
    rw [hK]
    by_cases h3 : k = 3
    · have hD : RU.doR r ⟨k, key, n, x, s, m, must⟩ = (r, ⟨0, r.kind, RC.zero⟩) := by unfold RU.doR; simp [h3]
      rw [hD]
      exact r5apply_is_t r k key n x s m must A L c cl w hr ha hA hL n1 n2 n3 n4 hca hc3 h3
    by_cases h4 : k = 4
    · have hD : RU.doR r ⟨k, key, n, x, s, m, must⟩ = (r, ⟨0, 0, r⟩) := by unfold RU.doR; simp [h4]
      rw [hD]
      exact r5apply_look r k key n x s m must A L c cl w hr ha hA hL n1 n2 n3 n4 hca hc3 h4
    have h0 : (rowAt k).on ≠ 0 := by
      have hx : k = 5 ∨ k = 6 ∨ k = 7 ∨ k = 8 ∨ k = 9 ∨ k = 10 ∨ k = 11 ∨ k = 12 ∨ k = 13 ∨ k = 14 ∨ k = 15 ∨ k = 16 ∨ k = 17 ∨ k = 18 ∨ k = 19 ∨ k = 20 ∨ k = 21 := by omega
      rcases hx with rfl | rfl | rfl | rfl | rfl | rfl | rfl | rfl | rfl | rfl | rfl | rfl | rfl | rfl | rfl | rfl | rfl <;> decide
    exact r5apply_do r k key n x s m must A L c cl w hr ha hA hL n1 n2 n3 n4 hca hc3 (by omega) (Decidable.not_not.1 fun x => hon ⟨h0, x⟩) hrk _ _ rfl
end Go.Proofs.YtbkcmnmbcldjoaaGreatDoor
