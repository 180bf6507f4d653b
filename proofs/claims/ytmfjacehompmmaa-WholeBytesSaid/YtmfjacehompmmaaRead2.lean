/- Contracts of package pack's reader, part by part. -/
import Derived.Test.YtmfjacehompmmaaRead
namespace Go.Proofs.Ytmfjacehompmmaa
open Go.RowKit MM

/-- Is a number above the greatest that may be? -/
def tooB (n : Nat) (m : Int) : Bool := decide (m.toNat < n)

set_option maxHeartbeats 400000 in
theorem above_calls (n : Nat) (m : Int) (w : World) (hm : (Lit.int .i64 m).wf = true) :
    Calls Try.prog 68 #[.int .u64 n, .int .i64 m] w fun e w' => e = .returned (.bool (tooB n m)) ∧ w = w' := by
  have hx : -9223372036854775808 ≤ m ∧ m ≤ 9223372036854775807 := by simpa [Lit.wf, IntKind.min, IntKind.max, IntKind.signed, IntKind.bits] using hm
  by_cases h0 : 0 ≤ m
  · have H := Lib.hid (show decide (IntKind.u64.wrap m < (n : Int)) = tooB n m by unfold tooB; rw [IntKind.wrap_u64, Bool.eq_iff_iff]; simp; omega)
    clear hx hm
    go_enter Try.func68, Try.ntmps68
    go_wp2
    go_ret
    exact ⟨ret_bool H.out, rfl⟩
  · have H := Lib.hid (show decide (0 < n) = tooB n m by unfold tooB; rw [Bool.eq_iff_iff]; simp; omega)
    clear hx hm
    go_enter Try.func68, Try.ntmps68
    go_wp2
    go_ret
    exact ⟨ret_bool H.out, rfl⟩

theorem numR_w {l : List UInt8} {n k : Nat} (h : numR l = .ok n k) : MF.W64 n := by
  unfold numR at h
  split at h
  · rename_i x y e
    injection h with h1 h2
    subst h1
    exact PK.numL_lt l 0 0 _ _ (by omega) (by decide) e
  · cases h
theorem zag_bits (n : Nat) (hn : MF.W64 n) : wrap64 (bits BinOp.xor IntKind.u64 ((n : Int) / 2) (IntKind.u64.wrap (-bits BinOp.and IntKind.u64 (n : Int) 1))) = PK.zag n := by
  unfold MF.W64 at hn
  have e1 : bits BinOp.and IntKind.u64 (n : Int) 1 = ((n % 2 : Nat) : Int) := by
    rw [show (1 : Int) = ((1 : Nat) : Int) from rfl, u64_and_nat n 1 hn (by omega), nat_mask1]
  have e2 : (n : Int) / 2 = ((n / 2 : Nat) : Int) := by omega
  rw [e1, e2, IntKind.wrap_u64]
  unfold PK.zag
  by_cases h : n % 2 = 1
  · rw [if_pos h, show (-((n % 2 : Nat) : Int)) % 18446744073709551616 = ((18446744073709551615 : Nat) : Int) by omega, u64_xor_nat _ _ (by omega) (by omega), Nat.xor_comm]
    have := MF.all_xor (n / 2) (by omega)
    rw [show IntKind.u64.max = ((18446744073709551615 : Nat) : Int) by decide, u64_xor_nat _ _ (by omega) (by omega)] at this
    rw [this]
    unfold wrap64
    omega
  · rw [if_neg h, show (-((n % 2 : Nat) : Int)) % 18446744073709551616 = ((0 : Nat) : Int) by omega, u64_xor_nat _ _ (by omega) (by omega), Nat.xor_zero]
    unfold wrap64
    omega
theorem val_i64 {z : Int} {n : Nat} (h : z = PK.zag n) : Value.int .i64 z = (fun n => Value.int .i64 (PK.zag n)) n := by rw [h]

set_option maxHeartbeats 1000000 in
set_option maxRecDepth 100000 in
theorem ri_any (p : Nat) (A : Option Addr) (c : Nat) (bs : List UInt8) (at_ : Nat) (w : World) (hr : Rd 5 w p A c bs at_) :
    Calls Try.prog 57 #[.pointer (some ⟨p, 0, none⟩)] w (RPost 5 30 p A c bs at_ (fun n => .int .i64 (PK.zag n)) (numR (bs.drop at_)) w) := by
  have hx := ru_any p A c bs at_ w hr
  cases hR : numR (bs.drop at_) with
  | ok n k =>
    rw [hR] at hx
    have Hx := Lib.hid hx
    have HZ := Lib.hid (zag_bits n (numR_w hR))
    clear hx hR
    go_enter Try.func57, Try.ntmps57
    go_wp2_with (go_at_call 56; refine Hx.out.mono ?_; rintro e w1 ⟨rfl, hr2, hk2⟩; clear Hx)
    go_ret
    exact RPost.mkOk rfl (val_i64 HZ.out) rfl hr2 hk2
  | bad code k =>
    rw [hR] at hx
    have Hx := Lib.hid hx
    clear hx hR
    go_enter Try.func57, Try.ntmps57
    go_wp2_with (go_at_call 56; refine Hx.out.mono ?_; rintro e w1 ⟨rfl, hr2, hk2⟩; clear Hx)
    exact ⟨rfl, RPost.mkBad rfl rfl (by omega) rfl hr2 hk2⟩

/-- Yes or no, in plain words. -/
def flagR (l : List UInt8) : Res Bool :=
  match l with
  | [] => .bad 2 0
  | c :: _ => if 1 < c.toNat then .bad 4 1 else .ok (c.toNat == 1) 1

set_option maxHeartbeats 1000000 in
set_option maxRecDepth 100000 in
theorem rflag_any (p : Nat) (A : Option Addr) (c : Nat) (bs : List UInt8) (at_ : Nat) (w : World) (hr : Rd 5 w p A c bs at_) :
    Calls Try.prog 48 #[.pointer (some ⟨p, 0, none⟩)] w (RPost 5 30 p A c bs at_ Value.bool (flagR (bs.drop at_)) w) := by
  have hx := next_any p A c bs at_ w hr
  cases hl : bs.drop at_ with
  | nil =>
    rw [hl] at hx
    have Hx := Lib.hid hx
    clear hx hl
    go_enter Try.func48, Try.ntmps48
    go_wp2_with (go_at_call 69; refine Hx.out.mono ?_; rintro e w1 ⟨rfl, hr2, hk2⟩; clear Hx)
    exact ⟨rfl, RPost.mkBad (n := 0) rfl rfl (by omega) rfl hr2 hk2⟩
  | cons cv l =>
    rw [hl] at hx
    have hx : Calls Try.prog 69 #[.pointer (some ⟨p, 0, none⟩)] w (fun e w' => e = .returned (.int .u8 cv.toNat) ∧ Rd 5 w' p A c bs (at_ + 1) ∧ Kp (fun k => k = p) w w') := hx
    have hF : flagR (cv :: l) = if 1 < cv.toNat then .bad 4 1 else .ok (cv.toNat == 1) 1 := rfl
    have HF := Lib.hid hF
    clear hF
    generalize cv.toNat = b at *
    have Hx := Lib.hid hx
    clear hx hl
    by_cases h1 : 1 < b
    · have HR := Lib.hid (HF.out.trans (if_pos h1))
      generalize flagR (cv :: l) = r at *
      go_enter Try.func48, Try.ntmps48
      go_wp2_with (first
        | (go_at_call 69; refine Hx.out.mono ?_; rintro e w1 ⟨rfl, hr2, hk2⟩; clear Hx)
        | (go_at_call 49; refine (fail_any p A c bs (at_ + 1) 4 _ hr2).mono ?_; rintro e w2 ⟨rfl, rfl⟩))
      exact ⟨rfl, RPost.mkBad HR.out rfl (by omega) rfl hr2 hk2⟩
    · have HR := Lib.hid (HF.out.trans (if_neg h1))
      generalize flagR (cv :: l) = r at *
      go_enter Try.func48, Try.ntmps48
      go_wp2_with (first
        | (go_at_call 69; refine Hx.out.mono ?_; rintro e w1 ⟨rfl, hr2, hk2⟩; clear Hx))
      go_ret
      exact RPost.mkOk HR.out (congrArg Value.bool (by rw [Bool.eq_iff_iff]; simp; omega)) rfl hr2 hk2

/-- A number that is at most that, in plain words. -/
def uptoR (m : Int) (l : List UInt8) : Res Nat :=
  match numR l with
  | .bad e k => .bad e k
  | .ok n k => if tooB n m then .bad 1 k else .ok n k

set_option maxHeartbeats 1000000 in
set_option maxRecDepth 100000 in
theorem rupto_any (p : Nat) (A : Option Addr) (c : Nat) (bs : List UInt8) (at_ : Nat) (m : Int) (w : World) (hm : (Lit.int .i64 m).wf = true) (hr : Rd 5 w p A c bs at_) :
    Calls Try.prog 46 #[.pointer (some ⟨p, 0, none⟩), .int .i64 m] w (RPost 5 30 p A c bs at_ (fun n : Nat => .int .i64 n) (uptoR m (bs.drop at_)) w) := by
  have hx := ru_any p A c bs at_ w hr
  have hU : uptoR m (bs.drop at_) = match numR (bs.drop at_) with | .bad e k => .bad e k | .ok n k => if tooB n m then .bad 1 k else .ok n k := rfl
  cases hR : numR (bs.drop at_) with
  | bad code k =>
    rw [hR] at hx hU
    have Hx := Lib.hid hx
    have HU := Lib.hid hU
    clear hx hR hU
    go_enter Try.func46, Try.ntmps46
    go_wp2_with (go_at_call 56; refine Hx.out.mono ?_; rintro e w1 ⟨rfl, hr2, hk2⟩; clear Hx)
    exact ⟨rfl, RPost.mkBad HU.out rfl (by omega) rfl hr2 hk2⟩
  | ok n k =>
    rw [hR] at hx hU
    have Hx := Lib.hid hx
    have hw := numR_w hR
    cases ht : tooB n m
    · have HU := Lib.hid (hU.trans (by show (if tooB n m = true then Res.bad 1 k else Res.ok n k) = Res.ok n k; rw [ht]; rfl))
      have HV := Lib.hid (show wrap64 (n : Int) = (n : Int) by
        have hx : -9223372036854775808 ≤ m ∧ m ≤ 9223372036854775807 := by simpa [Lit.wf, IntKind.min, IntKind.max, IntKind.signed, IntKind.bits] using hm
        unfold tooB at ht
        simp at ht
        unfold wrap64
        omega)
      clear hx hR hU hw
      go_enter Try.func46, Try.ntmps46
      go_wp2_with (first
        | (go_at_call 56; refine Hx.out.mono ?_; rintro e w1 ⟨rfl, hr2, hk2⟩; clear Hx)
        | (go_at_call 68; refine (above_calls n m _ hm).mono ?_; rintro e w2 ⟨rfl, rfl⟩))
      go_ret
      exact RPost.mkOk HU.out (by show Value.int .i64 (wrap64 (n : Int)) = Value.int .i64 (n : Int); rw [HV.out]) rfl hr2 hk2
    · have HU := Lib.hid (hU.trans (by show (if tooB n m = true then Res.bad 1 k else Res.ok n k) = Res.bad 1 k; rw [ht]; rfl))
      clear hx hR hU hw
      go_enter Try.func46, Try.ntmps46
      go_wp2_with (first
        | (go_at_call 56; refine Hx.out.mono ?_; rintro e w1 ⟨rfl, hr2, hk2⟩; clear Hx)
        | (go_at_call 68; refine (above_calls n m _ hm).mono ?_; rintro e w2 ⟨rfl, rfl⟩)
        | (go_at_call 49; refine (fail_any p A c bs (at_ + k) 1 _ hr2).mono ?_; rintro e w2 ⟨rfl, rfl⟩))
      exact ⟨rfl, RPost.mkBad HU.out rfl (by omega) rfl hr2 hk2⟩

/-- All was read, in plain words. -/
def endR (l : List UInt8) : Res Unit := if l = [] then .ok () 0 else .bad 3 0

set_option maxHeartbeats 1000000 in
set_option maxRecDepth 100000 in
theorem rend_any (p : Nat) (A : Option Addr) (c : Nat) (bs : List UInt8) (at_ : Nat) (w : World) (hr : Rd 5 w p A c bs at_) :
    Calls Try.prog 40 #[.pointer (some ⟨p, 0, none⟩)] w (RPost 5 30 p A c bs at_ (fun _ => .tuple #[]) (endR (bs.drop at_)) w) := by
  have hle := hr.le
  by_cases h : at_ < bs.length
  · have HE := Lib.hid (show endR (bs.drop at_) = .bad 3 0 by unfold endR; rw [if_neg (by intro e; have := congrArg List.length e; simp at this; omega)])
    have h0 : decide ((0 : Int) < ((bs.length - at_ : Nat) : Int)) = true := by simp; omega
    have h0' : (0 : Int) < ((bs.length - at_ : Nat) : Int) := by omega
    go_enter Try.func40, Try.ntmps40
    go_wp2_with (first
      | (go_at_call 60; refine (left_any p _ c bs at_ _ hr).mono ?_; rintro e w1 ⟨rfl, n, rfl⟩)
      | (go_at_call 49; refine (fail_any p A c bs at_ 3 _ (hr.drewN n)).mono ?_; rintro e w1 ⟨rfl, rfl⟩))
    exact ⟨rfl, RPost.mkBad (n := 0) HE.out rfl (by omega) rfl (hr.drewN n) ((Kp.refl _ w).drewN n)⟩
  · have HE := Lib.hid (show endR (bs.drop at_) = .ok () 0 by unfold endR; rw [if_pos (List.drop_eq_nil_of_le (by omega))])
    have hz : bs.length - at_ = 0 := by omega
    go_enter Try.func40, Try.ntmps40
    go_wp2_with (first
      | (go_at_call 60; refine (left_any p _ c bs at_ _ hr).mono ?_; rintro e w1 ⟨rfl, n, rfl⟩))
    go_end0
    exact RPost.mkOk (n := 0) HE.out rfl rfl (hr.drewN n) ((Kp.refl _ w).drewN n)

end Go.Proofs.Ytmfjacehompmmaa
