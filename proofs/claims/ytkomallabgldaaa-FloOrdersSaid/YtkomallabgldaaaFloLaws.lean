/- The walks of layer 1's statements. -/
import Derived.Test.YtkomallabgldaaaFloSpeaks
namespace Go.Proofs.Ytkomallabgldaaa
open Go.RowKit

set_option maxHeartbeats 1000000 in
theorem floCanons_any (x : Nat) (w : World) :
    Calls Try.prog 3 #[.float .f64 x] w fun e w' => e = .returned (.bool true) ∧ w = w' := by
  cases hn : MF.nan x
  · have t : (FloatKind.f64.format.order x x != some .eq) = false := (MF.neq_self x).trans hn
    have c : MF.canon x = x := MF.canon_eq x false hn
    have p : MF.proper x = true := MF.proper_num hn
    clear hn
    go_enter Try.func3, Try.ntmps3
    go_wp2_with (first
      | (go_at_call 11; refine (floSpeaks_any _).mono ?_; rintro e w' ⟨rfl, rfl⟩)
      | (go_at_call 12; refine (canon_any _ _).mono ?_; rintro e w' ⟨rfl, rfl⟩)
      | (go_at_call 14; refine (proper_any _ _).mono ?_; rintro e w' ⟨rfl, rfl⟩))
    go_ret
    exact ⟨rfl, rfl⟩
  · have t : (FloatKind.f64.format.order x x != some .eq) = true := (MF.neq_self x).trans hn
    have hc : MF.canon x = 9221120237041090561 := MF.canon_eq x true hn
    have c : (((MF.canon x : Nat) : Int) == 9221120237041090561) = true := by rw [hc]; decide
    have p : MF.proper (MF.canon x) = true := MF.proper_canon x
    have q : MF.proper x = ((x : Int) == ((MF.canon x : Nat) : Int)) := by unfold MF.proper; rw [Bool.eq_iff_iff]; simp; omega
    have Q := Lib.hid q
    clear hn hc q
    cases px : MF.proper x
    all_goals
      have r : ((x : Int) == ((MF.canon x : Nat) : Int)) = _ := Q.out.symm.trans px
      go_enter Try.func3, Try.ntmps3
      go_wp2_with (first
        | (go_at_call 11; refine (floSpeaks_any _).mono ?_; rintro e w' ⟨rfl, rfl⟩)
        | (go_at_call 12; refine (canon_any _ _).mono ?_; rintro e w' ⟨rfl, rfl⟩)
        | (go_at_call 14; refine (proper_any _ _).mono ?_; rintro e w' ⟨rfl, rfl⟩))
      go_ret
      exact ⟨rfl, rfl⟩


set_option maxHeartbeats 1000000 in
theorem floKeys_any (x : Nat) (w : World) (hx : MF.W64 x) :
    Calls Try.prog 4 #[.float .f64 x] w fun e w' => e = .returned (.bool true) ∧ w = w' := by
  cases hn : MF.nan x
  · have t : (FloatKind.f64.format.order x x != some .eq) = false := (MF.neq_self x).trans hn
    have kk := MF.key_num hx hn
    have hx' : x < 18446744073709551616 := hx
    rcases MF.parts hx with ⟨h1, h2, h3⟩ | ⟨h1, h2, h3⟩
    · rw [h1, if_neg (by simp)] at kk
      have u : ((x : Int) / 9223372036854775808 == 1) = false := by simp; omega
      have v : (((MF.key x : Nat) : Int) == IntKind.u64.wrap ((x : Int) + 9223372036854775808)) = true := by rw [IntKind.wrap_u64]; simp; omega
      clear hn kk h1 h2 h3 hx'
      go_enter Try.func4, Try.ntmps4
      go_wp2_with (first
        | (go_at_call 11; refine (floSpeaks_any _).mono ?_; rintro e w' ⟨rfl, rfl⟩)
        | (go_at_call 15; refine (key_any _ _ (by assumption)).mono ?_; rintro e w' ⟨rfl, rfl⟩))
      go_ret
      exact ⟨rfl, rfl⟩
    · rw [h1, if_pos rfl] at kk
      have u : ((x : Int) / 9223372036854775808 == 1) = true := by simp; omega
      have v : (((MF.key x : Nat) : Int) == IntKind.u64.wrap (18446744073709551615 - (x : Int))) = true := by rw [IntKind.wrap_u64]; simp; omega
      clear hn kk h1 h2 h3 hx'
      go_enter Try.func4, Try.ntmps4
      go_wp2_with (first
        | (go_at_call 11; refine (floSpeaks_any _).mono ?_; rintro e w' ⟨rfl, rfl⟩)
        | (go_at_call 15; refine (key_any _ _ (by assumption)).mono ?_; rintro e w' ⟨rfl, rfl⟩))
      go_ret
      exact ⟨rfl, rfl⟩
  · have t : (FloatKind.f64.format.order x x != some .eq) = true := (MF.neq_self x).trans hn
    have kk := MF.key_nan hn
    have v : (((MF.key x : Nat) : Int) == 18444492273895866369) = true := by rw [kk]; decide
    clear hn kk
    go_enter Try.func4, Try.ntmps4
    go_wp2_with (first
      | (go_at_call 11; refine (floSpeaks_any _).mono ?_; rintro e w' ⟨rfl, rfl⟩)
      | (go_at_call 15; refine (key_any _ _ (by assumption)).mono ?_; rintro e w' ⟨rfl, rfl⟩))
    go_ret
    exact ⟨rfl, rfl⟩

set_option maxHeartbeats 1000000 in
theorem floOrders_any (a b : Nat) (w : World) (ha : MF.W64 a) (hb : MF.W64 b) :
    Calls Try.prog 5 #[.float .f64 a, .float .f64 b] w fun e w' => e = .returned (.bool true) ∧ w = w' := by
  cases l : MF.less a b
  all_goals
    cases s : MF.same a b
    all_goals
      have l' : decide (MF.key a < MF.key b) = _ := l
      have s' : (((MF.key a : Nat) : Int) == ((MF.key b : Nat) : Int)) = _ := (show (((MF.key a : Nat) : Int) == ((MF.key b : Nat) : Int)) = MF.same a b by unfold MF.same; rw [Bool.eq_iff_iff]; simp; omega).trans s
      go_enter Try.func5, Try.ntmps5
      go_wp2_with (first
        | (go_at_call 11; refine (floSpeaks_any _).mono ?_; rintro e w' ⟨rfl, rfl⟩)
        | (go_at_call 16; refine (rless_any _ _ _ (by assumption) (by assumption)).mono ?_; rintro e w' ⟨rfl, rfl⟩)
        | (go_at_call 17; refine (rsame_any _ _ _ (by assumption) (by assumption)).mono ?_; rintro e w' ⟨rfl, rfl⟩)
        | (go_at_call 18; refine (less_any _ _ _ (by assumption) (by assumption)).mono ?_; rintro e w' ⟨rfl, rfl⟩)
        | (go_at_call 19; refine (same_any _ _ _ (by assumption) (by assumption)).mono ?_; rintro e w' ⟨rfl, rfl⟩)
        | (go_at_call 15; refine (key_any _ _ (by assumption)).mono ?_; rintro e w' ⟨rfl, rfl⟩))
      go_ret
      exact ⟨rfl, rfl⟩


set_option maxHeartbeats 1000000 in
theorem floBacks_any (x k : Nat) (w : World) (hx : MF.W64 x) (hk : MF.W64 k) :
    Calls Try.prog 6 #[.float .f64 x, .int .u64 k] w fun e w' => e = .returned (.bool true) ∧ w = w' := by
  have hkx := MF.w_key hx
  have B1 := Lib.hid (show (if MF.proper (MF.bk (MF.key x)) = true then Value.tuple #[.float .f64 (MF.bk (MF.key x)), .bool true] else .tuple #[.float .f64 0, .bool false]) = .tuple #[.float .f64 (MF.canon x), .bool true] by rw [MF.bk_key hx, MF.proper_canon, if_pos rfl])
  cases p : MF.proper (MF.bk k)
  · have B2 := Lib.hid (show (if MF.proper (MF.bk k) = true then Value.tuple #[.float .f64 (MF.bk k), .bool true] else .tuple #[.float .f64 0, .bool false]) = .tuple #[.float .f64 0, .bool false] by rw [p, if_neg (by simp)])
    have ne : (((MF.key x : Nat) : Int) != (k : Int)) = true := by
      have : MF.key x ≠ k := by
        intro h; subst h; rw [MF.bk_key hx, MF.proper_canon] at p; cases p
      rw [bne_iff_ne]; omega
    clear p
    go_enter Try.func6, Try.ntmps6
    go_wp2_with (first
        | (go_at_call 11; refine (floSpeaks_any _).mono ?_; rintro e w' ⟨rfl, rfl⟩)
        | (go_at_call 22; refine (rmax_any _ _ _ (by assumption) (by assumption)).mono ?_; rintro e w' ⟨rfl, rfl⟩)
        | (go_at_call 24; refine (rmin_any _ _ _ (by assumption) (by assumption)).mono ?_; rintro e w' ⟨rfl, rfl⟩)
        | (go_at_call 18; refine (less_any _ _ _ (by assumption) (by assumption)).mono ?_; rintro e w' ⟨rfl, rfl⟩)
        | (go_at_call 19; refine (same_any _ _ _ (by assumption) (by assumption)).mono ?_; rintro e w' ⟨rfl, rfl⟩)
        | (go_at_call 21; refine (max_any _ _ _ (by assumption) (by assumption)).mono ?_; rintro e w' ⟨rfl, rfl⟩)
        | (go_at_call 23; refine (min_any _ _ _ (by assumption) (by assumption)).mono ?_; rintro e w' ⟨rfl, rfl⟩)
        | (go_at_call 14; refine (proper_any _ _).mono ?_; rintro e w' ⟨rfl, rfl⟩)
        | (go_at_call 12; refine (canon_any _ _).mono ?_; rintro e w' ⟨rfl, rfl⟩)
        | (go_at_call 29; refine (above_any _ _ (by assumption)).mono ?_; rintro e w' ⟨rfl, rfl⟩)
        | (go_at_call 15; refine (key_any _ _ (by assumption)).mono ?_; rintro e w' ⟨rfl, rfl⟩)
        | (go_at_call_of 20 (Value.int IntKind.u64 (MF.key x : Nat)); refine (back_any _ _ hkx).mono ?_; rw [B1.out]; rintro e w' ⟨rfl, rfl⟩)
        | (go_at_call_of 20 (Value.int IntKind.u64 (k : Nat)); refine (back_any _ _ hk).mono ?_; rw [B2.out]; rintro e w' ⟨rfl, rfl⟩))
    go_ret
    exact ⟨rfl, rfl⟩
  · have B2 := Lib.hid (show (if MF.proper (MF.bk k) = true then Value.tuple #[.float .f64 (MF.bk k), .bool true] else .tuple #[.float .f64 0, .bool false]) = .tuple #[.float .f64 (MF.bk k), .bool true] by rw [p, if_pos rfl])
    have hb := MF.w_bk hk
    have e1 : (((MF.key (MF.bk k) : Nat) : Int) == (k : Int)) = true := by rw [MF.key_bk hk p]; simp
    go_enter Try.func6, Try.ntmps6
    go_wp2_with (first
        | (go_at_call 11; refine (floSpeaks_any _).mono ?_; rintro e w' ⟨rfl, rfl⟩)
        | (go_at_call 22; refine (rmax_any _ _ _ (by assumption) (by assumption)).mono ?_; rintro e w' ⟨rfl, rfl⟩)
        | (go_at_call 24; refine (rmin_any _ _ _ (by assumption) (by assumption)).mono ?_; rintro e w' ⟨rfl, rfl⟩)
        | (go_at_call 18; refine (less_any _ _ _ (by assumption) (by assumption)).mono ?_; rintro e w' ⟨rfl, rfl⟩)
        | (go_at_call 19; refine (same_any _ _ _ (by assumption) (by assumption)).mono ?_; rintro e w' ⟨rfl, rfl⟩)
        | (go_at_call 21; refine (max_any _ _ _ (by assumption) (by assumption)).mono ?_; rintro e w' ⟨rfl, rfl⟩)
        | (go_at_call 23; refine (min_any _ _ _ (by assumption) (by assumption)).mono ?_; rintro e w' ⟨rfl, rfl⟩)
        | (go_at_call 14; refine (proper_any _ _).mono ?_; rintro e w' ⟨rfl, rfl⟩)
        | (go_at_call 12; refine (canon_any _ _).mono ?_; rintro e w' ⟨rfl, rfl⟩)
        | (go_at_call 29; refine (above_any _ _ (by assumption)).mono ?_; rintro e w' ⟨rfl, rfl⟩)
        | (go_at_call 15; refine (key_any _ _ (by assumption)).mono ?_; rintro e w' ⟨rfl, rfl⟩)
        | (go_at_call_of 20 (Value.int IntKind.u64 (MF.key x : Nat)); refine (back_any _ _ hkx).mono ?_; rw [B1.out]; rintro e w' ⟨rfl, rfl⟩)
        | (go_at_call_of 20 (Value.int IntKind.u64 (k : Nat)); refine (back_any _ _ hk).mono ?_; rw [B2.out]; rintro e w' ⟨rfl, rfl⟩))
    go_ret
    exact ⟨rfl, rfl⟩

set_option maxHeartbeats 1000000 in
theorem floAbove_any (x y : Nat) (w : World) (hx : MF.W64 x) (hy : MF.W64 y) :
    Calls Try.prog 9 #[.float .f64 x, .float .f64 y] w fun e w' => e = .returned (.bool true) ∧ w = w' := by
  have hn := MF.w_above hx
  have p : MF.proper (MF.above x) = true := MF.proper_above x
  cases n : MF.nan x
  · have t : (FloatKind.f64.format.order x x != some .eq) = false := (MF.neq_self x).trans n
    obtain ⟨l1, l2⟩ := MF.above_num hx n
    have m1 : MF.less x (MF.above x) = true := by unfold MF.less; simpa using l1
    have l3 := l2 y hy
    clear l1 l2 n
    cases m2 : MF.less x y
    all_goals
      have m3 : MF.less x y = true → MF.less y (MF.above x) = false := by
        intro h; unfold MF.less at h ⊢; simp at h ⊢; omega
      clear l3
      first
        | (have m4 := m3 m2
           clear m3
           go_enter Try.func9, Try.ntmps9
           go_wp2_with (first
        | (go_at_call 11; refine (floSpeaks_any _).mono ?_; rintro e w' ⟨rfl, rfl⟩)
        | (go_at_call 22; refine (rmax_any _ _ _ (by assumption) (by assumption)).mono ?_; rintro e w' ⟨rfl, rfl⟩)
        | (go_at_call 24; refine (rmin_any _ _ _ (by assumption) (by assumption)).mono ?_; rintro e w' ⟨rfl, rfl⟩)
        | (go_at_call 18; refine (less_any _ _ _ (by assumption) (by assumption)).mono ?_; rintro e w' ⟨rfl, rfl⟩)
        | (go_at_call 19; refine (same_any _ _ _ (by assumption) (by assumption)).mono ?_; rintro e w' ⟨rfl, rfl⟩)
        | (go_at_call 21; refine (max_any _ _ _ (by assumption) (by assumption)).mono ?_; rintro e w' ⟨rfl, rfl⟩)
        | (go_at_call 23; refine (min_any _ _ _ (by assumption) (by assumption)).mono ?_; rintro e w' ⟨rfl, rfl⟩)
        | (go_at_call 14; refine (proper_any _ _).mono ?_; rintro e w' ⟨rfl, rfl⟩)
        | (go_at_call 12; refine (canon_any _ _).mono ?_; rintro e w' ⟨rfl, rfl⟩)
        | (go_at_call 29; refine (above_any _ _ (by assumption)).mono ?_; rintro e w' ⟨rfl, rfl⟩)
        | (go_at_call 15; refine (key_any _ _ (by assumption)).mono ?_; rintro e w' ⟨rfl, rfl⟩))
           go_ret
           exact ⟨rfl, rfl⟩)
        | (clear m3
           go_enter Try.func9, Try.ntmps9
           go_wp2_with (first
        | (go_at_call 11; refine (floSpeaks_any _).mono ?_; rintro e w' ⟨rfl, rfl⟩)
        | (go_at_call 22; refine (rmax_any _ _ _ (by assumption) (by assumption)).mono ?_; rintro e w' ⟨rfl, rfl⟩)
        | (go_at_call 24; refine (rmin_any _ _ _ (by assumption) (by assumption)).mono ?_; rintro e w' ⟨rfl, rfl⟩)
        | (go_at_call 18; refine (less_any _ _ _ (by assumption) (by assumption)).mono ?_; rintro e w' ⟨rfl, rfl⟩)
        | (go_at_call 19; refine (same_any _ _ _ (by assumption) (by assumption)).mono ?_; rintro e w' ⟨rfl, rfl⟩)
        | (go_at_call 21; refine (max_any _ _ _ (by assumption) (by assumption)).mono ?_; rintro e w' ⟨rfl, rfl⟩)
        | (go_at_call 23; refine (min_any _ _ _ (by assumption) (by assumption)).mono ?_; rintro e w' ⟨rfl, rfl⟩)
        | (go_at_call 14; refine (proper_any _ _).mono ?_; rintro e w' ⟨rfl, rfl⟩)
        | (go_at_call 12; refine (canon_any _ _).mono ?_; rintro e w' ⟨rfl, rfl⟩)
        | (go_at_call 29; refine (above_any _ _ (by assumption)).mono ?_; rintro e w' ⟨rfl, rfl⟩)
        | (go_at_call 15; refine (key_any _ _ (by assumption)).mono ?_; rintro e w' ⟨rfl, rfl⟩))
           go_ret
           exact ⟨rfl, rfl⟩)
  · have t : (FloatKind.f64.format.order x x != some .eq) = true := (MF.neq_self x).trans n
    have u : (FloatKind.f64.format.order (MF.above x) (MF.above x) != some .eq) = true := (MF.neq_self _).trans (by rw [MF.above_nan n]; decide)
    clear n
    go_enter Try.func9, Try.ntmps9
    go_wp2_with (first
        | (go_at_call 11; refine (floSpeaks_any _).mono ?_; rintro e w' ⟨rfl, rfl⟩)
        | (go_at_call 22; refine (rmax_any _ _ _ (by assumption) (by assumption)).mono ?_; rintro e w' ⟨rfl, rfl⟩)
        | (go_at_call 24; refine (rmin_any _ _ _ (by assumption) (by assumption)).mono ?_; rintro e w' ⟨rfl, rfl⟩)
        | (go_at_call 18; refine (less_any _ _ _ (by assumption) (by assumption)).mono ?_; rintro e w' ⟨rfl, rfl⟩)
        | (go_at_call 19; refine (same_any _ _ _ (by assumption) (by assumption)).mono ?_; rintro e w' ⟨rfl, rfl⟩)
        | (go_at_call 21; refine (max_any _ _ _ (by assumption) (by assumption)).mono ?_; rintro e w' ⟨rfl, rfl⟩)
        | (go_at_call 23; refine (min_any _ _ _ (by assumption) (by assumption)).mono ?_; rintro e w' ⟨rfl, rfl⟩)
        | (go_at_call 14; refine (proper_any _ _).mono ?_; rintro e w' ⟨rfl, rfl⟩)
        | (go_at_call 12; refine (canon_any _ _).mono ?_; rintro e w' ⟨rfl, rfl⟩)
        | (go_at_call 29; refine (above_any _ _ (by assumption)).mono ?_; rintro e w' ⟨rfl, rfl⟩)
        | (go_at_call 15; refine (key_any _ _ (by assumption)).mono ?_; rintro e w' ⟨rfl, rfl⟩))
    go_ret
    exact ⟨rfl, rfl⟩


theorem grown_drewN {W w' : World} (h : Grown W w') (n : Nat) : Grown W (w'.drewN n) := h

set_option maxHeartbeats 2000000 in
theorem floLattice_any (a b c : Nat) (w : World) (ha : MF.W64 a) (hb : MF.W64 b) (hc : MF.W64 c) :
    Calls Try.prog 7 #[.float .f64 a, .float .f64 b, .float .f64 c] w fun e w' => e = .returned (.bool true) ∧ w = w' := by
  have w1 := MF.w_mx ha hb
  have w2 := MF.w_mn ha hb
  have w3 := MF.w_rmx ha hb
  have w4 := MF.w_rmn ha hb
  have w5 := MF.w_mx hb ha
  have w6 := MF.w_mn hb ha
  have w7 := MF.w_mx w1 hc
  have w8 := MF.w_mn w2 hc
  have w9 := MF.w_mx hb hc
  have w10 := MF.w_mn hb hc
  have w11 := MF.w_mx ha w9
  have w12 := MF.w_mn ha w10
  have w13 := MF.w_mx ha ha
  have w14 := MF.w_mn ha ha
  have w15 := MF.w_down
  have w16 := MF.w_nn
  have w17 := MF.w_mx ha w15
  have w18 := MF.w_mn ha w16
  have s1 : MF.same (MF.mx a b) (MF.rmx a b) = true := MF.same_of (by rw [MF.key_mx, MF.key_rmx])
  have s2 : MF.same (MF.mn a b) (MF.rmn a b) = true := MF.same_of (by rw [MF.key_mn, MF.key_rmn])
  have p1 : MF.proper (MF.mx a b) = true := MF.proper_mx a b
  have p2 : MF.proper (MF.mn a b) = true := MF.proper_mn a b
  have s3 : MF.same (MF.mx a b) (MF.mx b a) = true := MF.same_of (by rw [MF.key_mx, MF.key_mx]; omega)
  have s4 : MF.same (MF.mn a b) (MF.mn b a) = true := MF.same_of (by rw [MF.key_mn, MF.key_mn]; omega)
  have s5 : MF.same (MF.mx (MF.mx a b) c) (MF.mx a (MF.mx b c)) = true := MF.same_of (by rw [MF.key_mx, MF.key_mx, MF.key_mx, MF.key_mx]; omega)
  have s6 : MF.same (MF.mn (MF.mn a b) c) (MF.mn a (MF.mn b c)) = true := MF.same_of (by rw [MF.key_mn, MF.key_mn, MF.key_mn, MF.key_mn]; omega)
  have s7 : MF.same (MF.mx a a) a = true := MF.same_of (by rw [MF.key_mx]; omega)
  have s8 : MF.same (MF.mn a a) a = true := MF.same_of (by rw [MF.key_mn]; omega)
  have s9 : MF.same (MF.mx a 18442240474082181120) a = true := MF.same_of (by rw [MF.key_mx, MF.key_down]; have := (MF.key_bd ha).2; omega)
  have s10 : MF.same (MF.mn a 9221120237041090561) a = true := MF.same_of (by rw [MF.key_mn, MF.key_nn]; have := (MF.key_bd ha).1; omega)
  go_enter Try.func7, Try.ntmps7
  go_wp2_with (first
        | (go_at_call 11; refine (floSpeaks_any _).mono ?_; rintro e w' ⟨rfl, rfl⟩)
        | (go_at_call 22; refine (rmax_any _ _ _ (by assumption) (by assumption)).mono ?_; rintro e w' ⟨rfl, rfl⟩)
        | (go_at_call 24; refine (rmin_any _ _ _ (by assumption) (by assumption)).mono ?_; rintro e w' ⟨rfl, rfl⟩)
        | (go_at_call 18; refine (less_any _ _ _ (by assumption) (by assumption)).mono ?_; rintro e w' ⟨rfl, rfl⟩)
        | (go_at_call 19; refine (same_any _ _ _ (by assumption) (by assumption)).mono ?_; rintro e w' ⟨rfl, rfl⟩)
        | (go_at_call 21; refine (max_any _ _ _ (by assumption) (by assumption)).mono ?_; rintro e w' ⟨rfl, rfl⟩)
        | (go_at_call 23; refine (min_any _ _ _ (by assumption) (by assumption)).mono ?_; rintro e w' ⟨rfl, rfl⟩)
        | (go_at_call 14; refine (proper_any _ _).mono ?_; rintro e w' ⟨rfl, rfl⟩)
        | (go_at_call 12; refine (canon_any _ _).mono ?_; rintro e w' ⟨rfl, rfl⟩)
        | (go_at_call 29; refine (above_any _ _ (by assumption)).mono ?_; rintro e w' ⟨rfl, rfl⟩)
        | (go_at_call 15; refine (key_any _ _ (by assumption)).mono ?_; rintro e w' ⟨rfl, rfl⟩)
        | (go_at_call 25; refine (inf_down _).mono ?_; rintro e w' ⟨rfl, rfl⟩)
        | (go_at_call 26; refine (nan_calls _).mono ?_; rintro e w' ⟨rfl, rfl⟩))
  go_ret
  exact ⟨rfl, rfl⟩

end Go.Proofs.Ytkomallabgldaaa
