/- Contract of package roll: Open. -/
import Derived.Test.YtlaecnggbcagcaaRl8
namespace Go.Proofs.Ytlaecnggbcagcaa
open Go.RowKit MM
set_option linter.unusedVariables false
set_option linter.unusedSimpArgs false

/-- What Open tells of an area that may be used. -/
def OpenRl (T : Nat → Prop) (d : Dk) (p f n : Nat) (w : World) (x : Ending) (w' : World) : Prop :=
  Kp T w w' ∧ ∃ (es r : List (List UInt8)) (m : Nat), Scn (areaL d f n) es r ∧ m + r.length = n ∧
    (((d.wipe ((f : Int) + (m : Int)) ((n : Int) - (m : Int))).2 = 0 ∧ ∃ (q : Nat) (A : Option Addr) (c : Nat) (vs : List Value) (U : Nat → Prop), x = .returned (.tuple #[.pointer (some ⟨q, 0, none⟩), .slice A es.length c, .int .i64 0]) ∧ RlAt w' q p (f + m) (f + n) ∧
        OwnT (fun k => T k ∧ ¬ U k) w' p (d.wipe ((f : Int) + (m : Int)) ((n : Int) - (m : Int))).1 ∧ EntsO w' (fun k => U k ∧ k ≠ q) A c es vs ∧ U q ∧ ∀ k, U k → w.heap.size ≤ k ∧ k < w'.heap.size) ∨
      ((d.wipe ((f : Int) + (m : Int)) ((n : Int) - (m : Int))).2 ≠ 0 ∧ x = .returned (.tuple #[.pointer none, .slice none 0 0, .int .i64 ((d.wipe ((f : Int) + (m : Int)) ((n : Int) - (m : Int))).2 : Nat)]) ∧ OwnT T w' p (d.wipe ((f : Int) + (m : Int)) ((n : Int) - (m : Int))).1))

set_option maxHeartbeats 1000000 in
set_option maxRecDepth 100000 in
theorem ropen_err (T : Nat → Prop) (p : Nat) (d : Dk) (f n : Int) (hf : -9223372036854775808 ≤ f ∧ f ≤ 9223372036854775807) (w : World) (he : areaE d f n ≠ 0) (h : OwnT T w p d) :
    Calls Try.prog 41 #[.pointer (some ⟨p, 0, none⟩), .agg (arV f n)] w fun e w' => e = .returned (.tuple #[.pointer none, .slice none 0 0, .int .i64 (areaE d f n : Nat)]) ∧ OwnT T w' p d ∧ Below w.heap.size w w' := by
  have hA := (Below.refl w.heap.size w).alloc (Nat.le_refl _) (.cells (arV f n) 65)
  have HSc := Lib.hid (scan_err p T d f n hf _ he (h.1.below hA))
  have HB := Lib.hid hA
  have HA := Lib.hid (h.below hA)
  have hne : ¬ ((areaE d f n : Nat) : Int) = 0 := by omega
  generalize areaE d f n = e at *
  clear h hA he
  go_enter Try.func41, Try.ntmps41
  go_wp2_with (first
    | (refine wpList_load_row rfl _ _ rfl w.heap.size rfl 65 _ (0, 0) _ (heap_alloc_new _ _) Try.underlying65 rfl (area_info f n) ?_)
    | (go_at_call 40; refine HSc.out.mono ?_; rintro e w2 ⟨rfl, hb2⟩; have HB2 := Lib.hid hb2; clear hb2))
  go_ret3
  exact ⟨rfl, HA.out.below HB2.out, HB.out.trans (HB2.out.mono HB.out.size)⟩

set_option maxHeartbeats 2000000 in
set_option maxRecDepth 100000 in
theorem ropen_ok (T : Nat → Prop) (p : Nat) (d : Dk) (f n : Nat) (w : World) (hd : d.down = false) (hn : 0 < n) (hfn : f + n ≤ d.now.length) (hp : d.pend.length ≤ 5000) (h : OwnT T w p d) :
    Calls Try.prog 41 #[.pointer (some ⟨p, 0, none⟩), .agg (arV f n)] w (OpenRl T d p f n w) := by
  have hA := (Below.refl w.heap.size w).alloc (Nat.le_refl _) (.cells (arV f n) 65)
  have hLim : d.now.length ≤ 4096 := by have := h.ok.lim; have := h.ok.len; omega
  have hf4 : (f : Int) ≤ 4096 := by omega
  have hn4 : (n : Int) ≤ 4096 := by omega
  have HSc := Lib.hid (scan_ok p T d f n _ hd hn hfn (h.1.below hA))
  have HA := Lib.hid h
  have HB := Lib.hid hA
  have HP := Lib.hid hp
  have HR := Lib.hid (heap_alloc_new w (.cells (arV f n) 65))
  have HSz := Lib.hid (show (w.alloc (.cells (arV f n) 65)).heap.size = w.heap.size + 1 by simp)
  clear h hA hd hn hfn hp hLim
  unfold ScanPost at HSc
  go_enter Try.func41, Try.ntmps41
  go_upto_region 1 with fail
  generalize World.alloc w _ = w1 at *
  go_wp2_with (first
    | (refine wpList_load_row rfl _ _ rfl w.heap.size rfl 65 _ (0, 0) _ HR.out Try.underlying65 rfl (area_info f n) ?_)
    | (go_at_call 40
       refine HSc.out.mono ?_
       rintro e w2 ⟨hb2, es, vs, A, c, r, hscn, hrl, rfl, hes⟩
       have HB2 := Lib.hid (HB.out.trans (hb2.mono HB.out.size))
       have HE2 := Lib.hid (hes.mono (E' := fun k => w.heap.size ≤ k ∧ k < w2.heap.size) (fun k hk hx => by have := HSz.out; omega))
       have HScn := Lib.hid hscn
       have HA2 := Lib.hid (HA.out.now HB2.out)
       have hr2 := (hb2.block _ (lt_of_heap HR.out)).trans HR.out
       have k0 := cell_of_row _ w.heap.size 0 _ _ (0, 0) hr2
       have k1 := cell_of_row _ w.heap.size 1 _ _ (0, 0) hr2
       have HR2 := Lib.hid hr2
       obtain ⟨m, hm⟩ : ∃ m, m = n - r.length := ⟨_, rfl⟩
       rw [show (n : Int) - (r.length : Int) = (m : Int) by omega]
       have HM := Lib.hid (show m + r.length = n by omega)
       have hmn : (m : Int) ≤ (n : Int) := by omega
       clear hscn hb2 hes hr2 hrl hm))
  refine (wipeT_any _ p d ((f : Int) + (m : Int)) ((n : Int) - (m : Int)) w2 (by omega) HP.out HA2.out).mono ?_
  rintro e w3 ⟨rfl, h3, hk3⟩
  obtain ⟨x, hx⟩ : ∃ x, x = d.wipe ((f : Int) + (m : Int)) ((n : Int) - (m : Int)) := ⟨_, rfl⟩
  rw [← hx] at h3 ⊢
  have HX := Lib.hid hx
  have H3 := Lib.hid h3
  have HK3 := Lib.hid hk3
  have hr3 := (hk3.block _ (lt_of_heap HR2.out) (fun x => by have := lt_of_heap HR2.out; rcases x.2 with y | y <;> omega)).trans HR2.out
  replace k0 := cell_of_row _ w.heap.size 0 _ _ (0, 0) hr3
  replace k1 := cell_of_row _ w.heap.size 1 _ _ (0, 0) hr3
  have HE3 := Lib.hid (HE2.out.keep hk3 (fun k h1 h2 x => by rcases x.2 with y | y <;> omega))
  have HKw := Lib.hid (show Kp T w w3 from (Kp.of_below HB2.out T).same (hk3.mono fun k _ x => x.1))
  have HS3 := Lib.hid hk3.size
  clear hx h3 hk3 hr3
  obtain ⟨d3, e3⟩ := x
  by_cases he : e3 = 0
  · subst he
    go_wp2_with fail
    go_ret3
    refine ⟨HKw.out.alloc _, es, r, m, HScn.out, HM.out, .inl ⟨by rw [← HX.out], w3.heap.size, A, c, vs, fun k => (w.heap.size ≤ k ∧ k < w2.heap.size) ∨ k = w3.heap.size, rfl, ?_, ?_, ?_, .inr rfl, ?_⟩⟩
    · exact heap_alloc_new w3 (.cells (rlC p (f + m) (f + n)) 104)
    · rw [← HX.out]
      refine ((H3.out.now (w' := w3.alloc _) ((Below.refl _ _).alloc (Nat.le_refl _) _)).cut (fun k hk x => ⟨x.1.1, fun y => ?_⟩) (fun k hk => ⟨HA.out.2 k ?_, fun y => ?_⟩))
      · have hz : (w3.alloc (.cells (rlC p (f + m) (f + n)) 104)).heap.size = w3.heap.size + 1 := by simp
        rcases x.1.2 with z | z <;> rcases x.2 with u | u <;> rcases y with y | y <;> (try simp at u) <;> omega
      · have := HB2.out.size; have := HS3.out; simp at hk; omega
      · have := HB2.out.size; have := HS3.out; simp at hk; rcases y with y | y <;> omega
    · exact (HE3.out.below ((Below.refl _ _).alloc (Nat.le_refl _) _)).mono fun k hk x => ⟨.inl x, by have := HS3.out; omega⟩
    · intro k x
      have := HB2.out.size
      have := HS3.out
      simp
      rcases x with x | x <;> omega
  · have hne : ¬ ((e3 : Nat) : Int) = 0 := by omega
    have hne2 : e3 ≠ 0 := he
    clear he
    go_wp2_with fail
    go_ret3
    refine ⟨HKw.out, es, r, m, HScn.out, HM.out, .inr ⟨by rw [← HX.out]; exact hne2, by rw [← HX.out]; rfl, ?_⟩⟩
    rw [← HX.out]
    exact H3.out.cut (fun k _ x => x.1) (fun k hk => HA.out.2 k (by have := HB2.out.size; have := HS3.out; omega))

end Go.Proofs.Ytlaecnggbcagcaa
