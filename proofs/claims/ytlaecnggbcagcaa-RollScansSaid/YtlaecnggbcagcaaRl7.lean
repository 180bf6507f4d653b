/- Contracts of package roll: Clear, Left, Sync, Append. -/
import Derived.Test.YtlaecnggbcagcaaRl6
import Derived.StillTailTactics
namespace Go.Proofs.Ytlaecnggbcagcaa
open Go.RowKit MM
set_option linter.unusedVariables false
set_option linter.unusedSimpArgs false

/-- Clear. -/
def Dk.clearA (d : Dk) (f n : Int) : Dk × Nat := if areaE d f n = 0 then d.wipe f n else (d, areaE d f n)
/-- Behind so many sectors that were written, one behind the other. -/
def Dk.putN (d : Dk) (a : Nat) (L : List (List UInt8)) : Nat → Dk × Nat
  | 0 => (d, 0)
  | i + 1 => if (d.putN a L i).2 = 0 then (d.putN a L i).1.write ((a : Int) + (i : Int)) (L.getD i zs) else d.putN a L i
/-- Append. -/
def Dk.app (d : Dk) (a e : Nat) (b : List UInt8) : Dk × Nat × Nat :=
  if d.down = true then (d, 14, a) else if 3840 < b.length then (d, 3, a) else if e - a < needN b.length then (d, 8, a)
  else if (d.putN a (secsL b) (needN b.length)).2 = 0 then ((d.putN a (secsL b) (needN b.length)).1, 0, a + needN b.length) else ((d.putN a (secsL b) (needN b.length)).1, (d.putN a (secsL b) (needN b.length)).2, a)
theorem Dk.putN_pend (d : Dk) (a : Nat) (L : List (List UInt8)) : ∀ k, (d.putN a L k).1.pend.length ≤ d.pend.length + k
  | 0 => Nat.le_refl _
  | k + 1 => by
    have ih := d.putN_pend a L k
    unfold Dk.putN
    split
    · exact Nat.le_trans (Dk.write_pend _ _ _) (by omega)
    · omega
theorem Dk.putN_stop (d : Dk) (a : Nat) (L : List (List UInt8)) {k : Nat} (h : (d.putN a L k).2 ≠ 0) : ∀ m, d.putN a L (k + m) = d.putN a L k
  | 0 => rfl
  | m + 1 => by
    have ih := d.putN_stop a L h m
    show d.putN a L ((k + m) + 1) = _
    rw [Dk.putN, if_neg (by rw [ih]; exact h), ih]
theorem OwnT.kp {T S : Nat → Prop} {w w' : World} {p : Nat} {d : Dk} (h : OwnT T w p d) (hk : Kp S w w') (hn : ∀ k, T k → ¬ S k) : OwnT T w' p d := by
  obtain ⟨⟨G, N, Pd, h1, h2, h3⟩, h4⟩ := h
  exact ⟨⟨G, N, Pd, h1.keep hk fun k e => hn k (h2 k e), h2, h3⟩, fun k hk' => h4 k (Nat.le_trans hk.size hk')⟩
/-- A roll in memory. -/
abbrev rlC (p a e : Nat) : Array Value := #[.pointer (some ⟨p, 0, none⟩), .int .i64 (a : Int), .int .i64 (e : Int)]
def RlAt (w : World) (q p a e : Nat) : Prop := w.heap[q]? = some (.cells (rlC p a e) 104 (0, 0))
theorem RlAt.kp {S : Nat → Prop} {w w' : World} {q p a e : Nat} (h : RlAt w q p a e) (hk : Kp S w w') (hn : ¬ S q) : RlAt w' q p a e := (hk.block _ (lt_of_heap h) hn).trans h
theorem RlAt.below {w w' : World} {q p a e : Nat} (h : RlAt w q p a e) (hb : Below w.heap.size w w') : RlAt w' q p a e := (hb.block _ (lt_of_heap h)).trans h
theorem RlAt.set {w : World} {q p a e : Nat} (h : RlAt w q p a e) (a' : Nat) : RlAt (w.setCell ⟨q, 1, none⟩ (.int .i64 (a' : Int))) q p a' e := heap_setCell_same w q 1 _ _ _ h

set_option maxHeartbeats 1000000 in
set_option maxRecDepth 100000 in
theorem clear_any (T : Nat → Prop) (p : Nat) (d : Dk) (f n : Int) (hf : -9223372036854775808 ≤ f ∧ f ≤ 9223372036854775807) (w : World) (hp : d.pend.length ≤ 5000) (h : OwnT T w p d) :
    Calls Try.prog 42 #[.pointer (some ⟨p, 0, none⟩), .agg (arV f n)] w fun e w' => e = .returned (.int .i64 ((d.clearA f n).2 : Nat)) ∧ OwnT T w' p (d.clearA f n).1 ∧ Kp T w w' := by
  have hA := (Below.refl w.heap.size w).alloc (Nat.le_refl _) (.cells (arV f n) 65)
  have HCk := Lib.hid (check_any p T d f n hf _ (h.1.below hA))
  have HA := Lib.hid (h.below hA)
  have HB := Lib.hid hA
  have HR := Lib.hid (heap_alloc_new w (.cells (arV f n) 65))
  by_cases h0 : areaE d f n = 0
  · have HX := Lib.hid (show d.clearA f n = d.wipe f n from if_pos h0)
    rw [HX.out]
    have hn : n ≤ 5000 := by
      obtain ⟨_, f', n', _, rfl, _, h2⟩ := areaE_ok h0
      have := h.ok.lim
      have := h.ok.len
      omega
    have HN := Lib.hid hn
    have HP := Lib.hid hp
    rw [h0] at HCk
    obtain ⟨r, hr⟩ : ∃ r, r = d.wipe f n := ⟨_, rfl⟩
    have HRr := Lib.hid hr
    rw [← hr]
    clear h hA h0 hn hp HX hr
    go_enter Try.func42, Try.ntmps42
    go_wp2_with (first
      | (refine wpList_load_row rfl _ _ rfl w.heap.size rfl 65 _ (0, 0) _ HR.out Try.underlying65 rfl (area_info f n) ?_)
      | (go_at_call 63; refine HCk.out.mono ?_; rintro e w2 ⟨rfl, hb2⟩; have HB2 := Lib.hid (HB.out.trans (hb2.mono HB.out.size)); have HA2 := Lib.hid (HA.out.below hb2); have hr2 := (hb2.block _ (by simp)).trans HR.out; have k0 := cell_of_row _ w.heap.size 0 _ _ (0, 0) hr2; have k1 := cell_of_row _ w.heap.size 1 _ _ (0, 0) hr2; clear hb2 hr2))
    refine (wipeT_any T p d f n w2 HN.out HP.out HA2.out).mono ?_
    rintro e w3 ⟨rfl, h3, hk3⟩
    rw [← HRr.out] at h3 ⊢
    have H3 := Lib.hid h3
    have HK3 := Lib.hid ((Kp.of_below HB2.out T).same hk3)
    clear h3 hk3 k0 k1 HA2 HRr
    go_wp2_with fail
    go_ret
    exact ⟨rfl, H3.out, HK3.out⟩
  · have HX := Lib.hid (show d.clearA f n = (d, areaE d f n) from if_neg h0)
    rw [HX.out]
    have hne : ¬ ((areaE d f n : Nat) : Int) = 0 := by omega
    generalize areaE d f n = er at *
    clear h hA h0 hp HX
    go_enter Try.func42, Try.ntmps42
    go_wp2_with (first
      | (refine wpList_load_row rfl _ _ rfl w.heap.size rfl 65 _ (0, 0) _ HR.out Try.underlying65 rfl (area_info f n) ?_)
      | (go_at_call 63; refine HCk.out.mono ?_; rintro e w2 ⟨rfl, hb2⟩; have HB2 := Lib.hid (HB.out.trans (hb2.mono HB.out.size)); have HA2 := Lib.hid (HA.out.below hb2); clear hb2))
    go_ret
    exact ⟨rfl, HA2.out, Kp.of_below HB2.out T⟩

set_option maxHeartbeats 1000000 in
set_option maxRecDepth 100000 in
theorem left_any (q p a e : Nat) (w : World) (h : RlAt w q p a e) (hae : a ≤ e) (he : e ≤ 100000) :
    Calls Try.prog 45 #[.pointer (some ⟨q, 0, none⟩)] w fun x w' => x = .returned (.int .i64 ((e - a : Nat) : Int)) ∧ Below w.heap.size w w' := by
  have k1 := cell_of_row _ q 1 _ _ (0, 0) h
  have k2 := cell_of_row _ q 2 _ _ (0, 0) h
  have he' : (e : Int) ≤ 100000 := by omega
  have ha' : (a : Int) ≤ (e : Int) := by omega
  have hE := Lib.hid (show ((e - a : Nat) : Int) = (e : Int) - (a : Int) by omega)
  rw [hE.out]
  clear h hae he
  go_enter Try.func45, Try.ntmps45
  go_upto_region 1 with fail
  go_quiet (fail)
  go_wp2
  go_ret
  exact ⟨rfl, below_drewN' (Below.refl _ _) _⟩

set_option maxHeartbeats 1000000 in
set_option maxRecDepth 100000 in
theorem rsync_any (T : Nat → Prop) (p q a e : Nat) (d : Dk) (w : World) (hp : d.pend.length ≤ 1000000) (hr : RlAt w q p a e) (h : OwnT T w p d) :
    Calls Try.prog 51 #[.pointer (some ⟨q, 0, none⟩)] w fun x w' => x = .returned (.int .i64 (d.sync.2 : Nat)) ∧ OwnT T w' p d.sync.1 ∧ Kp T w w' := by
  have k0 := cell_of_row _ q 0 _ _ (0, 0) hr
  have HS := Lib.hid (tSync T p d w hp h)
  clear h hp hr
  go_enter Try.func51, Try.ntmps51
  go_wp2_with (first
    | (go_at_call 24; refine HS.out.mono ?_; rintro e w2 ⟨rfl, h2, hk2⟩; have H2 := Lib.hid h2; have HK2 := Lib.hid hk2; clear h2 hk2))
  generalize d.sync = r at *
  go_wp2_with fail
  go_ret
  exact ⟨rfl, H2.out, HK2.out⟩

end Go.Proofs.Ytlaecnggbcagcaa
