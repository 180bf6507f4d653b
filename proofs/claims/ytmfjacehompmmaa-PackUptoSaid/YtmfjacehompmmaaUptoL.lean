/- Contracts of what PackUpto is made of: first. -/
import Derived.Test.YtmfjacehompmmaaPackReads
import Derived.Test.YtmfjacehompmmaaPackFails
import Derived.Deep.RegionHeld3
namespace Go.Proofs.Ytmfjacehompmmaa
open Go.RowKit MM

/-- What first leaves. -/
def FirstPost (r : Res Nat) (w : World) (e : Ending) (w' : World) : Prop :=
  Below w.heap.size w w' ∧ match r with
  | .ok n _ => e = .returned (.tuple #[.int .i64 n, fltV 0 0])
  | .bad code n => e = .returned (.tuple #[.int .i64 0, fltV code n])
theorem below_of_drew {B : Nat} {a w : World} (h : Below B a.drew w) : Below B a w := ⟨h.os, h.tape, h.output, h.size, h.block⟩

theorem leaves_same {P : Program} {fn : Func} {t t' : Array Value} {R : Ending → World → Prop} (h : results fn t = results fn t') : ∀ (ds : List Deferred) (u : FrameMode) (w : World), Leaves P fn t R ds u w → Leaves P fn t' R ds u w
  | [], .returning, w, ⟨v, hv, hR⟩ => ⟨v, h ▸ hv, hR⟩
  | [], .panicking chain, w, hl => hl
  | [], .run, w, hl => hl
  | d :: ds, u, w, ⟨hu, fv, cap, f, args, ht, hi, hc⟩ => by
    refine ⟨hu, fv, cap, f, args, ht, hi, hc.mono ?_⟩
    intro e u' w' hx
    cases e with
    | returned v => exact leaves_same h ds _ _ hx
    | panicked chain => exact leaves_same h ds _ _ hx
    | outgrown => exact hx
theorem put_results (t : Array Value) (d : Nat) (v : Value) (h4 : d ≠ 4) (h5 : d ≠ 5) : results Try.f29 (t.setIfInBounds d v) = results Try.f29 t := by
  have e4 : (t.setIfInBounds d v)[4]? = t[4]? := by rw [Array.getElem?_setIfInBounds, if_neg h4]
  have e5 : (t.setIfInBounds d v)[5]? = t[5]? := by rw [Array.getElem?_setIfInBounds, if_neg h5]
  unfold results
  simp [Try.results29, e4, e5]
theorem put_panic {K : Act → World → Prop} {R : Ending → World → Prop} (d : Nat) (v : Value) (h4 : d ≠ 4) (h5 : d ≠ 5) : ∀ c a w, Exit.then K (bodyPostD Try.prog Try.f29 R) (.panic c) (Act.put a (some d) v) w → Exit.then K (bodyPostD Try.prog Try.f29 R) (.panic c) a w := by
  intro c a w h
  exact leaves_same (put_results a.tmps d v h4 h5) _ _ _ h

set_option maxHeartbeats 1000000 in
set_option maxRecDepth 100000 in
theorem lfirst_any (A : Option Addr) (c : Nat) (bs : List UInt8) (m : Int) (w : World) (hb : Bts w A bs) (hl : Lim bs.length) (hm : (Lit.int .i64 m).wf = true) :
    Calls Try.prog 29 #[.slice A bs.length c, .int .i64 m] w (FirstPost (uptoR m bs) w) := by
  have hmf : ∀ (fn : Fn) (first cap : Array Value) (w : World), (Instr.makeFunc fn first cap).run Try.prog w = .ok (.func fn first cap) w := fun _ _ _ _ => rfl
  have HB := Lib.hid hb
  clear hb
  cases hR : uptoR m bs with
  | ok n k =>
    have hx : ∀ q A1 c1 wx, Rd 5 wx q A1 c1 bs 0 → Calls Try.prog 46 #[.pointer (some ⟨q, 0, none⟩), .int .i64 m] wx (fun e w' => e = .returned (.int .i64 n) ∧ Rd 5 w' q A1 c1 bs (0 + k) ∧ Kp (fun k => k = q) wx w') := by
      intro q A1 c1 wx h
      have := rupto_any q A1 c1 bs 0 m wx hm h
      rw [List.drop_zero, hR] at this
      exact this
    have Hx := Lib.hid hx
    clear hx hR
    go_enter_defers Try.func29, Try.ntmps29
    go_wp2_with fail
    refine wp_region_noPanic ?_
    go_region_with (first
      | (go_at_call 38; refine (new_any A c bs _ (HB.out.below (below_b w _)) hl).mono ?_; rintro e w1 ⟨q, A1, c1, rfl, hr1, hq1, ha1, hb1⟩; have hv0 := DefInv.start hr1 hq1 (below_of_drew hb1); clear hr1 hq1 ha1 hb1; obtain ⟨hc0, hc1, hf0⟩ := hv0.cells)
      | (go_at_call 46; refine (Hx.out q A1 c1 _ hv0.rd).mono ?_; rintro e w2 ⟨rfl, hr2, hk2⟩; have hv2 := hv0.next hr2 hk2; obtain ⟨hd0, hd1, hg0⟩ := hv2.cells))
    all_goals
      refine NoPanic.normal ?_
      go_wp2_with fail
      obtain ⟨w3, hw3⟩ : ∃ w3, w3 = (w2.setCell ⟨w.heap.size, 0, none⟩ (.int .i64 0)).setCell ⟨w.heap.size, 1, none⟩ (.int .i64 0) := ⟨_, rfl⟩
      rw [← hw3]
      have hr3 : w3.heap[w.heap.size]? = some (.cells #[.int .i64 0, .int .i64 0] 30 (0, 0)) := by
        rw [hw3]
        exact (heap_setCell_same _ _ 1 _ _ _ (heap_setCell_same _ _ 0 _ _ _ hv2.res)).trans rfl
      have hb3 : Below w.heap.size w w3 := by
        rw [hw3]
        exact (hv2.below.setCell (Nat.le_refl _) _).setCell (Nat.le_refl _) _
      clear hw3
      have hlt : w.heap.size < w3.heap.size := by
        rcases Nat.lt_or_ge w.heap.size w3.heap.size with x | x
        · exact x
        · rw [Array.getElem?_eq_none x] at hr3; cases hr3
      have hk0 : w3.cell? ⟨w.heap.size, 0, none⟩ = some (.int .i64 0) := (cell_of_row _ _ 0 _ _ (0, 0) hr3).trans rfl
      have hk1 : w3.cell? ⟨w.heap.size, 1, none⟩ = some (.int .i64 0) := (cell_of_row _ _ 1 _ _ (0, 0) hr3).trans rfl
      refine leaves_cons (f := 45) (args := #[.pointer (some ⟨w.heap.size, 0, none⟩)]) (by simp) (by simp [go_sem]) ?_
      refine (catch_none_first w.heap.size (.int .i64 0) (.int .i64 0) _ hk0 hk1 (fun o => frozen_of_row _ _ o _ _ hr3)).mono ?_
      rintro e u' w'' ⟨rfl, rfl, w5, hb5, rfl⟩
      have hc0' := (hb5.cell (p := ⟨w.heap.size, 0, none⟩) hlt).trans hk0
      have hc1' := (hb5.cell (p := ⟨w.heap.size, 1, none⟩) hlt).trans hk1
      simp [Leaves, settle, results, Try.results29, go_sem, hc0', hc1']
      exact ⟨((hb3.trans (hb5.mono (Nat.le_of_lt hlt))).setCell (Nat.le_refl _) _).setCell (Nat.le_refl _) _, rfl⟩
  | bad code k =>
    have hx : ∀ q A1 c1 wx, Rd 5 wx q A1 c1 bs 0 → Calls Try.prog 46 #[.pointer (some ⟨q, 0, none⟩), .int .i64 m] wx (fun e w' => e = thr 30 code (0 + k) ∧ Rd 5 w' q A1 c1 bs (0 + k) ∧ Kp (fun k => k = q) wx w') := by
      intro q A1 c1 wx h
      have := rupto_any q A1 c1 bs 0 m wx hm h
      rw [List.drop_zero, hR] at this
      exact this
    have Hx := Lib.hid hx
    clear hx hR
    go_enter_defers Try.func29, Try.ntmps29
    go_wp2_with fail
    refine wp_region_any (by kernel_rfl) ?_
    change wpAny _ _ _ _ _ _ _ (World.drew _)
    refine wpAny_take (i := 0) (v := .slice A bs.length c) rfl (by kernel_rfl) (by kernel_rfl) (by kernel_rfl) (put_panic 7 _ (by decide) (by decide)) (Or.inl ⟨by rfl, ?_⟩) ?_
    · intro w; go_simp
    refine wpAny_take (i := 2) (v := .int .i64 m) rfl (by kernel_rfl) (by kernel_rfl) (by kernel_rfl) (put_panic 9 _ (by decide) (by decide)) (Or.inl ⟨by rfl, ?_⟩) ?_
    · intro w; go_simp
    refine wpAny_ready (rs := [1, 4]) (by kernel_rfl) (by simp) ?_
    refine AllReady.cons rfl (fun K hK => ?_) ?_
    · go_simp
      refine (new_any A c bs _ (HB.out.below (below_b w _)) hl).mono ?_
      rintro e w1 ⟨q, A1, c1, rfl, hr1, hq1, ha1, hb1⟩
      have hv0 := DefInv.start hr1 hq1 (below_of_drew hb1)
      clear hr1 hq1 ha1 hb1
      obtain ⟨hc0, hc1, hf0⟩ := hv0.cells
      refine hK _ _ ?_
      clear hK K
      refine wpAny_ready (rs := [3, 4]) (by kernel_rfl) (by simp) ?_
      refine AllReady.cons rfl (fun K hK => ?_) ?_
      · go_simp
        refine (Hx.out q A1 c1 _ hv0.rd).mono ?_
        rintro e w2 ⟨rfl, hr2, hk2⟩
        have hv2 := hv0.next hr2 hk2
        clear hc0 hc1 hf0
        obtain ⟨hc0, hc1, hf0⟩ := hv2.cells
        rw [Nat.zero_add]
        refine leaves_cons (f := 45) (args := #[.pointer (some ⟨w.heap.size, 0, none⟩)]) (by simp) (by simp [go_sem]) ?_
        refine (catch_fault_first w.heap.size _ _ code k [] _ hc0 hc1 hf0).mono ?_
        rintro e u' w'' ⟨rfl, rfl, w5, hb5, rfl⟩
        have hc0' := (hb5.cell (p := ⟨w.heap.size, 0, none⟩) hv2.lt).trans hc0
        have hc1' := (hb5.cell (p := ⟨w.heap.size, 1, none⟩) hv2.lt).trans hc1
        simp [Leaves, settle, results, Try.results29, go_sem, hc0', hc1']
        exact ⟨((hv2.below.trans (hb5.mono (Nat.le_of_lt hv2.lt))).setCell (Nat.le_refl _) _).setCell (Nat.le_refl _) _, rfl⟩
      refine AllReady.cons rfl (fun K hK => ?_) AllReady.nil
      go_simp
      refine hK _ _ ?_
      clear hK K
      refine wpAny_ready (rs := [3]) (by kernel_rfl) (by simp) ?_
      refine AllReady.cons rfl (fun K hK => ?_) AllReady.nil
      go_simp
      refine (Hx.out q A1 c1 _ hv0.rd).mono ?_
      rintro e w2 ⟨rfl, hr2, hk2⟩
      have hv2 := hv0.next hr2 hk2
      clear hc0 hc1 hf0
      obtain ⟨hc0, hc1, hf0⟩ := hv2.cells
      rw [Nat.zero_add]
      refine leaves_cons (f := 45) (args := #[.pointer (some ⟨w.heap.size, 0, none⟩)]) (by simp) (by simp [go_sem]) ?_
      refine (catch_fault_first w.heap.size _ _ code k [] _ hc0 hc1 hf0).mono ?_
      rintro e u' w'' ⟨rfl, rfl, w5, hb5, rfl⟩
      have hc0' := (hb5.cell (p := ⟨w.heap.size, 0, none⟩) hv2.lt).trans hc0
      have hc1' := (hb5.cell (p := ⟨w.heap.size, 1, none⟩) hv2.lt).trans hc1
      simp [Leaves, settle, results, Try.results29, go_sem, hc0', hc1']
      exact ⟨((hv2.below.trans (hb5.mono (Nat.le_of_lt hv2.lt))).setCell (Nat.le_refl _) _).setCell (Nat.le_refl _) _, rfl⟩
    refine AllReady.cons rfl (fun K hK => ?_) AllReady.nil
    go_simp
    refine hK _ _ ?_
    clear hK K
    refine wpAny_ready (rs := [1]) (by kernel_rfl) (by simp) ?_
    refine AllReady.cons rfl (fun K hK => ?_) AllReady.nil
    go_simp
    refine (new_any A c bs _ (HB.out.below (below_b w _)) hl).mono ?_
    rintro e w1 ⟨q, A1, c1, rfl, hr1, hq1, ha1, hb1⟩
    have hv0 := DefInv.start hr1 hq1 (below_of_drew hb1)
    clear hr1 hq1 ha1 hb1
    obtain ⟨hc0, hc1, hf0⟩ := hv0.cells
    refine hK _ _ ?_
    clear hK K
    refine wpAny_ready (rs := [3]) (by kernel_rfl) (by simp) ?_
    refine AllReady.cons rfl (fun K hK => ?_) AllReady.nil
    go_simp
    refine (Hx.out q A1 c1 _ hv0.rd).mono ?_
    rintro e w2 ⟨rfl, hr2, hk2⟩
    have hv2 := hv0.next hr2 hk2
    clear hc0 hc1 hf0
    obtain ⟨hc0, hc1, hf0⟩ := hv2.cells
    rw [Nat.zero_add]
    refine leaves_cons (f := 45) (args := #[.pointer (some ⟨w.heap.size, 0, none⟩)]) (by simp) (by simp [go_sem]) ?_
    refine (catch_fault_first w.heap.size _ _ code k [] _ hc0 hc1 hf0).mono ?_
    rintro e u' w'' ⟨rfl, rfl, w5, hb5, rfl⟩
    have hc0' := (hb5.cell (p := ⟨w.heap.size, 0, none⟩) hv2.lt).trans hc0
    have hc1' := (hb5.cell (p := ⟨w.heap.size, 1, none⟩) hv2.lt).trans hc1
    simp [Leaves, settle, results, Try.results29, go_sem, hc0', hc1']
    exact ⟨((hv2.below.trans (hb5.mono (Nat.le_of_lt hv2.lt))).setCell (Nat.le_refl _) _).setCell (Nat.le_refl _) _, rfl⟩

end Go.Proofs.Ytmfjacehompmmaa
