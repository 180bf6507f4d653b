/- Contracts of package rule: Apply of an act that is done. -/
import Derived.Test.YtbkcmnmbcldjoaaGreatDoorRuSP7d
import Derived.Deep.RegionHeld3
import Derived.Deep.DeepCutAuto
namespace Go.Proofs.YtbkcmnmbcldjoaaGreatDoor
open Go.RowKit MM
set_option maxHeartbeats 20000000 in
set_option maxRecDepth 100000 in
theorem apply_mk (r : RC.Rc) (there : Bool) (a : AC.Ac) (A L : Option Addr) (c cl : Nat) (w : World) (hr : (ownR r there).ok) (ha : a.ok) (hR : RowsAt w) (hA : Its w A r.list) (hL : Its w L a.make.list) (n1 : Lim r.list.length) (n1' : Lim (ownR r there).list.length) (n2 : Lim a.make.list.length) (n3 : Lim a.key.size) (n4 : Lim a.s.size) (h : refE (ownR r there) there a = 0) (K : Nat) (x : DB → Nat) (p : RC.Rc) (z : RU.Ans)
    (hE : ∀ args w, (callFunc K args).run Tryz.prog w = .ok (.enter K args) w)
    (hix : ∀ b W, (Instr.index 133 (.agg (doingsV b)) (.int .i64 a.kind)).run Tryz.prog W = .ok (.func (.func K) #[] #[.pointer (some ⟨x b, 0, none⟩)]) W)
    (HD : ∀ b u v A' c', Doings b u v → v.ownsRow 0 91 2 (.slice A' (ownR r there).list.length c') (ownR r there).list.length (itCells (ownR r there).list) → Its v L a.make.list → Calls Tryz.prog K #[recV (ownR r there) A' c', actV a L cl, .pointer (some ⟨x b, 0, none⟩)] v (DPost p z A' v)) :
    Calls Tryz.prog 48 #[recV r A c, .bool there, actV a L cl] w (ApPost p (p.kind != 0) z w) := by
  have HO := Lib.hid (fun u (b : Below w.heap.size w u) => ruleOwn_any r there A c u (hA.below b) n1)
  have HF := Lib.hid (fun u A' c' (b : Below w.heap.size w u) hA' => refusal_any (ownR r there) there a A' L c' cl u hr ha (hR.below b) hA' (hL.below b) n1' n2 n3 n4)
  have HLL := Lib.hid hL
  clear hr ha hR hA hL n1 n1' n2 n3 n4
  rw [h] at HF
  have HDo := Lib.hid HD
  clear h HD
  generalize ownR r there = q at *
  obtain ⟨kk, key, n, fx, s, mk, must⟩ := a
  go_enter Tryz.func48, Tryz.ntmps48
  go_wp2_with fail
  refine (HO.out _ (below4 w _ _ _ _)).mono ?_
  rintro e w1 ⟨A', c', rfl, ho, hn, hb⟩
  have hs1 := hb.size
  simp only [World.size_alloc] at hs1 hn
  have e1 := (hb.block (w.heap.size + 1) (by simp only [World.size_alloc]; omega)).trans ((heap_alloc_old _ _ (by simp only [World.size_alloc]; omega)).trans ((heap_alloc_old _ _ (by simp only [World.size_alloc]; omega)).trans (heap_new _ _ _ (by simp))))
  have e2 := (hb.block (w.heap.size + 1 + 1) (by simp only [World.size_alloc]; omega)).trans ((heap_alloc_old _ _ (by simp only [World.size_alloc]; omega)).trans (heap_new _ _ _ (by simp)))
  have e3 := (hb.block (w.heap.size + 1 + 1 + 1) (by simp only [World.size_alloc]; omega)).trans (heap_new _ _ _ (by simp))
  have HB1 := Lib.hid (show Below w.heap.size w w1 from (below4 w _ _ _ _).trans (hb.mono (by simp only [World.size_alloc]; omega)))
  have c1 := fun o => cell_of_row w1 _ o _ _ (0, 0) e1
  have z1 : w.heap.size + 1 < w1.heap.size := by omega
  have z2 : w.heap.size + 1 + 1 < w1.heap.size := by omega
  have z3 : w.heap.size + 1 + 1 + 1 < w1.heap.size := by omega
  have R1 := Lib.hid e1
  have R2 := Lib.hid e2
  have R3 := Lib.hid e3
  have HW := Lib.hid ho
  have HN := Lib.hid hn
  clear hb e1 e2 e3 ho hn
  go_wp2_with fail
  have hB1w : Below w.heap.size w (w1.alloc (.cells (recC q.kind q.num q.low q.high q.real q.cap q.text (.slice A' q.list.length c')) 25)) := HB1.out.trans ((below1 w1 _).mono (by omega))
  refine (HF.out _ A' c' hB1w (Its.own (own_below HW.out (below1 w1 _)))).mono ?_
  rintro e w2 ⟨rfl, hb2⟩
  have hs2 := hb2.size
  simp only [World.size_alloc] at hs2
  have e1 := (hb2.block (w.heap.size + 1) (by simp only [World.size_alloc]; omega)).trans ((heap_alloc_old _ _ (by omega)).trans R1.out)
  have e2 := (hb2.block (w.heap.size + 1 + 1) (by simp only [World.size_alloc]; omega)).trans ((heap_alloc_old _ _ (by omega)).trans R2.out)
  have e3 := (hb2.block (w.heap.size + 1 + 1 + 1) (by simp only [World.size_alloc]; omega)).trans ((heap_alloc_old _ _ (by omega)).trans R3.out)
  have e5 := (hb2.block w1.heap.size (by simp only [World.size_alloc]; omega)).trans (heap_alloc_new w1 _)
  have HB2 := Lib.hid (hB1w.trans (hb2.mono (by simp only [World.size_alloc]; omega)))
  have HW2 := Lib.hid (own_below (own_below HW.out (below1 w1 _)) hb2)
  have hinn : ∀ k, ob A' = some k → k < w2.heap.size := in_of_own HW2.out
  have hia : ∀ k, ob A' = some k → k ≠ w.heap.size + 1 ∧ k ≠ w1.heap.size := fun k e => by
    have h1 := HN.out k e
    have h2 := in_of_own HW.out k e
    omega
  have HS := Lib.hid (show ∀ W, Kp (fun k => ob A' = some k) w2 W → (∀ o, W.cell? ⟨w.heap.size + 1, o, none⟩ = (actC ⟨kk, key, n, fx, s, mk, must⟩ L cl)[o]?) ∧ (∀ o, W.cell? ⟨w1.heap.size, o, none⟩ = (recC q.kind q.num q.low q.high q.real q.cap q.text (.slice A' q.list.length c'))[o]?) from fun W hk =>
    ⟨fun o => cell_of_row W _ o _ _ (0, 0) ((hk.block _ (lt_of_heap e1) (fun e => (hia _ e).1 rfl)).trans e1), fun o => cell_of_row W _ o _ _ (0, 0) ((hk.block _ (lt_of_heap e5) (fun e => (hia _ e).2 rfl)).trans e5)⟩)
  have HD33 := Lib.hid (show ∀ b v V gs, Doings b w2 v → Below v.heap.size v V → Bx A' w2 V gs → Calls Tryz.prog K #[recV q A' c', actV ⟨kk, key, n, fx, s, mk, must⟩ L cl, .pointer (some ⟨x b, 0, none⟩)] V (fun e w' => ∃ A1 c1 B cb, e = .returned (.tuple #[recV p A1 c1, ansV z.code z.num z.rc B cb]) ∧ Bz p z A' w2 A1 c1 B cb w' gs) from fun b v V gs hD hb hx =>
    (HDo.out b w2 V A' c' (hD.next hb) (own_below HW2.out hx.bel) (HLL.out.below (HB2.out.trans (hx.bel.mono HB2.out.size)))).mono fun e w' hp => bz_of_call hx hp)
  have S2 := Lib.hid e2
  have S3 := Lib.hid e3
  have hx0 : Bx A' w2 w2.drew [] := Bx.start hinn
  have hxw : Bx A' w2 w2 [] := Bx.base hinn
  have hk0 := hx0.kp
  have hkw := hxw.kp
  have HI := Lib.hid hinn
  have HZ := Lib.hid (show w.heap.size + 1 + 1 + 1 < w2.heap.size by omega)
  clear hb2 e1 e2 e3 e5 hB1w R1 R2 R3 HW HF HO hia hinn c1 HDo z1 z2 z3 hs1 hs2
  go_wp2_with fail
  go_cut [11, 12] (fun t11 t12 wx => ∃ (g h : Nat) (A1 : Option Addr) (c1 : Nat) (B : Option Addr) (cb : Nat), t11 = .pointer (some ⟨g, 0, none⟩) ∧ t12 = .pointer (some ⟨h, 0, none⟩) ∧ Bz p z A' w2 A1 c1 B cb wx [(g, .cells (recC p.kind p.num p.low p.high p.real p.cap p.text (.slice A1 p.list.length c1)) 25 (0, 0)), (h, .cells (ansC z.code z.num z.rc B cb) 82 (0, 0))])
  case first =>
    go_region_held3 (fun W => (∀ o, W.cell? ⟨w.heap.size + 1, o, none⟩ = (actC ⟨kk, key, n, fx, s, mk, must⟩ L cl)[o]?) ∧ (∀ o, W.cell? ⟨w1.heap.size, o, none⟩ = (recC q.kind q.num q.low q.high q.real q.cap q.text (.slice A' q.list.length c'))[o]?))
      (first
        | with_reducible exact HS.out _ hkz
        | with_reducible exact HS.out _ hkv
        | with_reducible exact HS.out _ hk0
        | ((with_reducible refine HS.out _ ?_); (repeat (with_reducible (first | exact hkz | exact hkv | exact hk0 | exact hkw | refine Kp.drew ?_ | refine Kp.alloc ?_ _ | refine kp8g ?_ (Or.inr q0) | refine kp8g ?_ (Or.inr q7) | refine kp8g ?_ (Or.inr hwd2) | refine kp10 ?_ (Or.inr q0) | refine kp10 ?_ (Or.inr q7) | refine kp10 ?_ (Or.inr hwd2)))); done))
      (first
        | (go_at_call 85; (first | with_reducible refine Calls.mono (doings_bx hx0) ?_ | with_reducible refine Calls.mono (doings_bx hxw.alloc.drew) ?_ | with_reducible refine Calls.mono (doings_bx hxw.alloc.alloc.drew) ?_); rintro e v ⟨b, rfl, hD, hxv⟩; have hv2 := hxv.bel.size; have hkv := hxv.kp)
        | ((first | with_reducible refine Calls.mono (HD33.out b v _ _ hD (Below.refl _ _) hxv) ?_ | with_reducible refine Calls.mono (HD33.out b v _ _ hD (below1 _ _) hxv.alloc) ?_ | with_reducible refine Calls.mono (HD33.out b v _ _ hD (below2 _ _ _) hxv.alloc.alloc) ?_); rintro e wd ⟨A1, cA, B, cb, rfl, hz⟩; (try simp only [World.size_alloc] at hz); have hwd2 := hz.kp.size; have hkz := hz.kp; (try have q0 := Bz.low hz); (try have q1 := Bz.cells hz); (try have q2 := Bz.froz hz); (try have q3 := Bz.lt hz); (try have q7 := Bz.low hz.swap); (try have q4 := Bz.cells hz.swap); (try have q5 := Bz.froz hz.swap); (try have q6 := Bz.lt hz.swap); (try have q8 := Bz.ne hz); (try have q9 := Bz.ne hz.swap); (try simp only [World.size_alloc, heap_drew] at q0); (try simp only [World.size_alloc, heap_drew] at q1); (try simp only [World.size_alloc, heap_drew] at q2); (try simp only [World.size_alloc, heap_drew] at q3); (try simp only [World.size_alloc, heap_drew] at q4); (try simp only [World.size_alloc, heap_drew] at q5); (try simp only [World.size_alloc, heap_drew] at q6); (try simp only [World.size_alloc, heap_drew] at q7)))
    all_goals
      go_wp2_with fail
      go_meet
      refine ⟨_, _, A1, cA, B, cb, rfl, rfl, ?_⟩
      first
        | (with_reducible refine Bz.allocG ?_ (by simp)); (with_reducible refine Bz.allocG ?_ (by simp)); with_reducible exact hz
        | (with_reducible refine Bz.swap ?_); (with_reducible refine Bz.allocG ?_ (by simp)); (with_reducible refine Bz.allocG ?_ (by simp)); with_reducible exact hz
        | (with_reducible refine Bz.allocG ?_ (by simp)); with_reducible exact Bz.ansA hz
        | (with_reducible refine Bz.swap ?_); (with_reducible refine Bz.allocG ?_ (by simp)); with_reducible exact Bz.recA hz
        | with_reducible exact Bz.ansB (Bz.recA hz)
        | (with_reducible refine Bz.swap ?_); with_reducible exact Bz.ansA (Bz.recB hz)
  case rest =>
  obtain ⟨g, h, A1, cA, B, cb, rfl, rfl, hz⟩ := hcut
  have HZ2 := Lib.hid hz
  have e2 := (hz.kp.block _ (lt_of_heap S2.out) (fun e => by have := HN.out _ e; omega)).trans S2.out
  have e3 := (hz.kp.block _ (lt_of_heap S3.out) (fun e => by have := HN.out _ e; omega)).trans S3.out
  have l1 := hz.low
  have l2 := hz.swap.low
  have l3 := HZ.out
  have z1 : g ≠ w.heap.size + 1 + 1 := by omega
  have z2 : g ≠ w.heap.size + 1 + 1 + 1 := by omega
  have z3 : h ≠ w.heap.size + 1 + 1 := by omega
  have z4 : h ≠ w.heap.size + 1 + 1 + 1 := by omega
  have y1 := z1.symm
  have y2 := z2.symm
  have y3 := z3.symm
  have y4 := z4.symm
  have d1 := hz.cells
  have d4 := hz.swap.cells
  have d2 := fun o => cell_of_row wc _ o _ _ (0, 0) e2
  have d3 := fun o => cell_of_row wc _ o _ _ (0, 0) e3
  have f2 : ∀ o, wc.frozen? ⟨w.heap.size + 1 + 1, o, none⟩ = false := fun o => frozen_of_row _ _ o _ _ e2
  have f3 : ∀ o, wc.frozen? ⟨w.heap.size + 1 + 1 + 1, o, none⟩ = false := fun o => frozen_of_row _ _ o _ _ e3
  have T2 := Lib.hid e2
  have T3 := Lib.hid e3
  have HX := Lib.hid (show w.heap.size + 1 + 1 + 1 < wc.heap.size by have := hz.kp.size; omega)
  have HL3 := Lib.hid l3
  clear e2 e3 hz l1 l2 l3 HD33 HS hx0 hxw hk0 hkw hix hE S2 S3
  go_wp2_with fail
  go_region_with (fail)
  all_goals
    go_wp2_with fail
    generalize hwf : World.drew _ = wf
    have X2 : wf.heap[w.heap.size + 1 + 1]? = some (.cells (recC p.kind p.num p.low p.high p.real p.cap p.text (.slice A1 p.list.length cA)) 25 (0, 0)) := by
      rw [← hwf, heap_drew]
      exact (ans_other (by omega)).trans (rec_stores T2.out)
    have X3 : wf.heap[w.heap.size + 1 + 1 + 1]? = some (.cells (ansC z.code z.num z.rc B cb) 82 (0, 0)) := by
      rw [← hwf, heap_drew]
      exact ans_all ((rec_stores_other (by omega)).trans T3.out)
    have hk : Kp (fun k => k = w.heap.size + 1 + 1 ∨ k = w.heap.size + 1 + 1 + 1) wc wf := by
      rw [← hwf]
      exact Kp.drew (kp10 (kp8g (Kp.refl _ wc) (Or.inl (Or.inl rfl))) (Or.inl (Or.inr rfl)))
    have HO1 := Lib.hid (hk.own HZ2.out.own1 (fun k e x => by
      rw [ownBlock_slice] at e
      have h3 := HL3.out
      rcases (HZ2.out.new1 k e).1 with h1 | h1
      · have h2 := HN.out k h1
        rcases x with x | x <;> omega
      · rcases x with x | x <;> omega))
    have HO2 := Lib.hid (hk.own HZ2.out.own2 (fun k e x => by
      rw [ownBlock_slice] at e
      have h3 := HL3.out
      have h1 := (HZ2.out.new2 k e).1
      rcases x with x | x <;> omega))
    have HN1 := Lib.hid (show ∀ k, ob A1 = some k → w.heap.size ≤ k from fun k e => by
      have h3 := HL3.out
      rcases (HZ2.out.new1 k e).1 with h1 | h1
      · have h2 := HN.out k h1; omega
      · omega)
    have HN2 := Lib.hid (show ∀ k, ob B = some k → w.heap.size ≤ k ∧ ob A1 ≠ some k from fun k e => ⟨by have h3 := HL3.out; have h1 := (HZ2.out.new2 k e).1; omega, (HZ2.out.new2 k e).2.1⟩)
    have HBf := Lib.hid (show Below w.heap.size w wf from (HB2.out.trans (HZ2.out.kp.below (by have := HL3.out; omega) (fun i hi x => by have := HN.out i x; omega))).trans (hk.below (by have := HX.out; omega) (fun i hi x => by rcases x with x | x <;> omega)))
    have k2 := fun o => cell_of_row wf _ o _ _ (0, 0) X2
    have k3 := fun o => cell_of_row wf _ o _ _ (0, 0) X3
    clear hwf X2 X3 d1 d2 d3 d4 f2 f3 hk
    exact bodyPost_ret (v := .tuple #[recV p A1 cA, .bool (p.kind != 0), ansV z.code z.num z.rc B cb]) (by simp [results, Tryz.results48, go_sem, k2, k3]) rfl ⟨A1, cA, B, cb, rfl, HO1.out, HO2.out, HN1.out, HN2.out, HBf.out⟩
end Go.Proofs.YtbkcmnmbcldjoaaGreatDoor

namespace Go.Proofs.YtbkcmnmbcldjoaaGreatDoor
open Go.RowKit MM
set_option maxHeartbeats 20000000 in
set_option maxRecDepth 100000 in
theorem apply_fn (r : RC.Rc) (there : Bool) (a : AC.Ac) (A L : Option Addr) (c cl : Nat) (w : World) (hr : (ownR r there).ok) (ha : a.ok) (hR : RowsAt w) (hA : Its w A r.list) (hL : Its w L a.make.list) (n1 : Lim r.list.length) (n1' : Lim (ownR r there).list.length) (n2 : Lim a.make.list.length) (n3 : Lim a.key.size) (n4 : Lim a.s.size) (h : refE (ownR r there) there a = 0) (K : Nat) (p : RC.Rc) (z : RU.Ans)
    (hE : ∀ args w, (callFunc K args).run Tryz.prog w = .ok (.enter K args) w)
    (hix : ∀ b W, (Instr.index 133 (.agg (doingsV b)) (.int .i64 a.kind)).run Tryz.prog W = .ok (.func (.func K) #[] #[]) W)
    (HD : ∀ b u v A' c', Doings b u v → v.ownsRow 0 91 2 (.slice A' (ownR r there).list.length c') (ownR r there).list.length (itCells (ownR r there).list) → Its v L a.make.list → Calls Tryz.prog K #[recV (ownR r there) A' c', actV a L cl] v (DPost p z A' v)) :
    Calls Tryz.prog 48 #[recV r A c, .bool there, actV a L cl] w (ApPost p (p.kind != 0) z w) := by
  have HO := Lib.hid (fun u (b : Below w.heap.size w u) => ruleOwn_any r there A c u (hA.below b) n1)
  have HF := Lib.hid (fun u A' c' (b : Below w.heap.size w u) hA' => refusal_any (ownR r there) there a A' L c' cl u hr ha (hR.below b) hA' (hL.below b) n1' n2 n3 n4)
  have HLL := Lib.hid hL
  clear hr ha hR hA hL n1 n1' n2 n3 n4
  rw [h] at HF
  have HDo := Lib.hid HD
  clear h HD
  generalize ownR r there = q at *
  obtain ⟨kk, key, n, fx, s, mk, must⟩ := a
  go_enter Tryz.func48, Tryz.ntmps48
  go_wp2_with fail
  refine (HO.out _ (below4 w _ _ _ _)).mono ?_
  rintro e w1 ⟨A', c', rfl, ho, hn, hb⟩
  have hs1 := hb.size
  simp only [World.size_alloc] at hs1 hn
  have e1 := (hb.block (w.heap.size + 1) (by simp only [World.size_alloc]; omega)).trans ((heap_alloc_old _ _ (by simp only [World.size_alloc]; omega)).trans ((heap_alloc_old _ _ (by simp only [World.size_alloc]; omega)).trans (heap_new _ _ _ (by simp))))
  have e2 := (hb.block (w.heap.size + 1 + 1) (by simp only [World.size_alloc]; omega)).trans ((heap_alloc_old _ _ (by simp only [World.size_alloc]; omega)).trans (heap_new _ _ _ (by simp)))
  have e3 := (hb.block (w.heap.size + 1 + 1 + 1) (by simp only [World.size_alloc]; omega)).trans (heap_new _ _ _ (by simp))
  have HB1 := Lib.hid (show Below w.heap.size w w1 from (below4 w _ _ _ _).trans (hb.mono (by simp only [World.size_alloc]; omega)))
  have c1 := fun o => cell_of_row w1 _ o _ _ (0, 0) e1
  have z1 : w.heap.size + 1 < w1.heap.size := by omega
  have z2 : w.heap.size + 1 + 1 < w1.heap.size := by omega
  have z3 : w.heap.size + 1 + 1 + 1 < w1.heap.size := by omega
  have R1 := Lib.hid e1
  have R2 := Lib.hid e2
  have R3 := Lib.hid e3
  have HW := Lib.hid ho
  have HN := Lib.hid hn
  clear hb e1 e2 e3 ho hn
  go_wp2_with fail
  have hB1w : Below w.heap.size w (w1.alloc (.cells (recC q.kind q.num q.low q.high q.real q.cap q.text (.slice A' q.list.length c')) 25)) := HB1.out.trans ((below1 w1 _).mono (by omega))
  refine (HF.out _ A' c' hB1w (Its.own (own_below HW.out (below1 w1 _)))).mono ?_
  rintro e w2 ⟨rfl, hb2⟩
  have hs2 := hb2.size
  simp only [World.size_alloc] at hs2
  have e1 := (hb2.block (w.heap.size + 1) (by simp only [World.size_alloc]; omega)).trans ((heap_alloc_old _ _ (by omega)).trans R1.out)
  have e2 := (hb2.block (w.heap.size + 1 + 1) (by simp only [World.size_alloc]; omega)).trans ((heap_alloc_old _ _ (by omega)).trans R2.out)
  have e3 := (hb2.block (w.heap.size + 1 + 1 + 1) (by simp only [World.size_alloc]; omega)).trans ((heap_alloc_old _ _ (by omega)).trans R3.out)
  have e5 := (hb2.block w1.heap.size (by simp only [World.size_alloc]; omega)).trans (heap_alloc_new w1 _)
  have HB2 := Lib.hid (hB1w.trans (hb2.mono (by simp only [World.size_alloc]; omega)))
  have HW2 := Lib.hid (own_below (own_below HW.out (below1 w1 _)) hb2)
  have hinn : ∀ k, ob A' = some k → k < w2.heap.size := in_of_own HW2.out
  have hia : ∀ k, ob A' = some k → k ≠ w.heap.size + 1 ∧ k ≠ w1.heap.size := fun k e => by
    have h1 := HN.out k e
    have h2 := in_of_own HW.out k e
    omega
  have HS := Lib.hid (show ∀ W, Kp (fun k => ob A' = some k) w2 W → (∀ o, W.cell? ⟨w.heap.size + 1, o, none⟩ = (actC ⟨kk, key, n, fx, s, mk, must⟩ L cl)[o]?) ∧ (∀ o, W.cell? ⟨w1.heap.size, o, none⟩ = (recC q.kind q.num q.low q.high q.real q.cap q.text (.slice A' q.list.length c'))[o]?) from fun W hk =>
    ⟨fun o => cell_of_row W _ o _ _ (0, 0) ((hk.block _ (lt_of_heap e1) (fun e => (hia _ e).1 rfl)).trans e1), fun o => cell_of_row W _ o _ _ (0, 0) ((hk.block _ (lt_of_heap e5) (fun e => (hia _ e).2 rfl)).trans e5)⟩)
  have HD33 := Lib.hid (show ∀ b v V gs, Doings b w2 v → Below v.heap.size v V → Bx A' w2 V gs → Calls Tryz.prog K #[recV q A' c', actV ⟨kk, key, n, fx, s, mk, must⟩ L cl] V (fun e w' => ∃ A1 c1 B cb, e = .returned (.tuple #[recV p A1 c1, ansV z.code z.num z.rc B cb]) ∧ Bz p z A' w2 A1 c1 B cb w' gs) from fun b v V gs hD hb hx =>
    (HDo.out b w2 V A' c' (hD.next hb) (own_below HW2.out hx.bel) (HLL.out.below (HB2.out.trans (hx.bel.mono HB2.out.size)))).mono fun e w' hp => bz_of_call hx hp)
  have S2 := Lib.hid e2
  have S3 := Lib.hid e3
  have hx0 : Bx A' w2 w2.drew [] := Bx.start hinn
  have hxw : Bx A' w2 w2 [] := Bx.base hinn
  have hk0 := hx0.kp
  have hkw := hxw.kp
  have HI := Lib.hid hinn
  have HZ := Lib.hid (show w.heap.size + 1 + 1 + 1 < w2.heap.size by omega)
  clear hb2 e1 e2 e3 e5 hB1w R1 R2 R3 HW HF HO hia hinn c1 HDo z1 z2 z3 hs1 hs2
  go_wp2_with fail
  go_cut [11, 12] (fun t11 t12 wx => ∃ (g h : Nat) (A1 : Option Addr) (c1 : Nat) (B : Option Addr) (cb : Nat), t11 = .pointer (some ⟨g, 0, none⟩) ∧ t12 = .pointer (some ⟨h, 0, none⟩) ∧ Bz p z A' w2 A1 c1 B cb wx [(g, .cells (recC p.kind p.num p.low p.high p.real p.cap p.text (.slice A1 p.list.length c1)) 25 (0, 0)), (h, .cells (ansC z.code z.num z.rc B cb) 82 (0, 0))])
  case first =>
    go_region_held3 (fun W => (∀ o, W.cell? ⟨w.heap.size + 1, o, none⟩ = (actC ⟨kk, key, n, fx, s, mk, must⟩ L cl)[o]?) ∧ (∀ o, W.cell? ⟨w1.heap.size, o, none⟩ = (recC q.kind q.num q.low q.high q.real q.cap q.text (.slice A' q.list.length c'))[o]?))
      (first
        | with_reducible exact HS.out _ hkz
        | with_reducible exact HS.out _ hkv
        | with_reducible exact HS.out _ hk0
        | ((with_reducible refine HS.out _ ?_); (repeat (with_reducible (first | exact hkz | exact hkv | exact hk0 | exact hkw | refine Kp.drew ?_ | refine Kp.alloc ?_ _ | refine kp8g ?_ (Or.inr q0) | refine kp8g ?_ (Or.inr q7) | refine kp8g ?_ (Or.inr hwd2) | refine kp10 ?_ (Or.inr q0) | refine kp10 ?_ (Or.inr q7) | refine kp10 ?_ (Or.inr hwd2)))); done))
      (first
        | (go_at_call 85; (first | with_reducible refine Calls.mono (doings_bx hx0) ?_ | with_reducible refine Calls.mono (doings_bx hxw.alloc.drew) ?_ | with_reducible refine Calls.mono (doings_bx hxw.alloc.alloc.drew) ?_); rintro e v ⟨b, rfl, hD, hxv⟩; have hv2 := hxv.bel.size; have hkv := hxv.kp)
        | ((first | with_reducible refine Calls.mono (HD33.out b v _ _ hD (Below.refl _ _) hxv) ?_ | with_reducible refine Calls.mono (HD33.out b v _ _ hD (below1 _ _) hxv.alloc) ?_ | with_reducible refine Calls.mono (HD33.out b v _ _ hD (below2 _ _ _) hxv.alloc.alloc) ?_); rintro e wd ⟨A1, cA, B, cb, rfl, hz⟩; (try simp only [World.size_alloc] at hz); have hwd2 := hz.kp.size; have hkz := hz.kp; (try have q0 := Bz.low hz); (try have q1 := Bz.cells hz); (try have q2 := Bz.froz hz); (try have q3 := Bz.lt hz); (try have q7 := Bz.low hz.swap); (try have q4 := Bz.cells hz.swap); (try have q5 := Bz.froz hz.swap); (try have q6 := Bz.lt hz.swap); (try have q8 := Bz.ne hz); (try have q9 := Bz.ne hz.swap); (try simp only [World.size_alloc, heap_drew] at q0); (try simp only [World.size_alloc, heap_drew] at q1); (try simp only [World.size_alloc, heap_drew] at q2); (try simp only [World.size_alloc, heap_drew] at q3); (try simp only [World.size_alloc, heap_drew] at q4); (try simp only [World.size_alloc, heap_drew] at q5); (try simp only [World.size_alloc, heap_drew] at q6); (try simp only [World.size_alloc, heap_drew] at q7)))
    all_goals
      go_wp2_with fail
      go_meet
      refine ⟨_, _, A1, cA, B, cb, rfl, rfl, ?_⟩
      first
        | (with_reducible refine Bz.allocG ?_ (by simp)); (with_reducible refine Bz.allocG ?_ (by simp)); with_reducible exact hz
        | (with_reducible refine Bz.swap ?_); (with_reducible refine Bz.allocG ?_ (by simp)); (with_reducible refine Bz.allocG ?_ (by simp)); with_reducible exact hz
        | (with_reducible refine Bz.allocG ?_ (by simp)); with_reducible exact Bz.ansA hz
        | (with_reducible refine Bz.swap ?_); (with_reducible refine Bz.allocG ?_ (by simp)); with_reducible exact Bz.recA hz
        | with_reducible exact Bz.ansB (Bz.recA hz)
        | (with_reducible refine Bz.swap ?_); with_reducible exact Bz.ansA (Bz.recB hz)
  case rest =>
  obtain ⟨g, h, A1, cA, B, cb, rfl, rfl, hz⟩ := hcut
  have HZ2 := Lib.hid hz
  have e2 := (hz.kp.block _ (lt_of_heap S2.out) (fun e => by have := HN.out _ e; omega)).trans S2.out
  have e3 := (hz.kp.block _ (lt_of_heap S3.out) (fun e => by have := HN.out _ e; omega)).trans S3.out
  have l1 := hz.low
  have l2 := hz.swap.low
  have l3 := HZ.out
  have z1 : g ≠ w.heap.size + 1 + 1 := by omega
  have z2 : g ≠ w.heap.size + 1 + 1 + 1 := by omega
  have z3 : h ≠ w.heap.size + 1 + 1 := by omega
  have z4 : h ≠ w.heap.size + 1 + 1 + 1 := by omega
  have y1 := z1.symm
  have y2 := z2.symm
  have y3 := z3.symm
  have y4 := z4.symm
  have d1 := hz.cells
  have d4 := hz.swap.cells
  have d2 := fun o => cell_of_row wc _ o _ _ (0, 0) e2
  have d3 := fun o => cell_of_row wc _ o _ _ (0, 0) e3
  have f2 : ∀ o, wc.frozen? ⟨w.heap.size + 1 + 1, o, none⟩ = false := fun o => frozen_of_row _ _ o _ _ e2
  have f3 : ∀ o, wc.frozen? ⟨w.heap.size + 1 + 1 + 1, o, none⟩ = false := fun o => frozen_of_row _ _ o _ _ e3
  have T2 := Lib.hid e2
  have T3 := Lib.hid e3
  have HX := Lib.hid (show w.heap.size + 1 + 1 + 1 < wc.heap.size by have := hz.kp.size; omega)
  have HL3 := Lib.hid l3
  clear e2 e3 hz l1 l2 l3 HD33 HS hx0 hxw hk0 hkw hix hE S2 S3
  go_wp2_with fail
  go_region_with (fail)
  all_goals
    go_wp2_with fail
    generalize hwf : World.drew _ = wf
    have X2 : wf.heap[w.heap.size + 1 + 1]? = some (.cells (recC p.kind p.num p.low p.high p.real p.cap p.text (.slice A1 p.list.length cA)) 25 (0, 0)) := by
      rw [← hwf, heap_drew]
      exact (ans_other (by omega)).trans (rec_stores T2.out)
    have X3 : wf.heap[w.heap.size + 1 + 1 + 1]? = some (.cells (ansC z.code z.num z.rc B cb) 82 (0, 0)) := by
      rw [← hwf, heap_drew]
      exact ans_all ((rec_stores_other (by omega)).trans T3.out)
    have hk : Kp (fun k => k = w.heap.size + 1 + 1 ∨ k = w.heap.size + 1 + 1 + 1) wc wf := by
      rw [← hwf]
      exact Kp.drew (kp10 (kp8g (Kp.refl _ wc) (Or.inl (Or.inl rfl))) (Or.inl (Or.inr rfl)))
    have HO1 := Lib.hid (hk.own HZ2.out.own1 (fun k e x => by
      rw [ownBlock_slice] at e
      have h3 := HL3.out
      rcases (HZ2.out.new1 k e).1 with h1 | h1
      · have h2 := HN.out k h1
        rcases x with x | x <;> omega
      · rcases x with x | x <;> omega))
    have HO2 := Lib.hid (hk.own HZ2.out.own2 (fun k e x => by
      rw [ownBlock_slice] at e
      have h3 := HL3.out
      have h1 := (HZ2.out.new2 k e).1
      rcases x with x | x <;> omega))
    have HN1 := Lib.hid (show ∀ k, ob A1 = some k → w.heap.size ≤ k from fun k e => by
      have h3 := HL3.out
      rcases (HZ2.out.new1 k e).1 with h1 | h1
      · have h2 := HN.out k h1; omega
      · omega)
    have HN2 := Lib.hid (show ∀ k, ob B = some k → w.heap.size ≤ k ∧ ob A1 ≠ some k from fun k e => ⟨by have h3 := HL3.out; have h1 := (HZ2.out.new2 k e).1; omega, (HZ2.out.new2 k e).2.1⟩)
    have HBf := Lib.hid (show Below w.heap.size w wf from (HB2.out.trans (HZ2.out.kp.below (by have := HL3.out; omega) (fun i hi x => by have := HN.out i x; omega))).trans (hk.below (by have := HX.out; omega) (fun i hi x => by rcases x with x | x <;> omega)))
    have k2 := fun o => cell_of_row wf _ o _ _ (0, 0) X2
    have k3 := fun o => cell_of_row wf _ o _ _ (0, 0) X3
    clear hwf X2 X3 d1 d2 d3 d4 f2 f3 hk
    exact bodyPost_ret (v := .tuple #[recV p A1 cA, .bool (p.kind != 0), ansV z.code z.num z.rc B cb]) (by simp [results, Tryz.results48, go_sem, k2, k3]) rfl ⟨A1, cA, B, cb, rfl, HO1.out, HO2.out, HN1.out, HN2.out, HBf.out⟩
end Go.Proofs.YtbkcmnmbcldjoaaGreatDoor
