/- Contracts of package rule: Row. -/
import Derived.Test.YtofaonknfihaiaaDoorRule26
namespace Go.Proofs.YtofaonknfihaiaaDoor
open Go.RowKit MM

theorem src_row {P : Program} {size : Nat} {tx e' t : TypeId} (hk : P.underlying tx = some (.slice e')) (w : World) (cs : Array Value) (k : Nat) (hw : k = w.heap.size) (hl : cs.size = 1 * size) (h1 : ∀ u ∈ cs.toList, u.oneCell' = true) :
    Src P size tx (.slice (some ⟨k, 0, none⟩) 1 1) 1 cs.toList (w.alloc (.cells cs t)) := by
  subst hw
  exact src_new hk w cs (by omega) h1
theorem one10 (a b c d e f g h i j : Value) (h1 : a.oneCell' = true) (h2 : b.oneCell' = true) (h3 : c.oneCell' = true) (h4 : d.oneCell' = true) (h5 : e.oneCell' = true) (h6 : f.oneCell' = true) (h7 : g.oneCell' = true) (h8 : h.oneCell' = true) (h9 : i.oneCell' = true) (h10 : j.oneCell' = true) : ∀ u ∈ (#[a, b, c, d, e, f, g, h, i, j] : Array Value).toList, u.oneCell' = true := by
  intro u hu
  simp at hu
  rcases hu with rfl | rfl | rfl | rfl | rfl | rfl | rfl | rfl | rfl | rfl <;> assumption

section
variable {r : RC.Rc} {th : Bool} {l : List AC.Ac} {w : World} {i : Nat} {q : RC.Rc} {t : Bool} {A : Option Addr} {c : Nat} {ys : List An} {B : Option Addr} {cb : Nat} {wr : World}
theorem RwAt.lt0 (h : RwAt r th l w i q t A c ys B cb wr) : w.heap.size < wr.heap.size := lt_of_heap h.box
theorem RwAt.lt1 (h : RwAt r th l w i q t A c ys B cb wr) : w.heap.size + 1 < wr.heap.size := lt_of_heap h.res
/-- An act was done: what it left is laid into the box. -/
theorem RwAt.next (h : RwAt r th l w i q t A c ys B cb wr) {a : AC.Ac} (ha : a.ok) (hi : l[i]? = some a) {w2 w3 w4 : World} {A1 : Option Addr} {c1 : Nat} {C : Option Addr} {cc : Nat} {B2 : Option Addr} {cb2 : Nat} {p : RC.Rc} {t' : Bool} {x : RU.Ans}
    (he : RU.apply q t a = (p, t', x)) (hb2 : Below wr.heap.size wr w2) (ho1 : w2.ownsRow 0 49 2 (.slice A1 p.list.length c1) p.list.length (itCells p.list)) (ho2 : w2.ownsRow 0 49 2 (.slice C x.rc.list.length cc) x.rc.list.length (itCells x.rc.list))
    (hn1 : ∀ k, ob A1 = some k → wr.heap.size + 2 ≤ k) (hn2 : ∀ k, ob C = some k → wr.heap.size + 2 ≤ k ∧ ob A1 ≠ some k)
    (hk3 : Kp (fun k => k = w.heap.size ∨ k = wr.heap.size + 1) w2 w3) (hbox : w3.heap[w.heap.size]? = some (.cells (recC p.kind p.num p.low p.high p.real p.cap p.text (.slice A1 p.list.length c1)) 25 (0, 0)))
    (hg : w3.grownBy w4 (ob B)) (hat : ob B2 = ob B ∨ ob B2 = some w3.heap.size) (ho : w4.ownsRow 0 34 10 (.slice B2 (i + 1) cb2) (i + 1) (anCells ys ++ (ansC x.code x.num x.rc C cc).toList)) :
    RwAt r th l w (i + 1) p t' A1 c1 (ys ++ [⟨x, C, cc⟩]) B2 cb2 w4 := by
  have hs := h.lt1
  have hs2 := hb2.size
  have hs3 := hk3.size
  have hB3 : ∀ k, ob B = some k → k < w3.heap.size := fun k e => by
    have := in_row h.ans k e
    omega
  have hbx : ob B ≠ some w.heap.size := fun e => by have := h.newB _ e; omega
  have hk4 : Kp (fun k => ob B = some k) w3 w4 := Kp.grown (Kp.refl _ _) hg (fun k e => .inl e)
  have hnB2 : ∀ k, ob B2 = some k → ob B = some k ∨ w3.heap.size ≤ k := fun k e => by
    rcases hat with h1 | h1
    · exact .inl (h1 ▸ e)
    · rw [h1] at e; injection e with e; exact .inr (by omega)
  have hB1 : ∀ k, ob A1 = some k → ob B ≠ some k := fun k e e2 => by
    have h1 := hn1 k e
    have h2 := in_row h.ans k e2
    omega
  have hin1 := in_of_own ho1
  have hin2 := in_of_own ho2
  have hst := h.state
  have hok := apply_ok (there := t) h.rok ha
  have hlm := apply_lim (there := t) h.rok ha h.lim
  rw [he] at hok hlm
  refine ⟨(hk4.block _ (lt_of_heap hbox) hbx).trans hbox, ?_, ?_, ?_, ?_, ?_, ?_, ?_, ?_, ?_, hok.1, hlm.1, ?_, ?_⟩
  · refine (hk4.block _ (by omega) (fun e => by have := h.newB _ e; omega)).trans ((hk3.block _ (by omega) (by omega)).trans ((hb2.block _ (by omega)).trans h.res))
  · exact hk4.own (hk3.own ho1 (fun k e x => by rw [ownBlock_slice] at e; have := hn1 k e; omega)) (fun k e x => by rw [ownBlock_slice] at e; exact hB1 k e x)
  · rw [anCells_append]
    show w4.ownsRow _ _ _ _ _ (anCells ys ++ (An.cells _ ++ []))
    rw [List.append_nil]
    exact ho
  · intro y hy
    rcases List.mem_append.1 hy with hy | hy
    · have h1 := h.newY y hy
      refine (((h.its y hy).below hb2).kp hk3 (fun ad e x => ?_)).kp hk4 (fun ad e x => ?_)
      · have h2 := (h1 ad.block (by rw [e]; rfl)).1; have h3 := (h1 ad.block (by rw [e]; rfl)).2.1; omega
      · exact (h1 ad.block (by rw [e]; rfl)).2.2 x
    · simp at hy
      subst hy
      refine ((Its.own ho2).kp hk3 (fun ad e x => ?_)).kp hk4 (fun ad e x => ?_)
      · have := (hn2 ad.block (by have e' : C = some ad := e; rw [e']; rfl)).1; omega
      · have h1 := (hn2 ad.block (by have e' : C = some ad := e; rw [e']; rfl)).1
        have h2 := in_row h.ans _ x
        omega
  · intro k e
    have h1 := hn1 k e
    refine ⟨by omega, fun e2 => ?_⟩
    rcases hnB2 k e2 with h3 | h3
    · exact hB1 k e h3
    · have := hin1 k e; omega
  · intro k e
    rcases hnB2 k e with h3 | h3
    · exact h.newB k h3
    · omega
  · intro y hy k e
    rcases List.mem_append.1 hy with hy | hy
    · have h1 := h.newY y hy k e
      refine ⟨h1.1, by have := hk4.size; omega, fun e2 => ?_⟩
      rcases hnB2 k e2 with h3 | h3
      · exact h1.2.2 h3
      · omega
    · simp at hy
      subst hy
      have h1 := (hn2 k e).1
      refine ⟨by omega, by have := hk4.size; have := hin2 k e; omega, fun e2 => ?_⟩
      rcases hnB2 k e2 with h3 | h3
      · have := in_row h.ans k h3; omega
      · have := hin2 k e; omega
  · exact h.below.trans ((hb2.mono h.below.size).trans ((hk3.below (by omega) (fun i hi x => by omega)).trans (hk4.below (by omega) (fun i hi x => by have := h.newB i x; omega))))
  · rw [RU.st_next r th l i a hi, hst]
    simp [he]
  · intro y hy
    rcases List.mem_append.1 hy with hy | hy
    · exact h.yok y hy
    · simp at hy
      subst hy
      exact ⟨hok.2, hlm.2⟩
  · simp [h.len]
end

theorem ans_info : (Tryd.prog.info? 34).map (fun i => (i.zero, i.size, i.bytes)) = some (some (.agg #[.int .i64 0, .int .i64 0, .int .i64 0, .int .i64 0, .int .i64 0, .int .i64 0, .float .f64 0, .int .i64 0, .string ⟨#[]⟩, .slice none 0 0]), 10, 104) := by kernel_rfl

set_option maxHeartbeats 4000000 in
set_option maxRecDepth 100000 in
theorem row_any (r : RC.Rc) (there : Bool) (l : List Al) (A L : Option Addr) (c cl : Nat) (w : World) (hr : r.ok) (hR : RowsAt w) (hA : Its w A r.list) (n1 : Lim r.list.length) (hl : ActsIn w L l) (hn : l.length ≤ 1000) (hs : ∀ x ∈ l, Lim x.r.make.list.length ∧ Lim x.r.key.size ∧ Lim x.r.s.size) :
    Calls Tryd.prog 16 #[recV r A c, .bool there, .slice L l.length cl] w (RwPost (ownR r there) there (l.map (·.r)) w) := by
  obtain ⟨i0, hi0, hz0, hz1, hz2⟩ := info_parts ans_info
  have HO := Lib.hid (fun u (b : Below w.heap.size w u) => ruleOwn_any r there A c u (hA.below b) n1)
  have hok := ownR_ok (there := there) hr
  have HOK := Lib.hid hok
  have HLM := Lib.hid (n1.le (ownR_len r there))
  have HR := Lib.hid hR
  have HL := Lib.hid hl
  have HS := Lib.hid hs
  clear hr hR hA n1 hl hs hok
  generalize ownR r there = q0 at *
  go_enter Tryd.func16, Tryd.ntmps16
  go_wp2_with fail
  refine (HO.out _ (below2 w _ _)).mono ?_
  rintro e w1 ⟨A0, c0, rfl, ho, hnew, hb⟩
  have hs1 := hb.size
  simp only [World.size_alloc] at hs1 hnew
  have e0 := (hb.block w.heap.size (by simp only [World.size_alloc]; omega)).trans (heap_alloc2_old w _ _)
  have e1 := (hb.block (w.heap.size + 1) (by simp only [World.size_alloc]; omega)).trans (heap_alloc2_new w _ _)
  have d0 := fun o => cell_of_row w1 _ o _ _ (0, 0) e0
  have f0 : ∀ o, w1.frozen? ⟨w.heap.size, o, none⟩ = false := fun o => frozen_of_row _ _ o _ _ e0
  have E0 := Lib.hid e0
  have E1 := Lib.hid e1
  have HW := Lib.hid ho
  have HN := Lib.hid hnew
  have HB := Lib.hid (show Below w.heap.size w w1 from (below2 w _ _).trans (hb.mono (by simp only [World.size_alloc]; omega)))
  have y0 : w.heap.size < w1.heap.size := by omega
  clear e0 e1 ho hnew hb
  go_wp2_with fail
  generalize hwz : World.setCell _ _ _ = wz
  have HI := Lib.hid (show RwAt q0 there (l.map (·.r)) w 0 q0 there A0 c0 [] none 0 wz by
    have hk : Kp (fun k => k = w.heap.size) w1 wz := by rw [← hwz]; exact kp8g (Kp.refl _ _) (Or.inl rfl)
    refine ⟨by rw [← hwz]; exact rec_stores E0.out, (hk.block _ (by omega) (by omega)).trans E1.out, hk.own HW.out (fun k e x => by rw [ownBlock_slice] at e; have := HN.out k e; omega), World.ownsRow_nil _ _ _ _, fun y hy => (by cases hy), fun k e => ⟨by have := HN.out k e; omega, fun e2 => by cases e2⟩, fun k e => (by cases e), fun y hy => (by cases hy), HB.out.trans (hk.below (by omega) (fun i hi x => by omega)), rfl, HOK.out, HLM.out, fun y hy => (by cases hy), rfl⟩)
  clear hwz d0 f0 E0 E1 HW HN HB y0 hs1 HO HOK HLM
  go_loopw [1, 9, 18] (fun t1 t9 t18 wr => ∃ (i : Nat) (q : RC.Rc) (t : Bool) (A1 : Option Addr) (c1 : Nat) (ys : List An) (B : Option Addr) (cb : Nat), t18 = .int .i64 i ∧ t1 = .bool t ∧ t9 = .slice B i cb ∧ i ≤ l.length ∧ RwAt q0 there (l.map (·.r)) w i q t A1 c1 ys B cb wr) (fun _ _ t18 _ => l.length - (intOf t18).toNat)
  case atStart => exact ⟨0, q0, there, A0, c0, [], none, 0, rfl, rfl, rfl, Nat.zero_le _, HI.out⟩
  case round =>
    obtain ⟨i, q, t, A1, c1, ys, B, cb, rfl, rfl, rfl, hi, hv⟩ := hrel
    have HV := Lib.hid hv
    clear hv
    by_cases hlt : i < l.length
    · have hin := HL.out.all _ (List.getElem_mem hlt)
      have hsm := HS.out _ (List.getElem_mem hlt)
      have hget : (l.map (·.r))[i]? = some l[i].r := by simp [hlt]
      rcases HL.out.rows with hA | ⟨b, off, rfl, hbl, hrows⟩
      · subst hA; simp at hlt
      have hrow := hrows i l[i] (List.getElem?_eq_getElem hlt)
      clear hrows
      generalize l[i] = y at *
      obtain ⟨⟨k, key, n, x, s, m, must⟩, RA, rc⟩ := y
      have r0 : wr.cell? ⟨b, off + i * 14, none⟩ = some (.int .i64 k) := below_keep HV.out.below (hrow 0 _ rfl)
      have r1 : wr.cell? ⟨b, off + i * 14 + 1, none⟩ = some (.string key) := below_keep HV.out.below (hrow 1 _ rfl)
      have r2 : wr.cell? ⟨b, off + i * 14 + 2, none⟩ = some (.int .i64 n) := below_keep HV.out.below (hrow 2 _ rfl)
      have r3 : wr.cell? ⟨b, off + i * 14 + 3, none⟩ = some (.float .f64 x) := below_keep HV.out.below (hrow 3 _ rfl)
      have r4 : wr.cell? ⟨b, off + i * 14 + 4, none⟩ = some (.string s) := below_keep HV.out.below (hrow 4 _ rfl)
      have r5 : wr.cell? ⟨b, off + i * 14 + 5, none⟩ = some (.int .i64 m.kind) := below_keep HV.out.below (hrow 5 _ rfl)
      have r6 : wr.cell? ⟨b, off + i * 14 + 6, none⟩ = some (.int .i64 m.num) := below_keep HV.out.below (hrow 6 _ rfl)
      have r7 : wr.cell? ⟨b, off + i * 14 + 7, none⟩ = some (.int .i64 m.low) := below_keep HV.out.below (hrow 7 _ rfl)
      have r8 : wr.cell? ⟨b, off + i * 14 + 8, none⟩ = some (.int .i64 m.high) := below_keep HV.out.below (hrow 8 _ rfl)
      have r9 : wr.cell? ⟨b, off + i * 14 + 9, none⟩ = some (.float .f64 m.real) := below_keep HV.out.below (hrow 9 _ rfl)
      have r10 : wr.cell? ⟨b, off + i * 14 + 10, none⟩ = some (.int .i64 m.cap) := below_keep HV.out.below (hrow 10 _ rfl)
      have r11 : wr.cell? ⟨b, off + i * 14 + 11, none⟩ = some (.string m.text) := below_keep HV.out.below (hrow 11 _ rfl)
      have r12 : wr.cell? ⟨b, off + i * 14 + 12, none⟩ = some (.slice RA m.list.length rc) := below_keep HV.out.below (hrow 12 _ rfl)
      have r13 : wr.cell? ⟨b, off + i * 14 + 13, none⟩ = some (.bool must) := below_keep HV.out.below (hrow 13 _ rfl)
      have HAp := Lib.hid (fun u (b : Below w.heap.size w u) (hA : Its u A1 q.list) => apply_any q t ⟨k, key, n, x, s, m, must⟩ A1 RA c1 rc u HV.out.rok hin.ok (HR.out.below b) hA (hin.make.its.below b) HV.out.lim hsm.1 hsm.2.1 hsm.2.2)
      have HNX := Lib.hid (fun w2 w3 w4 A2 c2 C cc B2 cb2 p t' xx => HV.out.next (a := ⟨k, key, n, x, s, m, must⟩) hin.ok hget (w2 := w2) (w3 := w3) (w4 := w4) (A1 := A2) (c1 := c2) (C := C) (cc := cc) (B2 := B2) (cb2 := cb2) (p := p) (t' := t') (x := xx))
      have hi1 : (i : Int) < (l.length : Int) := by omega
      have hs0 := HV.out.lt0
      have hs1 := HV.out.lt1
      have d0 := fun o => cell_of_row wr _ o _ _ (0, 0) HV.out.box
      have HR1 := Lib.hid hin
      clear hin hsm hget hrow hbl
      go_wp2_with fail
      refine (HAp.out _ (HV.out.below.trans ((below2 wr _ _).mono HV.out.below.size)) ((Its.own HV.out.own).below (below2 wr _ _))).mono ?_
      generalize hap : RU.apply q t ⟨k, key, n, x, s, m, must⟩ = out
      obtain ⟨p, t', xx⟩ := out
      have HE := Lib.hid hap
      clear hap
      rintro e w2 ⟨A2, c2, C, cc, rfl, ho1, ho2, hn1, hn2, hb2⟩
      have hs2 := hb2.size
      simp only [World.size_alloc] at hs2 hn1 hn2
      have e0 := (hb2.block w.heap.size (by simp only [World.size_alloc]; omega)).trans ((heap_alloc_old _ _ (by simp only [World.size_alloc]; omega)).trans ((heap_alloc_old _ _ hs0).trans HV.out.box))
      have e3 := (hb2.block (wr.heap.size + 1) (by simp only [World.size_alloc]; omega)).trans (heap_alloc2_new wr _ _)
      have dd0 := fun o => cell_of_row w2 _ o _ _ (0, 0) e0
      have dd3 := fun o => cell_of_row w2 _ o _ _ (0, 0) e3
      have f0 : ∀ o, w2.frozen? ⟨w.heap.size, o, none⟩ = false := fun o => frozen_of_row _ _ o _ _ e0
      have f3 : ∀ o, w2.frozen? ⟨wr.heap.size + 1, o, none⟩ = false := fun o => frozen_of_row _ _ o _ _ e3
      have HB2 := Lib.hid (show Below wr.heap.size wr w2 from (below2 wr _ _).trans (hb2.mono (by simp only [World.size_alloc]; omega)))
      have E0 := Lib.hid e0
      have E3 := Lib.hid e3
      have KO := Lib.hid (show ∀ W, Kp (fun k => k = w.heap.size ∨ k = wr.heap.size + 1) w2 W → W.ownsRow 0 34 10 (.slice B i cb) i (anCells ys) from fun W hk => hk.own (own_below HV.out.ans HB2.out) (fun k e x => by
        rw [ownBlock_slice] at e
        have h1 := HV.out.newB k e
        have h2 := in_row HV.out.ans k e
        rcases x with x | x <;> omega))
      have HO1 := Lib.hid ho1
      have HO2 := Lib.hid ho2
      have HN1 := Lib.hid (show ∀ k, ob A2 = some k → wr.heap.size + 2 ≤ k from hn1)
      have HN2 := Lib.hid (show ∀ k, ob C = some k → wr.heap.size + 2 ≤ k ∧ ob A2 ≠ some k from hn2)
      have y0 : w.heap.size < w2.heap.size := by omega
      have y1 : wr.heap.size + 1 < w2.heap.size := by omega
      have y2 : w.heap.size ≠ wr.heap.size + 1 := by omega
      have y3 : wr.heap.size + 1 ≠ w.heap.size := by omega
      clear e0 e3 hb2 ho1 ho2 hn1 hn2 d0 r0 r1 r2 r3 r4 r5 r6 r7 r8 r9 r10 r11 r12 r13 HAp
      go_wp2_with (first
        | (at_builtin
           refine wpList_append_at rfl _ _ _ _ rfl 34 i0 _ 10 104 Tryd.underlying44 hi0 hz0 hz1 hz2 rfl B i cb (anCells ys) rfl (KO.out _ (Kp.alloc (kp10 (kp8g (Kp.refl _ _) (Or.inl (Or.inl rfl))) (Or.inl (Or.inr rfl))) _)) _ 1 _ rfl (src_row Tryd.underlying44 _ _ _ (by simp) rfl (one10 _ _ _ _ _ _ _ _ _ _ rfl rfl rfl rfl rfl rfl rfl rfl rfl rfl)) (by unfold maxLen; omega) (by omega) ?_
           intro B2 cb2 w4 ho4 hg4 hat4))
      have HT := Lib.hid (HNX.out w2 _ w4 A2 c2 C cc B2 cb2 p t' xx HE.out HB2.out HO1.out HO2.out HN1.out HN2.out (Kp.alloc (kp10 (kp8g (Kp.refl _ _) (Or.inl (Or.inl rfl))) (Or.inl (Or.inr rfl))) _) ((heap_alloc_old _ _ (by simp; omega)).trans ((ans_other (by omega)).trans (rec_stores E0.out))) hg4 hat4 ho4)
      clear ho4 hg4 hat4 dd0 dd3 f0 f3
      go_wp2_with fail
      go_roundw
      case rel => exact ⟨i + 1, p, t', A2, c2, ys ++ [⟨xx, C, cc⟩], B2, cb2, by go_num, rfl, rfl, by omega, HT.out⟩
      case measure => simp [intOf]; omega
    · have hi' : i = l.length := by omega
      subst hi'
      have hs0 := HV.out.lt0
      have hs1 := HV.out.lt1
      have d0 := fun o => cell_of_row wr _ o _ _ (0, 0) HV.out.box
      have d1 := fun o => cell_of_row wr _ o _ _ (0, 0) HV.out.res
      have f1 : ∀ o, wr.frozen? ⟨w.heap.size + 1, o, none⟩ = false := fun o => frozen_of_row _ _ o _ _ HV.out.res
      have hi1 : ¬ (l.length : Int) < (l.length : Int) := by omega
      go_wp2_with fail
      generalize hwf : World.setCell _ _ _ = wf
      have hk : Kp (fun k => k = w.heap.size + 1) wr wf := by rw [← hwf]; exact kp8g (Kp.refl _ _) (Or.inl rfl)
      have X1 : wf.heap[w.heap.size + 1]? = some (.cells (recC q.kind q.num q.low q.high q.real q.cap q.text (.slice A1 q.list.length c1)) 25 (0, 0)) := by rw [← hwf]; exact rec_stores HV.out.res
      have k1 := fun o => cell_of_row wf _ o _ _ (0, 0) X1
      have HP := Lib.hid (show RwPost q0 there (l.map (·.r)) w (.returned (.tuple #[recV q A1 c1, .bool t, .slice B l.length cb])) wf by
        refine ⟨q, t, A1, c1, ys, B, cb, by simp, by simpa using HV.out.state, by simpa using HV.out.len, hk.own HV.out.own (fun k e x => ?_), ?_, fun y hy => (HV.out.its y hy).kp hk (fun ad e x => ?_), HV.out.rok, HV.out.lim, HV.out.yok, fun k e => ?_, fun k e => ?_, HV.out.below.trans (hk.below (by omega) (fun i hi x => by omega))⟩
        · rw [ownBlock_slice] at e
          have := (HV.out.newA k e).1
          omega
        · rw [List.length_map]
          exact hk.own HV.out.ans (fun k e x => by rw [ownBlock_slice] at e; have := HV.out.newB k e; omega)
        · have := (HV.out.newY y hy ad.block (by rw [e]; rfl)).1
          omega
        · have := (HV.out.newA k e).1; omega
        · have := HV.out.newB k e; omega)
      clear hwf X1 d0 d1 f1 hk
      exact bodyPost_ret (v := .tuple #[recV q A1 c1, .bool t, .slice B l.length cb]) (by simp [results, Tryd.results16, go_sem, k1]) rfl HP.out

end Go.Proofs.YtofaonknfihaiaaDoor
