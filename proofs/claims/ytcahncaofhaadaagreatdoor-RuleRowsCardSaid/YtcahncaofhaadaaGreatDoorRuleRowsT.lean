/- The walk of RuleRows. -/
import Derived.Test.YtcahncaofhaadaaGreatDoorR5E
import Derived.Test.YtcahncaofhaadaaGreatDoorRuV
import Derived.Test.YtcahncaofhaadaaGreatDoorSpF
namespace Go.Proofs.YtcahncaofhaadaaGreatDoor
open Go.RowKit MM
set_option linter.unusedVariables false
set_option linter.unusedSimpArgs false

theorem st_len (r : RC.Rc) (th : Bool) (l : List AC.Ac) : ∀ n, n ≤ l.length → (RU.st r th l n).2.2.length = n
  | 0, _ => rfl
  | n + 1, h => by
    have hn : n < l.length := by omega
    rw [RU.st_next r th l n l[n] (List.getElem?_eq_getElem hn)]
    simp [st_len r th l n (by omega)]
theorem st_ans (r : RC.Rc) (th : Bool) (l : List AC.Ac) (i : Nat) (a : AC.Ac) (hi : l[i]? = some a) : ∀ n, i < n → n ≤ l.length → (RU.st r th l n).2.2[i]? = some (RU.apply (RU.st r th l i).1 (RU.st r th l i).2.1 a).2.2
  | 0, h, _ => by omega
  | n + 1, h, hn => by
    have hl := st_len r th l n (by omega)
    rw [RU.st_next r th l n l[n] (List.getElem?_eq_getElem (by omega))]
    by_cases hin : i = n
    · subst hin
      have ha : l[i] = a := by
        have := List.getElem?_eq_getElem (show i < l.length by omega)
        rw [this] at hi
        exact Option.some.inj hi
      rw [List.getElem?_append_right (by omega), hl, ha]
      simp
    · rw [List.getElem?_append_left (by omega)]
      exact st_ans r th l i a hi n (by omega) (by omega)
/-- Answers in a row, read. -/
theorem ans_rows {w : World} {B : Option Addr} {n cb : Nat} {ys : List An} (h : w.ownsRow 0 32 10 (.slice B n cb) n (anCells ys)) (hn : 0 < n) : ∃ g off, B = some ⟨g, off, none⟩ ∧ g < w.heap.size ∧ ∀ i y, ys[i]? = some y → ∀ j v, y.cells[j]? = some v → w.cell? ⟨g, off + i * 10 + j, none⟩ = some v := by
  obtain ⟨g, hA, hg, hc⟩ := own_cell h hn
  exact ⟨g, 0, hA, hg, fun i y hy j v hv => by rw [Nat.zero_add]; exact hc _ v (anCells_at ys i y hy j v hv)⟩

/-- How things stand behind i acts, by the document. -/
structure RrAt (w6 : World) (b : Nat) (q : RC.Rc) (A : Option Addr) (c : Nat) (wr : World) : Prop where
  box : wr.heap[b]? = some (.cells (recC q.kind q.num q.low q.high q.real q.cap q.text (.slice A q.list.length c)) 25 (0, 0))
  its : Its wr A q.list
  ok : q.ok
  lim : Lim q.list.length
  keep : Kp (fun k => k = b) w6 wr
section
variable {w6 wr : World} {b : Nat} {q : RC.Rc} {A : Option Addr} {c : Nat}
theorem RrAt.bel (h : RrAt w6 b q A c wr) {w : World} (hb : Below w.heap.size w w6) (hl : w.heap.size ≤ b) : Below w.heap.size w wr :=
  hb.trans (h.keep.below hb.size (fun i hi e => by omega))
/-- An act was done by the document: what it left is laid into the box. -/
theorem RrAt.next (h : RrAt w6 b q A c wr) (hb6 : b < w6.heap.size) {p : RC.Rc} {A2 : Option Addr} {c2 : Nat} {w2 w3 : World} (hb2 : Below wr.heap.size wr w2) (hI : Its w2 A2 p.list) (hok : p.ok) (hlm : Lim p.list.length) {k : Nat} (hk : wr.heap.size ≤ k) {t : TypeId} (hr0 : w2.heap[b]? = some (.cells (recC q.kind q.num q.low q.high q.real q.cap q.text (.slice A q.list.length c)) 25 (0, 0))) (hrk : w2.heap[k]? = some (.cells (ansC 0 0 RC.zero none 0) t (0, 0))) (hk3 : Kp (fun j => j = b ∨ j = k) w2 w3) (hbox : w3.heap[b]? = some (.cells (recC p.kind p.num p.low p.high p.real p.cap p.text (.slice A2 p.list.length c2)) 25 (0, 0))) : RrAt w6 b p A2 c2 w3 := by
  have hs := h.keep.size
  refine ⟨hbox, ?_, hok, hlm, ?_⟩
  · refine its_keep hI hk3 ?_
    rcases its_apart hI hr0 (rec_no _ _ _ _ _ _ _ _ _ _) with h1 | h1
    · exact .inl h1
    rcases its_apart hI hrk (ans_no 0 0 RC.zero none 0) with h2 | h2
    · exact .inl h2
    exact .inr fun ad e x => by rcases x with x | x; exact h1 ad e x; exact h2 ad e x
  · exact (h.keep.trans (Kp.of_below hb2 (fun j => j = b)) (fun _ _ x => x)).trans hk3 (fun i hi x => by rcases x with x | x; exact x; omega)
theorem RrAt.look (h : RrAt w6 b q A c wr) {w2 : World} (hb2 : Below wr.heap.size wr w2) : RrAt w6 b q A c w2 :=
  ⟨(hb2.block _ (lt_of_heap h.box)).trans h.box, h.its.below hb2, h.ok, h.lim, h.keep.trans (Kp.of_below hb2 (fun j => j = b)) (fun _ _ x => x)⟩
end
set_option linter.unusedSimpArgs false in
set_option maxHeartbeats 8000000 in
set_option maxRecDepth 100000 in
theorem ruleRows_true (r : RC.Rc) (A : Option Addr) (c : Nat) (L : Option Addr) (cl : Nat) (l : List Al) (w : World) (hr : RecIn w r A c) (hl : ActsIn w L l) (hR : RowsAt w) :
    Calls Tryz.prog 4 #[recV r A c, .bool true, .slice L l.length cl] w fun e w' => e = .returned (.bool true) ∧ Below w.heap.size w w' := by
  have HR := Lib.hid hR
  have HI := Lib.hid hr
  have HL := Lib.hid hl
  clear hR hr hl
  go_enter Tryz.func4, Tryz.ntmps4
  go_wp2_with fail
  refine (speaks5_any _ (HR.out.below (below1 w _))).mono ?_
  rintro e w1 ⟨rfl, hb1⟩
  have hs1 := hb1.size
  simp only [World.size_alloc] at hs1
  have e0 := (hb1.block w.heap.size (by simp only [World.size_alloc]; omega)).trans (heap_alloc_new w _)
  have c0 := fun o => cell_of_row w1 _ o _ _ (0, 0) e0
  have HB1 := Lib.hid (show Below w.heap.size w w1 from (below1 w _).trans (hb1.mono (by simp only [World.size_alloc]; omega)))
  have E0 := Lib.hid e0
  clear hb1 e0
  go_wp2_with fail
  refine (big5_any r A L c cl l _ (HI.out.its.below HB1.out) HI.out.len (HL.out.keep HB1.out)).mono ?_
  rintro e w2 ⟨rfl, hb2⟩
  have F0 := Lib.hid ((hb2.block w.heap.size (lt_of_heap E0.out)).trans E0.out)
  have HB2 := Lib.hid (show Below w.heap.size w w2 from HB1.out.trans (hb2.mono HB1.out.size))
  clear hb2 E0 c0 HB1 hs1
  have c0 := fun o => cell_of_row w2 _ o _ _ (0, 0) F0.out
  cases hbig : big5 r l
  case true =>
    go_wp2_with fail
    go_ret
    exact ⟨rfl, HB2.out⟩
  have hb5 := big5_not hbig
  have HS := Lib.hid (fun x (hx : x ∈ l) => small5 (hb5.2.2 x hx))
  have hlen := hb5.2.1
  have HM := Lib.hid (show Lim r.list.length by have := (big_not hb5.1).1; unfold Lim; omega)
  clear hbig hb5
  go_wp2_with fail
  refine (row_any r true l A L c cl _ HI.out.ok (HR.out.below HB2.out) (HI.out.its.below HB2.out) HM.out (HL.out.keep HB2.out) (by omega) HS.out).mono ?_
  rintro e w3 ⟨q, t, A2, c2, ys, B, cb, rfl, hst, hyl, ho1, ho2, hits, hqok, hqlim, hyok, hnA, hnB, hb3⟩
  have G0 := Lib.hid ((hb3.block w.heap.size (lt_of_heap F0.out)).trans F0.out)
  have HB3 := Lib.hid (HB2.out.trans (hb3.mono HB2.out.size))
  have HST := Lib.hid hst
  have HYL := Lib.hid hyl
  have HO1 := Lib.hid (show Its w3 A2 q.list from Its.own ho1)
  have HO2 := Lib.hid ho2
  have HIT := Lib.hid hits
  have HQ := Lib.hid hqok
  have HQL := Lib.hid hqlim
  have HYK := Lib.hid hyok
  have k0 := fun p o => cell_of_row (w3.alloc p) _ o _ _ (0, 0) ((heap_alloc_old w3 p (lt_of_heap G0.out)).trans G0.out)
  have hnB' := hnB
  clear hb3 hst hyl ho1 ho2 hits hqok hqlim hyok hnA hnB c0 F0
  have HNB := Lib.hid hnB'
  clear hnB'
  go_wp2_with fail
  generalize hw6 : World.alloc (World.alloc w3 _) _ = w6
  have hb6 : Below w3.heap.size w3 w6 := by rw [← hw6]; exact below2 w3 _ _
  have F7 := Lib.hid (show w6.heap[w3.heap.size]? = some (.cells (recC q.kind q.num q.low q.high q.real q.cap q.text (.slice A2 q.list.length c2)) 25 (0, 0)) by rw [← hw6]; exact heap_alloc2_old w3 _ _)
  have F10 := Lib.hid (show w6.heap[w3.heap.size + 1]? = some (.cells (recC r.kind r.num r.low r.high r.real r.cap r.text (.slice A r.list.length c)) 25 (0, 0)) by rw [← hw6]; exact heap_alloc2_new w3 _ _)
  have HB6 := Lib.hid (HB3.out.trans (hb6.mono HB3.out.size))
  have HL1 := Lib.hid (HO1.out.below hb6)
  have HOA := Lib.hid (own_below HO2.out hb6)
  have S3 := Lib.hid (show w.heap.size ≤ w3.heap.size from HB3.out.size)
  have SN := Lib.hid (show ∀ k, ob B = some k → k < w3.heap.size from fun k e => in_row HO2.out k e)
  have SM := Lib.hid (show ∀ y ∈ ys, Its w6 y.A y.x.rc.list from fun y hy => (HIT.out y hy).below hb6)
  have YI := Lib.hid (show Its w6 A r.list from ((HI.out.its.below HB3.out).below hb6))
  generalize hg : w3.heap.size = g3 at *
  have H0 := Lib.hid (show RrAt w6 (g3 + 1) r A c w6 from ⟨F10.out, YI.out, HI.out.ok, HM.out, Kp.refl _ _⟩)
  have F10x := F10
  clear hw6 hb6 k0 G0 HO1 HO2 HIT HB3 HB2 F10 HNB hg
  go_loopw [11, 40] (fun t11 t40 wr => ∃ (i : Nat) (p : RC.Rc) (t' : Bool) (A1 : Option Addr) (c1 : Nat), t40 = .int .i64 i ∧ t11 = .bool t' ∧ i ≤ l.length ∧ (RU.st r true (l.map (·.r)) i).1 = p ∧ (RU.st r true (l.map (·.r)) i).2.1 = t' ∧ RrAt w6 (g3 + 1) p A1 c1 wr) (fun _ t40 _ => l.length - (intOf t40).toNat)
  case atStart => exact ⟨0, r, true, A, c, rfl, rfl, Nat.zero_le _, rfl, rfl, H0.out⟩
  case round =>
    obtain ⟨i, p, t', A1, c1, rfl, rfl, hi, hp, ht, hv⟩ := hrel
    have HV := Lib.hid hv
    have HPS := Lib.hid hp
    have HTS := Lib.hid ht
    clear hv hp ht H0
    have s6 := lt_of_heap F7.out
    by_cases hlt : i < l.length
    · have hin := HL.out.all _ (List.getElem_mem hlt)
      have hsm := HS.out _ (List.getElem_mem hlt)
      have hget : (l.map (·.r))[i]? = some l[i].r := by simp [hlt]
      have hyi : i < ys.length := by have := HYL.out; simp at this; omega
      have hans := st_ans r true (l.map (·.r)) i _ hget (l.map (·.r)).length (by simp; omega) (Nat.le_refl _)
      have hst := HST.out
      rw [show ownR r true = r from rfl] at hst
      rw [hst, HPS.out, HTS.out] at hans
      have hx : ys[i].x = (RU.apply p t' l[i].r).2.2 := by
        have h1 : (ys.map (·.x))[i]? = some ys[i].x := by simp [hyi]
        have h2 : (ys.map (·.x))[i]? = some (RU.apply p t' l[i].r).2.2 := hans
        rw [h1] at h2
        exact Option.some.inj h2
      have hnx := RU.st_next r true (l.map (·.r)) i _ hget
      rw [HPS.out, HTS.out] at hnx
      have hyk := HYK.out _ (List.getElem_mem hyi)
      obtain ⟨g, of2, rfl, hgl, hcs⟩ := ans_rows HOA.out (by simp; omega)
      have hgl : g < g3 := SN.out g rfl
      have hyc := hcs i ys[i] (List.getElem?_eq_getElem hyi)
      have hyI := SM.out _ (List.getElem_mem hyi)
      clear hcs hans hst
      rcases HL.out.rows with hA | ⟨b, off, rfl, hbl, hrows⟩
      · subst hA; simp at hlt
      have hrow := hrows i l[i] (List.getElem?_eq_getElem hlt)
      clear hrows
      generalize l[i] = a at *
      obtain ⟨⟨k, key, n, x, s, m, must⟩, RA, rc⟩ := a
      generalize ys[i] = z at *
      obtain ⟨⟨zc, zn, zr⟩, ZA, zk⟩ := z
      have HBW := Lib.hid (HV.out.bel HB6.out (by have := S3.out; omega))
      have r0 : wr.cell? ⟨b, off + i * 14, none⟩ = some (.int .i64 k) := below_keep HBW.out (hrow 0 _ rfl)
      have r1 : wr.cell? ⟨b, off + i * 14 + 1, none⟩ = some (.string key) := below_keep HBW.out (hrow 1 _ rfl)
      have r2 : wr.cell? ⟨b, off + i * 14 + 2, none⟩ = some (.int .i64 n) := below_keep HBW.out (hrow 2 _ rfl)
      have r3 : wr.cell? ⟨b, off + i * 14 + 3, none⟩ = some (.float .f64 x) := below_keep HBW.out (hrow 3 _ rfl)
      have r4 : wr.cell? ⟨b, off + i * 14 + 4, none⟩ = some (.string s) := below_keep HBW.out (hrow 4 _ rfl)
      have r5 : wr.cell? ⟨b, off + i * 14 + 5, none⟩ = some (.int .i64 m.kind) := below_keep HBW.out (hrow 5 _ rfl)
      have r6 : wr.cell? ⟨b, off + i * 14 + 6, none⟩ = some (.int .i64 m.num) := below_keep HBW.out (hrow 6 _ rfl)
      have r7 : wr.cell? ⟨b, off + i * 14 + 7, none⟩ = some (.int .i64 m.low) := below_keep HBW.out (hrow 7 _ rfl)
      have r8 : wr.cell? ⟨b, off + i * 14 + 8, none⟩ = some (.int .i64 m.high) := below_keep HBW.out (hrow 8 _ rfl)
      have r9 : wr.cell? ⟨b, off + i * 14 + 9, none⟩ = some (.float .f64 m.real) := below_keep HBW.out (hrow 9 _ rfl)
      have r10 : wr.cell? ⟨b, off + i * 14 + 10, none⟩ = some (.int .i64 m.cap) := below_keep HBW.out (hrow 10 _ rfl)
      have r11 : wr.cell? ⟨b, off + i * 14 + 11, none⟩ = some (.string m.text) := below_keep HBW.out (hrow 11 _ rfl)
      have r12 : wr.cell? ⟨b, off + i * 14 + 12, none⟩ = some (.slice RA m.list.length rc) := below_keep HBW.out (hrow 12 _ rfl)
      have r13 : wr.cell? ⟨b, off + i * 14 + 13, none⟩ = some (.bool must) := below_keep HBW.out (hrow 13 _ rfl)
      have a0 : wr.cell? ⟨g, of2 + i * 10, none⟩ = some (.int .i64 zc) := HV.out.keep.cell (hyc 0 _ rfl) (fun e => by have e' : g = g3 + 1 := e; omega)
      have a1 : wr.cell? ⟨g, of2 + i * 10 + 1, none⟩ = some (.int .i64 zn) := HV.out.keep.cell (hyc 1 _ rfl) (fun e => by have e' : g = g3 + 1 := e; omega)
      have a2 : wr.cell? ⟨g, of2 + i * 10 + 2, none⟩ = some (.int .i64 zr.kind) := HV.out.keep.cell (hyc 2 _ rfl) (fun e => by have e' : g = g3 + 1 := e; omega)
      have a3 : wr.cell? ⟨g, of2 + i * 10 + 3, none⟩ = some (.int .i64 zr.num) := HV.out.keep.cell (hyc 3 _ rfl) (fun e => by have e' : g = g3 + 1 := e; omega)
      have a4 : wr.cell? ⟨g, of2 + i * 10 + 4, none⟩ = some (.int .i64 zr.low) := HV.out.keep.cell (hyc 4 _ rfl) (fun e => by have e' : g = g3 + 1 := e; omega)
      have a5 : wr.cell? ⟨g, of2 + i * 10 + 5, none⟩ = some (.int .i64 zr.high) := HV.out.keep.cell (hyc 5 _ rfl) (fun e => by have e' : g = g3 + 1 := e; omega)
      have a6 : wr.cell? ⟨g, of2 + i * 10 + 6, none⟩ = some (.float .f64 zr.real) := HV.out.keep.cell (hyc 6 _ rfl) (fun e => by have e' : g = g3 + 1 := e; omega)
      have a7 : wr.cell? ⟨g, of2 + i * 10 + 7, none⟩ = some (.int .i64 zr.cap) := HV.out.keep.cell (hyc 7 _ rfl) (fun e => by have e' : g = g3 + 1 := e; omega)
      have a8 : wr.cell? ⟨g, of2 + i * 10 + 8, none⟩ = some (.string zr.text) := HV.out.keep.cell (hyc 8 _ rfl) (fun e => by have e' : g = g3 + 1 := e; omega)
      have a9 : wr.cell? ⟨g, of2 + i * 10 + 9, none⟩ = some (.slice ZA zr.list.length zk) := HV.out.keep.cell (hyc 9 _ rfl) (fun e => by have e' : g = g3 + 1 := e; omega)
      have HAp := Lib.hid (fun u (b : Below w.heap.size w u) (hA : Its u A1 p.list) => r5apply_any p t' ⟨k, key, n, x, s, m, must⟩ A1 RA c1 rc u HV.out.ok hin.ok hA (hin.make.its.below b) HV.out.lim hsm.1 hsm.2.1 hsm.2.2)
      have HOK := Lib.hid (apply_ok (there := t') HV.out.ok hin.ok)
      have HLM := Lib.hid (apply_lim (there := t') HV.out.ok hin.ok HV.out.lim)
      have HX := Lib.hid hx
      have HNX := Lib.hid hnx
      have HYI := Lib.hid (its_keep hyI HV.out.keep (S := fun k => k = g3 + 1) (by
        rcases its_apart hyI F10x.out (rec_no _ _ _ _ _ _ _ _ _ _) with h1 | h1
        · exact .inl h1
        · exact .inr h1))
      have HYO := Lib.hid hyk
      have hi1 : (i : Int) < (l.length : Int) := by omega
      have k0 := fun p q o => cell_of_row ((wr.alloc p).alloc q) _ o _ _ (0, 0) ((heap_alloc_old (wr.alloc p) q (by simp; have := lt_of_heap HV.out.box; omega)).trans ((heap_alloc_old wr p (lt_of_heap HV.out.box)).trans HV.out.box))
      have z0 := lt_of_heap HV.out.box
      clear hin hsm hget hrow hbl hx hnx hyc hyI hyk hyi
      go_wp2_with fail
      refine (HAp.out _ (HBW.out.trans ((below2 wr _ _).mono HBW.out.size)) (HV.out.its.below (below2 wr _ _))).mono ?_
      generalize hap : RU.apply p t' ⟨k, key, n, x, s, m, must⟩ = out at *
      obtain ⟨p2, tb, xx⟩ := out
      clear hap
      rintro e w7 ⟨B2, d2, D, dd, rfl, hi1', hi2', hb7⟩
      have HI1 := Lib.hid (show Its w7 B2 p2.list from hi1')
      have HI2 := Lib.hid (show Its w7 D xx.rc.list from hi2')
      have hs7 := hb7.size
      simp only [World.size_alloc] at hs7
      have HB7 := Lib.hid (show Below wr.heap.size wr w7 from (below2 wr _ _).trans (hb7.mono (by simp only [World.size_alloc]; omega)))
      have E10 := Lib.hid (show w7.heap[g3 + 1]? = _ from (hb7.block (g3 + 1) (by simp only [World.size_alloc]; omega)).trans ((heap_alloc_old _ _ (by simp only [World.size_alloc]; omega)).trans ((heap_alloc_old wr _ z0).trans HV.out.box)))
      have E14 := Lib.hid (show w7.heap[wr.heap.size + 1]? = _ from (hb7.block (wr.heap.size + 1) (by simp only [World.size_alloc]; omega)).trans (heap_alloc2_new wr _ _))
      have f10 : ∀ o, w7.frozen? ⟨g3 + 1, o, none⟩ = false := fun o => frozen_of_row _ _ o _ _ E10.out
      have f14 : ∀ o, w7.frozen? ⟨wr.heap.size + 1, o, none⟩ = false := fun o => frozen_of_row _ _ o _ _ E14.out
      have d10 := fun o => cell_of_row w7 _ o _ _ (0, 0) E10.out
      have d14 := fun o => cell_of_row w7 _ o _ _ (0, 0) E14.out
      have z2 : g3 + 1 ≠ wr.heap.size + 1 := by omega
      have z3 : wr.heap.size + 1 ≠ g3 + 1 := by omega
      have ZG := Lib.hid (show g < wr.heap.size ∧ g ≠ g3 + 1 by omega)
      clear hb7 hi1' hi2' k0 HAp r0 r1 r2 r3 r4 r5 r6 r7 r8 r9 r10 r11 r12 r13
      go_upto_region 16 with fail
      generalize hw8 : World.setCell _ _ _ = w8
      have hk8 : Kp (fun j => j = g3 + 1 ∨ j = wr.heap.size + 1) w7 w8 := by rw [← hw8]; exact kp10 (kp8g (Kp.refl _ _) (Or.inl (Or.inl rfl))) (Or.inl (Or.inr rfl))
      have X10 : w8.heap[g3 + 1]? = some (.cells (recC p2.kind p2.num p2.low p2.high p2.real p2.cap p2.text (.slice B2 p2.list.length d2)) 25 (0, 0)) := by rw [← hw8]; exact (ans_other (by omega)).trans (rec_stores E10.out)
      have X14 := Lib.hid (show w8.heap[wr.heap.size + 1]? = some (.cells (ansC xx.code xx.num xx.rc D dd) 32 (0, 0)) by rw [← hw8]; exact ans_all ((rec_stores_other (by omega)).trans E14.out))
      have HV8 := Lib.hid (HV.out.next (lt_of_heap F10x.out) HB7.out HI1.out HOK.out.1 HLM.out.1 (k := wr.heap.size + 1) (by omega) E10.out E14.out hk8 X10)
      have HT8 := Lib.hid (show Its w8 D xx.rc.list by
        refine its_keep HI2.out hk8 ?_
        rcases its_apart HI2.out E10.out (rec_no _ _ _ _ _ _ _ _ _ _) with h1 | h1
        · exact .inl h1
        rcases its_apart HI2.out E14.out (ans_no 0 0 RC.zero none 0) with h2 | h2
        · exact .inl h2
        exact .inr fun ad e x => by rcases x with x | x; exact h1 ad e x; exact h2 ad e x)
      have hkz : Kp (fun j => j = g3 + 1) wr w8 := (Kp.of_below HB7.out (fun j => j = g3 + 1)).trans hk8 (fun i hi x => by rcases x with x | x; exact x; omega)
      have HYI8 := Lib.hid (show Its w8 ZA zr.list by
        refine its_keep HYI.out hkz ?_
        rcases its_apart HYI.out HV.out.box (rec_no _ _ _ _ _ _ _ _ _ _) with h1 | h1
        · exact .inl h1
        · exact .inr h1)
      have b0 : w8.cell? ⟨g, of2 + i * 10, none⟩ = some (.int .i64 zc) := hkz.cell a0 (by have := ZG.out; show ¬ g = g3 + 1; omega)
      have b1 : w8.cell? ⟨g, of2 + i * 10 + 1, none⟩ = some (.int .i64 zn) := hkz.cell a1 (by have := ZG.out; show ¬ g = g3 + 1; omega)
      have b2 : w8.cell? ⟨g, of2 + i * 10 + 2, none⟩ = some (.int .i64 zr.kind) := hkz.cell a2 (by have := ZG.out; show ¬ g = g3 + 1; omega)
      have b3 : w8.cell? ⟨g, of2 + i * 10 + 3, none⟩ = some (.int .i64 zr.num) := hkz.cell a3 (by have := ZG.out; show ¬ g = g3 + 1; omega)
      have b4 : w8.cell? ⟨g, of2 + i * 10 + 4, none⟩ = some (.int .i64 zr.low) := hkz.cell a4 (by have := ZG.out; show ¬ g = g3 + 1; omega)
      have b5 : w8.cell? ⟨g, of2 + i * 10 + 5, none⟩ = some (.int .i64 zr.high) := hkz.cell a5 (by have := ZG.out; show ¬ g = g3 + 1; omega)
      have b6 : w8.cell? ⟨g, of2 + i * 10 + 6, none⟩ = some (.float .f64 zr.real) := hkz.cell a6 (by have := ZG.out; show ¬ g = g3 + 1; omega)
      have b7 : w8.cell? ⟨g, of2 + i * 10 + 7, none⟩ = some (.int .i64 zr.cap) := hkz.cell a7 (by have := ZG.out; show ¬ g = g3 + 1; omega)
      have b8 : w8.cell? ⟨g, of2 + i * 10 + 8, none⟩ = some (.string zr.text) := hkz.cell a8 (by have := ZG.out; show ¬ g = g3 + 1; omega)
      have b9 : w8.cell? ⟨g, of2 + i * 10 + 9, none⟩ = some (.slice ZA zr.list.length zk) := hkz.cell a9 (by have := ZG.out; show ¬ g = g3 + 1; omega)
      have x14 := fun o => cell_of_row w8 _ o _ _ (0, 0) X14.out
      have t0 : w8.cell? ⟨wr.heap.size + 1, 0, none⟩ = some (.int .i64 xx.code) := x14 0
      have t1 : w8.cell? ⟨wr.heap.size + 1, 1, none⟩ = some (.int .i64 xx.num) := x14 1
      have t2 : w8.cell? ⟨wr.heap.size + 1, 2, none⟩ = some (.int .i64 xx.rc.kind) := x14 2
      have t3 : w8.cell? ⟨wr.heap.size + 1, 3, none⟩ = some (.int .i64 xx.rc.num) := x14 3
      have t4 : w8.cell? ⟨wr.heap.size + 1, 4, none⟩ = some (.int .i64 xx.rc.low) := x14 4
      have t5 : w8.cell? ⟨wr.heap.size + 1, 5, none⟩ = some (.int .i64 xx.rc.high) := x14 5
      have t6 : w8.cell? ⟨wr.heap.size + 1, 6, none⟩ = some (.float .f64 xx.rc.real) := x14 6
      have t7 : w8.cell? ⟨wr.heap.size + 1, 7, none⟩ = some (.int .i64 xx.rc.cap) := x14 7
      have t8 : w8.cell? ⟨wr.heap.size + 1, 8, none⟩ = some (.string xx.rc.text) := x14 8
      have t9 : w8.cell? ⟨wr.heap.size + 1, 9, none⟩ = some (.slice D xx.rc.list.length dd) := x14 9
      obtain rfl : (⟨zc, zn, zr⟩ : RU.Ans) = xx := HX.out
      have HSm := Lib.hid (fun u (h1 : Its u ZA zr.list) (h2 : Its u D zr.list) => rsame5_any ⟨zc, zn, zr⟩ ⟨zc, zn, zr⟩ ZA D zk dd u HOK.out.2 HOK.out.2 h1 h2 HLM.out.2 HLM.out.2)
      clear hw8 hk8 X10 hkz f10 f14 d10 d14 x14 E10 E14 HI1 HI2 z2 z3 HYO HYI
      go_cut [59] (fun t59 wx => t59 = .bool false ∧ Below w8.heap.size w8 wx)
      case first =>
        refine wp_region_held_drew (S := fun W => Below w8.heap.size w8 W) (by kernel_rfl) (below_drew (Below.refl _ _)) (fun hHeld => ?_)
        refine wpAnyH_take (i := 0) (oi := ⟨_, _, _, _, _, _⟩) (v := ?_) rfl (by kernel_rfl) (by kernel_rfl) (by kernel_rfl) (fun _ _ _ h => h) (Or.inl ⟨by kernel_rfl, ?_⟩) hHeld ?_
        rotate_left 1
        · intro W hW; first | (go_simp; done) | (go_simp; with_reducible rfl)
        try simp only [Act.put, List.setIfInBounds_toArray, List.set_cons_zero, List.set_cons_succ]
        refine wpAnyH_take (i := 1) (oi := ⟨_, _, _, _, _, _⟩) (v := ?_) rfl (by kernel_rfl) (by kernel_rfl) (by kernel_rfl) (fun _ _ _ h => h) (Or.inl ⟨by kernel_rfl, ?_⟩) hHeld ?_
        rotate_left 1
        · intro W hW; first | (go_simp; done) | (go_simp; with_reducible rfl)
        try simp only [Act.put, List.setIfInBounds_toArray, List.set_cons_zero, List.set_cons_succ]
        refine wpAnyH_take (i := 2) (oi := ⟨_, _, _, _, _, _⟩) (v := ?_) rfl (by kernel_rfl) (by kernel_rfl) (by kernel_rfl) (fun _ _ _ h => h) (Or.inl ⟨by kernel_rfl, ?_⟩) hHeld ?_
        rotate_left 1
        · intro W hW; first | (go_simp; done) | (go_simp; with_reducible rfl)
        try simp only [Act.put, List.setIfInBounds_toArray, List.set_cons_zero, List.set_cons_succ]
        refine wpAnyH_take (i := 3) (oi := ⟨_, _, _, _, _, _⟩) (v := ?_) rfl (by kernel_rfl) (by kernel_rfl) (by kernel_rfl) (fun _ _ _ h => h) (Or.inl ⟨by kernel_rfl, ?_⟩) hHeld ?_
        rotate_left 1
        · intro W hW; have k0 := below_keep hW b0; have k1 := below_keep hW b1; have k2 := below_keep hW b2; have k3 := below_keep hW b3; have k4 := below_keep hW b4; have k5 := below_keep hW b5; have k6 := below_keep hW b6; have k7 := below_keep hW b7; have k8 := below_keep hW b8; have k9 := below_keep hW b9; first | (go_simp; done) | (go_simp; with_reducible rfl)
        try simp only [Act.put, List.setIfInBounds_toArray, List.set_cons_zero, List.set_cons_succ]
        refine wpAnyH_take (i := 4) (oi := ⟨_, _, _, _, _, _⟩) (v := ?_) rfl (by kernel_rfl) (by kernel_rfl) (by kernel_rfl) (fun _ _ _ h => h) (Or.inl ⟨by kernel_rfl, ?_⟩) hHeld ?_
        rotate_left 1
        · intro W hW; have k0 := below_keep hW t0; have k1 := below_keep hW t1; have k2 := below_keep hW t2; have k3 := below_keep hW t3; have k4 := below_keep hW t4; have k5 := below_keep hW t5; have k6 := below_keep hW t6; have k7 := below_keep hW t7; have k8 := below_keep hW t8; have k9 := below_keep hW t9; first | (go_simp; done) | (go_simp; with_reducible rfl)
        try simp only [Act.put, List.setIfInBounds_toArray, List.set_cons_zero, List.set_cons_succ]
        refine wpAnyH_ready (rs := [5]) (by kernel_rfl) (by simp) ?_
        refine AllReadyH.cons rfl (fun K hK => ?_) AllReadyH.nil
        go_simp
        refine (HSm.out _ (HYI8.out.below hHeld) (HT8.out.below hHeld)).mono ?_
        rintro e w9 ⟨rfl, hb9⟩
        rw [RU.sameAns_refl]
        go_wp2_with fail
        refine hK.out _ _ ?_ (fun hHeld2 => ?_)
        · exact hHeld.trans (hb9.mono hHeld.size)
        clear hK K
        try simp only [Act.put, List.setIfInBounds_toArray, List.set_cons_zero, List.set_cons_succ]
        refine wpAnyH_take (i := 6) (oi := ⟨_, _, _, _, _, _⟩) (v := ?_) rfl (by kernel_rfl) (by kernel_rfl) (by kernel_rfl) (fun _ _ _ h => h) (Or.inl ⟨by kernel_rfl, ?_⟩) hHeld2 ?_
        rotate_left 1
        · intro W hW; first | (go_simp; done) | (go_simp; with_reducible rfl)
        try simp only [Act.put, List.setIfInBounds_toArray, List.set_cons_zero, List.set_cons_succ]
        refine wpAnyH_done (by kernel_rfl) ?_ _
        go_wp2_with fail
        go_meet
        exact ⟨rfl, hHeld2⟩
      case rest =>
      obtain ⟨rfl, hb9⟩ := hcut
      generalize hwc : wc = w9 at *
      clear hwc
      have HV9 := Lib.hid (HV8.out.look hb9)
      clear hb9
      go_wp2_with fail
      go_roundw
      case rel => exact ⟨i + 1, p2, tb, B2, d2, by go_num, rfl, by omega, by rw [HNX.out], by rw [HNX.out], HV9.out⟩
      case measure => simp [intOf]; omega
    · have hi' : i = l.length := by omega
      subst hi'
      have hi1 : ¬ (l.length : Int) < (l.length : Int) := by omega
      have hst := HST.out
      rw [show ownR r true = r from rfl] at hst
      have h1 := HPS.out
      have h2 := HTS.out
      rw [List.length_map] at hst
      rw [hst] at h1 h2
      have h1 : q = p := h1
      have h2 : t = t' := h2
      subst h1 h2
      have G7 := Lib.hid ((HV.out.keep.block _ s6 (by show ¬ g3 = g3 + 1; omega)).trans F7.out)
      have HL7 := Lib.hid (its_keep HL1.out HV.out.keep (by
        rcases its_apart HL1.out F10x.out (rec_no _ _ _ _ _ _ _ _ _ _) with h1 | h1
        · exact .inl h1
        · exact .inr h1))
      have c7 := fun o => cell_of_row wr _ o _ _ (0, 0) G7.out
      have c10 := fun o => cell_of_row wr _ o _ _ (0, 0) HV.out.box
      have HBE := Lib.hid (HV.out.bel HB6.out (by have := S3.out; omega))
      clear hst
      go_wp2_with fail
      refine (rsame3_any q q A2 A1 c2 c1 _ HQ.out HQ.out HL7.out HV.out.its HQL.out HQL.out).mono ?_
      rintro e w9 ⟨rfl, hb9⟩
      rw [RC.same_refl']
      have HB9 := Lib.hid (HBE.out.trans (hb9.mono HBE.out.size))
      clear hb9 c7 c10
      go_wp2_with fail
      go_ret
      exact ⟨rfl, HB9.out⟩

end Go.Proofs.YtcahncaofhaadaaGreatDoor
