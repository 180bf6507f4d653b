/- Layer 5's statements' own head: a purse; acts one behind the other; what is more than is looked at. -/
import Derived.Test.YtcahncaofhaadaaGreatDoorRuV
import Derived.Test.YtcahncaofhaadaaGreatDoorBig4m
namespace Go.Proofs.YtcahncaofhaadaaGreatDoor
open Go.RowKit MM

theorem RecIn.keep {w w' : World} {r : RC.Rc} {A : Option Addr} {c : Nat} (h : RecIn w r A c) (hb : Below w.heap.size w w') : RecIn w' r A c := ⟨h.ok, h.its.below hb, h.len, h.text, h.names⟩
theorem ActIn.keep {w w' : World} {a : AC.Ac} {A : Option Addr} {c : Nat} (h : ActIn w a A c) (hb : Below w.heap.size w w') : ActIn w' a A c := ⟨h.ok, h.make.keep hb, h.key, h.s⟩
theorem ActsIn.keep {w w' : World} {L : Option Addr} {l : List Al} (h : ActsIn w L l) (hb : Below w.heap.size w w') : ActsIn w' L l := by
  refine ⟨?_, fun x hx => (h.all x hx).keep hb, h.len⟩
  rcases h.rows with h1 | ⟨b, off, h1, h2, h3⟩
  · exact .inl h1
  · exact .inr ⟨b, off, h1, Nat.lt_of_lt_of_le h2 hb.size, fun i x hi j v hv => below_keep hb (h3 i x hi j v hv)⟩
theorem acts_one {w : World} {a : AC.Ac} {A : Option Addr} {c : Nat} (t : TypeId) (h : ActIn w a A c) : ActsIn (w.alloc (.cells (actC a A c) t)) (some ⟨w.heap.size, 0, none⟩) [⟨a, A, c⟩] := by
  refine ⟨.inr ⟨w.heap.size, 0, rfl, by simp, fun i x hi j v hv => ?_⟩, fun x hx => ?_, by unfold maxLen; simp⟩
  · have hi0 : i = 0 := by
      rcases Nat.eq_zero_or_pos i with h0 | h0
      · exact h0
      · rw [List.getElem?_eq_none (by simp; omega)] at hi; cases hi
    subst hi0
    simp at hi
    subst hi
    rw [show 0 + 0 * 14 + j = j by omega, cell_of_row _ _ j _ _ (0, 0) (heap_alloc_new w _)]
    exact hv
  · simp at hx
    subst hx
    exact h.keep (below1 w _)
abbrev actC2 (a : AC.Ac) (A : Option Addr) (c : Nat) (b : AC.Ac) (B : Option Addr) (d : Nat) : Array Value := #[.int .i64 a.kind, .string a.key, .int .i64 a.n, .float .f64 a.x, .string a.s, .int .i64 a.make.kind, .int .i64 a.make.num, .int .i64 a.make.low, .int .i64 a.make.high, .float .f64 a.make.real, .int .i64 a.make.cap, .string a.make.text, .slice A a.make.list.length c, .bool a.must, .int .i64 b.kind, .string b.key, .int .i64 b.n, .float .f64 b.x, .string b.s, .int .i64 b.make.kind, .int .i64 b.make.num, .int .i64 b.make.low, .int .i64 b.make.high, .float .f64 b.make.real, .int .i64 b.make.cap, .string b.make.text, .slice B b.make.list.length d, .bool b.must]
theorem actC2_eq (a : AC.Ac) (A : Option Addr) (c : Nat) (b : AC.Ac) (B : Option Addr) (d : Nat) : actC a A c ++ actC b B d = actC2 a A c b B d := rfl
theorem acts_two {w : World} {a b : AC.Ac} {A B : Option Addr} {c d : Nat} (t : TypeId) (h : ActIn w a A c) (h' : ActIn w b B d) : ActsIn (w.alloc (.cells (actC2 a A c b B d) t)) (some ⟨w.heap.size, 0, none⟩) [⟨a, A, c⟩, ⟨b, B, d⟩] := by
  rw [← actC2_eq]
  refine ⟨.inr ⟨w.heap.size, 0, rfl, by simp, fun i x hi j v hv => ?_⟩, fun x hx => ?_, by unfold maxLen; simp⟩
  · rw [cell_of_row _ _ _ _ _ (0, 0) (heap_alloc_new w _)]
    have hj : j < 14 := by
      have := (Array.getElem?_eq_some_iff.1 hv).1
      unfold Al.cells at this
      simpa using this
    rcases Nat.eq_zero_or_pos i with h0 | h0
    · subst h0
      simp at hi
      subst hi
      rw [show 0 + 0 * 14 + j = j by omega, Array.getElem?_append_left (by simpa using hj)]
      exact hv
    · have h1 : i = 1 := by
        rcases Nat.lt_or_ge i 2 with h2 | h2
        · omega
        · rw [List.getElem?_eq_none (by simp; omega)] at hi; cases hi
      subst h1
      simp at hi
      subst hi
      rw [Array.getElem?_append_right (by simp), show 0 + 1 * 14 + j - (actC a A c).size = j by simp]
      exact hv
  · simp at hx
    rcases hx with rfl | rfl
    · exact h.keep (below1 w _)
    · exact h'.keep (below1 w _)

theorem own_cell {w : World} {e : TypeId} {size n c : Nat} {A : Option Addr} {xs : List Value} (h : w.ownsRow 0 e size (.slice A n c) n xs) (hn : 0 < n) : ∃ g, A = some ⟨g, 0, none⟩ ∧ g < w.heap.size ∧ ∀ j v, xs[j]? = some v → w.cell? ⟨g, j, none⟩ = some v := by
  obtain ⟨hl, ⟨h1, h2⟩ | ⟨g, cap, cur, h1, _, h3, h4, h5, h6, h7⟩⟩ := h
  · omega
  · injection h1 with hA _ _
    refine ⟨g, hA, lt_of_heap h3, fun j v hv => ?_⟩
    rw [cell_of_row _ _ j _ _ (0, 0) h3]
    rw [← h7, List.getElem?_take] at hv
    split at hv
    · simpa using hv
    · cases hv
theorem anCells_at : ∀ (ys : List An) (i : Nat) (y : An), ys[i]? = some y → ∀ j v, y.cells[j]? = some v → (anCells ys)[i * 10 + j]? = some v
  | [], i, y, h, _, _, _ => by simp at h
  | z :: l, 0, y, h, j, v, hv => by
    simp at h
    subst h
    show (z.cells ++ anCells l)[0 * 10 + j]? = some v
    have hj : j < z.cells.length := (List.getElem?_eq_some_iff.1 hv).1
    rw [show 0 * 10 + j = j by omega, List.getElem?_append_left hj]
    exact hv
  | z :: l, i + 1, y, h, j, v, hv => by
    have h' : l[i]? = some y := by simpa using h
    show (z.cells ++ anCells l)[(i + 1) * 10 + j]? = some v
    have hz : z.cells.length = 10 := rfl
    rw [List.getElem?_append_right (by omega), hz, show (i + 1) * 10 + j - 10 = i * 10 + j by omega]
    exact anCells_at l i y h' j v hv

/-- Is a record, or are acts, more than is looked at? -/
def big5 (r : RC.Rc) (l : List Al) : Bool := RC.big r || (decide (30 < l.length) || l.any fun x => AC.big x.r)
theorem big5_not {r : RC.Rc} {l : List Al} (h : big5 r l = false) : RC.big r = false ∧ l.length ≤ 30 ∧ ∀ x ∈ l, AC.big x.r = false := by
  unfold big5 at h
  simp only [Bool.or_eq_false_iff, decide_eq_false_iff_not, List.any_eq_false] at h
  exact ⟨h.1, by omega, fun x hx => by simpa using h.2.2 x hx⟩

set_option maxHeartbeats 4000000 in
set_option maxRecDepth 100000 in
theorem big5_any (r : RC.Rc) (A L : Option Addr) (c cl : Nat) (l : List Al) (w : World) (hI : Its w A r.list) (hM : r.list.length ≤ maxLen) (hl : ActsIn w L l) :
    Calls Tryz.prog 11 #[recV r A c, .slice L l.length cl] w fun e w' => e = .returned (.bool (big5 r l)) ∧ Below w.heap.size w w' := by
  have HG := Lib.hid (fun u (h : Its u A r.list) => big3_any r A c u h hM)
  have HI := Lib.hid hI
  have HL := Lib.hid hl
  have hlen := hl.len
  unfold maxLen at hlen
  have Hb := Lib.hid (show big5 r l = (RC.big r || (decide (30 < l.length) || l.any fun x => AC.big x.r)) from rfl)
  clear hI hM hl
  go_enter Tryz.func11, Tryz.ntmps11
  go_wp2_with fail
  refine (HG.out _ (HI.out.alloc _)).mono ?_
  rintro e w1 ⟨rfl, hb1⟩
  have HB1 := Lib.hid (show Below w.heap.size w w1 from (below1 w _).trans (hb1.mono (by simp)))
  clear hb1
  cases hb : RC.big r
  case true =>
    have He := Lib.hid hb
    clear hb
    go_wp2_with fail
    go_ret
    exact ⟨ret_bool (by rw [Hb.out, He.out]; rfl), HB1.out⟩
  have He := Lib.hid hb
  clear hb
  by_cases h30 : 30 < l.length
  · have q1 : (30 : Int) < (l.length : Int) := by omega
    have H3 := Lib.hid h30
    clear h30
    go_wp2_with fail
    go_ret
    exact ⟨ret_bool (by rw [Hb.out, He.out, decide_eq_true H3.out]; rfl), HB1.out⟩
  have q1 : ¬ (30 : Int) < (l.length : Int) := by omega
  have H3 := Lib.hid h30
  go_wp2_with fail
  go_loopw [17] (fun t17 wr => ∃ (i : Nat), t17 = .int .i64 i ∧ i ≤ l.length ∧ (∀ x ∈ l.take i, AC.big x.r = false) ∧ Below w.heap.size w wr) (fun t17 _ => l.length - (intOf t17).toNat)
  case atStart => exact ⟨0, rfl, Nat.zero_le _, (fun x hx => by cases hx), HB1.out⟩
  case round =>
    obtain ⟨i, rfl, hi, hno, hbr⟩ := hrel
    have HBr := Lib.hid hbr
    have HNo := Lib.hid hno
    clear hbr hno
    by_cases hlt : i < l.length
    · have hin := HL.out.all _ (List.getElem_mem hlt)
      have HMem := Lib.hid (List.getElem_mem hlt)
      have HTk := Lib.hid (List.take_succ_eq_append_getElem hlt)
      rcases HL.out.rows with hA | ⟨b, off, rfl, hbl, hrows⟩
      · subst hA; simp at hlt
      have hrow := hrows i l[i] (List.getElem?_eq_getElem hlt)
      clear hrows
      generalize l[i] = y at *
      obtain ⟨⟨k, key, n, x, s, m, must⟩, RA, rc⟩ := y
      have r0 : wr.cell? ⟨b, off + i * 14, none⟩ = some (.int .i64 k) := below_keep HBr.out (hrow 0 _ rfl)
      have r1 : wr.cell? ⟨b, off + i * 14 + 1, none⟩ = some (.string key) := below_keep HBr.out (hrow 1 _ rfl)
      have r2 : wr.cell? ⟨b, off + i * 14 + 2, none⟩ = some (.int .i64 n) := below_keep HBr.out (hrow 2 _ rfl)
      have r3 : wr.cell? ⟨b, off + i * 14 + 3, none⟩ = some (.float .f64 x) := below_keep HBr.out (hrow 3 _ rfl)
      have r4 : wr.cell? ⟨b, off + i * 14 + 4, none⟩ = some (.string s) := below_keep HBr.out (hrow 4 _ rfl)
      have r5 : wr.cell? ⟨b, off + i * 14 + 5, none⟩ = some (.int .i64 m.kind) := below_keep HBr.out (hrow 5 _ rfl)
      have r6 : wr.cell? ⟨b, off + i * 14 + 6, none⟩ = some (.int .i64 m.num) := below_keep HBr.out (hrow 6 _ rfl)
      have r7 : wr.cell? ⟨b, off + i * 14 + 7, none⟩ = some (.int .i64 m.low) := below_keep HBr.out (hrow 7 _ rfl)
      have r8 : wr.cell? ⟨b, off + i * 14 + 8, none⟩ = some (.int .i64 m.high) := below_keep HBr.out (hrow 8 _ rfl)
      have r9 : wr.cell? ⟨b, off + i * 14 + 9, none⟩ = some (.float .f64 m.real) := below_keep HBr.out (hrow 9 _ rfl)
      have r10 : wr.cell? ⟨b, off + i * 14 + 10, none⟩ = some (.int .i64 m.cap) := below_keep HBr.out (hrow 10 _ rfl)
      have r11 : wr.cell? ⟨b, off + i * 14 + 11, none⟩ = some (.string m.text) := below_keep HBr.out (hrow 11 _ rfl)
      have r12 : wr.cell? ⟨b, off + i * 14 + 12, none⟩ = some (.slice RA m.list.length rc) := below_keep HBr.out (hrow 12 _ rfl)
      have r13 : wr.cell? ⟨b, off + i * 14 + 13, none⟩ = some (.bool must) := below_keep HBr.out (hrow 13 _ rfl)
      have HG4 := Lib.hid (fun u (b : Below w.heap.size w u) => big4_any ⟨k, key, n, x, s, m, must⟩ RA rc u (hin.make.its.below b) hin.make.len)
      have hi1 : (i : Int) < (l.length : Int) := by omega
      clear hin hrow hbl
      go_wp2_with fail
      refine (HG4.out _ (HBr.out.trans ((below1 wr _).mono HBr.out.size))).mono ?_
      rintro e w2 ⟨rfl, hb2⟩
      have HB2 := Lib.hid (show Below w.heap.size w w2 from (HBr.out.trans ((below1 wr _).mono HBr.out.size)).trans (hb2.mono (by have := HBr.out.size; simp; omega)))
      clear hb2 r0 r1 r2 r3 r4 r5 r6 r7 r8 r9 r10 r11 r12 r13 HG4
      cases hg : AC.big ⟨k, key, n, x, s, m, must⟩
      · have Hg := Lib.hid hg
        clear hg
        go_wp2_with fail
        go_roundw
        case rel =>
          refine ⟨i + 1, by go_num, by omega, fun z hz => ?_, HB2.out⟩
          rw [HTk.out] at hz
          rcases List.mem_append.1 hz with hz | hz
          · exact HNo.out z hz
          · simp at hz; subst hz; exact Hg.out
        case measure => simp [intOf]; omega
      · have Hg := Lib.hid hg
        clear hg
        go_wp2_with fail
        go_ret
        exact ⟨ret_bool (by rw [Hb.out, He.out, decide_eq_false H3.out, List.any_eq_true.2 ⟨_, HMem.out, Hg.out⟩]; rfl), HB2.out⟩
    · have hi' : i = l.length := by omega
      subst hi'
      have hi1 : ¬ (l.length : Int) < (l.length : Int) := by omega
      go_wp2_with fail
      go_ret
      refine ⟨ret_bool ?_, HBr.out⟩
      rw [Hb.out, He.out, decide_eq_false H3.out]
      symm
      show l.any _ = false
      rw [List.any_eq_false]
      intro x hx
      have := HNo.out x (by rw [List.take_length]; exact hx)
      simpa using this

end Go.Proofs.YtcahncaofhaadaaGreatDoor
/- Layer 5's statements' own head: speaks. -/
namespace Go.Proofs.YtcahncaofhaadaaGreatDoor
open Go.RowKit MM

def sp5r : RC.Rc := ⟨4, 2, 0, 9, 0, 0, ⟨#[]⟩, []⟩
def sp5a : AC.Ac := ⟨11, ⟨#[97]⟩, 3, 0, ⟨#[]⟩, RC.zero, false⟩
def sp5m : RC.Rc := ⟨2, 5, 0, 0, 0, 0, ⟨#[]⟩, []⟩
def sp5n : RC.Rc := ⟨2, 7, 0, 0, 0, 0, ⟨#[]⟩, []⟩
def sp5b : AC.Ac := ⟨1, ⟨#[97]⟩, 0, 0, ⟨#[]⟩, sp5m, false⟩
def sp5c : AC.Ac := ⟨7, ⟨#[97]⟩, 2, 0, ⟨#[]⟩, RC.zero, false⟩
theorem sp5r_ok : sp5r.ok := ⟨rfl, rfl, rfl, rfl, w0, rfl, fun x h => by cases h⟩
theorem sp5m_ok : sp5m.ok := ⟨rfl, rfl, rfl, rfl, w0, rfl, fun x h => by cases h⟩
theorem sp5a_ok : sp5a.ok := ⟨rfl, rfl, w0, RC.zero_ok⟩
theorem sp5b_ok : sp5b.ok := ⟨rfl, rfl, w0, sp5m_ok⟩
theorem sp5c_ok : sp5c.ok := ⟨rfl, rfl, w0, RC.zero_ok⟩
theorem sp5_app : RU.apply sp5r true sp5a = (sp5r, true, RU.err 10) := by kernel_rfl
theorem sp5_st : RU.st RC.zero false [sp5b, sp5c] 2 = (sp5n, true, [RU.err 0, RU.err 0]) := by kernel_rfl
theorem sp5_act {w : World} {a : AC.Ac} {c : Nat} (h : a.ok) (h1 : a.key.size ≤ maxLen) (h2 : a.s.size ≤ maxLen) (h3 : a.make.list = []) (h4 : a.make.text.size ≤ maxLen) : ActIn w a none c := ⟨h, ⟨h.make, by rw [h3]; exact Its.nil _ _, by rw [h3]; exact Nat.zero_le _, h4, by rw [h3]; intro x hx; cases hx⟩, h1, h2⟩

set_option maxHeartbeats 4000000 in
set_option maxRecDepth 100000 in
theorem speaks5_any (w : World) (hR : RowsAt w) :
    Calls Tryz.prog 10 #[] w fun e w' => e = .returned (.bool true) ∧ Below w.heap.size w w' := by
  have HR := Lib.hid hR
  clear hR
  go_enter Tryz.func10, Tryz.ntmps10
  go_wp2_with fail
  refine (apply_any sp5r true sp5a none none 0 0 w sp5r_ok sp5a_ok HR.out (Its.nil _ _) (Its.nil _ _) (by unfold Lim; decide) (by unfold Lim; decide) (by unfold Lim; decide) (by unfold Lim; decide)).mono ?_
  rw [sp5_app]
  rintro e w1 ⟨A1, c1, B, cb, rfl, ho1, ho2, hn1, hn2, hb1⟩
  have HB1 := Lib.hid hb1
  have hs1 := hb1.size
  clear ho1 ho2 hn1 hn2 hb1
  have g1 : sp5r.num = 2 := rfl
  have g2 : ((RU.err 10).code : Int) = 10 := rfl
  have HA := Lib.hid (show ∀ X Y, ActsIn (((w1.alloc X).alloc Y).alloc (.cells (actC2 sp5b none 0 sp5c none 0) 27)) (some ⟨w1.heap.size + 1 + 1, 0, none⟩) [⟨sp5b, none, 0⟩, ⟨sp5c, none, 0⟩] from fun X Y => by
    have h := acts_two (w := (w1.alloc X).alloc Y) 27 (sp5_act (c := 0) sp5b_ok (by unfold maxLen; decide) (by unfold maxLen; decide) rfl (by unfold maxLen; decide)) (sp5_act (c := 0) sp5c_ok (by unfold maxLen; decide) (by unfold maxLen; decide) rfl (by unfold maxLen; decide))
    rw [World.size_alloc, World.size_alloc] at h
    exact h)
  go_wp2_with fail
  refine (row_any RC.zero false [⟨sp5b, none, 0⟩, ⟨sp5c, none, 0⟩] none (some ⟨w1.heap.size + 1 + 1, 0, none⟩) 0 2 _ RC.zero_ok (HR.out.below (HB1.out.trans ((below3 w1 _ _ _).mono hs1))) (Its.nil _ _) (by unfold Lim; decide) (HA.out _ _) (by simp) (fun x hx => by
    simp at hx
    rcases hx with rfl | rfl
    · exact ⟨by unfold Lim; decide, by unfold Lim; decide, by unfold Lim; decide⟩
    · exact ⟨by unfold Lim; decide, by unfold Lim; decide, by unfold Lim; decide⟩)).mono ?_
  rintro e w2 ⟨q, t, A2, c2, ys, B2, cb2, rfl, hst, hyl, ho, hans, hits, hqk, hql, hyk, hnA, hnB, hb2⟩
  have hst' : (q, t, ys.map (fun y => y.x)) = (sp5n, true, [RU.err 0, RU.err 0]) := hst.symm.trans sp5_st
  simp only [Prod.mk.injEq] at hst'
  obtain ⟨rfl, rfl, hys⟩ := hst'
  match ys, hyl with
  | [⟨x0, A3, c3⟩, ⟨x1, A4, c4⟩], _ =>
  simp only [List.map_cons, List.map_nil, List.cons.injEq, and_true] at hys
  obtain ⟨rfl, rfl⟩ := hys
  obtain ⟨g, hg, hgl, hcell⟩ := own_cell hans (by simp)
  subst hg
  have r0 := fun o v (h : (An.cells ⟨RU.err 0, A3, c3⟩)[o]? = some v) => hcell _ _ (anCells_at [⟨RU.err 0, A3, c3⟩, ⟨RU.err 0, A4, c4⟩] 0 _ rfl o v h)
  have r1 := hcell _ _ (anCells_at [⟨RU.err 0, A3, c3⟩, ⟨RU.err 0, A4, c4⟩] 1 _ rfl 0 (.int .i64 0) rfl)
  have j0 : w2.cell? ⟨g, 0, none⟩ = some (.int .i64 0) := r0 0 _ rfl
  have j1 : w2.cell? ⟨g, 1, none⟩ = some (.int .i64 0) := r0 1 _ rfl
  have j2 : w2.cell? ⟨g, 2, none⟩ = some (.int .i64 0) := r0 2 _ rfl
  have j3 : w2.cell? ⟨g, 3, none⟩ = some (.int .i64 0) := r0 3 _ rfl
  have j4 : w2.cell? ⟨g, 4, none⟩ = some (.int .i64 0) := r0 4 _ rfl
  have j5 : w2.cell? ⟨g, 5, none⟩ = some (.int .i64 0) := r0 5 _ rfl
  have j6 : w2.cell? ⟨g, 6, none⟩ = some (.float .f64 0) := r0 6 _ rfl
  have j7 : w2.cell? ⟨g, 7, none⟩ = some (.int .i64 0) := r0 7 _ rfl
  have j8 : w2.cell? ⟨g, 8, none⟩ = some (.string ⟨#[]⟩) := r0 8 _ rfl
  have j9 : w2.cell? ⟨g, 9, none⟩ = some (.slice A3 0 c3) := r0 9 _ rfl
  have k0 : w2.cell? ⟨g, 10, none⟩ = some (.int .i64 0) := r1
  have g3 : sp5n.num = 7 := rfl
  have hs2 := hb2.size
  simp only [World.size_alloc] at hs2
  have e0 := (hb2.block w1.heap.size (by simp only [World.size_alloc]; omega)).trans ((heap_alloc_old _ _ (by simp only [World.size_alloc]; omega)).trans (heap_alloc2_old w1 _ _))
  have d0 := fun o => cell_of_row w2 _ o _ _ (0, 0) e0
  have f0 : ∀ o, w2.frozen? ⟨w1.heap.size, o, none⟩ = false := fun o => frozen_of_row _ _ o _ _ e0
  have HB2 := Lib.hid (show Below w.heap.size w w2 from (HB1.out.trans ((below3 w1 _ _ _).mono hs1)).trans (hb2.mono (by simp only [World.size_alloc]; omega)))
  have hgn : w1.heap.size ≠ g := fun e => by
    have := hnB g rfl
    simp only [World.size_alloc] at this
    omega
  have hgn' := hgn.symm
  have HIt := Lib.hid (hits ⟨RU.err 0, A3, c3⟩ (List.mem_cons_self ..))
  clear hst ho hans hits hqk hql hyk hnA hnB hb2 hcell r0 r1 e0 HA
  go_wp2_with fail
  generalize hwz : World.setCell _ _ _ = wz
  have hk : Kp (fun k => k = w1.heap.size) w2 wz := by rw [← hwz]; exact kp8g (Kp.refl _ _) (Or.inl rfl)
  have k1 : wz.cell? ⟨g, 10, none⟩ = some (.int .i64 0) := hk.cell k0 hgn'
  have HB3 := Lib.hid (show Below w.heap.size w wz from HB2.out.trans (hk.below (by omega) (fun i hi x => by omega)))
  clear hwz hk j0 j1 j2 j3 j4 j5 j6 j7 j8 j9 k0 d0 f0
  refine (ruleSame_any (RU.err 0) (RU.err 0) A3 none c3 0 _ RC.zero_ok RC.zero_ok (Its.nil _ _) (Its.nil _ _) (by unfold Lim; decide)).mono ?_
  rw [show RU.sameAns (RU.err 0) (RU.err 0) = true by decide +kernel]
  rintro e w3 ⟨rfl, hb3⟩
  have k2 := below_keep hb3 k1
  have HB4 := Lib.hid (HB3.out.trans (hb3.mono HB3.out.size))
  clear hb3 k1
  go_wp2_with fail
  go_ret
  exact ⟨rfl, HB4.out⟩

end Go.Proofs.YtcahncaofhaadaaGreatDoor
/- What the laws of layer 5 want, beside. -/
namespace Go.Proofs.YtcahncaofhaadaaGreatDoor
open Go.RowKit MM
set_option linter.unusedVariables false

theorem small5 {a : AC.Ac} (hb : AC.big a = false) : Lim a.make.list.length ∧ Lim a.key.size ∧ Lim a.s.size := by
  obtain ⟨h1, h2, h3⟩ := AC.big_not hb
  have := (big_not h3).1
  unfold Lim
  exact ⟨by omega, by omega, by omega⟩
theorem RU.sameAns_refl (x : RU.Ans) : RU.sameAns x x = true := by unfold RU.sameAns; simp [RC.same_refl']

end Go.Proofs.YtcahncaofhaadaaGreatDoor
