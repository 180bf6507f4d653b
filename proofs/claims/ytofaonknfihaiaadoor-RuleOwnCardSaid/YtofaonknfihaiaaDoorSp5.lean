/- Layer 5's statements' own head: a purse; acts one behind the other; what is more than is looked at. -/
import Derived.Test.YtofaonknfihaiaaDoorRule27
import Derived.Test.YtofaonknfihaiaaDoorBig4m
namespace Go.Proofs.YtofaonknfihaiaaDoor
open Go.RowKit MM

theorem RecIn.keep {w w' : World} {r : RC.Rc} {A : Option Addr} {c : Nat} (h : RecIn w r A c) (hb : Below w.heap.size w w') : RecIn w' r A c := ⟨h.ok, h.its.below hb, h.len, h.text, h.names⟩
theorem ActIn.keep {w w' : World} {a : AC.Ac} {A : Option Addr} {c : Nat} (h : ActIn w a A c) (hb : Below w.heap.size w w') : ActIn w' a A c := ⟨h.ok, h.make.keep hb, h.key, h.s⟩
theorem ActsIn.keep {w w' : World} {L : Option Addr} {l : List Al} (h : ActsIn w L l) (hb : Below w.heap.size w w') : ActsIn w' L l := by
  refine ⟨?_, fun x hx => (h.all x hx).keep hb, h.len⟩
  rcases h.rows with h1 | ⟨b, off, h1, h2, h3⟩
  · exact .inl h1
  · exact .inr ⟨b, off, h1, Nat.lt_of_lt_of_le h2 hb.size, fun i x hi j v hv => below_keep hb (h3 i x hi j v hv)⟩
theorem acts_one {w : World} {a : AC.Ac} {A : Option Addr} {c : Nat} (t : TypeId) (h : ActIn w a A c) : ActsIn (w.alloc (.cells (actC a A c) t)) (some ⟨w.heap.size, 0, none⟩) [⟨a, A, c⟩] := by
  refine ⟨.inr ⟨w.heap.size, 0, rfl, by simp, fun i x hi j v hv => ?_⟩, fun x hx => ?_, by unfold maxLen; simp⟩
  · have hi0 : i = 0 := by
      rcases Nat.eq_zero_or_pos i with h0 | h0
      · exact h0
      · rw [List.getElem?_eq_none (by simp; omega)] at hi; cases hi
    subst hi0
    simp at hi
    subst hi
    rw [show 0 + 0 * 14 + j = j by omega, cell_of_row _ _ j _ _ (0, 0) (heap_alloc_new w _)]
    exact hv
  · simp at hx
    subst hx
    exact h.keep (below1 w _)
abbrev actC2 (a : AC.Ac) (A : Option Addr) (c : Nat) (b : AC.Ac) (B : Option Addr) (d : Nat) : Array Value := #[.int .i64 a.kind, .string a.key, .int .i64 a.n, .float .f64 a.x, .string a.s, .int .i64 a.make.kind, .int .i64 a.make.num, .int .i64 a.make.low, .int .i64 a.make.high, .float .f64 a.make.real, .int .i64 a.make.cap, .string a.make.text, .slice A a.make.list.length c, .bool a.must, .int .i64 b.kind, .string b.key, .int .i64 b.n, .float .f64 b.x, .string b.s, .int .i64 b.make.kind, .int .i64 b.make.num, .int .i64 b.make.low, .int .i64 b.make.high, .float .f64 b.make.real, .int .i64 b.make.cap, .string b.make.text, .slice B b.make.list.length d, .bool b.must]
theorem actC2_eq (a : AC.Ac) (A : Option Addr) (c : Nat) (b : AC.Ac) (B : Option Addr) (d : Nat) : actC a A c ++ actC b B d = actC2 a A c b B d := rfl
theorem acts_two {w : World} {a b : AC.Ac} {A B : Option Addr} {c d : Nat} (t : TypeId) (h : ActIn w a A c) (h' : ActIn w b B d) : ActsIn (w.alloc (.cells (actC2 a A c b B d) t)) (some ⟨w.heap.size, 0, none⟩) [⟨a, A, c⟩, ⟨b, B, d⟩] := by
  rw [← actC2_eq]
  refine ⟨.inr ⟨w.heap.size, 0, rfl, by simp, fun i x hi j v hv => ?_⟩, fun x hx => ?_, by unfold maxLen; simp⟩
  · rw [cell_of_row _ _ _ _ _ (0, 0) (heap_alloc_new w _)]
    have hj : j < 14 := by
      have := (Array.getElem?_eq_some_iff.1 hv).1
      unfold Al.cells at this
      simpa using this
    rcases Nat.eq_zero_or_pos i with h0 | h0
    · subst h0
      simp at hi
      subst hi
      rw [show 0 + 0 * 14 + j = j by omega, Array.getElem?_append_left (by simpa using hj)]
      exact hv
    · have h1 : i = 1 := by
        rcases Nat.lt_or_ge i 2 with h2 | h2
        · omega
        · rw [List.getElem?_eq_none (by simp; omega)] at hi; cases hi
      subst h1
      simp at hi
      subst hi
      rw [Array.getElem?_append_right (by simp), show 0 + 1 * 14 + j - (actC a A c).size = j by simp]
      exact hv
  · simp at hx
    rcases hx with rfl | rfl
    · exact h.keep (below1 w _)
    · exact h'.keep (below1 w _)

theorem own_cell {w : World} {e : TypeId} {size n c : Nat} {A : Option Addr} {xs : List Value} (h : w.ownsRow 0 e size (.slice A n c) n xs) (hn : 0 < n) : ∃ g, A = some ⟨g, 0, none⟩ ∧ g < w.heap.size ∧ ∀ j v, xs[j]? = some v → w.cell? ⟨g, j, none⟩ = some v := by
  obtain ⟨hl, ⟨h1, h2⟩ | ⟨g, cap, cur, h1, _, h3, h4, h5, h6, h7⟩⟩ := h
  · omega
  · injection h1 with hA _ _
    refine ⟨g, hA, lt_of_heap h3, fun j v hv => ?_⟩
    rw [cell_of_row _ _ j _ _ (0, 0) h3]
    rw [← h7, List.getElem?_take] at hv
    split at hv
    · simpa using hv
    · cases hv
theorem anCells_at : ∀ (ys : List An) (i : Nat) (y : An), ys[i]? = some y → ∀ j v, y.cells[j]? = some v → (anCells ys)[i * 10 + j]? = some v
  | [], i, y, h, _, _, _ => by simp at h
  | z :: l, 0, y, h, j, v, hv => by
    simp at h
    subst h
    show (z.cells ++ anCells l)[0 * 10 + j]? = some v
    have hj : j < z.cells.length := (List.getElem?_eq_some_iff.1 hv).1
    rw [show 0 * 10 + j = j by omega, List.getElem?_append_left hj]
    exact hv
  | z :: l, i + 1, y, h, j, v, hv => by
    have h' : l[i]? = some y := by simpa using h
    show (z.cells ++ anCells l)[(i + 1) * 10 + j]? = some v
    have hz : z.cells.length = 10 := rfl
    rw [List.getElem?_append_right (by omega), hz, show (i + 1) * 10 + j - 10 = i * 10 + j by omega]
    exact anCells_at l i y h' j v hv

/-- Is a record, or are acts, more than is looked at? -/
def big5 (r : RC.Rc) (l : List Al) : Bool := RC.big r || (decide (30 < l.length) || l.any fun x => AC.big x.r)
theorem big5_not {r : RC.Rc} {l : List Al} (h : big5 r l = false) : RC.big r = false ∧ l.length ≤ 30 ∧ ∀ x ∈ l, AC.big x.r = false := by
  unfold big5 at h
  simp only [Bool.or_eq_false_iff, decide_eq_false_iff_not, List.any_eq_false] at h
  exact ⟨h.1, by omega, fun x hx => by simpa using h.2.2 x hx⟩

set_option maxHeartbeats 4000000 in
set_option maxRecDepth 100000 in
theorem big5_any (r : RC.Rc) (A L : Option Addr) (c cl : Nat) (l : List Al) (w : World) (hI : Its w A r.list) (hM : r.list.length ≤ maxLen) (hl : ActsIn w L l) :
    Calls Tryd.prog 8 #[recV r A c, .slice L l.length cl] w fun e w' => e = .returned (.bool (big5 r l)) ∧ Below w.heap.size w w' := by
  have HG := Lib.hid (fun u (h : Its u A r.list) => big3_any r A c u h hM)
  have HI := Lib.hid hI
  have HL := Lib.hid hl
  have hlen := hl.len
  unfold maxLen at hlen
  have Hb := Lib.hid (show big5 r l = (RC.big r || (decide (30 < l.length) || l.any fun x => AC.big x.r)) from rfl)
  clear hI hM hl
  go_enter Tryd.func8, Tryd.ntmps8
  go_wp2_with fail
  refine (HG.out _ (HI.out.alloc _)).mono ?_
  rintro e w1 ⟨rfl, hb1⟩
  have HB1 := Lib.hid (show Below w.heap.size w w1 from (below1 w _).trans (hb1.mono (by simp)))
  clear hb1
  cases hb : RC.big r
  case true =>
    have He := Lib.hid hb
    clear hb
    go_wp2_with fail
    go_ret
    exact ⟨ret_bool (by rw [Hb.out, He.out]; rfl), HB1.out⟩
  have He := Lib.hid hb
  clear hb
  by_cases h30 : 30 < l.length
  · have q1 : (30 : Int) < (l.length : Int) := by omega
    have H3 := Lib.hid h30
    clear h30
    go_wp2_with fail
    go_ret
    exact ⟨ret_bool (by rw [Hb.out, He.out, decide_eq_true H3.out]; rfl), HB1.out⟩
  have q1 : ¬ (30 : Int) < (l.length : Int) := by omega
  have H3 := Lib.hid h30
  go_wp2_with fail
  go_loopw [17] (fun t17 wr => ∃ (i : Nat), t17 = .int .i64 i ∧ i ≤ l.length ∧ (∀ x ∈ l.take i, AC.big x.r = false) ∧ Below w.heap.size w wr) (fun t17 _ => l.length - (intOf t17).toNat)
  case atStart => exact ⟨0, rfl, Nat.zero_le _, (fun x hx => by cases hx), HB1.out⟩
  case round =>
    obtain ⟨i, rfl, hi, hno, hbr⟩ := hrel
    have HBr := Lib.hid hbr
    have HNo := Lib.hid hno
    clear hbr hno
    by_cases hlt : i < l.length
    · have hin := HL.out.all _ (List.getElem_mem hlt)
      have HMem := Lib.hid (List.getElem_mem hlt)
      have HTk := Lib.hid (List.take_succ_eq_append_getElem hlt)
      rcases HL.out.rows with hA | ⟨b, off, rfl, hbl, hrows⟩
      · subst hA; simp at hlt
      have hrow := hrows i l[i] (List.getElem?_eq_getElem hlt)
      clear hrows
      generalize l[i] = y at *
      obtain ⟨⟨k, key, n, x, s, m, must⟩, RA, rc⟩ := y
      have r0 : wr.cell? ⟨b, off + i * 14, none⟩ = some (.int .i64 k) := below_keep HBr.out (hrow 0 _ rfl)
      have r1 : wr.cell? ⟨b, off + i * 14 + 1, none⟩ = some (.string key) := below_keep HBr.out (hrow 1 _ rfl)
      have r2 : wr.cell? ⟨b, off + i * 14 + 2, none⟩ = some (.int .i64 n) := below_keep HBr.out (hrow 2 _ rfl)
      have r3 : wr.cell? ⟨b, off + i * 14 + 3, none⟩ = some (.float .f64 x) := below_keep HBr.out (hrow 3 _ rfl)
      have r4 : wr.cell? ⟨b, off + i * 14 + 4, none⟩ = some (.string s) := below_keep HBr.out (hrow 4 _ rfl)
      have r5 : wr.cell? ⟨b, off + i * 14 + 5, none⟩ = some (.int .i64 m.kind) := below_keep HBr.out (hrow 5 _ rfl)
      have r6 : wr.cell? ⟨b, off + i * 14 + 6, none⟩ = some (.int .i64 m.num) := below_keep HBr.out (hrow 6 _ rfl)
      have r7 : wr.cell? ⟨b, off + i * 14 + 7, none⟩ = some (.int .i64 m.low) := below_keep HBr.out (hrow 7 _ rfl)
      have r8 : wr.cell? ⟨b, off + i * 14 + 8, none⟩ = some (.int .i64 m.high) := below_keep HBr.out (hrow 8 _ rfl)
      have r9 : wr.cell? ⟨b, off + i * 14 + 9, none⟩ = some (.float .f64 m.real) := below_keep HBr.out (hrow 9 _ rfl)
      have r10 : wr.cell? ⟨b, off + i * 14 + 10, none⟩ = some (.int .i64 m.cap) := below_keep HBr.out (hrow 10 _ rfl)
      have r11 : wr.cell? ⟨b, off + i * 14 + 11, none⟩ = some (.string m.text) := below_keep HBr.out (hrow 11 _ rfl)
      have r12 : wr.cell? ⟨b, off + i * 14 + 12, none⟩ = some (.slice RA m.list.length rc) := below_keep HBr.out (hrow 12 _ rfl)
      have r13 : wr.cell? ⟨b, off + i * 14 + 13, none⟩ = some (.bool must) := below_keep HBr.out (hrow 13 _ rfl)
      have HG4 := Lib.hid (fun u (b : Below w.heap.size w u) => big4_any ⟨k, key, n, x, s, m, must⟩ RA rc u (hin.make.its.below b) hin.make.len)
      have hi1 : (i : Int) < (l.length : Int) := by omega
      clear hin hrow hbl
      go_wp2_with fail
      refine (HG4.out _ (HBr.out.trans ((below1 wr _).mono HBr.out.size))).mono ?_
      rintro e w2 ⟨rfl, hb2⟩
      have HB2 := Lib.hid (show Below w.heap.size w w2 from (HBr.out.trans ((below1 wr _).mono HBr.out.size)).trans (hb2.mono (by have := HBr.out.size; simp; omega)))
      clear hb2 r0 r1 r2 r3 r4 r5 r6 r7 r8 r9 r10 r11 r12 r13 HG4
      cases hg : AC.big ⟨k, key, n, x, s, m, must⟩
      · have Hg := Lib.hid hg
        clear hg
        go_wp2_with fail
        go_roundw
        case rel =>
          refine ⟨i + 1, by go_num, by omega, fun z hz => ?_, HB2.out⟩
          rw [HTk.out] at hz
          rcases List.mem_append.1 hz with hz | hz
          · exact HNo.out z hz
          · simp at hz; subst hz; exact Hg.out
        case measure => simp [intOf]; omega
      · have Hg := Lib.hid hg
        clear hg
        go_wp2_with fail
        go_ret
        exact ⟨ret_bool (by rw [Hb.out, He.out, decide_eq_false H3.out, List.any_eq_true.2 ⟨_, HMem.out, Hg.out⟩]; rfl), HB2.out⟩
    · have hi' : i = l.length := by omega
      subst hi'
      have hi1 : ¬ (l.length : Int) < (l.length : Int) := by omega
      go_wp2_with fail
      go_ret
      refine ⟨ret_bool ?_, HBr.out⟩
      rw [Hb.out, He.out, decide_eq_false H3.out]
      symm
      show l.any _ = false
      rw [List.any_eq_false]
      intro x hx
      have := HNo.out x (by rw [List.take_length]; exact hx)
      simpa using this

end Go.Proofs.YtofaonknfihaiaaDoor
