/- The walk of RecSame. -/
import Derived.Test.YtjonkchmechecaaDoorRef3g
import Derived.Test.YtjonkchmechecaaDoorOpn3
import Derived.Deep.RegionHeld3
namespace RC
theorem bytes_same {a b : Rc} (ha : a.ok) (hb : b.ok) (ca : chk a = 0) (cb : chk b = 0) : (recB a == recB b) = same a b := by
  rw [Bool.eq_iff_iff, beq_iff_eq]
  constructor
  · intro h
    have h1 := Go.Proofs.YtjonkchmechecaaDoor.recR_recB a [] ha ca
    have h2 := Go.Proofs.YtjonkchmechecaaDoor.recR_recB b [] hb cb
    rw [h, h2] at h1
    injection h1 with h1
    rw [h1]; exact same_refl' a
  · intro h
    rw [same_may ha hb (chk_may ha ca) (chk_may hb cb) h]
end RC
namespace Go.Proofs.YtjonkchmechecaaDoor
open Go.RowKit MM

/-- What holds while the clone's names are changed, one behind the other. -/
structure CInv (s : List RC.It) (A' : Option Addr) (w9 : World) (i : Nat) (wr : World) : Prop where
  kp : Kp (fun k => ob A' = some k) w9 wr
  rows : ∀ j x, i ≤ j → s[j]? = some x → ∃ g cur, A' = some ⟨g, 0, none⟩ ∧ wr.heap[g]? = some (.cells cur 46 (0, 0)) ∧ cur[j * 2 + 1]? = some (.string x.name)
theorem CInv.start {s : List RC.It} {A' : Option Addr} {c' : Nat} {w9 : World} (h : w9.ownsRow 0 46 2 (.slice A' s.length c') s.length (itCells s)) : CInv s A' w9 0 w9 := by
  refine ⟨Kp.refl _ _, fun j x _ hx => ?_⟩
  have hj := (List.getElem?_eq_some_iff.1 hx).1
  rcases h.2 with ⟨_, h0⟩ | ⟨g, cap, cur, hv, _, hrow, _, _, _, ht⟩
  · omega
  · injection hv with hA
    refine ⟨g, cur, hA, hrow, ?_⟩
    have h2 := (itCells_get s j x hx).2
    rw [← ht, List.getElem?_take] at h2
    split at h2
    · simpa using h2
    · cases h2
theorem CInv.step {s : List RC.It} {A' : Option Addr} {w9 wr : World} {i g : Nat} (h : CInv s A' w9 i wr) (hA : A' = some ⟨g, 0, none⟩) (v : Value) : CInv s A' w9 (i + 1) (wr.setCell ⟨g, i * 2 + 1, none⟩ v) := by
  refine ⟨Kp.setCell h.kp (Or.inl (by subst hA; rfl)) v, fun j x hij hx => ?_⟩
  obtain ⟨g', cur, hA', hrow, hc⟩ := h.rows j x (by omega) hx
  rw [hA] at hA'
  injection hA' with hA'
  injection hA' with hg
  subst hg
  refine ⟨g, _, hA, heap_setCell_same _ _ _ _ _ _ hrow, ?_⟩
  rw [Array.getElem?_setIfInBounds_ne (by omega)]
  exact hc

theorem CInv.drewN {s : List RC.It} {A' : Option Addr} {w9 wr : World} {i : Nat} (h : CInv s A' w9 i wr) (n : Nat) : CInv s A' w9 i (wr.drewN n) := ⟨h.kp.drewN n, h.rows⟩
theorem name_x (yn : ByteArray) : (yn.toList == (yn ++ (⟨#[120]⟩ : ByteArray)).toList) = false := by
  rw [Bool.eq_false_iff]
  intro h
  have h1 := (RC.strEq_iff _ _).1 h
  have h2 := congrArg ByteArray.size h1
  rw [ByteArray.size_append] at h2
  have h3 : (⟨#[120]⟩ : ByteArray).size = 1 := rfl
  omega

theorem arr_eq (xs ys : List UInt8) : ((⟨xs.toArray⟩ : ByteArray).toList == (⟨ys.toArray⟩ : ByteArray).toList) = (xs == ys) := by
  rw [Lib.toList_data, Lib.toList_data]

set_option maxHeartbeats 4000000 in
set_option maxRecDepth 100000 in
theorem recSameL_any (a : RC.Rc) (A : Option Addr) (ca : Nat) (b : RC.Rc) (B : Option Addr) (cb : Nat) (w : World) (ha : RecIn w a A ca) (hb : RecIn w b B cb) (hN : NamesAt w) :
    Calls Tryd.prog 6 #[recV a A ca, recV b B cb] w fun e w' => e = .returned (.bool true) ∧ Below w.heap.size w w' := by
  have HS := Lib.hid (fun w hN => speaks3_any w hN)
  have HGa := Lib.hid (fun w hA => big3_any a A ca w hA ha.len)
  have HGb := Lib.hid (fun w hA => big3_any b B cb w hA hb.len)
  have HN := Lib.hid hN
  have HIa := Lib.hid ha.its
  have HIb := Lib.hid hb.its
  have Hna := Lib.hid (fun h => (big_not (r := a) h).1)
  have Hnb := Lib.hid (fun h => (big_not (r := b) h).1)
  have Hnn := Lib.hid (fun h => (big_not (r := a) h).2.2)
  have HQ := Lib.hid (fun w hA hB na nb => rsame3_any a b A B ca cb w ha.ok hb.ok hA hB na nb)
  have HP := Lib.hid (fun w hA hB na => recSame_any a b A B ca cb w ha.ok hb.ok hA hB na)
  have HP2 := Lib.hid (show ∀ w, Its w B b.list → Its w A a.list → Lim b.list.length → Calls Tryd.prog 24 #[recV b B cb, recV a A ca] w (fun e w' => e = .returned (.bool (RC.same a b)) ∧ Below w.heap.size w w') from fun w hB hA nb => by rw [RC.same_comm' a b]; exact recSame_any b a B A cb ca w hb.ok ha.ok hB hA nb)
  have HPc := Lib.hid (show ∀ w A' c', Its w A a.list → Its w A' a.list → Lim a.list.length → Calls Tryd.prog 24 #[recV a A ca, recV a A' c'] w (fun e w' => e = .returned (.bool true) ∧ Below w.heap.size w w') from fun w A' c' hA hA' na => by rw [← RC.same_refl' a]; exact recSame_any a a A A' ca c' w ha.ok ha.ok hA hA' na)
  have HCl := Lib.hid (fun w hA hn => recClone_any a A ca w hA hn)
  have HCa := Lib.hid (fun w hA hn => rcheck_any a A ca w ha.ok hA hn)
  have HCb := Lib.hid (fun w hA hn => rcheck_any b B cb w hb.ok hA hn)
  have HBa := Lib.hid (fun w hA hn => recBytes_any a A ca w ha.ok hA hn)
  have HBb := Lib.hid (fun w hA hn => recBytes_any b B cb w hb.ok hA hn)
  have Hbs := Lib.hid (show RC.chk a = 0 → RC.chk b = 0 → (bytesOf a == bytesOf b) = RC.same a b from fun h k => by unfold bytesOf; rw [if_pos h, if_pos k]; exact RC.bytes_same ha.ok hb.ok h k)
  have HlA := Lib.hid (show RC.chk a = 0 → (bytesOf a).length ≤ 2000 from fun h => by unfold bytesOf; rw [if_pos h]; exact recB_len a ha.ok (RC.chk_may ha.ok h))
  have HlB := Lib.hid (show RC.chk b = 0 → (bytesOf b).length ≤ 2000 from fun h => by unfold bytesOf; rw [if_pos h]; exact recB_len b hb.ok (RC.chk_may hb.ok h))
  clear hN
  unfold SRPost at HQ HP
  generalize bytesOf a = xa at *
  generalize bytesOf b = xb at *
  generalize RC.same a b = q at *
  generalize RC.chk a = Ea at *
  generalize RC.chk b = Eb at *
  generalize RC.big a = ga at *
  generalize RC.big b = gb at *
  obtain ⟨k1, n1, l1, h1, r1, c1, t1, s1⟩ := a
  obtain ⟨k2, n2, l2, h2, r2, c2, t2, s2⟩ := b
  go_enter Tryd.func6, Tryd.ntmps6
  go_wp2_with fail
  refine (HS.out _ (HN.out.below (below2 w _ _))).mono ?_
  rintro e w1 ⟨rfl, hb1⟩
  have e0 := (hb1.block w.heap.size (by simp only [World.size_alloc]; omega)).trans (heap_alloc2_old w _ _)
  have e1 := (hb1.block (w.heap.size + 1) (by simp only [World.size_alloc]; omega)).trans (heap_alloc2_new w _ _)
  have HB1 := Lib.hid (show Below w.heap.size w w1 from (below2 w _ _).trans (hb1.mono (by simp only [World.size_alloc]; omega)))
  have E0 := Lib.hid e0
  have E1 := Lib.hid e1
  have f0 : w1.cell? ⟨w.heap.size, 0, none⟩ = some (.int .i64 k1) := (cell_of_row w1 _ 0 _ _ (0, 0) e0).trans rfl
  have f1 : w1.cell? ⟨w.heap.size, 1, none⟩ = some (.int .i64 n1) := (cell_of_row w1 _ 1 _ _ (0, 0) e0).trans rfl
  have f2 : w1.cell? ⟨w.heap.size, 2, none⟩ = some (.int .i64 l1) := (cell_of_row w1 _ 2 _ _ (0, 0) e0).trans rfl
  have f3 : w1.cell? ⟨w.heap.size, 3, none⟩ = some (.int .i64 h1) := (cell_of_row w1 _ 3 _ _ (0, 0) e0).trans rfl
  have f4 : w1.cell? ⟨w.heap.size, 4, none⟩ = some (.float .f64 r1) := (cell_of_row w1 _ 4 _ _ (0, 0) e0).trans rfl
  have f5 : w1.cell? ⟨w.heap.size, 5, none⟩ = some (.int .i64 c1) := (cell_of_row w1 _ 5 _ _ (0, 0) e0).trans rfl
  have f6 : w1.cell? ⟨w.heap.size, 6, none⟩ = some (.string t1) := (cell_of_row w1 _ 6 _ _ (0, 0) e0).trans rfl
  have f7 : w1.cell? ⟨w.heap.size, 7, none⟩ = some (.slice A s1.length ca) := (cell_of_row w1 _ 7 _ _ (0, 0) e0).trans rfl
  have g0 : w1.cell? ⟨w.heap.size + 1, 0, none⟩ = some (.int .i64 k2) := (cell_of_row w1 _ 0 _ _ (0, 0) e1).trans rfl
  have g1 : w1.cell? ⟨w.heap.size + 1, 1, none⟩ = some (.int .i64 n2) := (cell_of_row w1 _ 1 _ _ (0, 0) e1).trans rfl
  have g2 : w1.cell? ⟨w.heap.size + 1, 2, none⟩ = some (.int .i64 l2) := (cell_of_row w1 _ 2 _ _ (0, 0) e1).trans rfl
  have g3 : w1.cell? ⟨w.heap.size + 1, 3, none⟩ = some (.int .i64 h2) := (cell_of_row w1 _ 3 _ _ (0, 0) e1).trans rfl
  have g4 : w1.cell? ⟨w.heap.size + 1, 4, none⟩ = some (.float .f64 r2) := (cell_of_row w1 _ 4 _ _ (0, 0) e1).trans rfl
  have g5 : w1.cell? ⟨w.heap.size + 1, 5, none⟩ = some (.int .i64 c2) := (cell_of_row w1 _ 5 _ _ (0, 0) e1).trans rfl
  have g6 : w1.cell? ⟨w.heap.size + 1, 6, none⟩ = some (.string t2) := (cell_of_row w1 _ 6 _ _ (0, 0) e1).trans rfl
  have g7 : w1.cell? ⟨w.heap.size + 1, 7, none⟩ = some (.slice B s2.length cb) := (cell_of_row w1 _ 7 _ _ (0, 0) e1).trans rfl
  have HIa1 := Lib.hid (HIa.out.below HB1.out)
  have HIb1 := Lib.hid (HIb.out.below HB1.out)
  clear hb1 e0 e1
  cases ga
  all_goals cases gb
  all_goals
   go_wp2_with fail
   go_region_held3 (fun w' => w'.cell? ⟨w.heap.size, 0, none⟩ = some (.int .i64 k1) ∧ w'.cell? ⟨w.heap.size, 1, none⟩ = some (.int .i64 n1) ∧ w'.cell? ⟨w.heap.size, 2, none⟩ = some (.int .i64 l1) ∧ w'.cell? ⟨w.heap.size, 3, none⟩ = some (.int .i64 h1) ∧ w'.cell? ⟨w.heap.size, 4, none⟩ = some (.float .f64 r1) ∧ w'.cell? ⟨w.heap.size, 5, none⟩ = some (.int .i64 c1) ∧ w'.cell? ⟨w.heap.size, 6, none⟩ = some (.string t1) ∧ w'.cell? ⟨w.heap.size, 7, none⟩ = some (.slice A s1.length ca) ∧ w'.cell? ⟨w.heap.size + 1, 0, none⟩ = some (.int .i64 k2) ∧ w'.cell? ⟨w.heap.size + 1, 1, none⟩ = some (.int .i64 n2) ∧ w'.cell? ⟨w.heap.size + 1, 2, none⟩ = some (.int .i64 l2) ∧ w'.cell? ⟨w.heap.size + 1, 3, none⟩ = some (.int .i64 h2) ∧ w'.cell? ⟨w.heap.size + 1, 4, none⟩ = some (.float .f64 r2) ∧ w'.cell? ⟨w.heap.size + 1, 5, none⟩ = some (.int .i64 c2) ∧ w'.cell? ⟨w.heap.size + 1, 6, none⟩ = some (.string t2) ∧ w'.cell? ⟨w.heap.size + 1, 7, none⟩ = some (.slice B s2.length cb) ∧ Below w1.heap.size w1 w')
      (first
        | (go_split_ands; exact ⟨by assumption, by assumption, by assumption, by assumption, by assumption, by assumption, by assumption, by assumption, by assumption, by assumption, by assumption, by assumption, by assumption, by assumption, by assumption, by assumption, below_drew (Below.refl _ _)⟩)
        | (go_split_ands; exact ⟨by assumption, by assumption, by assumption, by assumption, by assumption, by assumption, by assumption, by assumption, by assumption, by assumption, by assumption, by assumption, by assumption, by assumption, by assumption, by assumption, below_drew (by assumption)⟩)
        | (go_split_ands; exact ⟨below_keep hb3 (by assumption), below_keep hb3 (by assumption), below_keep hb3 (by assumption), below_keep hb3 (by assumption), below_keep hb3 (by assumption), below_keep hb3 (by assumption), below_keep hb3 (by assumption), below_keep hb3 (by assumption), below_keep hb3 (by assumption), below_keep hb3 (by assumption), below_keep hb3 (by assumption), below_keep hb3 (by assumption), below_keep hb3 (by assumption), below_keep hb3 (by assumption), below_keep hb3 (by assumption), below_keep hb3 (by assumption), Below.trans (by assumption) (hb3.mono (Below.size (by assumption)))⟩)
        | (go_split_ands; exact ⟨below_keep hb2 (by assumption), below_keep hb2 (by assumption), below_keep hb2 (by assumption), below_keep hb2 (by assumption), below_keep hb2 (by assumption), below_keep hb2 (by assumption), below_keep hb2 (by assumption), below_keep hb2 (by assumption), below_keep hb2 (by assumption), below_keep hb2 (by assumption), below_keep hb2 (by assumption), below_keep hb2 (by assumption), below_keep hb2 (by assumption), below_keep hb2 (by assumption), below_keep hb2 (by assumption), below_keep hb2 (by assumption), Below.trans (by assumption) (hb2.mono (Below.size (by assumption)))⟩))
      (first
        | (go_at_call 14; go_split_ands; (with_reducible refine (HGa.out _ (HIa1.out.below (by assumption))).mono ?_); rintro e w2 ⟨rfl, hb2⟩)
        | (go_at_call 14; go_split_ands; (with_reducible refine (HGb.out _ (HIb1.out.below (by assumption))).mono ?_); rintro e w3 ⟨rfl, hb3⟩))
   rename_i hH
   obtain ⟨f0, f1, f2, f3, f4, f5, f6, f7, g0, g1, g2, g3, g4, g5, g6, g7, hB13⟩ := hH
   have HB3 := Lib.hid (HB1.out.trans (hB13.mono HB1.out.size))
   have E03 := Lib.hid ((hB13.block _ (lt_of_heap E0.out)).trans E0.out)
   have E13 := Lib.hid ((hB13.block _ (lt_of_heap E1.out)).trans E1.out)
   clear hb2 hb3 hB13
  rotate_left
  · go_wp2_with fail
    go_ret
    exact ⟨rfl, HB3.out⟩
  · go_wp2_with fail
    go_ret
    exact ⟨rfl, HB3.out⟩
  · go_wp2_with fail
    go_ret
    exact ⟨rfl, HB3.out⟩
  have hla : s1.length ≤ 100 := Hna.out (by trivial)
  have hlb : s2.length ≤ 100 := Hnb.out (by trivial)
  have hnn : ∀ x ∈ s1, x.name.size ≤ 100 := Hnn.out (by trivial)
  have Hnm := Lib.hid hnn
  have La : Lim s1.length := by unfold Lim; omega
  have Lb : Lim s2.length := by unfold Lim; omega
  clear hnn Hna Hnb Hnn HS HGa HGb
  go_wp2_with fail
  refine (HQ.out _ (HIa.out.below HB3.out) (HIb.out.below HB3.out) La Lb).mono ?_
  rintro e w4 ⟨rfl, hb4⟩
  replace f0 := below_keep hb4 f0
  replace f1 := below_keep hb4 f1
  replace f2 := below_keep hb4 f2
  replace f3 := below_keep hb4 f3
  replace f4 := below_keep hb4 f4
  replace f5 := below_keep hb4 f5
  replace f6 := below_keep hb4 f6
  replace f7 := below_keep hb4 f7
  replace g0 := below_keep hb4 g0
  replace g1 := below_keep hb4 g1
  replace g2 := below_keep hb4 g2
  replace g3 := below_keep hb4 g3
  replace g4 := below_keep hb4 g4
  replace g5 := below_keep hb4 g5
  replace g6 := below_keep hb4 g6
  replace g7 := below_keep hb4 g7
  have HB4 := Lib.hid (HB3.out.trans (hb4.mono HB3.out.size))
  have E04 := Lib.hid ((hb4.block _ (lt_of_heap E03.out)).trans E03.out)
  have E14 := Lib.hid ((hb4.block _ (lt_of_heap E13.out)).trans E13.out)
  clear hb4 HQ
  go_wp2_with fail
  refine (HCl.out _ (HIa.out.below HB4.out) La).mono ?_
  rintro e w5 ⟨A', c', rfl, ho5, hn5, hb5⟩
  replace f0 := below_keep hb5 f0
  replace f1 := below_keep hb5 f1
  replace f2 := below_keep hb5 f2
  replace f3 := below_keep hb5 f3
  replace f4 := below_keep hb5 f4
  replace f5 := below_keep hb5 f5
  replace f6 := below_keep hb5 f6
  replace f7 := below_keep hb5 f7
  replace g0 := below_keep hb5 g0
  replace g1 := below_keep hb5 g1
  replace g2 := below_keep hb5 g2
  replace g3 := below_keep hb5 g3
  replace g4 := below_keep hb5 g4
  replace g5 := below_keep hb5 g5
  replace g6 := below_keep hb5 g6
  replace g7 := below_keep hb5 g7
  have HB5 := Lib.hid (HB4.out.trans (hb5.mono HB4.out.size))
  have E05 := Lib.hid ((hb5.block _ (lt_of_heap E04.out)).trans E04.out)
  have E15 := Lib.hid ((hb5.block _ (lt_of_heap E14.out)).trans E14.out)
  have hz5 := lt_of_heap E15.out
  have Ho5 := Lib.hid ho5
  have Hn5 := Lib.hid hn5
  have Hin5 := Lib.hid (own_inside ho5)
  have hz4 := lt_of_heap E14.out
  have hz45 := hb5.size
  have hne0 : ¬ w.heap.size = w5.heap.size := by omega
  have hlt0 : w.heap.size < w5.heap.size := by omega
  have hne1 : ¬ w.heap.size + 1 = w5.heap.size := by omega
  clear hb5 ho5 hn5 HCl
  go_wp2_with fail
  generalize hw6 : w5.alloc _ = w6
  have hb6 : Below w5.heap.size w5 w6 := by rw [← hw6]; exact below1 w5 _
  have E26 := Lib.hid (show w6.heap[w5.heap.size]? = some (.cells (recC k1 n1 l1 h1 r1 c1 t1 (.slice A' s1.length c')) 25 (0, 0)) by rw [← hw6]; exact heap_alloc_new _ _)
  replace f0 := below_keep hb6 f0
  replace f1 := below_keep hb6 f1
  replace f2 := below_keep hb6 f2
  replace f3 := below_keep hb6 f3
  replace f4 := below_keep hb6 f4
  replace f5 := below_keep hb6 f5
  replace f6 := below_keep hb6 f6
  replace f7 := below_keep hb6 f7
  replace g0 := below_keep hb6 g0
  replace g1 := below_keep hb6 g1
  replace g2 := below_keep hb6 g2
  replace g3 := below_keep hb6 g3
  replace g4 := below_keep hb6 g4
  replace g5 := below_keep hb6 g5
  replace g6 := below_keep hb6 g6
  replace g7 := below_keep hb6 g7
  have d0 : w6.cell? ⟨w5.heap.size, 0, none⟩ = some (.int .i64 k1) := (cell_of_row w6 _ 0 _ _ (0, 0) E26.out).trans rfl
  have d1 : w6.cell? ⟨w5.heap.size, 1, none⟩ = some (.int .i64 n1) := (cell_of_row w6 _ 1 _ _ (0, 0) E26.out).trans rfl
  have d2 : w6.cell? ⟨w5.heap.size, 2, none⟩ = some (.int .i64 l1) := (cell_of_row w6 _ 2 _ _ (0, 0) E26.out).trans rfl
  have d3 : w6.cell? ⟨w5.heap.size, 3, none⟩ = some (.int .i64 h1) := (cell_of_row w6 _ 3 _ _ (0, 0) E26.out).trans rfl
  have d4 : w6.cell? ⟨w5.heap.size, 4, none⟩ = some (.float .f64 r1) := (cell_of_row w6 _ 4 _ _ (0, 0) E26.out).trans rfl
  have d5 : w6.cell? ⟨w5.heap.size, 5, none⟩ = some (.int .i64 c1) := (cell_of_row w6 _ 5 _ _ (0, 0) E26.out).trans rfl
  have d6 : w6.cell? ⟨w5.heap.size, 6, none⟩ = some (.string t1) := (cell_of_row w6 _ 6 _ _ (0, 0) E26.out).trans rfl
  have d7 : w6.cell? ⟨w5.heap.size, 7, none⟩ = some (.slice A' s1.length c') := (cell_of_row w6 _ 7 _ _ (0, 0) E26.out).trans rfl
  have HB6 := Lib.hid (HB5.out.trans (hb6.mono HB5.out.size))
  have Ho6 := Lib.hid (own_below Ho5.out hb6)
  clear hb6 hw6 Ho5 HB5 HB4 HB3 E05 E15 E04 E14 E03 E13
  refine (HP.out _ (HIa.out.below HB6.out) (HIb.out.below HB6.out) La).mono ?_
  rintro e w7 ⟨rfl, hb7⟩
  replace f0 := below_keep hb7 f0
  replace f1 := below_keep hb7 f1
  replace f2 := below_keep hb7 f2
  replace f3 := below_keep hb7 f3
  replace f4 := below_keep hb7 f4
  replace f5 := below_keep hb7 f5
  replace f6 := below_keep hb7 f6
  replace f7 := below_keep hb7 f7
  replace g0 := below_keep hb7 g0
  replace g1 := below_keep hb7 g1
  replace g2 := below_keep hb7 g2
  replace g3 := below_keep hb7 g3
  replace g4 := below_keep hb7 g4
  replace g5 := below_keep hb7 g5
  replace g6 := below_keep hb7 g6
  replace g7 := below_keep hb7 g7
  replace d0 := below_keep hb7 d0
  replace d1 := below_keep hb7 d1
  replace d2 := below_keep hb7 d2
  replace d3 := below_keep hb7 d3
  replace d4 := below_keep hb7 d4
  replace d5 := below_keep hb7 d5
  replace d6 := below_keep hb7 d6
  replace d7 := below_keep hb7 d7
  have HB7 := Lib.hid (HB6.out.trans (hb7.mono HB6.out.size))
  have Ho7 := Lib.hid (own_below Ho6.out hb7)
  have E27 := Lib.hid ((hb7.block _ (lt_of_heap E26.out)).trans E26.out)
  clear hb7 Ho6 HB6 E26 HP
  cases q
  all_goals
   go_wp2_with fail
   refine (HP2.out _ (HIb.out.below HB7.out) (HIa.out.below HB7.out) Lb).mono ?_
   rintro e w8 ⟨rfl, hb8⟩
   replace f0 := below_keep hb8 f0
   replace f1 := below_keep hb8 f1
   replace f2 := below_keep hb8 f2
   replace f3 := below_keep hb8 f3
   replace f4 := below_keep hb8 f4
   replace f5 := below_keep hb8 f5
   replace f6 := below_keep hb8 f6
   replace f7 := below_keep hb8 f7
   replace g0 := below_keep hb8 g0
   replace g1 := below_keep hb8 g1
   replace g2 := below_keep hb8 g2
   replace g3 := below_keep hb8 g3
   replace g4 := below_keep hb8 g4
   replace g5 := below_keep hb8 g5
   replace g6 := below_keep hb8 g6
   replace g7 := below_keep hb8 g7
   replace d0 := below_keep hb8 d0
   replace d1 := below_keep hb8 d1
   replace d2 := below_keep hb8 d2
   replace d3 := below_keep hb8 d3
   replace d4 := below_keep hb8 d4
   replace d5 := below_keep hb8 d5
   replace d6 := below_keep hb8 d6
   replace d7 := below_keep hb8 d7
   have HB8 := Lib.hid (HB7.out.trans (hb8.mono HB7.out.size))
   have Ho8 := Lib.hid (own_below Ho7.out hb8)
   have E28 := Lib.hid ((hb8.block _ (lt_of_heap E27.out)).trans E27.out)
   clear hb8 Ho7 HB7 E27 HP2
   go_wp2_with fail
   refine (HPc.out _ A' c' (HIa.out.below HB8.out) (Its.own Ho8.out) La).mono ?_
   rintro e w9 ⟨rfl, hb9⟩
   replace f0 := below_keep hb9 f0
   replace f1 := below_keep hb9 f1
   replace f2 := below_keep hb9 f2
   replace f3 := below_keep hb9 f3
   replace f4 := below_keep hb9 f4
   replace f5 := below_keep hb9 f5
   replace f6 := below_keep hb9 f6
   replace f7 := below_keep hb9 f7
   replace g0 := below_keep hb9 g0
   replace g1 := below_keep hb9 g1
   replace g2 := below_keep hb9 g2
   replace g3 := below_keep hb9 g3
   replace g4 := below_keep hb9 g4
   replace g5 := below_keep hb9 g5
   replace g6 := below_keep hb9 g6
   replace g7 := below_keep hb9 g7
   replace d0 := below_keep hb9 d0
   replace d1 := below_keep hb9 d1
   replace d2 := below_keep hb9 d2
   replace d3 := below_keep hb9 d3
   replace d4 := below_keep hb9 d4
   replace d5 := below_keep hb9 d5
   replace d6 := below_keep hb9 d6
   replace d7 := below_keep hb9 d7
   have HB9 := Lib.hid (HB8.out.trans (hb9.mono HB8.out.size))
   have Ho9 := Lib.hid (own_below Ho8.out hb9)
   have E29 := Lib.hid ((hb9.block _ (lt_of_heap E28.out)).trans E28.out)
   clear hb9 Ho8 HB8 E28 HPc
   go_wp2_with fail
   have hob : ∀ k, ob A' = some k → w4.heap.size ≤ k ∧ k < w5.heap.size := fun k e => ⟨Hn5.out k e, by
     cases hA : A' with
     | none => rw [hA] at e; cases e
     | some ad => rw [hA] at e; injection e with e; have e' : ad.block = k := e; have := Hin5.out ad hA; omega⟩
   have Hob := Lib.hid hob
   have hz9 : w5.heap.size < w9.heap.size := lt_of_heap E29.out
   clear hob
   go_loopw [42] (fun t42 wr => ∃ i : Nat, t42 = .int .i64 i ∧ i ≤ s1.length ∧ CInv s1 A' w9 i wr) (fun t42 _ => s1.length - (intOf t42).toNat)
   case atStart => exact ⟨0, rfl, Nat.zero_le _, CInv.start Ho9.out⟩
   case round =>
    obtain ⟨i, rfl, hi, hv⟩ := hrel
    have HV := Lib.hid hv
    have hk := hv.kp
    have n0 : ¬ ob A' = some w.heap.size := fun e => by have := Hob.out _ e; omega
    have n1 : ¬ ob A' = some (w.heap.size + 1) := fun e => by have := Hob.out _ e; omega
    have n2 : ¬ ob A' = some w5.heap.size := fun e => by have := Hob.out _ e; omega
    replace f0 := hk.cell f0 n0
    replace f1 := hk.cell f1 n0
    replace f2 := hk.cell f2 n0
    replace f3 := hk.cell f3 n0
    replace f4 := hk.cell f4 n0
    replace f5 := hk.cell f5 n0
    replace f6 := hk.cell f6 n0
    replace f7 := hk.cell f7 n0
    replace g0 := hk.cell g0 n1
    replace g1 := hk.cell g1 n1
    replace g2 := hk.cell g2 n1
    replace g3 := hk.cell g3 n1
    replace g4 := hk.cell g4 n1
    replace g5 := hk.cell g5 n1
    replace g6 := hk.cell g6 n1
    replace g7 := hk.cell g7 n1
    replace d0 := hk.cell d0 n2
    replace d1 := hk.cell d1 n2
    replace d2 := hk.cell d2 n2
    replace d3 := hk.cell d3 n2
    replace d4 := hk.cell d4 n2
    replace d5 := hk.cell d5 n2
    replace d6 := hk.cell d6 n2
    replace d7 := hk.cell d7 n2
    have HB10 := Lib.hid (show Below w.heap.size w wr from HB9.out.trans (hk.below HB9.out.size (fun j hj e => by have := Hob.out _ e; omega)))
    have hszr := hk.size
    clear hv hk n0 n1 n2
    by_cases hlt : i < s1.length
    · obtain ⟨g, cur, rfl, hrow, hcur⟩ := HV.out.rows i s1[i] (Nat.le_refl _) (List.getElem?_eq_getElem hlt)
      rcases HIa.out with hIr | ⟨b, off, rfl, hb, hc⟩
      · have hIr : s1 = [] := hIr
        subst hIr; simp at hlt
      replace hc : ∀ (i : Nat) (x : RC.It), s1[i]? = some x → w.cell? ⟨b, off + i * 2, none⟩ = some (.float .f64 x.score) ∧ w.cell? ⟨b, off + i * 2 + 1, none⟩ = some (.string x.name) := hc
      have a1 := below_keep HB10.out (hc i s1[i] (List.getElem?_eq_getElem hlt)).2
      have hnm := Hnm.out _ (List.getElem_mem hlt)
      generalize s1[i] = y at *
      obtain ⟨ys, yn⟩ := y
      replace a1 : wr.cell? ⟨b, off + i * 2 + 1, none⟩ = some (.string yn) := a1
      replace hnm : yn.size ≤ 100 := hnm
      have m1 : wr.cell? ⟨g, i * 2 + 1, none⟩ = some (.string yn) := (cell_of_row wr _ _ _ _ (0, 0) hrow).trans hcur
      have mf : wr.frozen? ⟨g, i * 2 + 1, none⟩ = false := frozen_of_row _ _ _ _ _ hrow
      have hi1 : (i : Int) < (s1.length : Int) := by omega
      have hgw : w4.heap.size ≤ g := (Hob.out g rfl).1
      have hgw5 : g < w5.heap.size := (Hob.out g rfl).2
      clear hc hrow hcur
      go_wp2_with fail
      generalize hwq : World.setCell _ _ _ = wq
      have q7 : wq.cell? ⟨w.heap.size, 7, none⟩ = some (.slice (some ⟨b, off, none⟩) s1.length ca) := by rw [← hwq]; exact (Kp.setCell (S := fun k => k = g) (Kp.refl _ wr) (Or.inl rfl) _).cell f7 (by show ¬ w.heap.size = g; omega)
      have p7 : wq.cell? ⟨w5.heap.size, 7, none⟩ = some (.slice (some ⟨g, 0, none⟩) s1.length c') := by rw [← hwq]; exact (Kp.setCell (S := fun k => k = g) (Kp.refl _ wr) (Or.inl rfl) _).cell d7 (by show ¬ w5.heap.size = g; omega)
      have qa : wq.cell? ⟨b, off + i * 2 + 1, none⟩ = some (.string yn) := by rw [← hwq]; exact (Kp.setCell (S := fun k => k = g) (Kp.refl _ wr) (Or.inl rfl) _).cell a1 (by show ¬ b = g; omega)
      have qm : wq.cell? ⟨g, i * 2 + 1, none⟩ = some (.string (yn ++ ⟨#[120]⟩)) := by rw [← hwq]; simp [go_sem, m1]
      have hnx := name_x yn
      have HV2 := Lib.hid (show CInv s1 (some ⟨g, 0, none⟩) w9 (i + 1) wq by rw [← hwq]; exact HV.out.step rfl _)
      clear hwq HV m1 mf a1
      go_quiet (fail)
      go_wp2
      go_roundw
      case rel => exact ⟨i + 1, by go_num, by omega, HV2.out.drewN _⟩
      case measure => simp [intOf]; omega
    · have HIa2 := Lib.hid (HIa.out.below HB10.out)
      have HIb2 := Lib.hid (HIb.out.below HB10.out)
      clear HV
      go_wp2_with fail
      refine (HCa.out _ HIa2.out La).mono ?_
      rintro e w11 ⟨rfl, hb11⟩
      replace f0 := below_keep hb11 f0
      replace f1 := below_keep hb11 f1
      replace f2 := below_keep hb11 f2
      replace f3 := below_keep hb11 f3
      replace f4 := below_keep hb11 f4
      replace f5 := below_keep hb11 f5
      replace f6 := below_keep hb11 f6
      replace f7 := below_keep hb11 f7
      replace g0 := below_keep hb11 g0
      replace g1 := below_keep hb11 g1
      replace g2 := below_keep hb11 g2
      replace g3 := below_keep hb11 g3
      replace g4 := below_keep hb11 g4
      replace g5 := below_keep hb11 g5
      replace g6 := below_keep hb11 g6
      replace g7 := below_keep hb11 g7
      have HB11 := Lib.hid (HB10.out.trans (hb11.mono HB10.out.size))
      clear hb11
      rcases Nat.eq_zero_or_pos Ea with hEa | hEa
      · subst hEa
        go_wp2_with fail
        refine (HCb.out _ (HIb.out.below HB11.out) Lb).mono ?_
        rintro e w12 ⟨rfl, hb12⟩
        replace f0 := below_keep hb12 f0
        replace f1 := below_keep hb12 f1
        replace f2 := below_keep hb12 f2
        replace f3 := below_keep hb12 f3
        replace f4 := below_keep hb12 f4
        replace f5 := below_keep hb12 f5
        replace f6 := below_keep hb12 f6
        replace f7 := below_keep hb12 f7
        replace g0 := below_keep hb12 g0
        replace g1 := below_keep hb12 g1
        replace g2 := below_keep hb12 g2
        replace g3 := below_keep hb12 g3
        replace g4 := below_keep hb12 g4
        replace g5 := below_keep hb12 g5
        replace g6 := below_keep hb12 g6
        replace g7 := below_keep hb12 g7
        have HB12 := Lib.hid (HB11.out.trans (hb12.mono HB11.out.size))
        clear hb12
        rcases Nat.eq_zero_or_pos Eb with hEb | hEb
        · subst hEb
          have hlA : xa.length ≤ 2000 := HlA.out (by trivial)
          have hlB : xb.length ≤ 2000 := HlB.out (by trivial)
          have ht := (arr_eq xa xb).trans (Hbs.out (by trivial) (by trivial))
          have Hx := Lib.hid (Hbs.out (by trivial) (by trivial))
          have HIa3 := Lib.hid (HIa.out.below HB12.out)
          have HIb3 := Lib.hid (HIb.out.below HB12.out)
          go_wp2_with fail
          have hd12 : Its w12.drew A s1 := HIa3.out
          go_region_with (first
            | (go_at_call 18; (with_reducible refine (HBa.out _ hd12 La).mono ?_); rintro e w13 ⟨A13, c13, rfl, ho13, hn13, hb13⟩; have hB13 : Below w12.heap.size w12 w13 := (below_a w12).trans hb13; have hI13 := HIb3.out.below hB13; have k13 := run_text (P := Tryd.prog) w13 33 9 5 A13 c13 xa Tryd.underlying33 Tryd.underlying5 Tryd.underlying9 (Bts.own ho13); have x0 := below_keep hB13 g0; have x1 := below_keep hB13 g1; have x2 := below_keep hB13 g2; have x3 := below_keep hB13 g3; have x4 := below_keep hB13 g4; have x5 := below_keep hB13 g5; have x6 := below_keep hB13 g6; have x7 := below_keep hB13 g7)
            | (go_at_call 18; (with_reducible refine (HBb.out _ hI13 Lb).mono ?_); rintro e w14 ⟨A14, c14, rfl, ho14, hn14, hb14⟩; have k14 := run_text (P := Tryd.prog) w14 33 9 5 A14 c14 xb Tryd.underlying33 Tryd.underlying5 Tryd.underlying9 (Bts.own ho14); have k13' := run_text (P := Tryd.prog) w14 33 9 5 A13 c13 xa Tryd.underlying33 Tryd.underlying5 Tryd.underlying9 ((Bts.own ho13).below hb14)))
          all_goals
            go_wp2_with fail
            go_ret
            exact ⟨ret_bool (by simp [Hx.out]), HB12.out.trans ((hB13.mono HB12.out.size).trans (hb14.mono (Nat.le_trans HB12.out.size hB13.size)))⟩
        · have hE : ((Eb : Int) != 0) = true := by simp; omega
          go_wp2_with fail
          go_ret
          exact ⟨rfl, HB12.out⟩
      · have hE : ((Ea : Int) != 0) = true := by simp; omega
        go_wp2_with fail
        go_ret
        exact ⟨rfl, HB11.out⟩

end Go.Proofs.YtjonkchmechecaaDoor
