/- The walk of ShareSlices. -/
import Derived.Test.YtbkcmnmbcldjoaaGreatDoorSh16P7a
import Derived.Test.YtbkcmnmbcldjoaaGreatDoorShPP7a
namespace Go.Proofs.YtbkcmnmbcldjoaaGreatDoor
open Go.RowKit MM
set_option linter.unusedVariables false
set_option linter.unusedSimpArgs false
/-- Records, cell by cell. -/
def rcCells : List Rl → List Value
  | [] => []
  | y :: l => y.cells.toList ++ rcCells l
theorem rcCells_append : ∀ a b : List Rl, rcCells (a ++ b) = rcCells a ++ rcCells b
  | [], _ => rfl
  | y :: a, b => by show y.cells.toList ++ rcCells (a ++ b) = (y.cells.toList ++ rcCells a) ++ rcCells b; rw [rcCells_append a b, List.append_assoc]
theorem rcCells_at : ∀ (ys : List Rl) (i : Nat) (y : Rl), ys[i]? = some y → ∀ j v, y.cells[j]? = some v → (rcCells ys)[i * 8 + j]? = some v
  | [], i, y, h, _, _, _ => by simp at h
  | z :: l, 0, y, h, j, v, hv => by
    simp at h
    subst h
    show (z.cells.toList ++ rcCells l)[0 * 8 + j]? = some v
    have hj : j < z.cells.toList.length := by rw [Array.length_toList]; exact (Array.getElem?_eq_some_iff.1 hv).1
    rw [show 0 * 8 + j = j by omega, List.getElem?_append_left hj, Array.getElem?_toList]
    exact hv
  | z :: l, i + 1, y, h, j, v, hv => by
    have h' : l[i]? = some y := by simpa using h
    show (z.cells.toList ++ rcCells l)[(i + 1) * 8 + j]? = some v
    have hz : z.cells.toList.length = 8 := rfl
    rw [List.getElem?_append_right (by omega), hz, show (i + 1) * 8 + j - 8 = i * 8 + j by omega]
    exact rcCells_at l i y h' j v hv
theorem recs_own {w : World} {L : Option Addr} {l : List Rl} {n c : Nat} (hn : n = l.length) (h : w.ownsRow 0 25 8 (.slice L n c) n (rcCells l)) (ha : ∀ x ∈ l, RecIn w x.r x.A x.c) (hl : l.length ≤ maxLen) : RecsIn w L l := by
  refine ⟨?_, ha, hl⟩
  subst hn
  rcases Nat.eq_zero_or_pos l.length with h0 | h0
  · exact .inl (List.eq_nil_of_length_eq_zero h0)
  · obtain ⟨g, hA, hg, hc⟩ := own_cell14 h h0
    exact .inr ⟨g, 0, hA, hg, fun i x hi j v hv => by rw [Nat.zero_add]; exact hc _ v (rcCells_at l i x hi j v hv)⟩
/-- How things stand while records are gathered. -/
structure RsAt (w : World) (ys : List Rl) (B : Option Addr) (n cb : Nat) (wr : World) : Prop where
  own : wr.ownsRow 0 25 8 (.slice B n cb) n (rcCells ys)
  newB : ∀ k, ob B = some k → w.heap.size ≤ k
  below : Below w.heap.size w wr
  len : ys.length = n
theorem RsAt.keep {w wr w' : World} {ys : List Rl} {B : Option Addr} {n cb : Nat} (h : RsAt w ys B n cb wr) (hb : Below wr.heap.size wr w') : RsAt w ys B n cb w' :=
  ⟨own_below h.own hb, h.newB, h.below.trans (hb.mono h.below.size), h.len⟩
theorem RsAt.next {w wr w4 : World} {ys : List Rl} {a : Rl} {B B' : Option Addr} {n cb cb' : Nat} (h : RsAt w ys B n cb wr) (hg : wr.grownBy w4 (ob B)) (hat : ob B' = ob B ∨ ob B' = some wr.heap.size) (ho : w4.ownsRow 0 25 8 (.slice B' (n + 1) cb') (n + 1) (rcCells ys ++ a.cells.toList)) : RsAt w (ys ++ [a]) B' (n + 1) cb' w4 := by
  refine ⟨?_, grown_new7 h.newB hat h.below.size, grown_keep7 h.below h.newB hg (Nat.le_refl _), by simp [h.len]⟩
  rw [rcCells_append]
  show w4.ownsRow _ _ _ _ _ (rcCells _ ++ (a.cells.toList ++ []))
  rw [List.append_nil]
  exact ho
theorem slice_text (r : RC.Rc) : (SH.slice r).1.text = ⟨#[]⟩ := by
  unfold SH.slice
  split
  · rfl
  · unfold SH.empty
    split
    · rfl
    · split
      · rfl
      · split
        · rfl
        · split
          · rfl
          · split <;> rfl
theorem slice_in (r : RC.Rc) (hr : r.ok) (w : World) : RecIn w (SH.slice r).1 none 0 := ⟨SH.slice_ok hr, .inl (SH.slice_list r), by rw [SH.slice_list]; exact Nat.zero_le _, by rw [slice_text]; exact Nat.zero_le _, fun x hx => by rw [SH.slice_list] at hx; cases hx⟩
theorem rec_info7 : (Tryz.prog.info? 25).map (fun i => (i.zero, i.size, i.bytes)) = some (some (.agg (recC 0 0 0 0 0 0 ⟨#[]⟩ (.slice none 0 0))), 8, 88) := by kernel_rfl
set_option maxHeartbeats 16000000 in
set_option maxRecDepth 100000 in
theorem shareSlicesL_any (r : RC.Rc) (A : Option Addr) (c : Nat) (k0 k1 many : Int) (w : World) (hI : RecIn w r A c) (hk0 : RC.I64 k0) (hk1 : RC.I64 k1) (hm : RC.I64 many) (hR : RowsAt w) :
    Calls Tryz.prog 3 #[recV r A c, .agg #[.int .i64 k0, .int .i64 k1], .int .i64 many] w fun e w' => e = .returned (.bool true) ∧ Below w.heap.size w w' := by
  obtain ⟨i0, hi0, hz0, hz1, hz2⟩ := info_parts rec_info7
  have HR := Lib.hid hR
  have HI := Lib.hid hI
  clear hR hI hk0 hk1 hm
  go_enter Tryz.func3, Tryz.ntmps3
  go_upto_region 1 with fail
  generalize hw1 : World.alloc (World.alloc w _) _ = w1
  have B1 := Lib.hid (show Below w.heap.size w w1 by rw [← hw1]; exact below2 w _ _)
  have E1 := Lib.hid (show w1.heap[w.heap.size]? = some (.cells (recC r.kind r.num r.low r.high r.real r.cap r.text (.slice A r.list.length c)) 25 (0, 0)) by rw [← hw1]; exact heap_alloc2_old w _ _)
  have E2 := Lib.hid (show w1.heap[w.heap.size + 1]? = some (.cells #[.int .i64 k0, .int .i64 k1] 26 (0, 0)) by rw [← hw1]; exact heap_alloc2_new w _ _)
  clear hw1
  go_wp2_with fail
  refine (speaks7_any _ (HR.out.below B1.out)).mono ?_
  rintro e w2 ⟨rfl, hb⟩
  have B2 := Lib.hid (B1.out.trans (hb.mono B1.out.size))
  have E1 := Lib.hid ((hb.block _ (lt_of_heap E1.out)).trans E1.out)
  have E2 := Lib.hid ((hb.block _ (lt_of_heap E2.out)).trans E2.out)
  clear hb B1
  go_wp2_with (first
    | (refine wpList_load_row rfl _ _ rfl w.heap.size rfl 25 _ (0, 0) _ E1.out Tryz.underlying25 rfl rec_inf7 ?_))
  refine (show Calls Tryz.prog 11 #[.agg (recC r.kind r.num r.low r.high r.real r.cap r.text (.slice A r.list.length c)), .slice none 0 0] w2 (fun e w' => e = .returned (.bool (big7 r [])) ∧ Below w2.heap.size w2 w') from big7_any r A none c 0 [] w2 (HI.out.its.below B2.out) HI.out.len ⟨.inl rfl, fun x hx => (by cases hx), Nat.zero_le _⟩).mono ?_
  have HBg := Lib.hid (show big7 r [] = false → r.list.length ≤ 100 from fun h => by
    unfold big7 at h
    rw [Bool.or_eq_false_iff] at h
    exact (big_not h.1).1)
  generalize big7 r [] = bg at *
  rintro e w3 ⟨rfl, hb⟩
  have B3 := Lib.hid (B2.out.trans (hb.mono B2.out.size))
  have E1 := Lib.hid ((hb.block _ (lt_of_heap E1.out)).trans E1.out)
  have E2 := Lib.hid ((hb.block _ (lt_of_heap E2.out)).trans E2.out)
  clear hb B2
  cases bg
  case true =>
    go_wp2_with fail
    go_ret
    exact ⟨rfl, B3.out⟩
  have HN := Lib.hid (HBg.out rfl)
  clear HBg
  have HSl := Lib.hid (fun u (h : Below w.heap.size w u) => sslice_any r A c u HI.out.ok (HI.out.its.below h) (by unfold Lim; have := HN.out; omega))
  have HRl := Lib.hid (fun u (h : Below w.heap.size w u) => r7slice_any r A c u HI.out.ok (HI.out.its.below h) (by unfold Lim; have := HN.out; omega))
  have HMe := Lib.hid (fun n u L cl (h : Below w.heap.size w u) (hl : RecsIn u L (List.replicate n ⟨(SH.slice r).1, none, 0⟩)) (hn : n ≤ 8) (ht : (SH.slice r).2 = true) => show Calls Tryz.prog 17 #[recV r A c, .slice L n cl] u (DoS r u) from by
    have e2 : (List.replicate n (⟨(SH.slice r).1, none, 0⟩ : Rl)).map (·.r) = List.replicate n (SH.slice r).1 := by simp
    have e3 : SH.regains r.kind (List.replicate n (SH.slice r).1) = [] := SH.regains_nil _ _ (fun p hp => by rw [List.eq_of_mem_replicate hp]; exact SH.slice_list r)
    have h1 := smerge_any r (List.replicate n ⟨(SH.slice r).1, none, 0⟩) A L c cl u HI.out.ok (HI.out.its.below h) (by unfold Lim; have := HN.out; omega) hl (by rw [e2, e3]; simp) (by simp; omega) (fun p hp => by rw [List.eq_of_mem_replicate hp]; show (SH.slice r).1.list.length ≤ _; rw [SH.slice_list]; simp) (by rw [e2, e3]; intro a ha; cases ha) (HR.out.below h)
    rw [e2, SH.merge_slices HI.out.ok ht, List.length_replicate] at h1
    exact h1)
  have HSame := Lib.hid (fun (B : Option Addr) (d : Nat) u (h : Below w.heap.size w u) (hB : Its u B r.list) => show Calls Tryz.prog 16 #[recV r B d, recV r A c] u (fun e w' => e = .returned (.bool true) ∧ Below u.heap.size u w') from by
    have h1 := rsame3_any r r B A d c u HI.out.ok HI.out.ok hB (HI.out.its.below h) (by unfold Lim; have := HN.out; omega) (by unfold Lim; have := HN.out; omega)
    exact h1.mono (fun e w' x => ⟨by rw [x.1, RC.same_refl'], x.2⟩))
  have HSS := Lib.hid (fun u => show Calls Tryz.prog 16 #[recV (SH.slice r).1 none 0, recV (SH.slice r).1 none 0] u (fun e w' => e = .returned (.bool true) ∧ Below u.heap.size u w') from by
    have h1 := rsame3_any (SH.slice r).1 (SH.slice r).1 none none 0 0 u (SH.slice_ok HI.out.ok) (SH.slice_ok HI.out.ok) (.inl (SH.slice_list r)) (.inl (SH.slice_list r)) (by unfold Lim; rw [SH.slice_list]; decide) (by unfold Lim; rw [SH.slice_list]; decide)
    exact h1.mono (fun e w' x => ⟨by rw [x.1, RC.same_refl'], x.2⟩))
  have HIn := Lib.hid (fun u => slice_in r HI.out.ok u)
  generalize (SH.slice r).2 = ok at *
  generalize (SH.slice r).1 = s at *
  go_wp2_with (first
    | (refine wpList_load_row rfl _ _ rfl w.heap.size rfl 25 _ (0, 0) _ E1.out Tryz.underlying25 rfl rec_inf7 ?_))
  refine (HSl.out _ B3.out).mono ?_
  rintro e w4 ⟨rfl, hb⟩
  have B4 := Lib.hid (B3.out.trans (hb.mono B3.out.size))
  have E1 := Lib.hid ((hb.block _ (lt_of_heap E1.out)).trans E1.out)
  have E2 := Lib.hid ((hb.block _ (lt_of_heap E2.out)).trans E2.out)
  clear hb B3 HSl
  go_upto_region 6 with (first
    | (refine wpList_store_row rfl _ _ _ rfl _ (recC s.kind s.num s.low s.high s.real s.cap s.text (.slice none s.list.length 0)) rfl rfl 25 _ (heap_alloc_new _ _) rec_inf7 rfl (by kernel_rfl) ?_))
  rw [World.setRow_alloc_new]
  generalize hw5 : World.alloc w4 _ = w5
  have hb : Below w4.heap.size w4 w5 := by rw [← hw5]; exact below1 w4 _
  have E7 := Lib.hid (show w5.heap[w4.heap.size]? = some (.cells (recC s.kind s.num s.low s.high s.real s.cap s.text (.slice none s.list.length 0)) 25 (0, 0)) by rw [← hw5]; exact heap_alloc_new w4 _)
  have B5 := Lib.hid (B4.out.trans (hb.mono B4.out.size))
  have E1 := Lib.hid ((hb.block _ (lt_of_heap E1.out)).trans E1.out)
  have E2 := Lib.hid ((hb.block _ (lt_of_heap E2.out)).trans E2.out)
  generalize hg7 : w4.heap.size = g7 at *
  clear hb B4 hw5 hg7
  go_wp2_with (first
    | (refine wpList_load_row rfl _ _ rfl w.heap.size rfl 25 _ (0, 0) _ E1.out Tryz.underlying25 rfl rec_inf7 ?_))
  refine (HRl.out _ B5.out).mono ?_
  rintro e w6 ⟨rfl, hb⟩
  have B6 := Lib.hid (B5.out.trans (hb.mono B5.out.size))
  have E1 := Lib.hid ((hb.block _ (lt_of_heap E1.out)).trans E1.out)
  have E2 := Lib.hid ((hb.block _ (lt_of_heap E2.out)).trans E2.out)
  have E7 := Lib.hid ((hb.block _ (lt_of_heap E7.out)).trans E7.out)
  clear hb B5 HRl
  go_upto_region 7 with (first
    | (refine wpList_store_row rfl _ _ _ rfl _ (recC s.kind s.num s.low s.high s.real s.cap s.text (.slice none s.list.length 0)) rfl rfl 25 _ (heap_alloc_new _ _) rec_inf7 rfl (by kernel_rfl) ?_))
  rw [World.setRow_alloc_new]
  generalize hw7 : World.alloc w6 _ = w7
  have hb : Below w6.heap.size w6 w7 := by rw [← hw7]; exact below1 w6 _
  have E9 := Lib.hid (show w7.heap[w6.heap.size]? = some (.cells (recC s.kind s.num s.low s.high s.real s.cap s.text (.slice none s.list.length 0)) 25 (0, 0)) by rw [← hw7]; exact heap_alloc_new w6 _)
  have B7 := Lib.hid (B6.out.trans (hb.mono B6.out.size))
  have E1 := Lib.hid ((hb.block _ (lt_of_heap E1.out)).trans E1.out)
  have E2 := Lib.hid ((hb.block _ (lt_of_heap E2.out)).trans E2.out)
  have E7 := Lib.hid ((hb.block _ (lt_of_heap E7.out)).trans E7.out)
  generalize hg9 : w6.heap.size = g9 at *
  clear hb B6 hw7 hg9
  go_cut [47] (fun t47 wx => t47 = .bool false ∧ Below w7.heap.size w7 wx)
  case first =>
    have q0 := cell_of_row w7 _ 0 _ _ (0, 0) E2.out
    have q1 := cell_of_row w7 _ 1 _ _ (0, 0) E2.out
    have s0 := cell_of_row w7 _ 0 _ _ (0, 0) E7.out
    have z0 := cell_of_row w7 _ 0 _ _ (0, 0) E9.out
    have s1 := cell_of_row w7 _ 1 _ _ (0, 0) E7.out
    have z1 := cell_of_row w7 _ 1 _ _ (0, 0) E9.out
    have s2 := cell_of_row w7 _ 2 _ _ (0, 0) E7.out
    have z2 := cell_of_row w7 _ 2 _ _ (0, 0) E9.out
    have s3 := cell_of_row w7 _ 3 _ _ (0, 0) E7.out
    have z3 := cell_of_row w7 _ 3 _ _ (0, 0) E9.out
    have s4 := cell_of_row w7 _ 4 _ _ (0, 0) E7.out
    have z4 := cell_of_row w7 _ 4 _ _ (0, 0) E9.out
    have s5 := cell_of_row w7 _ 5 _ _ (0, 0) E7.out
    have z5 := cell_of_row w7 _ 5 _ _ (0, 0) E9.out
    have s6 := cell_of_row w7 _ 6 _ _ (0, 0) E7.out
    have z6 := cell_of_row w7 _ 6 _ _ (0, 0) E9.out
    have s7 := cell_of_row w7 _ 7 _ _ (0, 0) E7.out
    have z7 := cell_of_row w7 _ 7 _ _ (0, 0) E9.out
    have HSa := Lib.hid (fun u (h : Below w7.heap.size w7 u) => ssplits_any k0 k1 u (HR.out.below (B7.out.trans (h.mono B7.out.size))))
    have HSb := Lib.hid (fun u => r7splits_any k0 k1 u)
    generalize SH.splits k0 k1 = sp at *
    have hsp : (sp != sp) = false := by cases sp <;> rfl
    have hok : (ok != ok) = false := by cases ok <;> rfl
    refine wp_region_held_drew (S := fun W => Below w7.heap.size w7 W) (by kernel_rfl) (below_drew (Below.refl _ _)) (fun hHeld => ?_)
    generalize World.drew w7 = v0 at *
    refine wpAnyH_take (i := 0) (oi := ⟨_, _, _, _, _, _⟩) (v := ?_) rfl (by kernel_rfl) (by kernel_rfl) (by kernel_rfl) (fun _ _ _ h => h) (Or.inl ⟨by kernel_rfl, ?_⟩) hHeld ?_
    rotate_left 1
    · intro W hW; first | (go_simp; done) | (go_simp; with_reducible rfl)
    try simp only [Act.put, List.setIfInBounds_toArray, List.set_cons_zero, List.set_cons_succ]
    refine wpAnyH_take (i := 1) (oi := ⟨_, _, _, _, _, _⟩) (v := ?_) rfl (by kernel_rfl) (by kernel_rfl) (by kernel_rfl) (fun _ _ _ h => h) (Or.inl ⟨by kernel_rfl, ?_⟩) hHeld ?_
    rotate_left 1
    · intro W hW; have k0 := below_keep hW q0; first | (go_simp; done) | (go_simp; with_reducible rfl)
    try simp only [Act.put, List.setIfInBounds_toArray, List.set_cons_zero, List.set_cons_succ]
    refine wpAnyH_take (i := 2) (oi := ⟨_, _, _, _, _, _⟩) (v := ?_) rfl (by kernel_rfl) (by kernel_rfl) (by kernel_rfl) (fun _ _ _ h => h) (Or.inl ⟨by kernel_rfl, ?_⟩) hHeld ?_
    rotate_left 1
    · intro W hW; first | (go_simp; done) | (go_simp; with_reducible rfl)
    try simp only [Act.put, List.setIfInBounds_toArray, List.set_cons_zero, List.set_cons_succ]
    refine wpAnyH_take (i := 3) (oi := ⟨_, _, _, _, _, _⟩) (v := ?_) rfl (by kernel_rfl) (by kernel_rfl) (by kernel_rfl) (fun _ _ _ h => h) (Or.inl ⟨by kernel_rfl, ?_⟩) hHeld ?_
    rotate_left 1
    · intro W hW; have k0 := below_keep hW q1; first | (go_simp; done) | (go_simp; with_reducible rfl)
    try simp only [Act.put, List.setIfInBounds_toArray, List.set_cons_zero, List.set_cons_succ]
    refine wpAnyH_take (i := 5) (oi := ⟨_, _, _, _, _, _⟩) (v := ?_) rfl (by kernel_rfl) (by kernel_rfl) (by kernel_rfl) (fun _ _ _ h => h) (Or.inl ⟨by kernel_rfl, ?_⟩) hHeld ?_
    rotate_left 1
    · intro W hW; first | (go_simp; done) | (go_simp; with_reducible rfl)
    try simp only [Act.put, List.setIfInBounds_toArray, List.set_cons_zero, List.set_cons_succ]
    refine wpAnyH_take (i := 6) (oi := ⟨_, _, _, _, _, _⟩) (v := ?_) rfl (by kernel_rfl) (by kernel_rfl) (by kernel_rfl) (fun _ _ _ h => h) (Or.inl ⟨by kernel_rfl, ?_⟩) hHeld ?_
    rotate_left 1
    · intro W hW; have k0 := below_keep hW q0; first | (go_simp; done) | (go_simp; with_reducible rfl)
    try simp only [Act.put, List.setIfInBounds_toArray, List.set_cons_zero, List.set_cons_succ]
    refine wpAnyH_take (i := 7) (oi := ⟨_, _, _, _, _, _⟩) (v := ?_) rfl (by kernel_rfl) (by kernel_rfl) (by kernel_rfl) (fun _ _ _ h => h) (Or.inl ⟨by kernel_rfl, ?_⟩) hHeld ?_
    rotate_left 1
    · intro W hW; first | (go_simp; done) | (go_simp; with_reducible rfl)
    try simp only [Act.put, List.setIfInBounds_toArray, List.set_cons_zero, List.set_cons_succ]
    refine wpAnyH_take (i := 8) (oi := ⟨_, _, _, _, _, _⟩) (v := ?_) rfl (by kernel_rfl) (by kernel_rfl) (by kernel_rfl) (fun _ _ _ h => h) (Or.inl ⟨by kernel_rfl, ?_⟩) hHeld ?_
    rotate_left 1
    · intro W hW; have k0 := below_keep hW q1; first | (go_simp; done) | (go_simp; with_reducible rfl)
    try simp only [Act.put, List.setIfInBounds_toArray, List.set_cons_zero, List.set_cons_succ]
    refine wpAnyH_ready (rs := [4]) (by kernel_rfl) (by simp) ?_
    refine AllReadyH.cons rfl (fun K hK => ?_) AllReadyH.nil
    go_simp
    refine (HSa.out _ hHeld).mono ?_
    rintro e v1 ⟨rfl, hbx⟩
    go_wp2_with fail
    refine hK.out _ _ ?_ (fun hHelda => ?_)
    · exact hHeld.trans (hbx.mono hHeld.size)
    clear hK K
    try simp only [Act.put, List.setIfInBounds_toArray, List.set_cons_zero, List.set_cons_succ]
    clear hbx
    refine wpAnyH_ready (rs := [9]) (by kernel_rfl) (by simp) ?_
    refine AllReadyH.cons rfl (fun K hK => ?_) AllReadyH.nil
    go_simp
    refine (HSb.out _).mono ?_
    rintro e v2 ⟨rfl, hbx⟩
    go_wp2_with fail
    refine hK.out _ _ ?_ (fun hHeldaa => ?_)
    · exact hHelda.trans (hbx.mono hHelda.size)
    clear hK K
    try simp only [Act.put, List.setIfInBounds_toArray, List.set_cons_zero, List.set_cons_succ]
    clear hbx
    refine wpAnyH_take (i := 10) (oi := ⟨_, _, _, _, _, _⟩) (v := ?_) rfl (by kernel_rfl) (by kernel_rfl) (by kernel_rfl) (fun _ _ _ h => h) (Or.inl ⟨by kernel_rfl, ?_⟩) hHeldaa ?_
    rotate_left 1
    · intro W hW; first | (go_simp; done) | (go_simp; with_reducible rfl)
    try simp only [Act.put, List.setIfInBounds_toArray, List.set_cons_zero, List.set_cons_succ]
    refine wpAnyH_take (i := 11) (oi := ⟨_, _, _, _, _, _⟩) (v := ?_) rfl (by kernel_rfl) (by kernel_rfl) (by kernel_rfl) (fun _ _ _ h => h) (Or.inl ⟨by kernel_rfl, ?_⟩) hHeldaa ?_
    rotate_left 1
    · intro W hW; first | (go_simp; done) | (go_simp; with_reducible rfl)
    try simp only [Act.put, List.setIfInBounds_toArray, List.set_cons_zero, List.set_cons_succ]
    refine wpAnyH_take (i := 12) (oi := ⟨_, _, _, _, _, _⟩) (v := ?_) rfl (by kernel_rfl) (by kernel_rfl) (by kernel_rfl) (fun _ _ _ h => h) (Or.inl ⟨by kernel_rfl, ?_⟩) hHeldaa ?_
    rotate_left 1
    · intro W hW; first | (go_simp; done) | (go_simp; with_reducible rfl)
    try simp only [Act.put, List.setIfInBounds_toArray, List.set_cons_zero, List.set_cons_succ]
    refine wpAnyH_take (i := 13) (oi := ⟨_, _, _, _, _, _⟩) (v := ?_) rfl (by kernel_rfl) (by kernel_rfl) (by kernel_rfl) (fun _ _ _ h => h) (Or.inl ⟨by kernel_rfl, ?_⟩) hHeldaa ?_
    rotate_left 1
    · intro W hW; first | (go_simp; done) | (go_simp; with_reducible rfl)
    try simp only [Act.put, List.setIfInBounds_toArray, List.set_cons_zero, List.set_cons_succ]
    refine wpAnyH_take (i := 14) (oi := ⟨_, _, _, _, _, _⟩) (v := ?_) rfl (by kernel_rfl) (by kernel_rfl) (by kernel_rfl) (fun _ _ _ h => h) (Or.inl ⟨by kernel_rfl, ?_⟩) hHeldaa ?_
    rotate_left 1
    · intro W hW; first | (go_simp; done) | (go_simp; with_reducible rfl)
    try simp only [Act.put, List.setIfInBounds_toArray, List.set_cons_zero, List.set_cons_succ]
    refine wpAnyH_take (i := 15) (oi := ⟨_, _, _, _, _, _⟩) (v := ?_) rfl (by kernel_rfl) (by kernel_rfl) (by kernel_rfl) (fun _ _ _ h => h) (Or.inl ⟨by kernel_rfl, ?_⟩) hHeldaa ?_
    rotate_left 1
    · intro W hW; first | (go_simp; done) | (go_simp; with_reducible rfl)
    try simp only [Act.put, List.setIfInBounds_toArray, List.set_cons_zero, List.set_cons_succ]
    refine wpAnyH_take (i := 16) (oi := ⟨_, _, _, _, _, _⟩) (v := ?_) rfl (by kernel_rfl) (by kernel_rfl) (by kernel_rfl) (fun _ _ _ h => h) (Or.inl ⟨by kernel_rfl, ?_⟩) hHeldaa ?_
    rotate_left 1
    · intro W hW; first | (go_simp; done) | (go_simp; with_reducible rfl)
    try simp only [Act.put, List.setIfInBounds_toArray, List.set_cons_zero, List.set_cons_succ]
    refine wpAnyH_take (i := 17) (oi := ⟨_, _, _, _, _, _⟩) (v := ?_) rfl (by kernel_rfl) (by kernel_rfl) (by kernel_rfl) (fun _ _ _ h => h) (Or.inl ⟨by kernel_rfl, ?_⟩) hHeldaa ?_
    rotate_left 1
    · intro W hW; have k0 := below_keep hW s0; have k1 := below_keep hW s1; have k2 := below_keep hW s2; have k3 := below_keep hW s3; have k4 := below_keep hW s4; have k5 := below_keep hW s5; have k6 := below_keep hW s6; have k7 := below_keep hW s7; first | (go_simp; done) | (go_simp; with_reducible rfl)
    try simp only [Act.put, List.setIfInBounds_toArray, List.set_cons_zero, List.set_cons_succ]
    refine wpAnyH_take (i := 18) (oi := ⟨_, _, _, _, _, _⟩) (v := ?_) rfl (by kernel_rfl) (by kernel_rfl) (by kernel_rfl) (fun _ _ _ h => h) (Or.inl ⟨by kernel_rfl, ?_⟩) hHeldaa ?_
    rotate_left 1
    · intro W hW; have k0 := below_keep hW z0; have k1 := below_keep hW z1; have k2 := below_keep hW z2; have k3 := below_keep hW z3; have k4 := below_keep hW z4; have k5 := below_keep hW z5; have k6 := below_keep hW z6; have k7 := below_keep hW z7; first | (go_simp; done) | (go_simp; with_reducible rfl)
    try simp only [Act.put, List.setIfInBounds_toArray, List.set_cons_zero, List.set_cons_succ]
    refine wpAnyH_ready (rs := [19]) (by kernel_rfl) (by simp) ?_
    refine AllReadyH.cons rfl (fun K hK => ?_) AllReadyH.nil
    go_simp
    refine (HSS.out _).mono ?_
    rintro e v3 ⟨rfl, hbx⟩
    go_wp2_with fail
    refine hK.out _ _ ?_ (fun hHeldaaa => ?_)
    · exact hHeldaa.trans (hbx.mono hHeldaa.size)
    clear hK K
    try simp only [Act.put, List.setIfInBounds_toArray, List.set_cons_zero, List.set_cons_succ]
    clear hbx
    refine wpAnyH_take (i := 20) (oi := ⟨_, _, _, _, _, _⟩) (v := ?_) rfl (by kernel_rfl) (by kernel_rfl) (by kernel_rfl) (fun _ _ _ h => h) (Or.inl ⟨by kernel_rfl, ?_⟩) hHeldaaa ?_
    rotate_left 1
    · intro W hW; first | (go_simp; done) | (go_simp; with_reducible rfl)
    try simp only [Act.put, List.setIfInBounds_toArray, List.set_cons_zero, List.set_cons_succ]
    refine wpAnyH_take (i := 21) (oi := ⟨_, _, _, _, _, _⟩) (v := ?_) rfl (by kernel_rfl) (by kernel_rfl) (by kernel_rfl) (fun _ _ _ h => h) (Or.inl ⟨by kernel_rfl, ?_⟩) hHeldaaa ?_
    rotate_left 1
    · intro W hW; first | (go_simp; done) | (go_simp; with_reducible rfl)
    try simp only [Act.put, List.setIfInBounds_toArray, List.set_cons_zero, List.set_cons_succ]
    refine wpAnyH_done (by kernel_rfl) ?_ _
    have HF := Lib.hid hHeldaaa
    go_wp2_with fail
    go_meet
    exact ⟨rfl, HF.out⟩
  case rest =>
  obtain ⟨rfl, hb⟩ := hcut
  generalize hwc : wc = w8 at *
  clear hwc
  have B8 := Lib.hid (B7.out.trans (hb.mono B7.out.size))
  have E1 := Lib.hid ((hb.block _ (lt_of_heap E1.out)).trans E1.out)
  have E7 := Lib.hid ((hb.block _ (lt_of_heap E7.out)).trans E7.out)
  clear hb B7 E2 E9 HSS
  cases ok
  case false =>
    go_wp2_with fail
    go_ret
    exact ⟨rfl, B8.out⟩
  by_cases hneg : many < 0
  · go_wp2_with fail
    go_ret
    exact ⟨rfl, B8.out⟩
  by_cases h8 : 8 < many
  · go_wp2_with fail
    go_ret
    exact ⟨rfl, B8.out⟩
  obtain ⟨n, rfl⟩ : ∃ n : Nat, many = (n : Int) := ⟨many.toNat, by omega⟩
  have hn8 : n ≤ 8 := by omega
  go_wp2_with fail
  go_loopw [11, 59] (fun t11 t59 wr => ∃ (j : Nat) (B : Option Addr) (cb : Nat), t59 = .int .i64 j ∧ j ≤ n ∧ t11 = .slice B j cb ∧ RsAt w8 (List.replicate j ⟨s, none, 0⟩) B j cb wr) (fun _ t59 _ => n - (intOf t59).toNat)
  case atStart => exact ⟨0, none, 0, rfl, Nat.zero_le _, rfl, ⟨World.ownsRow_nil _ _ _ _, fun k e => (by cases e), Below.refl _ _, rfl⟩⟩
  case round =>
    obtain ⟨j, B, cb, rfl, hj, rfl, hv⟩ := hrel
    have HVv := Lib.hid hv
    clear hv
    by_cases hlt : j < n
    · have hj1 : (j : Int) < (n : Int) := by omega
      have HTA := Lib.hid (show List.replicate j (⟨s, none, 0⟩ : Rl) ++ [⟨s, none, 0⟩] = List.replicate (j + 1) ⟨s, none, 0⟩ from List.replicate_succ'.symm)
      have X7 := Lib.hid ((HVv.out.below.block _ (lt_of_heap E7.out)).trans E7.out)
      have KO := Lib.hid (fun X => HVv.out.keep (below1 wr X))
      generalize List.replicate j (⟨s, none, 0⟩ : Rl) = ys at *
      go_wp2_with (first
        | (refine wpList_load_row rfl _ _ rfl g7 rfl 25 _ (0, 0) _ X7.out Tryz.underlying25 rfl rec_inf7 ?_)
        | (at_builtin
           refine wpList_append_at rfl _ _ _ _ rfl 25 i0 _ 8 88 Tryz.underlying33 hi0 hz0 hz1 hz2 rfl B j cb (rcCells ys) rfl (KO.out _).own _ 1 _ rfl (src_row Tryz.underlying33 _ (recC s.kind s.num s.low s.high s.real s.cap s.text (.slice none s.list.length 0)) _ (by simp) rfl (List.all_eq_true.1 rfl)) (by unfold maxLen; omega) (by omega) ?_
           intro B' cb' w10 ho10 hg10 hat10))
      have HT := Lib.hid ((KO.out _).next (a := ⟨s, none, 0⟩) hg10 hat10 ho10)
      clear ho10 hg10 hat10
      go_wp2_with fail
      go_roundw
      case rel => exact ⟨j + 1, B', cb', by go_num, by omega, by simp, by rw [← HTA.out]; exact HT.out⟩
      case measure => simp [intOf]; omega
    · have hj' : j = n := by omega
      have hj1 : ¬ (j : Int) < (n : Int) := by omega
      subst hj'
      have BW := Lib.hid (B8.out.trans (HVv.out.below.mono B8.out.size))
      have HP := Lib.hid (show RecsIn wr B (List.replicate j ⟨s, none, 0⟩) from recs_own (n := j) (c := cb) (by simp) HVv.out.own (fun x hx => by rw [List.eq_of_mem_replicate hx]; exact HIn.out wr) (by simp; unfold maxLen; omega))
      have E1 := Lib.hid ((HVv.out.below.block _ (lt_of_heap E1.out)).trans E1.out)
      have r0 := cell_of_row wr _ 0 _ _ (0, 0) E1.out
      have r1 := cell_of_row wr _ 1 _ _ (0, 0) E1.out
      have r2 := cell_of_row wr _ 2 _ _ (0, 0) E1.out
      have r3 := cell_of_row wr _ 3 _ _ (0, 0) E1.out
      have r4 := cell_of_row wr _ 4 _ _ (0, 0) E1.out
      have r5 := cell_of_row wr _ 5 _ _ (0, 0) E1.out
      have r6 := cell_of_row wr _ 6 _ _ (0, 0) E1.out
      have r7 := cell_of_row wr _ 7 _ _ (0, 0) E1.out
      clear hlt hj B8 E7 HVv
      go_upto_region 16 with fail
      refine wp_region_held_drew (S := fun W => Below wr.heap.size wr W) (by kernel_rfl) (below_drew (Below.refl _ _)) (fun hHeld => ?_)
      generalize World.drew wr = v0 at *
      refine wpAnyH_take (i := 0) (oi := ⟨_, _, _, _, _, _⟩) (v := ?_) rfl (by kernel_rfl) (by kernel_rfl) (by kernel_rfl) (fun _ _ _ h => h) (Or.inl ⟨by kernel_rfl, ?_⟩) hHeld ?_
      rotate_left 1
      · intro W hW; have k0 := below_keep hW r0; have k1 := below_keep hW r1; have k2 := below_keep hW r2; have k3 := below_keep hW r3; have k4 := below_keep hW r4; have k5 := below_keep hW r5; have k6 := below_keep hW r6; have k7 := below_keep hW r7; first | (go_simp; done) | (go_simp; with_reducible rfl)
      try simp only [Act.put, List.setIfInBounds_toArray, List.set_cons_zero, List.set_cons_succ]
      refine wpAnyH_take (i := 1) (oi := ⟨_, _, _, _, _, _⟩) (v := ?_) rfl (by kernel_rfl) (by kernel_rfl) (by kernel_rfl) (fun _ _ _ h => h) (Or.inl ⟨by kernel_rfl, ?_⟩) hHeld ?_
      rotate_left 1
      · intro W hW; first | (go_simp; done) | (go_simp; with_reducible rfl)
      try simp only [Act.put, List.setIfInBounds_toArray, List.set_cons_zero, List.set_cons_succ]
      refine wpAnyH_take (i := 3) (oi := ⟨_, _, _, _, _, _⟩) (v := ?_) rfl (by kernel_rfl) (by kernel_rfl) (by kernel_rfl) (fun _ _ _ h => h) (Or.inl ⟨by kernel_rfl, ?_⟩) hHeld ?_
      rotate_left 1
      · intro W hW; have k0 := below_keep hW r0; have k1 := below_keep hW r1; have k2 := below_keep hW r2; have k3 := below_keep hW r3; have k4 := below_keep hW r4; have k5 := below_keep hW r5; have k6 := below_keep hW r6; have k7 := below_keep hW r7; first | (go_simp; done) | (go_simp; with_reducible rfl)
      try simp only [Act.put, List.setIfInBounds_toArray, List.set_cons_zero, List.set_cons_succ]
      refine wpAnyH_ready (rs := [2]) (by kernel_rfl) (by simp) ?_
      refine AllReadyH.cons rfl (fun K hK => ?_) AllReadyH.nil
      go_simp
      refine (HMe.out j _ B cb (BW.out.trans (hHeld.mono BW.out.size)) (HP.out.keep hHeld) hn8 (by first | trivial | rfl)).mono ?_
      rintro e v1 ⟨C, d, rfl, hits, hbx⟩
      have HC := Lib.hid hits
      clear hits
      go_wp2_with fail
      refine hK.out _ _ ?_ (fun hHelda => ?_)
      · exact hHeld.trans (hbx.mono hHeld.size)
      clear hK K
      try simp only [Act.put, List.setIfInBounds_toArray, List.set_cons_zero, List.set_cons_succ]
      clear hbx
      refine wpAnyH_ready (rs := [4]) (by kernel_rfl) (by simp) ?_
      refine AllReadyH.cons rfl (fun K hK => ?_) AllReadyH.nil
      go_simp
      refine (HSame.out C d _ (BW.out.trans (hHelda.mono BW.out.size)) HC.out).mono ?_
      rintro e v2 ⟨rfl, hbx⟩
      go_wp2_with fail
      refine hK.out _ _ ?_ (fun hHeldaa => ?_)
      · exact hHelda.trans (hbx.mono hHelda.size)
      clear hK K
      try simp only [Act.put, List.setIfInBounds_toArray, List.set_cons_zero, List.set_cons_succ]
      clear hbx
      refine wpAnyH_take (i := 5) (oi := ⟨_, _, _, _, _, _⟩) (v := ?_) rfl (by kernel_rfl) (by kernel_rfl) (by kernel_rfl) (fun _ _ _ h => h) (Or.inl ⟨by kernel_rfl, ?_⟩) hHeldaa ?_
      rotate_left 1
      · intro W hW; first | (go_simp; done) | (go_simp; with_reducible rfl)
      try simp only [Act.put, List.setIfInBounds_toArray, List.set_cons_zero, List.set_cons_succ]
      refine wpAnyH_done (by kernel_rfl) ?_ _
      have HF := Lib.hid (BW.out.trans (hHeldaa.mono BW.out.size))
      go_wp2_with fail
      go_ret
      exact ⟨rfl, HF.out⟩
end Go.Proofs.YtbkcmnmbcldjoaaGreatDoor
