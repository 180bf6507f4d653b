/- Contracts of the document's own answers for layer 3: a kind of 0. -/
import Derived.Test.YtaaeefndhmfceaaGreatDoorEyeT
import Derived.Test.YtaaeefndhmfceaaGreatDoorRec9
namespace Go.Proofs.YtaaeefndhmfceaaGreatDoor
open Go.RowKit MM

set_option maxHeartbeats 2000000 in
set_option maxRecDepth 100000 in
/-- A record whose kind can't be read. -/
theorem next_zero (n : Nat) (p : Nat) (A : Option Addr) (c : Nat) (bs : List UInt8) (at_ : Nat) (w : World) (he : Ey w p A c bs at_ 0) (hU : uptoR 9 (bs.drop at_) = .ok 0 n) (hA : bs ≠ [] → ∀ ad, A = some ad → ad.block < w.heap.size) :
    Calls Tryz.prog 89 #[.pointer (some ⟨p, 0, none⟩)] w (NPost p A c bs at_ (.bad 5 n) w) := by
  have hp := lt_of_heap he.row
  have HX := Lib.hid (fun w' (he' : Ey w' p A c bs at_ 0) => eupto_any p A c bs at_ 9 w' (by omega) he')
  rw [show ((9 : Nat) : Int) = 9 from rfl, hU] at HX
  have HFl := Lib.hid (fun w' at2 (he' : Ey w' p A c bs at2 0) => efail_yes p A c bs at2 5 w' he')
  have HE := Lib.hid he
  clear he hU
  go_enter Tryz.func89, Tryz.ntmps89
  go_wp2_with fail
  refine (HX.out _ (HE.out.below (below2 w _ _))).mono ?_
  rintro e w1 ⟨hk1, rfl, he1⟩
  have r0 := (hk1.block w.heap.size (by simp only [World.size_alloc]; omega) (by show ¬ w.heap.size = p; omega)).trans (heap_alloc2_old w _ _)
  have r1 := (hk1.block (w.heap.size + 1) (by simp only [World.size_alloc]; omega) (by show ¬ w.heap.size + 1 = p; omega)).trans (heap_alloc2_new w _ _)
  have c1 := fun o => cell_of_row w1 _ o _ _ (0, 0) r1
  have f1 : ∀ o, w1.frozen? ⟨w.heap.size + 1, o, none⟩ = false := fun o => frozen_of_row _ _ o _ _ r1
  have HK1 := Lib.hid (show Kp (fun k => k = p) w w1 from (((Kp.refl _ w).alloc _).alloc _).same hk1)
  have R0 := Lib.hid r0
  have R1 := Lib.hid r1
  have HE1 := Lib.hid he1
  clear r0 r1 hk1 he1
  go_wp2_with fail
  generalize hv1 : World.setCell _ _ _ = v1
  have kv : Kp (fun k => w.heap.size ≤ k) w1 v1 := by rw [← hv1]; exact Kp.setCell (Kp.refl _ _) (Or.inl (by show w.heap.size ≤ w.heap.size + 1; omega)) _
  have heV := HE1.out.far hp hA kv
  have HKv := Lib.hid (show Kp (fun k => k = p) w v1 by rw [← hv1]; exact Kp.setCell HK1.out (Or.inr (by show w.heap.size ≤ w.heap.size + 1; omega)) _)
  have O1 := Lib.hid (show v1.heap[w.heap.size + 1]? = some (.cells (recC 0 0 0 0 0 0 ⟨#[]⟩ (.slice none 0 0)) 25 (0, 0)) by rw [← hv1]; exact heap_setCell_same _ _ _ _ _ _ R1.out)
  have Q1 := Lib.hid ((show v1.heap[w.heap.size]? = _ by rw [← hv1]; exact heap_setCell_other _ _ _ _ (by show w.heap.size ≠ w.heap.size + 1; omega)).trans R0.out)
  clear hv1 kv c1 f1 R0 R1 HK1 HE1
  refine (HFl.out _ _ heV).mono ?_
  rintro e w2 ⟨rfl, he2, hk2⟩
  have r0 := (hk2.block _ (lt_of_heap Q1.out) (by show ¬ w.heap.size = p; omega)).trans Q1.out
  have r1 := (hk2.block _ (lt_of_heap O1.out) (by show ¬ w.heap.size + 1 = p; omega)).trans O1.out
  have c1 := fun o => cell_of_row w2 _ o _ _ (0, 0) r1
  have cR := fun o => cell_of_row w2 _ o _ _ (0, 0) r0
  have fR : ∀ o, w2.frozen? ⟨w.heap.size, o, none⟩ = false := fun o => frozen_of_row _ _ o _ _ r0
  have cE := fun o => cell_of_row w2 _ o _ _ (0, 0) he2.row
  have HE2 := Lib.hid he2
  have HK2 := Lib.hid (HKv.out.same hk2)
  clear r0 r1 he2 hk2
  go_wp2_with fail
  refine bodyPost_ret (v := .agg (recC 0 0 0 0 0 0 ⟨#[]⟩ (.slice none 0 0))) (by simp [results, Tryz.results89, go_sem, cR]) rfl ?_
  refine NPost.bad rfl ?_ rfl (HE2.out.far hp hA ?_)
  · iterate 8 refine Kp.setCell ?_ (Or.inr (by simp)) _
    exact HK2.out
  · iterate 8 refine Kp.setCell ?_ (Or.inl (by simp)) _
    exact Kp.refl _ _

end Go.Proofs.YtaaeefndhmfceaaGreatDoor
/- Contracts of the document's own answers for layer 3: the next record with three numbers. -/
namespace Go.Proofs.YtaaeefndhmfceaaGreatDoor
open Go.RowKit MM

set_option maxHeartbeats 2000000 in
set_option maxRecDepth 100000 in
theorem next_4 (n0 : Nat) (p : Nat) (A : Option Addr) (c : Nat) (bs : List UInt8) (at_ : Nat) (w : World) (he : Ey w p A c bs at_ 0) (hU : uptoR 9 (bs.drop at_) = .ok 4 n0) (hA : bs ≠ [] → ∀ ad, A = some ad → ad.block < w.heap.size) :
    Calls Tryz.prog 89 #[.pointer (some ⟨p, 0, none⟩)] w (NPost p A c bs at_ (recR (bs.drop at_)) w) := by
  have hp := lt_of_heap he.row
  have hK : kindR (bs.drop at_) = .ok 4 n0 := by unfold kindR; rw [andR_ok hU]; rfl
  have HX := Lib.hid (fun w' (he' : Ey w' p A c bs at_ 0) => eupto_any p A c bs at_ 9 w' (by omega) he')
  rw [show ((9 : Nat) : Int) = 9 from rfl, hU] at HX
  have HE := Lib.hid he
  have HK := Lib.hid hK
  clear he hU hK
  have hY := fun w' (he' : Ey w' p A c bs (at_ + n0) 0) => epart_any p A c bs (at_ + n0) 105 0 w' (by omega) rfl he'
  rw [show partR 105 0 (bs.drop (at_ + n0)) = Res.map (fun n => { PK.zeroPt 105 with i := PK.zag n }) (numR (bs.drop (at_ + n0))) from rfl] at hY
  cases hN1 : numR (bs.drop (at_ + n0)) with
  | bad code n =>
    rw [hN1] at hY
    have HY1 := Lib.hid hY
    have Hf := Lib.hid (recR_bad2 HK.out (show fieldR 4 ((bs.drop at_).drop n0) = .bad code (n) by rw [List.drop_drop, fieldR4, andR_bad hN1]))
    have hc := numR_bad_pos hN1
    have h1 : ((code : Int) == 0) = false := by simp; omega
    have h2 : ((code : Int) != 0) = true := by simp; omega
    clear hY hN1
    go_enter Tryz.func89, Tryz.ntmps89
    go_wp2_with fail
    refine (HX.out _ (HE.out.below (below2 w _ _))).mono ?_
    rintro e w1 ⟨hk1, rfl, he1⟩
    have r0 := (hk1.block w.heap.size (by simp only [World.size_alloc]; omega) (by show ¬ w.heap.size = p; omega)).trans (heap_alloc2_old w _ _)
    have r1 := (hk1.block (w.heap.size + 1) (by simp only [World.size_alloc]; omega) (by show ¬ w.heap.size + 1 = p; omega)).trans (heap_alloc2_new w _ _)
    have c1 := fun o => cell_of_row w1 _ o _ _ (0, 0) r1
    have f1 : ∀ o, w1.frozen? ⟨w.heap.size + 1, o, none⟩ = false := fun o => frozen_of_row _ _ o _ _ r1
    have HK1 := Lib.hid (show Kp (fun k => k = p) w w1 from (((Kp.refl _ w).alloc _).alloc _).same hk1)
    have R0 := Lib.hid r0
    have R1 := Lib.hid r1
    have HE1 := Lib.hid he1
    clear r0 r1 hk1 he1
    go_wp2_with fail
    generalize hv1 : World.setCell _ _ _ = v1
    have kv : Kp (fun k => w.heap.size ≤ k) w1 v1 := by rw [← hv1]; exact Kp.setCell (Kp.refl _ _) (Or.inl (by show w.heap.size ≤ w.heap.size + 1; omega)) _
    have heV := HE1.out.far hp hA kv
    have HKv := Lib.hid (show Kp (fun k => k = p) w v1 by rw [← hv1]; exact Kp.setCell HK1.out (Or.inr (by show w.heap.size ≤ w.heap.size + 1; omega)) _)
    have O1 := Lib.hid (show v1.heap[w.heap.size + 1]? = some (.cells (recC 4 0 0 0 0 0 ⟨#[]⟩ (.slice none 0 0)) 25 (0, 0)) by rw [← hv1]; exact heap_setCell_same _ _ _ _ _ _ R1.out)
    have Q1 := Lib.hid ((show v1.heap[w.heap.size]? = _ by rw [← hv1]; exact heap_setCell_other _ _ _ _ (by show w.heap.size ≠ w.heap.size + 1; omega)).trans R0.out)
    clear hv1 kv c1 f1 R0 R1 HK1 HE1
    have hfdz : ∀ w : World, (Instr.field 115 (.agg #[.int .u8 0, .int .u64 0, .int .i64 0, .int .u64 0, .string ⟨#[]⟩, .bool false]) 2).run Tryz.prog w = .ok (.int .i64 (0)) w := fun _ => by kernel_rfl
    refine (HY1.out _ heV).mono ?_
    rintro e u1 ⟨hk2, rfl, he2⟩
    have r0 := (hk2.block _ (lt_of_heap Q1.out) (by show ¬ w.heap.size = p; omega)).trans Q1.out
    have r1 := (hk2.block _ (lt_of_heap O1.out) (by show ¬ w.heap.size + 1 = p; omega)).trans O1.out
    have c1 := fun o => cell_of_row u1 _ o _ _ (0, 0) r1
    have f1 : ∀ o, u1.frozen? ⟨w.heap.size + 1, o, none⟩ = false := fun o => frozen_of_row _ _ o _ _ r1
    have cR := fun o => cell_of_row u1 _ o _ _ (0, 0) r0
    have fR : ∀ o, u1.frozen? ⟨w.heap.size, o, none⟩ = false := fun o => frozen_of_row _ _ o _ _ r0
    have cE := fun o => cell_of_row u1 _ o _ _ (0, 0) he2.row
    have HE2 := Lib.hid he2
    have HK2 := Lib.hid (HKv.out.same hk2)
    have RO := Lib.hid r1
    have RR := Lib.hid r0
    clear r0 r1 he2 hk2
    go_wp2_with fail
    generalize hv2 : World.setCell _ _ _ = v2
    have kv2 : Kp (fun k => w.heap.size ≤ k) u1 v2 := by rw [← hv2]; exact Kp.setCell (Kp.refl _ _) (Or.inl (by show w.heap.size ≤ w.heap.size + 1; omega)) _
    have heV2 := HE2.out.far hp hA kv2
    have HKv2 := Lib.hid (show Kp (fun k => k = p) w v2 by rw [← hv2]; exact Kp.setCell HK2.out (Or.inr (by show w.heap.size ≤ w.heap.size + 1; omega)) _)
    have O2 := Lib.hid (show v2.heap[w.heap.size + 1]? = some (.cells (recC 4 (0) (0) (0) 0 0 ⟨#[]⟩ (.slice none 0 0)) 25 (0, 0)) by rw [← hv2]; exact heap_setCell_same _ _ _ _ _ _ RO.out)
    have Q2 := Lib.hid ((show v2.heap[w.heap.size]? = _ by rw [← hv2]; exact heap_setCell_other _ _ _ _ (by show w.heap.size ≠ w.heap.size + 1; omega)).trans RR.out)
    clear hv2 kv2 c1 f1 cR fR cE HE2 HK2 RO RR HKv O1 Q1 heV
    refine (epart_no p A c bs _ code 105 0 _ hc heV2).mono ?_
    rintro e u2 ⟨rfl, hb2⟩
    have he2 := heV2.below hb2
    have hk2 : Kp (fun k => k = p) v2 u2 := Kp.of_below hb2 _
    clear hb2
    have r0 := (hk2.block _ (lt_of_heap Q2.out) (by show ¬ w.heap.size = p; omega)).trans Q2.out
    have r1 := (hk2.block _ (lt_of_heap O2.out) (by show ¬ w.heap.size + 1 = p; omega)).trans O2.out
    have c1 := fun o => cell_of_row u2 _ o _ _ (0, 0) r1
    have f1 : ∀ o, u2.frozen? ⟨w.heap.size + 1, o, none⟩ = false := fun o => frozen_of_row _ _ o _ _ r1
    have cR := fun o => cell_of_row u2 _ o _ _ (0, 0) r0
    have fR : ∀ o, u2.frozen? ⟨w.heap.size, o, none⟩ = false := fun o => frozen_of_row _ _ o _ _ r0
    have cE := fun o => cell_of_row u2 _ o _ _ (0, 0) he2.row
    have HE2 := Lib.hid he2
    have HK2 := Lib.hid (HKv2.out.same hk2)
    have RO := Lib.hid r1
    have RR := Lib.hid r0
    clear r0 r1 he2 hk2
    go_wp2_with fail
    generalize hv2 : World.setCell _ _ _ = v3
    have kv2 : Kp (fun k => w.heap.size ≤ k) u2 v3 := by rw [← hv2]; exact Kp.setCell (Kp.refl _ _) (Or.inl (by show w.heap.size ≤ w.heap.size + 1; omega)) _
    have heV3 := HE2.out.far hp hA kv2
    have HKv3 := Lib.hid (show Kp (fun k => k = p) w v3 by rw [← hv2]; exact Kp.setCell HK2.out (Or.inr (by show w.heap.size ≤ w.heap.size + 1; omega)) _)
    have O3 := Lib.hid (show v3.heap[w.heap.size + 1]? = some (.cells (recC 4 (0) (0) (0) 0 0 ⟨#[]⟩ (.slice none 0 0)) 25 (0, 0)) by rw [← hv2]; exact heap_setCell_same _ _ _ _ _ _ RO.out)
    have Q3 := Lib.hid ((show v3.heap[w.heap.size]? = _ by rw [← hv2]; exact heap_setCell_other _ _ _ _ (by show w.heap.size ≠ w.heap.size + 1; omega)).trans RR.out)
    clear hv2 kv2 c1 f1 cR fR cE HE2 HK2 RO RR HKv2 O2 Q2 heV2
    refine (epart_no p A c bs _ code 105 0 _ hc heV3).mono ?_
    rintro e u3 ⟨rfl, hb2⟩
    have he2 := heV3.below hb2
    have hk2 : Kp (fun k => k = p) v3 u3 := Kp.of_below hb2 _
    clear hb2
    have r0 := (hk2.block _ (lt_of_heap Q3.out) (by show ¬ w.heap.size = p; omega)).trans Q3.out
    have r1 := (hk2.block _ (lt_of_heap O3.out) (by show ¬ w.heap.size + 1 = p; omega)).trans O3.out
    have c1 := fun o => cell_of_row u3 _ o _ _ (0, 0) r1
    have f1 : ∀ o, u3.frozen? ⟨w.heap.size + 1, o, none⟩ = false := fun o => frozen_of_row _ _ o _ _ r1
    have cR := fun o => cell_of_row u3 _ o _ _ (0, 0) r0
    have fR : ∀ o, u3.frozen? ⟨w.heap.size, o, none⟩ = false := fun o => frozen_of_row _ _ o _ _ r0
    have cE := fun o => cell_of_row u3 _ o _ _ (0, 0) he2.row
    have HE2 := Lib.hid he2
    have HK2 := Lib.hid (HKv3.out.same hk2)
    have RO := Lib.hid r1
    have RR := Lib.hid r0
    clear r0 r1 he2 hk2
    go_wp2_with fail
    refine bodyPost_ret (v := .agg (recC 0 0 0 0 0 0 ⟨#[]⟩ (.slice none 0 0))) (by simp [results, Tryz.results89, go_sem, cR]) rfl ?_
    refine NPost.bad Hf.out ?_ (by omega) (HE2.out.far hp hA ?_)
    · iterate 9 refine Kp.setCell ?_ (Or.inr (by simp)) _
      exact HK2.out
    · iterate 9 refine Kp.setCell ?_ (Or.inl (by simp)) _
      exact Kp.refl _ _
  | ok x1 n1 =>
    rw [hN1] at hY
    have HY1 := Lib.hid hY
    clear hY
    have hY := fun w' (he' : Ey w' p A c bs (at_ + n0 + n1) 0) => epart_any p A c bs (at_ + n0 + n1) 105 0 w' (by omega) rfl he'
    rw [show partR 105 0 (bs.drop (at_ + n0 + n1)) = Res.map (fun n => { PK.zeroPt 105 with i := PK.zag n }) (numR (bs.drop (at_ + n0 + n1))) from rfl] at hY
    cases hN2 : numR (bs.drop (at_ + n0 + n1)) with
    | bad code n =>
      rw [hN2] at hY
      have HY2 := Lib.hid hY
      have Hf := Lib.hid (recR_bad2 HK.out (show fieldR 4 ((bs.drop at_).drop n0) = .bad code (n1 + (n)) by rw [List.drop_drop, fieldR4, andR_ok hN1, List.drop_drop, andR_bad hN2]; rfl))
      have hc := numR_bad_pos hN2
      have h1 : ((code : Int) == 0) = false := by simp; omega
      have h2 : ((code : Int) != 0) = true := by simp; omega
      clear hY hN1 hN2
      go_enter Tryz.func89, Tryz.ntmps89
      go_wp2_with fail
      refine (HX.out _ (HE.out.below (below2 w _ _))).mono ?_
      rintro e w1 ⟨hk1, rfl, he1⟩
      have r0 := (hk1.block w.heap.size (by simp only [World.size_alloc]; omega) (by show ¬ w.heap.size = p; omega)).trans (heap_alloc2_old w _ _)
      have r1 := (hk1.block (w.heap.size + 1) (by simp only [World.size_alloc]; omega) (by show ¬ w.heap.size + 1 = p; omega)).trans (heap_alloc2_new w _ _)
      have c1 := fun o => cell_of_row w1 _ o _ _ (0, 0) r1
      have f1 : ∀ o, w1.frozen? ⟨w.heap.size + 1, o, none⟩ = false := fun o => frozen_of_row _ _ o _ _ r1
      have HK1 := Lib.hid (show Kp (fun k => k = p) w w1 from (((Kp.refl _ w).alloc _).alloc _).same hk1)
      have R0 := Lib.hid r0
      have R1 := Lib.hid r1
      have HE1 := Lib.hid he1
      clear r0 r1 hk1 he1
      go_wp2_with fail
      generalize hv1 : World.setCell _ _ _ = v1
      have kv : Kp (fun k => w.heap.size ≤ k) w1 v1 := by rw [← hv1]; exact Kp.setCell (Kp.refl _ _) (Or.inl (by show w.heap.size ≤ w.heap.size + 1; omega)) _
      have heV := HE1.out.far hp hA kv
      have HKv := Lib.hid (show Kp (fun k => k = p) w v1 by rw [← hv1]; exact Kp.setCell HK1.out (Or.inr (by show w.heap.size ≤ w.heap.size + 1; omega)) _)
      have O1 := Lib.hid (show v1.heap[w.heap.size + 1]? = some (.cells (recC 4 0 0 0 0 0 ⟨#[]⟩ (.slice none 0 0)) 25 (0, 0)) by rw [← hv1]; exact heap_setCell_same _ _ _ _ _ _ R1.out)
      have Q1 := Lib.hid ((show v1.heap[w.heap.size]? = _ by rw [← hv1]; exact heap_setCell_other _ _ _ _ (by show w.heap.size ≠ w.heap.size + 1; omega)).trans R0.out)
      clear hv1 kv c1 f1 R0 R1 HK1 HE1
      have hfdz : ∀ w : World, (Instr.field 115 (.agg #[.int .u8 0, .int .u64 0, .int .i64 0, .int .u64 0, .string ⟨#[]⟩, .bool false]) 2).run Tryz.prog w = .ok (.int .i64 (0)) w := fun _ => by kernel_rfl
      refine (HY1.out _ heV).mono ?_
      rintro e u1 ⟨hk2, ⟨qk, qu, qi, qq, qt, qb, hpl, rfl⟩, he2⟩
      have hqi : qi = PK.zag x1 := congrArg PK.Rp.i hpl
      subst hqi
      clear hpl
      have hfd : ∀ w : World, (Instr.field 115 (.agg #[.int .u8 (qk : Int), .int .u64 (qu : Int), .int .i64 (PK.zag x1), .int .u64 (qq : Int), .string qt, .bool qb]) 2).run Tryz.prog w = .ok (.int .i64 (PK.zag x1)) w := fun _ => by kernel_rfl
      have r0 := (hk2.block _ (lt_of_heap Q1.out) (by show ¬ w.heap.size = p; omega)).trans Q1.out
      have r1 := (hk2.block _ (lt_of_heap O1.out) (by show ¬ w.heap.size + 1 = p; omega)).trans O1.out
      have c1 := fun o => cell_of_row u1 _ o _ _ (0, 0) r1
      have f1 : ∀ o, u1.frozen? ⟨w.heap.size + 1, o, none⟩ = false := fun o => frozen_of_row _ _ o _ _ r1
      have cR := fun o => cell_of_row u1 _ o _ _ (0, 0) r0
      have fR : ∀ o, u1.frozen? ⟨w.heap.size, o, none⟩ = false := fun o => frozen_of_row _ _ o _ _ r0
      have cE := fun o => cell_of_row u1 _ o _ _ (0, 0) he2.row
      have HE2 := Lib.hid he2
      have HK2 := Lib.hid (HKv.out.same hk2)
      have RO := Lib.hid r1
      have RR := Lib.hid r0
      clear r0 r1 he2 hk2
      go_wp2_with fail
      generalize hv2 : World.setCell _ _ _ = v2
      have kv2 : Kp (fun k => w.heap.size ≤ k) u1 v2 := by rw [← hv2]; exact Kp.setCell (Kp.refl _ _) (Or.inl (by show w.heap.size ≤ w.heap.size + 1; omega)) _
      have heV2 := HE2.out.far hp hA kv2
      have HKv2 := Lib.hid (show Kp (fun k => k = p) w v2 by rw [← hv2]; exact Kp.setCell HK2.out (Or.inr (by show w.heap.size ≤ w.heap.size + 1; omega)) _)
      have O2 := Lib.hid (show v2.heap[w.heap.size + 1]? = some (.cells (recC 4 (0) (PK.zag x1) (0) 0 0 ⟨#[]⟩ (.slice none 0 0)) 25 (0, 0)) by rw [← hv2]; exact heap_setCell_same _ _ _ _ _ _ RO.out)
      have Q2 := Lib.hid ((show v2.heap[w.heap.size]? = _ by rw [← hv2]; exact heap_setCell_other _ _ _ _ (by show w.heap.size ≠ w.heap.size + 1; omega)).trans RR.out)
      clear hv2 kv2 c1 f1 cR fR cE HE2 HK2 RO RR HKv O1 Q1 heV hfd
      refine (HY2.out _ heV2).mono ?_
      rintro e u2 ⟨hk2, rfl, he2⟩
      have r0 := (hk2.block _ (lt_of_heap Q2.out) (by show ¬ w.heap.size = p; omega)).trans Q2.out
      have r1 := (hk2.block _ (lt_of_heap O2.out) (by show ¬ w.heap.size + 1 = p; omega)).trans O2.out
      have c1 := fun o => cell_of_row u2 _ o _ _ (0, 0) r1
      have f1 : ∀ o, u2.frozen? ⟨w.heap.size + 1, o, none⟩ = false := fun o => frozen_of_row _ _ o _ _ r1
      have cR := fun o => cell_of_row u2 _ o _ _ (0, 0) r0
      have fR : ∀ o, u2.frozen? ⟨w.heap.size, o, none⟩ = false := fun o => frozen_of_row _ _ o _ _ r0
      have cE := fun o => cell_of_row u2 _ o _ _ (0, 0) he2.row
      have HE2 := Lib.hid he2
      have HK2 := Lib.hid (HKv2.out.same hk2)
      have RO := Lib.hid r1
      have RR := Lib.hid r0
      clear r0 r1 he2 hk2
      go_wp2_with fail
      generalize hv2 : World.setCell _ _ _ = v3
      have kv2 : Kp (fun k => w.heap.size ≤ k) u2 v3 := by rw [← hv2]; exact Kp.setCell (Kp.refl _ _) (Or.inl (by show w.heap.size ≤ w.heap.size + 1; omega)) _
      have heV3 := HE2.out.far hp hA kv2
      have HKv3 := Lib.hid (show Kp (fun k => k = p) w v3 by rw [← hv2]; exact Kp.setCell HK2.out (Or.inr (by show w.heap.size ≤ w.heap.size + 1; omega)) _)
      have O3 := Lib.hid (show v3.heap[w.heap.size + 1]? = some (.cells (recC 4 (0) (PK.zag x1) (0) 0 0 ⟨#[]⟩ (.slice none 0 0)) 25 (0, 0)) by rw [← hv2]; exact heap_setCell_same _ _ _ _ _ _ RO.out)
      have Q3 := Lib.hid ((show v3.heap[w.heap.size]? = _ by rw [← hv2]; exact heap_setCell_other _ _ _ _ (by show w.heap.size ≠ w.heap.size + 1; omega)).trans RR.out)
      clear hv2 kv2 c1 f1 cR fR cE HE2 HK2 RO RR HKv2 O2 Q2 heV2
      refine (epart_no p A c bs _ code 105 0 _ hc heV3).mono ?_
      rintro e u3 ⟨rfl, hb2⟩
      have he2 := heV3.below hb2
      have hk2 : Kp (fun k => k = p) v3 u3 := Kp.of_below hb2 _
      clear hb2
      have r0 := (hk2.block _ (lt_of_heap Q3.out) (by show ¬ w.heap.size = p; omega)).trans Q3.out
      have r1 := (hk2.block _ (lt_of_heap O3.out) (by show ¬ w.heap.size + 1 = p; omega)).trans O3.out
      have c1 := fun o => cell_of_row u3 _ o _ _ (0, 0) r1
      have f1 : ∀ o, u3.frozen? ⟨w.heap.size + 1, o, none⟩ = false := fun o => frozen_of_row _ _ o _ _ r1
      have cR := fun o => cell_of_row u3 _ o _ _ (0, 0) r0
      have fR : ∀ o, u3.frozen? ⟨w.heap.size, o, none⟩ = false := fun o => frozen_of_row _ _ o _ _ r0
      have cE := fun o => cell_of_row u3 _ o _ _ (0, 0) he2.row
      have HE2 := Lib.hid he2
      have HK2 := Lib.hid (HKv3.out.same hk2)
      have RO := Lib.hid r1
      have RR := Lib.hid r0
      clear r0 r1 he2 hk2
      go_wp2_with fail
      refine bodyPost_ret (v := .agg (recC 0 0 0 0 0 0 ⟨#[]⟩ (.slice none 0 0))) (by simp [results, Tryz.results89, go_sem, cR]) rfl ?_
      refine NPost.bad Hf.out ?_ (by omega) (HE2.out.far hp hA ?_)
      · iterate 9 refine Kp.setCell ?_ (Or.inr (by simp)) _
        exact HK2.out
      · iterate 9 refine Kp.setCell ?_ (Or.inl (by simp)) _
        exact Kp.refl _ _
    | ok x2 n2 =>
      rw [hN2] at hY
      have HY2 := Lib.hid hY
      clear hY
      have hY := fun w' (he' : Ey w' p A c bs (at_ + n0 + n1 + n2) 0) => epart_any p A c bs (at_ + n0 + n1 + n2) 105 0 w' (by omega) rfl he'
      rw [show partR 105 0 (bs.drop (at_ + n0 + n1 + n2)) = Res.map (fun n => { PK.zeroPt 105 with i := PK.zag n }) (numR (bs.drop (at_ + n0 + n1 + n2))) from rfl] at hY
      cases hN3 : numR (bs.drop (at_ + n0 + n1 + n2)) with
      | bad code n =>
        rw [hN3] at hY
        have HY3 := Lib.hid hY
        have Hf := Lib.hid (recR_bad2 HK.out (show fieldR 4 ((bs.drop at_).drop n0) = .bad code (n1 + (n2 + (n))) by rw [List.drop_drop, fieldR4, andR_ok hN1, List.drop_drop, andR_ok hN2, List.drop_drop, hN3]; rfl))
        have hc := numR_bad_pos hN3
        have h1 : ((code : Int) == 0) = false := by simp; omega
        have h2 : ((code : Int) != 0) = true := by simp; omega
        clear hY hN1 hN2 hN3
        go_enter Tryz.func89, Tryz.ntmps89
        go_wp2_with fail
        refine (HX.out _ (HE.out.below (below2 w _ _))).mono ?_
        rintro e w1 ⟨hk1, rfl, he1⟩
        have r0 := (hk1.block w.heap.size (by simp only [World.size_alloc]; omega) (by show ¬ w.heap.size = p; omega)).trans (heap_alloc2_old w _ _)
        have r1 := (hk1.block (w.heap.size + 1) (by simp only [World.size_alloc]; omega) (by show ¬ w.heap.size + 1 = p; omega)).trans (heap_alloc2_new w _ _)
        have c1 := fun o => cell_of_row w1 _ o _ _ (0, 0) r1
        have f1 : ∀ o, w1.frozen? ⟨w.heap.size + 1, o, none⟩ = false := fun o => frozen_of_row _ _ o _ _ r1
        have HK1 := Lib.hid (show Kp (fun k => k = p) w w1 from (((Kp.refl _ w).alloc _).alloc _).same hk1)
        have R0 := Lib.hid r0
        have R1 := Lib.hid r1
        have HE1 := Lib.hid he1
        clear r0 r1 hk1 he1
        go_wp2_with fail
        generalize hv1 : World.setCell _ _ _ = v1
        have kv : Kp (fun k => w.heap.size ≤ k) w1 v1 := by rw [← hv1]; exact Kp.setCell (Kp.refl _ _) (Or.inl (by show w.heap.size ≤ w.heap.size + 1; omega)) _
        have heV := HE1.out.far hp hA kv
        have HKv := Lib.hid (show Kp (fun k => k = p) w v1 by rw [← hv1]; exact Kp.setCell HK1.out (Or.inr (by show w.heap.size ≤ w.heap.size + 1; omega)) _)
        have O1 := Lib.hid (show v1.heap[w.heap.size + 1]? = some (.cells (recC 4 0 0 0 0 0 ⟨#[]⟩ (.slice none 0 0)) 25 (0, 0)) by rw [← hv1]; exact heap_setCell_same _ _ _ _ _ _ R1.out)
        have Q1 := Lib.hid ((show v1.heap[w.heap.size]? = _ by rw [← hv1]; exact heap_setCell_other _ _ _ _ (by show w.heap.size ≠ w.heap.size + 1; omega)).trans R0.out)
        clear hv1 kv c1 f1 R0 R1 HK1 HE1
        have hfdz : ∀ w : World, (Instr.field 115 (.agg #[.int .u8 0, .int .u64 0, .int .i64 0, .int .u64 0, .string ⟨#[]⟩, .bool false]) 2).run Tryz.prog w = .ok (.int .i64 (0)) w := fun _ => by kernel_rfl
        refine (HY1.out _ heV).mono ?_
        rintro e u1 ⟨hk2, ⟨qk, qu, qi, qq, qt, qb, hpl, rfl⟩, he2⟩
        have hqi : qi = PK.zag x1 := congrArg PK.Rp.i hpl
        subst hqi
        clear hpl
        have hfd : ∀ w : World, (Instr.field 115 (.agg #[.int .u8 (qk : Int), .int .u64 (qu : Int), .int .i64 (PK.zag x1), .int .u64 (qq : Int), .string qt, .bool qb]) 2).run Tryz.prog w = .ok (.int .i64 (PK.zag x1)) w := fun _ => by kernel_rfl
        have r0 := (hk2.block _ (lt_of_heap Q1.out) (by show ¬ w.heap.size = p; omega)).trans Q1.out
        have r1 := (hk2.block _ (lt_of_heap O1.out) (by show ¬ w.heap.size + 1 = p; omega)).trans O1.out
        have c1 := fun o => cell_of_row u1 _ o _ _ (0, 0) r1
        have f1 : ∀ o, u1.frozen? ⟨w.heap.size + 1, o, none⟩ = false := fun o => frozen_of_row _ _ o _ _ r1
        have cR := fun o => cell_of_row u1 _ o _ _ (0, 0) r0
        have fR : ∀ o, u1.frozen? ⟨w.heap.size, o, none⟩ = false := fun o => frozen_of_row _ _ o _ _ r0
        have cE := fun o => cell_of_row u1 _ o _ _ (0, 0) he2.row
        have HE2 := Lib.hid he2
        have HK2 := Lib.hid (HKv.out.same hk2)
        have RO := Lib.hid r1
        have RR := Lib.hid r0
        clear r0 r1 he2 hk2
        go_wp2_with fail
        generalize hv2 : World.setCell _ _ _ = v2
        have kv2 : Kp (fun k => w.heap.size ≤ k) u1 v2 := by rw [← hv2]; exact Kp.setCell (Kp.refl _ _) (Or.inl (by show w.heap.size ≤ w.heap.size + 1; omega)) _
        have heV2 := HE2.out.far hp hA kv2
        have HKv2 := Lib.hid (show Kp (fun k => k = p) w v2 by rw [← hv2]; exact Kp.setCell HK2.out (Or.inr (by show w.heap.size ≤ w.heap.size + 1; omega)) _)
        have O2 := Lib.hid (show v2.heap[w.heap.size + 1]? = some (.cells (recC 4 (0) (PK.zag x1) (0) 0 0 ⟨#[]⟩ (.slice none 0 0)) 25 (0, 0)) by rw [← hv2]; exact heap_setCell_same _ _ _ _ _ _ RO.out)
        have Q2 := Lib.hid ((show v2.heap[w.heap.size]? = _ by rw [← hv2]; exact heap_setCell_other _ _ _ _ (by show w.heap.size ≠ w.heap.size + 1; omega)).trans RR.out)
        clear hv2 kv2 c1 f1 cR fR cE HE2 HK2 RO RR HKv O1 Q1 heV hfd
        refine (HY2.out _ heV2).mono ?_
        rintro e u2 ⟨hk2, ⟨qk, qu, qi, qq, qt, qb, hpl, rfl⟩, he2⟩
        have hqi : qi = PK.zag x2 := congrArg PK.Rp.i hpl
        subst hqi
        clear hpl
        have hfd : ∀ w : World, (Instr.field 115 (.agg #[.int .u8 (qk : Int), .int .u64 (qu : Int), .int .i64 (PK.zag x2), .int .u64 (qq : Int), .string qt, .bool qb]) 2).run Tryz.prog w = .ok (.int .i64 (PK.zag x2)) w := fun _ => by kernel_rfl
        have r0 := (hk2.block _ (lt_of_heap Q2.out) (by show ¬ w.heap.size = p; omega)).trans Q2.out
        have r1 := (hk2.block _ (lt_of_heap O2.out) (by show ¬ w.heap.size + 1 = p; omega)).trans O2.out
        have c1 := fun o => cell_of_row u2 _ o _ _ (0, 0) r1
        have f1 : ∀ o, u2.frozen? ⟨w.heap.size + 1, o, none⟩ = false := fun o => frozen_of_row _ _ o _ _ r1
        have cR := fun o => cell_of_row u2 _ o _ _ (0, 0) r0
        have fR : ∀ o, u2.frozen? ⟨w.heap.size, o, none⟩ = false := fun o => frozen_of_row _ _ o _ _ r0
        have cE := fun o => cell_of_row u2 _ o _ _ (0, 0) he2.row
        have HE2 := Lib.hid he2
        have HK2 := Lib.hid (HKv2.out.same hk2)
        have RO := Lib.hid r1
        have RR := Lib.hid r0
        clear r0 r1 he2 hk2
        go_wp2_with fail
        generalize hv2 : World.setCell _ _ _ = v3
        have kv2 : Kp (fun k => w.heap.size ≤ k) u2 v3 := by rw [← hv2]; exact Kp.setCell (Kp.refl _ _) (Or.inl (by show w.heap.size ≤ w.heap.size + 1; omega)) _
        have heV3 := HE2.out.far hp hA kv2
        have HKv3 := Lib.hid (show Kp (fun k => k = p) w v3 by rw [← hv2]; exact Kp.setCell HK2.out (Or.inr (by show w.heap.size ≤ w.heap.size + 1; omega)) _)
        have O3 := Lib.hid (show v3.heap[w.heap.size + 1]? = some (.cells (recC 4 (0) (PK.zag x1) (PK.zag x2) 0 0 ⟨#[]⟩ (.slice none 0 0)) 25 (0, 0)) by rw [← hv2]; exact heap_setCell_same _ _ _ _ _ _ RO.out)
        have Q3 := Lib.hid ((show v3.heap[w.heap.size]? = _ by rw [← hv2]; exact heap_setCell_other _ _ _ _ (by show w.heap.size ≠ w.heap.size + 1; omega)).trans RR.out)
        clear hv2 kv2 c1 f1 cR fR cE HE2 HK2 RO RR HKv2 O2 Q2 heV2 hfd
        refine (HY3.out _ heV3).mono ?_
        rintro e u3 ⟨hk2, rfl, he2⟩
        have r0 := (hk2.block _ (lt_of_heap Q3.out) (by show ¬ w.heap.size = p; omega)).trans Q3.out
        have r1 := (hk2.block _ (lt_of_heap O3.out) (by show ¬ w.heap.size + 1 = p; omega)).trans O3.out
        have c1 := fun o => cell_of_row u3 _ o _ _ (0, 0) r1
        have f1 : ∀ o, u3.frozen? ⟨w.heap.size + 1, o, none⟩ = false := fun o => frozen_of_row _ _ o _ _ r1
        have cR := fun o => cell_of_row u3 _ o _ _ (0, 0) r0
        have fR : ∀ o, u3.frozen? ⟨w.heap.size, o, none⟩ = false := fun o => frozen_of_row _ _ o _ _ r0
        have cE := fun o => cell_of_row u3 _ o _ _ (0, 0) he2.row
        have HE2 := Lib.hid he2
        have HK2 := Lib.hid (HKv3.out.same hk2)
        have RO := Lib.hid r1
        have RR := Lib.hid r0
        clear r0 r1 he2 hk2
        go_wp2_with fail
        refine bodyPost_ret (v := .agg (recC 0 0 0 0 0 0 ⟨#[]⟩ (.slice none 0 0))) (by simp [results, Tryz.results89, go_sem, cR]) rfl ?_
        refine NPost.bad Hf.out ?_ (by omega) (HE2.out.far hp hA ?_)
        · iterate 9 refine Kp.setCell ?_ (Or.inr (by simp)) _
          exact HK2.out
        · iterate 9 refine Kp.setCell ?_ (Or.inl (by simp)) _
          exact Kp.refl _ _
      | ok x3 n3 =>
        rw [hN3] at hY
        have HY3 := Lib.hid hY
        clear hY
        have Hf := Lib.hid (show fieldR 4 ((bs.drop at_).drop n0) = .ok ⟨4, PK.zag x3, PK.zag x1, PK.zag x2, 0, 0, ⟨#[]⟩, []⟩ (n1 + (n2 + n3)) by rw [List.drop_drop, fieldR4, andR_ok hN1, List.drop_drop, andR_ok hN2, List.drop_drop, hN3]; rfl)
        clear hN1 hN2 hN3
        go_enter Tryz.func89, Tryz.ntmps89
        go_wp2_with fail
        refine (HX.out _ (HE.out.below (below2 w _ _))).mono ?_
        rintro e w1 ⟨hk1, rfl, he1⟩
        have r0 := (hk1.block w.heap.size (by simp only [World.size_alloc]; omega) (by show ¬ w.heap.size = p; omega)).trans (heap_alloc2_old w _ _)
        have r1 := (hk1.block (w.heap.size + 1) (by simp only [World.size_alloc]; omega) (by show ¬ w.heap.size + 1 = p; omega)).trans (heap_alloc2_new w _ _)
        have c1 := fun o => cell_of_row w1 _ o _ _ (0, 0) r1
        have f1 : ∀ o, w1.frozen? ⟨w.heap.size + 1, o, none⟩ = false := fun o => frozen_of_row _ _ o _ _ r1
        have HK1 := Lib.hid (show Kp (fun k => k = p) w w1 from (((Kp.refl _ w).alloc _).alloc _).same hk1)
        have R0 := Lib.hid r0
        have R1 := Lib.hid r1
        have HE1 := Lib.hid he1
        clear r0 r1 hk1 he1
        go_wp2_with fail
        generalize hv1 : World.setCell _ _ _ = v1
        have kv : Kp (fun k => w.heap.size ≤ k) w1 v1 := by rw [← hv1]; exact Kp.setCell (Kp.refl _ _) (Or.inl (by show w.heap.size ≤ w.heap.size + 1; omega)) _
        have heV := HE1.out.far hp hA kv
        have HKv := Lib.hid (show Kp (fun k => k = p) w v1 by rw [← hv1]; exact Kp.setCell HK1.out (Or.inr (by show w.heap.size ≤ w.heap.size + 1; omega)) _)
        have O1 := Lib.hid (show v1.heap[w.heap.size + 1]? = some (.cells (recC 4 0 0 0 0 0 ⟨#[]⟩ (.slice none 0 0)) 25 (0, 0)) by rw [← hv1]; exact heap_setCell_same _ _ _ _ _ _ R1.out)
        have Q1 := Lib.hid ((show v1.heap[w.heap.size]? = _ by rw [← hv1]; exact heap_setCell_other _ _ _ _ (by show w.heap.size ≠ w.heap.size + 1; omega)).trans R0.out)
        clear hv1 kv c1 f1 R0 R1 HK1 HE1
        refine (HY1.out _ heV).mono ?_
        rintro e u1 ⟨hk2, ⟨qk, qu, qi, qq, qt, qb, hpl, rfl⟩, he2⟩
        have hqi : qi = PK.zag x1 := congrArg PK.Rp.i hpl
        subst hqi
        clear hpl
        have hfd : ∀ w : World, (Instr.field 115 (.agg #[.int .u8 (qk : Int), .int .u64 (qu : Int), .int .i64 (PK.zag x1), .int .u64 (qq : Int), .string qt, .bool qb]) 2).run Tryz.prog w = .ok (.int .i64 (PK.zag x1)) w := fun _ => by kernel_rfl
        have r0 := (hk2.block _ (lt_of_heap Q1.out) (by show ¬ w.heap.size = p; omega)).trans Q1.out
        have r1 := (hk2.block _ (lt_of_heap O1.out) (by show ¬ w.heap.size + 1 = p; omega)).trans O1.out
        have c1 := fun o => cell_of_row u1 _ o _ _ (0, 0) r1
        have f1 : ∀ o, u1.frozen? ⟨w.heap.size + 1, o, none⟩ = false := fun o => frozen_of_row _ _ o _ _ r1
        have cR := fun o => cell_of_row u1 _ o _ _ (0, 0) r0
        have fR : ∀ o, u1.frozen? ⟨w.heap.size, o, none⟩ = false := fun o => frozen_of_row _ _ o _ _ r0
        have cE := fun o => cell_of_row u1 _ o _ _ (0, 0) he2.row
        have HE2 := Lib.hid he2
        have HK2 := Lib.hid (HKv.out.same hk2)
        have RO := Lib.hid r1
        have RR := Lib.hid r0
        clear r0 r1 he2 hk2
        go_wp2_with fail
        generalize hv2 : World.setCell _ _ _ = v2
        have kv2 : Kp (fun k => w.heap.size ≤ k) u1 v2 := by rw [← hv2]; exact Kp.setCell (Kp.refl _ _) (Or.inl (by show w.heap.size ≤ w.heap.size + 1; omega)) _
        have heV2 := HE2.out.far hp hA kv2
        have HKv2 := Lib.hid (show Kp (fun k => k = p) w v2 by rw [← hv2]; exact Kp.setCell HK2.out (Or.inr (by show w.heap.size ≤ w.heap.size + 1; omega)) _)
        have O2 := Lib.hid (show v2.heap[w.heap.size + 1]? = some (.cells (recC 4 (0) (PK.zag x1) (0) 0 0 ⟨#[]⟩ (.slice none 0 0)) 25 (0, 0)) by rw [← hv2]; exact heap_setCell_same _ _ _ _ _ _ RO.out)
        have Q2 := Lib.hid ((show v2.heap[w.heap.size]? = _ by rw [← hv2]; exact heap_setCell_other _ _ _ _ (by show w.heap.size ≠ w.heap.size + 1; omega)).trans RR.out)
        clear hv2 kv2 c1 f1 cR fR cE HE2 HK2 RO RR HKv O1 Q1 heV hfd
        refine (HY2.out _ heV2).mono ?_
        rintro e u2 ⟨hk2, ⟨qk, qu, qi, qq, qt, qb, hpl, rfl⟩, he2⟩
        have hqi : qi = PK.zag x2 := congrArg PK.Rp.i hpl
        subst hqi
        clear hpl
        have hfd : ∀ w : World, (Instr.field 115 (.agg #[.int .u8 (qk : Int), .int .u64 (qu : Int), .int .i64 (PK.zag x2), .int .u64 (qq : Int), .string qt, .bool qb]) 2).run Tryz.prog w = .ok (.int .i64 (PK.zag x2)) w := fun _ => by kernel_rfl
        have r0 := (hk2.block _ (lt_of_heap Q2.out) (by show ¬ w.heap.size = p; omega)).trans Q2.out
        have r1 := (hk2.block _ (lt_of_heap O2.out) (by show ¬ w.heap.size + 1 = p; omega)).trans O2.out
        have c1 := fun o => cell_of_row u2 _ o _ _ (0, 0) r1
        have f1 : ∀ o, u2.frozen? ⟨w.heap.size + 1, o, none⟩ = false := fun o => frozen_of_row _ _ o _ _ r1
        have cR := fun o => cell_of_row u2 _ o _ _ (0, 0) r0
        have fR : ∀ o, u2.frozen? ⟨w.heap.size, o, none⟩ = false := fun o => frozen_of_row _ _ o _ _ r0
        have cE := fun o => cell_of_row u2 _ o _ _ (0, 0) he2.row
        have HE2 := Lib.hid he2
        have HK2 := Lib.hid (HKv2.out.same hk2)
        have RO := Lib.hid r1
        have RR := Lib.hid r0
        clear r0 r1 he2 hk2
        go_wp2_with fail
        generalize hv2 : World.setCell _ _ _ = v3
        have kv2 : Kp (fun k => w.heap.size ≤ k) u2 v3 := by rw [← hv2]; exact Kp.setCell (Kp.refl _ _) (Or.inl (by show w.heap.size ≤ w.heap.size + 1; omega)) _
        have heV3 := HE2.out.far hp hA kv2
        have HKv3 := Lib.hid (show Kp (fun k => k = p) w v3 by rw [← hv2]; exact Kp.setCell HK2.out (Or.inr (by show w.heap.size ≤ w.heap.size + 1; omega)) _)
        have O3 := Lib.hid (show v3.heap[w.heap.size + 1]? = some (.cells (recC 4 (0) (PK.zag x1) (PK.zag x2) 0 0 ⟨#[]⟩ (.slice none 0 0)) 25 (0, 0)) by rw [← hv2]; exact heap_setCell_same _ _ _ _ _ _ RO.out)
        have Q3 := Lib.hid ((show v3.heap[w.heap.size]? = _ by rw [← hv2]; exact heap_setCell_other _ _ _ _ (by show w.heap.size ≠ w.heap.size + 1; omega)).trans RR.out)
        clear hv2 kv2 c1 f1 cR fR cE HE2 HK2 RO RR HKv2 O2 Q2 heV2 hfd
        refine (HY3.out _ heV3).mono ?_
        rintro e u3 ⟨hk2, ⟨qk, qu, qi, qq, qt, qb, hpl, rfl⟩, he2⟩
        have hqi : qi = PK.zag x3 := congrArg PK.Rp.i hpl
        subst hqi
        clear hpl
        have hfd : ∀ w : World, (Instr.field 115 (.agg #[.int .u8 (qk : Int), .int .u64 (qu : Int), .int .i64 (PK.zag x3), .int .u64 (qq : Int), .string qt, .bool qb]) 2).run Tryz.prog w = .ok (.int .i64 (PK.zag x3)) w := fun _ => by kernel_rfl
        have r0 := (hk2.block _ (lt_of_heap Q3.out) (by show ¬ w.heap.size = p; omega)).trans Q3.out
        have r1 := (hk2.block _ (lt_of_heap O3.out) (by show ¬ w.heap.size + 1 = p; omega)).trans O3.out
        have c1 := fun o => cell_of_row u3 _ o _ _ (0, 0) r1
        have f1 : ∀ o, u3.frozen? ⟨w.heap.size + 1, o, none⟩ = false := fun o => frozen_of_row _ _ o _ _ r1
        have cR := fun o => cell_of_row u3 _ o _ _ (0, 0) r0
        have fR : ∀ o, u3.frozen? ⟨w.heap.size, o, none⟩ = false := fun o => frozen_of_row _ _ o _ _ r0
        have cE := fun o => cell_of_row u3 _ o _ _ (0, 0) he2.row
        have HE2 := Lib.hid he2
        have HK2 := Lib.hid (HKv3.out.same hk2)
        have RO := Lib.hid r1
        have RR := Lib.hid r0
        clear r0 r1 he2 hk2
        go_wp2_with fail
        generalize hv2 : World.setCell _ _ _ = v4
        have kv2 : Kp (fun k => w.heap.size ≤ k) u3 v4 := by rw [← hv2]; exact Kp.setCell (Kp.refl _ _) (Or.inl (by show w.heap.size ≤ w.heap.size + 1; omega)) _
        have heV4 := HE2.out.far hp hA kv2
        have HKv4 := Lib.hid (show Kp (fun k => k = p) w v4 by rw [← hv2]; exact Kp.setCell HK2.out (Or.inr (by show w.heap.size ≤ w.heap.size + 1; omega)) _)
        have O4 := Lib.hid (show v4.heap[w.heap.size + 1]? = some (.cells (recC 4 (PK.zag x3) (PK.zag x1) (PK.zag x2) 0 0 ⟨#[]⟩ (.slice none 0 0)) 25 (0, 0)) by rw [← hv2]; exact heap_setCell_same _ _ _ _ _ _ RO.out)
        have Q4 := Lib.hid ((show v4.heap[w.heap.size]? = _ by rw [← hv2]; exact heap_setCell_other _ _ _ _ (by show w.heap.size ≠ w.heap.size + 1; omega)).trans RR.out)
        clear hv2 kv2 c1 f1 cR fR cE HE2 HK2 RO RR HKv3 O3 Q3 heV3 hfd
        have hqo := (fieldR_one (by omega) Hf.out).2.2.1
        refine (rcheck_any ⟨4, PK.zag x3, PK.zag x1, PK.zag x2, 0, 0, ⟨#[]⟩, []⟩ none 0 v4 hqo (Its.nil _ _) (by show Lim ([] : List RC.It).length; unfold Lim; decide)).mono ?_
        rintro e w3 ⟨rfl, hb3⟩
        have O3 := Lib.hid ((hb3.block _ (lt_of_heap O4.out)).trans O4.out)
        have Q3 := Lib.hid ((hb3.block _ (lt_of_heap Q4.out)).trans Q4.out)
        have he3 := heV4.below hb3
        have hk3 : Kp (fun k => k = p) w w3 := HKv4.out.same (Kp.of_below hb3 _)
        have HK3 := Lib.hid hk3
        clear hb3 hk3 O4 Q4 heV4 HKv4
        go_wp2_with fail
        refine (efail_yes p A c bs _ _ w3 he3).mono ?_
        rintro e w4 ⟨rfl, he4, hk4⟩
        have O4 := Lib.hid ((hk4.block _ (lt_of_heap O3.out) (by show ¬ w.heap.size + 1 = p; omega)).trans O3.out)
        have Q4 := Lib.hid ((hk4.block _ (lt_of_heap Q3.out) (by show ¬ w.heap.size = p; omega)).trans Q3.out)
        have HK4 := Lib.hid (HK3.out.same hk4)
        clear hk4 he3 O3 Q3 HK3
        have c1 := fun o => cell_of_row w4 _ o _ _ (0, 0) O4.out
        have cR := fun o => cell_of_row w4 _ o _ _ (0, 0) Q4.out
        have fR : ∀ o, w4.frozen? ⟨w.heap.size, o, none⟩ = false := fun o => frozen_of_row _ _ o _ _ Q4.out
        rcases Nat.eq_zero_or_pos (RC.chk ⟨4, PK.zag x3, PK.zag x1, PK.zag x2, 0, 0, ⟨#[]⟩, []⟩) with hc | hc
        · have HC := Lib.hid (recR_ok HK.out Hf.out hc)
          rw [hc] at he4
          have cE := fun o => cell_of_row w4 _ o _ _ (0, 0) he4.row
          have HE4 := Lib.hid he4
          clear hc he4
          go_wp2_with fail
          refine bodyPost_ret (v := recV ⟨4, PK.zag x3, PK.zag x1, PK.zag x2, 0, 0, ⟨#[]⟩, []⟩ none 0) (by simp [results, Tryz.results89, go_sem, cR]) rfl ?_
          rw [HC.out]
          refine ⟨?_, ⟨none, 0, rfl, World.ownsRow_nil _ _ _ _, fun k e => by cases e⟩, ?_⟩
          · iterate 8 refine Kp.setCell ?_ (Or.inr (by simp)) _
            exact HK4.out
          · rw [show at_ + (n0 + (n1 + (n2 + n3))) = at_ + n0 + n1 + n2 + n3 by omega]
            refine HE4.out.far hp hA ?_
            iterate 8 refine Kp.setCell ?_ (Or.inl (by simp)) _
            exact Kp.refl _ _
        · have HC := Lib.hid (recR_no HK.out Hf.out (by omega))
          generalize RC.chk _ = code at *
          have h1 : ((code : Int) == 0) = false := by simp; omega
          have h2 : ((code : Int) != 0) = true := by simp; omega
          have cE := fun o => cell_of_row w4 _ o _ _ (0, 0) he4.row
          have HE4 := Lib.hid he4
          clear hc he4
          go_wp2_with fail
          refine bodyPost_ret (v := .agg (recC 0 0 0 0 0 0 ⟨#[]⟩ (.slice none 0 0))) (by simp [results, Tryz.results89, go_sem, cR]) rfl ?_
          refine NPost.bad HC.out ?_ (by omega) (HE4.out.far hp hA ?_)
          · iterate 8 refine Kp.setCell ?_ (Or.inr (by simp)) _
            exact HK4.out
          · iterate 8 refine Kp.setCell ?_ (Or.inl (by simp)) _
            exact Kp.refl _ _

end Go.Proofs.YtaaeefndhmfceaaGreatDoor
/- Contracts of the document's own answers for layer 3: the next record with a list. -/
namespace Go.Proofs.YtaaeefndhmfceaaGreatDoor
open Go.RowKit MM

abbrev zeroC : Array Value := recC 0 0 0 0 0 0 ⟨#[]⟩ (.slice none 0 0)
/-- How things stand while a list is read. -/
structure NSt (w : World) (p : Nat) (A : Option Addr) (c : Nat) (bs : List UInt8) (at2 E : Nat) (cs : Array Value) (u : World) : Prop where
  ey : Ey u p A c bs at2 E
  res : u.heap[w.heap.size]? = some (.cells zeroC 25 (0, 0))
  row1 : u.heap[w.heap.size + 1]? = some (.cells cs 25 (0, 0))
  kp : Kp (fun k => k = p) w u
section
variable {w : World} {p : Nat} {A A2 : Option Addr} {c : Nat} {bs : List UInt8} {at2 at3 E E' : Nat} {cs : Array Value} {u u' w3 : World} {o : Obj}
theorem NSt.call (h : NSt w p A c bs at2 E cs u) (hp : p < w.heap.size) (hk : Kp (fun k => k = p) u u') (he : Ey u' p A c bs at3 E') : NSt w p A c bs at3 E' cs u' :=
  ⟨he, (hk.block _ (lt_of_heap h.res) (by show ¬ w.heap.size = p; omega)).trans h.res, (hk.block _ (lt_of_heap h.row1) (by show ¬ w.heap.size + 1 = p; omega)).trans h.row1, h.kp.same hk⟩
theorem NSt.below (h : NSt w p A c bs at2 E cs u) (hb : Below u.heap.size u u') : NSt w p A c bs at2 E cs u' :=
  ⟨h.ey.below hb, (hb.block _ (lt_of_heap h.res)).trans h.res, (hb.block _ (lt_of_heap h.row1)).trans h.row1, h.kp.same (Kp.of_below hb _)⟩
theorem NSt.set (h : NSt w p A c bs at2 E cs u) (hp : p < w.heap.size) (hA : bs ≠ [] → ∀ ad, A = some ad → ad.block < w.heap.size) (j : Nat) (v : Value) : NSt w p A c bs at2 E (cs.setIfInBounds j v) (u.setCell ⟨w.heap.size + 1, j, none⟩ v) :=
  ⟨h.ey.far hp hA (Kp.setCell (Kp.refl _ _) (Or.inl (by show w.heap.size ≤ w.heap.size + 1; omega)) _), (heap_setCell_other _ _ _ _ (by show w.heap.size ≠ w.heap.size + 1; omega)).trans h.res, heap_setCell_same _ _ _ _ _ _ h.row1,
    Kp.setCell h.kp (Or.inr (by show w.heap.size ≤ w.heap.size + 1; omega)) _⟩
theorem NSt.far (h : NSt w p A c bs at2 E cs u) (hp : p < w.heap.size) (hA : bs ≠ [] → ∀ ad, A = some ad → ad.block < w.heap.size) (hk : Kp (fun k => w.heap.size + 2 ≤ k) u u') : NSt w p A c bs at2 E cs u' :=
  ⟨h.ey.far hp hA (hk.mono (fun i _ hi => by omega)), (hk.block _ (lt_of_heap h.res) (by omega)).trans h.res, (hk.block _ (lt_of_heap h.row1) (by omega)).trans h.row1, h.kp.trans hk (fun i hi hs => by omega)⟩
theorem NSt.lt (h : NSt w p A c bs at2 E cs u) : w.heap.size + 2 ≤ u.heap.size := by have := lt_of_heap h.row1; omega
theorem NSt.app (h : NSt w p A c bs at2 E cs u) (hp : p < w.heap.size) (hA : bs ≠ [] → ∀ ad, A = some ad → ad.block < w.heap.size) (hn : ∀ k, ob A2 = some k → w.heap.size + 2 ≤ k) (hg : (u.alloc o).grownBy w3 (ob A2)) : NSt w p A c bs at2 E cs w3 :=
  h.far hp hA (((Kp.refl _ u).alloc o).grown hg (fun k e => .inl (hn k e)))
end

/-- All is well so far; something was wrong. -/
structure NGood (k N at2 : Nat) (cap : Int) (w : World) (p : Nat) (A : Option Addr) (c : Nat) (bs : List UInt8) (i d : Nat) (xs : List RC.It) (A2 : Option Addr) (c2 : Nat) (u : World) : Prop where
  st : NSt w p A c bs (at2 + d) 0 (recC k 0 0 0 0 cap ⟨#[]⟩ (.slice A2 xs.length c2)) u
  spec : itsR k N (bs.drop at2) = lift xs d (itsR k (N - i) (bs.drop (at2 + d)))
  len : xs.length = i
  own : u.ownsRow 0 88 2 (.slice A2 xs.length c2) xs.length (itCells xs)
  new : ∀ k, ob A2 = some k → w.heap.size + 2 ≤ k
structure NBad (k : Nat) (cap : Int) (w : World) (p : Nat) (A : Option Addr) (c : Nat) (bs : List UInt8) (at_ E q : Nat) (v : Value) (u : World) : Prop where
  st : NSt w p A c bs (at_ + q) E (recC k 0 0 0 0 cap ⟨#[]⟩ v) u
  pos : 0 < E
  spec : recR (bs.drop at_) = .bad E q
def NRel (k N at2 : Nat) (cap : Int) (w : World) (p : Nat) (A : Option Addr) (c : Nat) (bs : List UInt8) (at_ : Nat) (i : Nat) (u : World) : Prop :=
  (∃ d xs A2 c2, NGood k N at2 cap w p A c bs i d xs A2 c2 u) ∨ ∃ E q v, NBad k cap w p A c bs at_ E q v u
section
variable {k N at2 at_ : Nat} {cap : Int} {w : World} {p : Nat} {A A2 A3 : Option Addr} {c : Nat} {bs : List UInt8} {i d n c2 c3 code : Nat} {xs : List RC.It} {x : RC.It} {u u0 w3 : World} {o : Obj}
theorem NGood.next (hv : NGood k N at2 cap w p A c bs i d xs A2 c2 u0) (hp : p < w.heap.size) (hA : bs ≠ [] → ∀ ad, A = some ad → ad.block < w.heap.size) (hi : i < N) (hs : itR k (bs.drop (at2 + d)) = .ok x n)
    (h : NSt w p A c bs (at2 + d + n) 0 (recC k 0 0 0 0 cap ⟨#[]⟩ (.slice A2 xs.length c2)) u) (hg : (u.alloc o).grownBy w3 (ob A2)) (hat : ob A3 = ob A2 ∨ ob A3 = some (u.alloc o).heap.size)
    (ho : w3.ownsRow 0 88 2 (.slice A3 (xs.length + 1) c3) (xs.length + 1) (itCells xs ++ [.float .f64 x.score, .string x.name])) :
    NRel k N at2 cap w p A c bs at_ (i + 1) (w3.setCell ⟨w.heap.size + 1, 7, none⟩ (.slice A3 (xs.length + 1) c3)) := by
  have hlen : (xs ++ [x]).length = xs.length + 1 := by simp
  have hnew : ∀ k, ob A3 = some k → w.heap.size + 2 ≤ k := by
    intro k e
    rcases hat with y | y
    · exact hv.new k (y ▸ e)
    · rw [y] at e
      injection e with e
      have e' : (u.alloc o).heap.size = u.heap.size + 1 := by simp
      have := h.lt
      omega
  refine .inl ⟨d + n, xs ++ [x], A3, c3, ?_, ?_, by rw [hlen, hv.len], ?_, hnew⟩
  · have h2 := (h.app hp hA hv.new hg).set hp hA 7 (.slice A3 (xs.length + 1) c3)
    rw [hlen, ← Nat.add_assoc]
    exact h2
  · rw [hv.spec, show N - i = (N - (i + 1)) + 1 by omega, itsR_cons hs, lift_lift, List.drop_drop, Nat.add_assoc]
  · rw [hlen, itCells_snoc]
    exact Kp.own (Kp.setCell (S := fun k => k = w.heap.size + 1) (Kp.refl _ w3) (Or.inl rfl) _) ho (fun k e y => by rw [ownBlock_slice] at e; have := hnew k e; have y' : k = w.heap.size + 1 := y; omega)
theorem NGood.fail (hv : NGood k N at2 cap w p A c bs i d xs A2 c2 u0) (hp : p < w.heap.size) (hA : bs ≠ [] → ∀ ad, A = some ad → ad.block < w.heap.size) {q : Nat} (hs : recR (bs.drop at_) = .bad code q) (hc : 0 < code)
    (h : NSt w p A c bs (at_ + q) code (recC k 0 0 0 0 cap ⟨#[]⟩ (.slice A2 xs.length c2)) u) (hg : (u.alloc o).grownBy w3 (ob A2)) (v : Value) :
    NRel k N at2 cap w p A c bs at_ (i + 1) (w3.setCell ⟨w.heap.size + 1, 7, none⟩ v) :=
  .inr ⟨code, q, v, (h.app hp hA hv.new hg).set hp hA 7 v, hc, hs⟩
theorem NGood.own2 (hv : NGood k N at2 cap w p A c bs i d xs A2 c2 u0) (hp : p < w.heap.size) (hk : Kp (fun k => k = p) (u0.alloc o) u) : u.ownsRow 0 88 2 (.slice A2 xs.length c2) xs.length (itCells xs) :=
  hk.own (hv.own.alloc _) (fun k e x => by rw [ownBlock_slice] at e; have := hv.new k e; have x' : k = p := x; omega)
theorem own_set {g j : Nat} {v : Value} (ho : u.ownsRow 0 88 2 (.slice A2 xs.length c2) xs.length (itCells xs)) (hg : ob A2 ≠ some g) : (u.setCell ⟨g, j, none⟩ v).ownsRow 0 88 2 (.slice A2 xs.length c2) xs.length (itCells xs) :=
  Kp.own (Kp.setCell (S := fun k => k = g) (Kp.refl _ u) (Or.inl rfl) _) ho (fun k e y => by rw [ownBlock_slice] at e; have y' : k = g := y; subst y'; exact hg e)
theorem src_at {P : Program} {size : Nat} {tx e' t : TypeId} (hk : P.underlying tx = some (.slice e')) (w : World) (k : Nat) (cs : Array Value) (hl : cs.size = size) (h1 : ∀ u ∈ cs.toList, u.oneCell' = true) (hw : k = w.heap.size) :
    Src P size tx (.slice (some ⟨k, 0, none⟩) 1 1) 1 cs.toList (w.alloc (.cells cs t)) := by subst hw; exact src_new hk w cs hl h1
theorem ob_ne {g : Nat} (ho : u0.ownsRow 0 88 2 (.slice A2 xs.length c2) xs.length (itCells xs)) (hg : g = u0.heap.size) : ob A2 ≠ some g := by
  intro e
  cases A2 with
  | none => cases e
  | some ad =>
    have := own_inside ho ad rfl
    injection e with e
    have e' : ad.block = g := e
    omega
end

theorem uptoR_bad_pos {m : Int} {l : List UInt8} {e n : Nat} (h : uptoR m l = .bad e n) : 0 < e := by
  unfold uptoR at h
  cases hr : numR l with
  | bad c j => rw [hr] at h; injection h with h1 h2; subst h1; exact numR_bad_pos hr
  | ok x j =>
    rw [hr] at h
    simp only at h
    split at h
    · injection h with h1 h2; omega
    · cases h

set_option maxHeartbeats 4000000 in
set_option maxRecDepth 100000 in
theorem next_8 (n0 : Nat) (p : Nat) (A : Option Addr) (c : Nat) (bs : List UInt8) (at_ : Nat) (w : World) (he : Ey w p A c bs at_ 0) (hU : uptoR 9 (bs.drop at_) = .ok 8 n0) (hA : bs ≠ [] → ∀ ad, A = some ad → ad.block < w.heap.size) :
    Calls Tryz.prog 89 #[.pointer (some ⟨p, 0, none⟩)] w (NPost p A c bs at_ (recR (bs.drop at_)) w) := by
  obtain ⟨i0, hi0, hz0, hz1, hz2⟩ := info_parts item_info
  have hp := lt_of_heap he.row
  have hK : kindR (bs.drop at_) = .ok 8 n0 := by unfold kindR; rw [andR_ok hU]; rfl
  have HX := Lib.hid (fun w' (he' : Ey w' p A c bs at_ 0) => eupto_any p A c bs at_ 9 w' (by omega) he')
  rw [show ((9 : Nat) : Int) = 9 from rfl, hU] at HX
  have hC := fun w' (he' : Ey w' p A c bs (at_ + n0) 0) => eupto_any p A c bs (at_ + n0) 32 w' (by omega) he'
  rw [show ((32 : Nat) : Int) = 32 from rfl] at hC
  have HE := Lib.hid he
  have HK := Lib.hid hK
  clear he hU hK
  cases hU1 : uptoR 32 (bs.drop (at_ + n0)) with
  | bad code n =>
    rw [hU1] at hC
    have Hf := Lib.hid (recR_bad2 HK.out (show fieldR 8 ((bs.drop at_).drop n0) = .bad code n by rw [List.drop_drop, fieldR89 (by first | exact .inl rfl | exact .inr rfl)]; unfold listK; rw [andR_bad hU1]))
    have hc := uptoR_bad_pos hU1
    have HC := Lib.hid hC
    have h1 : ((code : Int) == 0) = false := by simp; omega
    have h2 : ((code : Int) != 0) = true := by simp; omega
    clear hC hU1
    go_enter Tryz.func89, Tryz.ntmps89
    go_wp2_with fail
    refine (HX.out _ (HE.out.below (below2 w _ _))).mono ?_
    rintro e w1 ⟨hk1, rfl, he1⟩
    have S1 : NSt w p A c bs (at_ + n0) 0 zeroC w1 := ⟨he1, (hk1.block w.heap.size (by simp only [World.size_alloc]; omega) (by show ¬ w.heap.size = p; omega)).trans (heap_alloc2_old w _ _), (hk1.block (w.heap.size + 1) (by simp only [World.size_alloc]; omega) (by show ¬ w.heap.size + 1 = p; omega)).trans (heap_alloc2_new w _ _), (((Kp.refl _ w).alloc _).alloc _).same hk1⟩
    clear hk1 he1
    have cE := fun o => cell_of_row w1 _ o _ _ (0, 0) S1.ey.row
    have c1 := fun o => cell_of_row w1 _ o _ _ (0, 0) S1.row1
    have f1 : ∀ o, w1.frozen? ⟨w.heap.size + 1, o, none⟩ = false := fun o => frozen_of_row _ _ o _ _ S1.row1
    have cR := fun o => cell_of_row w1 _ o _ _ (0, 0) S1.res
    have fR : ∀ o, w1.frozen? ⟨w.heap.size, o, none⟩ = false := fun o => frozen_of_row _ _ o _ _ S1.res
    have HS1 := Lib.hid S1
    clear S1
    go_wp2_with fail
    clear cE c1 f1 cR fR
    generalize hv1 : World.setCell _ _ _ = v1
    have S2 : NSt w p A c bs (at_ + n0) 0 (recC 8 0 0 0 0 0 ⟨#[]⟩ (.slice none 0 0)) v1 := by rw [← hv1]; exact HS1.out.set hp hA 0 _
    clear hv1 HS1
    refine (HC.out _ S2.ey).mono ?_
    rintro e u1 ⟨hk2, rfl, he2⟩
    have S3 := S2.call hp hk2 he2
    clear hk2 he2 S2
    have cE := fun o => cell_of_row u1 _ o _ _ (0, 0) S3.ey.row
    have c1 := fun o => cell_of_row u1 _ o _ _ (0, 0) S3.row1
    have f1 : ∀ o, u1.frozen? ⟨w.heap.size + 1, o, none⟩ = false := fun o => frozen_of_row _ _ o _ _ S3.row1
    have cR := fun o => cell_of_row u1 _ o _ _ (0, 0) S3.res
    have fR : ∀ o, u1.frozen? ⟨w.heap.size, o, none⟩ = false := fun o => frozen_of_row _ _ o _ _ S3.res
    have HS3 := Lib.hid S3
    clear S3
    go_wp2_with fail
    clear cE c1 f1 cR fR
    generalize hv1 : World.setCell _ _ _ = v2
    have S4 : NSt w p A c bs (at_ + n0 + n) code (recC 8 0 0 0 0 0 ⟨#[]⟩ (.slice none 0 0)) v2 := by rw [← hv1]; exact HS3.out.set hp hA 5 _
    clear hv1 HS3
    refine (eupto_no p A c bs _ code 32 _ hc S4.ey).mono ?_
    rintro e u2 ⟨rfl, hb2⟩
    have S5 := S4.below hb2
    have HS5 := Lib.hid (show NSt w p A c bs (at_ + (n0 + n)) code (recC 8 0 0 0 0 0 ⟨#[]⟩ (.slice none 0 0)) u2 by rw [← Nat.add_assoc]; exact S5)
    clear S5 S4 hb2
    go_wp2_with fail
    go_loopw [5] (fun t5 u => t5 = .int .i64 0 ∧ NSt w p A c bs (at_ + (n0 + n)) code (recC 8 0 0 0 0 0 ⟨#[]⟩ (.slice none 0 0)) u) (fun _ _ => 0)
    case atStart => exact ⟨rfl, HS5.out⟩
    case round =>
      obtain ⟨rfl, S⟩ := hrel
      have cE := fun o => cell_of_row wr _ o _ _ (0, 0) S.ey.row
      have c1 := fun o => cell_of_row wr _ o _ _ (0, 0) S.row1
      have f1 : ∀ o, wr.frozen? ⟨w.heap.size + 1, o, none⟩ = false := fun o => frozen_of_row _ _ o _ _ S.row1
      have cR := fun o => cell_of_row wr _ o _ _ (0, 0) S.res
      have fR : ∀ o, wr.frozen? ⟨w.heap.size, o, none⟩ = false := fun o => frozen_of_row _ _ o _ _ S.res
      have HS := Lib.hid S
      clear S
      go_wp2_with fail
      refine bodyPost_ret (v := .agg zeroC) (by simp [results, Tryz.results89, go_sem, cR]) rfl ?_
      refine NPost.bad Hf.out ?_ rfl (HS.out.ey.far hp hA ?_)
      · iterate 8 refine Kp.setCell ?_ (Or.inr (by simp)) _
        exact HS.out.kp
      · iterate 8 refine Kp.setCell ?_ (Or.inl (by simp)) _
        exact Kp.refl _ _
  | ok x1 n1 =>
    rw [hU1] at hC
    have HC := Lib.hid hC
    clear hC
    have hD := fun w' (he' : Ey w' p A c bs (at_ + n0 + n1) 0) => eupto_any p A c bs (at_ + n0 + n1) 32 w' (by omega) he'
    rw [show ((32 : Nat) : Int) = 32 from rfl] at hD
    have hx1 : x1 ≤ 32 := (uptoR_one hU1).2.2
    cases hU2 : uptoR 32 (bs.drop (at_ + n0 + n1)) with
    | bad code n =>
      rw [hU2] at hD
      have Hf := Lib.hid (recR_bad2 HK.out (show fieldR 8 ((bs.drop at_).drop n0) = .bad code (n1 + n) by rw [List.drop_drop, fieldR89 (by first | exact .inl rfl | exact .inr rfl)]; unfold listK; rw [andR_ok hU1, List.drop_drop, andR_bad hU2]; rfl))
      have hc := uptoR_bad_pos hU2
      have HD := Lib.hid hD
      have h1 : ((code : Int) == 0) = false := by simp; omega
      have h2 : ((code : Int) != 0) = true := by simp; omega
      clear hD hU1 hU2
      go_enter Tryz.func89, Tryz.ntmps89
      go_wp2_with fail
      refine (HX.out _ (HE.out.below (below2 w _ _))).mono ?_
      rintro e w1 ⟨hk1, rfl, he1⟩
      have S1 : NSt w p A c bs (at_ + n0) 0 zeroC w1 := ⟨he1, (hk1.block w.heap.size (by simp only [World.size_alloc]; omega) (by show ¬ w.heap.size = p; omega)).trans (heap_alloc2_old w _ _), (hk1.block (w.heap.size + 1) (by simp only [World.size_alloc]; omega) (by show ¬ w.heap.size + 1 = p; omega)).trans (heap_alloc2_new w _ _), (((Kp.refl _ w).alloc _).alloc _).same hk1⟩
      clear hk1 he1
      have cE := fun o => cell_of_row w1 _ o _ _ (0, 0) S1.ey.row
      have c1 := fun o => cell_of_row w1 _ o _ _ (0, 0) S1.row1
      have f1 : ∀ o, w1.frozen? ⟨w.heap.size + 1, o, none⟩ = false := fun o => frozen_of_row _ _ o _ _ S1.row1
      have cR := fun o => cell_of_row w1 _ o _ _ (0, 0) S1.res
      have fR : ∀ o, w1.frozen? ⟨w.heap.size, o, none⟩ = false := fun o => frozen_of_row _ _ o _ _ S1.res
      have HS1 := Lib.hid S1
      clear S1
      go_wp2_with fail
      clear cE c1 f1 cR fR
      generalize hv1 : World.setCell _ _ _ = v1
      have S2 : NSt w p A c bs (at_ + n0) 0 (recC 8 0 0 0 0 0 ⟨#[]⟩ (.slice none 0 0)) v1 := by rw [← hv1]; exact HS1.out.set hp hA 0 _
      clear hv1 HS1
      refine (HC.out _ S2.ey).mono ?_
      rintro e u1 ⟨hk2, rfl, he2⟩
      have S3 := S2.call hp hk2 he2
      clear hk2 he2 S2
      have cE := fun o => cell_of_row u1 _ o _ _ (0, 0) S3.ey.row
      have c1 := fun o => cell_of_row u1 _ o _ _ (0, 0) S3.row1
      have f1 : ∀ o, u1.frozen? ⟨w.heap.size + 1, o, none⟩ = false := fun o => frozen_of_row _ _ o _ _ S3.row1
      have cR := fun o => cell_of_row u1 _ o _ _ (0, 0) S3.res
      have fR : ∀ o, u1.frozen? ⟨w.heap.size, o, none⟩ = false := fun o => frozen_of_row _ _ o _ _ S3.res
      have HS3 := Lib.hid S3
      clear S3
      go_wp2_with fail
      clear cE c1 f1 cR fR
      generalize hv1 : World.setCell _ _ _ = v2
      have S4 : NSt w p A c bs (at_ + n0 + n1) 0 (recC 8 0 0 0 0 (x1 : Int) ⟨#[]⟩ (.slice none 0 0)) v2 := by rw [← hv1]; exact HS3.out.set hp hA 5 _
      clear hv1 HS3
      refine (HD.out _ S4.ey).mono ?_
      rintro e u2 ⟨hk2, rfl, he2⟩
      have S5 := S4.call hp hk2 he2
      clear hk2 he2 S4
      have HS5 := Lib.hid (show NSt w p A c bs (at_ + (n0 + (n1 + n))) code (recC 8 0 0 0 0 (x1 : Int) ⟨#[]⟩ (.slice none 0 0)) u2 by rw [show at_ + (n0 + (n1 + n)) = at_ + n0 + n1 + n by omega]; exact S5)
      clear S5
      go_wp2_with fail
      go_loopw [5] (fun t5 u => t5 = .int .i64 0 ∧ NSt w p A c bs (at_ + (n0 + (n1 + n))) code (recC 8 0 0 0 0 (x1 : Int) ⟨#[]⟩ (.slice none 0 0)) u) (fun _ _ => 0)
      case atStart => exact ⟨rfl, HS5.out⟩
      case round =>
        obtain ⟨rfl, S⟩ := hrel
        have cE := fun o => cell_of_row wr _ o _ _ (0, 0) S.ey.row
        have c1 := fun o => cell_of_row wr _ o _ _ (0, 0) S.row1
        have f1 : ∀ o, wr.frozen? ⟨w.heap.size + 1, o, none⟩ = false := fun o => frozen_of_row _ _ o _ _ S.row1
        have cR := fun o => cell_of_row wr _ o _ _ (0, 0) S.res
        have fR : ∀ o, wr.frozen? ⟨w.heap.size, o, none⟩ = false := fun o => frozen_of_row _ _ o _ _ S.res
        have HS := Lib.hid S
        clear S
        go_wp2_with fail
        refine bodyPost_ret (v := .agg zeroC) (by simp [results, Tryz.results89, go_sem, cR]) rfl ?_
        refine NPost.bad Hf.out ?_ rfl (HS.out.ey.far hp hA ?_)
        · iterate 8 refine Kp.setCell ?_ (Or.inr (by simp)) _
          exact HS.out.kp
        · iterate 8 refine Kp.setCell ?_ (Or.inl (by simp)) _
          exact Kp.refl _ _
    | ok N n2 =>
      rw [hU2] at hD
      have HD := Lib.hid hD
      clear hD
      have hN : N ≤ 32 := (uptoR_one hU2).2.2
      have hN' : (N : Int) ≤ 32 := by omega
      have HfB := Lib.hid (fun (E q : Nat) (h : itsR 8 N (bs.drop (at_ + n0 + n1 + n2)) = .bad E q) => recR_bad2 HK.out (show fieldR 8 ((bs.drop at_).drop n0) = .bad E (n1 + (n2 + q)) by rw [List.drop_drop, fieldR89 (by first | exact .inl rfl | exact .inr rfl)]; unfold listK; rw [andR_ok hU1, List.drop_drop, andR_ok hU2, List.drop_drop, h]; rfl))
      have HfG := Lib.hid (fun (xs : List RC.It) (q : Nat) (h : itsR 8 N (bs.drop (at_ + n0 + n1 + n2)) = .ok xs q) => (show fieldR 8 ((bs.drop at_).drop n0) = .ok ⟨8, 0, 0, 0, 0, (x1 : Int), ⟨#[]⟩, xs⟩ (n1 + (n2 + q)) by rw [List.drop_drop, fieldR89 (by first | exact .inl rfl | exact .inr rfl)]; unfold listK; rw [andR_ok hU1, List.drop_drop, andR_ok hU2, List.drop_drop, h]; rfl))
      clear hU1 hU2
      go_enter Tryz.func89, Tryz.ntmps89
      go_wp2_with fail
      refine (HX.out _ (HE.out.below (below2 w _ _))).mono ?_
      rintro e w1 ⟨hk1, rfl, he1⟩
      have S1 : NSt w p A c bs (at_ + n0) 0 zeroC w1 := ⟨he1, (hk1.block w.heap.size (by simp only [World.size_alloc]; omega) (by show ¬ w.heap.size = p; omega)).trans (heap_alloc2_old w _ _), (hk1.block (w.heap.size + 1) (by simp only [World.size_alloc]; omega) (by show ¬ w.heap.size + 1 = p; omega)).trans (heap_alloc2_new w _ _), (((Kp.refl _ w).alloc _).alloc _).same hk1⟩
      clear hk1 he1
      have cE := fun o => cell_of_row w1 _ o _ _ (0, 0) S1.ey.row
      have c1 := fun o => cell_of_row w1 _ o _ _ (0, 0) S1.row1
      have f1 : ∀ o, w1.frozen? ⟨w.heap.size + 1, o, none⟩ = false := fun o => frozen_of_row _ _ o _ _ S1.row1
      have cR := fun o => cell_of_row w1 _ o _ _ (0, 0) S1.res
      have fR : ∀ o, w1.frozen? ⟨w.heap.size, o, none⟩ = false := fun o => frozen_of_row _ _ o _ _ S1.res
      have HS1 := Lib.hid S1
      clear S1
      go_wp2_with fail
      clear cE c1 f1 cR fR
      generalize hv1 : World.setCell _ _ _ = v1
      have S2 : NSt w p A c bs (at_ + n0) 0 (recC 8 0 0 0 0 0 ⟨#[]⟩ (.slice none 0 0)) v1 := by rw [← hv1]; exact HS1.out.set hp hA 0 _
      clear hv1 HS1
      refine (HC.out _ S2.ey).mono ?_
      rintro e u1 ⟨hk2, rfl, he2⟩
      have S3 := S2.call hp hk2 he2
      clear hk2 he2 S2
      have cE := fun o => cell_of_row u1 _ o _ _ (0, 0) S3.ey.row
      have c1 := fun o => cell_of_row u1 _ o _ _ (0, 0) S3.row1
      have f1 : ∀ o, u1.frozen? ⟨w.heap.size + 1, o, none⟩ = false := fun o => frozen_of_row _ _ o _ _ S3.row1
      have cR := fun o => cell_of_row u1 _ o _ _ (0, 0) S3.res
      have fR : ∀ o, u1.frozen? ⟨w.heap.size, o, none⟩ = false := fun o => frozen_of_row _ _ o _ _ S3.res
      have HS3 := Lib.hid S3
      clear S3
      go_wp2_with fail
      clear cE c1 f1 cR fR
      generalize hv1 : World.setCell _ _ _ = v2
      have S4 : NSt w p A c bs (at_ + n0 + n1) 0 (recC 8 0 0 0 0 (x1 : Int) ⟨#[]⟩ (.slice none 0 0)) v2 := by rw [← hv1]; exact HS3.out.set hp hA 5 _
      clear hv1 HS3
      refine (HD.out _ S4.ey).mono ?_
      rintro e u2 ⟨hk2, rfl, he2⟩
      have S5 := S4.call hp hk2 he2
      clear hk2 he2 S4
      have HS5 := Lib.hid S5
      clear S5
      go_wp2_with fail
      go_loopw [5] (fun t5 u => ∃ i : Nat, t5 = .int .i64 i ∧ i ≤ N ∧ NRel 8 N (at_ + n0 + n1 + n2) (x1 : Int) w p A c bs at_ i u) (fun t5 _ => N - (intOf t5).toNat)
      case atStart => exact ⟨0, rfl, Nat.zero_le _, .inl ⟨0, [], none, 0, HS5.out, by rw [lift_nil]; rfl, rfl, World.ownsRow_nil _ _ _ _, fun k e => by cases e⟩⟩
      case round =>
        obtain ⟨i, rfl, hi, hR⟩ := hrel
        clear HS5 HX HC HD
        rcases hR with ⟨d, xs, A2, c2, hv⟩ | ⟨code, q, v, hv⟩
        · by_cases hlt : i < N
          · have hi1 : (i : Int) < (N : Int) := by omega
            have S := hv.st
            have cE := fun o => cell_of_row wr _ o _ _ (0, 0) S.ey.row
            have c1 := fun o => cell_of_row wr _ o _ _ (0, 0) S.row1
            have f1 : ∀ o, wr.frozen? ⟨w.heap.size + 1, o, none⟩ = false := fun o => frozen_of_row _ _ o _ _ S.row1
            have cR := fun o => cell_of_row wr _ o _ _ (0, 0) S.res
            have fR : ∀ o, wr.frozen? ⟨w.heap.size, o, none⟩ = false := fun o => frozen_of_row _ _ o _ _ S.res
            have hsz := S.lt
            have HV := Lib.hid hv
            have hl1 : Lim (xs.length + 1) := by have := hv.len; unfold Lim; omega
            have hob : ob A2 ≠ some wr.heap.size := ob_ne hv.own rfl
            have S1 := S.below (below1 wr (.cells #[.float .f64 0, .string ⟨#[]⟩] 88))
            have hpw : p < wr.heap.size := by omega
            have hr1 : w.heap.size + 1 < wr.heap.size := by omega
            have hr0 : w.heap.size < wr.heap.size := by omega
            have HSp := Lib.hid hv.spec
            clear hv
            have HS1 := Lib.hid S1
            clear S1 S
            have hY := fun w' (he' : Ey w' p A c bs (at_ + n0 + n1 + n2 + d) 0) => epart_any p A c bs (at_ + n0 + n1 + n2 + d) 115 16 w' (by omega) rfl he'
            rw [show partR 115 16 (bs.drop (at_ + n0 + n1 + n2 + d)) = Res.map (fun s => { PK.zeroPt 115 with s := ⟨s.toArray⟩ }) (txtR 16 (bs.drop (at_ + n0 + n1 + n2 + d))) from rfl] at hY
            cases hT : txtR 16 (bs.drop (at_ + n0 + n1 + n2 + d)) with
            | bad code n =>
              rw [hT] at hY
              have hc := partR_bad_pos (k := 115) (m := 16) (l := bs.drop (at_ + n0 + n1 + n2 + d)) (e := code) (n := n) (by show Res.map _ (txtR 16 _) = _; rw [hT]; rfl)
              have Hb := Lib.hid (HfB.out code (d + n) (by rw [HSp.out, show N - i = (N - (i + 1)) + 1 by omega, itsR_bad (show itR 8 _ = .bad code n by show Res.map _ (txtR 16 _) = _; rw [hT]; rfl)]; rfl))
              have HY := Lib.hid hY
              have hfd : ∀ w : World, (Instr.field 115 (.agg #[.int .u8 0, .int .u64 0, .int .i64 0, .int .u64 0, .string ⟨#[]⟩, .bool false]) 4).run Tryz.prog w = .ok (.string ⟨#[]⟩) w := fun _ => by kernel_rfl
              clear hY hT
              go_wp2_with fail
              clear cE c1 f1 cR fR
              refine (HY.out _ HS1.out.ey).mono ?_
              rintro e u3 ⟨hk2, rfl, he2⟩
              have S2 := HS1.out.call hp hk2 he2
              have ho2 := HV.out.own2 hp hk2
              have rX := (hk2.block wr.heap.size (by simp) (by show ¬ wr.heap.size = p; omega)).trans (heap_alloc_new wr _)
              clear hk2 he2
              have cE := fun o => cell_of_row u3 _ o _ _ (0, 0) S2.ey.row
              have c1 := fun o => cell_of_row u3 _ o _ _ (0, 0) S2.row1
              have f1 : ∀ o, u3.frozen? ⟨w.heap.size + 1, o, none⟩ = false := fun o => frozen_of_row _ _ o _ _ S2.row1
              have cR := fun o => cell_of_row u3 _ o _ _ (0, 0) S2.res
              have fR : ∀ o, u3.frozen? ⟨w.heap.size, o, none⟩ = false := fun o => frozen_of_row _ _ o _ _ S2.res
              have cX := fun o => cell_of_row u3 _ o _ _ (0, 0) rX
              have fX : ∀ o, u3.frozen? ⟨wr.heap.size, o, none⟩ = false := fun o => frozen_of_row _ _ o _ _ rX
              have HS2 := Lib.hid (show NSt w p A c bs (at_ + (n0 + (n1 + (n2 + (d + n))))) code _ _ by rw [show at_ + (n0 + (n1 + (n2 + (d + n)))) = at_ + n0 + n1 + n2 + d + n by omega]; exact S2.far hp hA (Kp.setCell (p := ⟨wr.heap.size, 1, none⟩) (Kp.refl _ _) (Or.inl hsz) (.string ⟨#[]⟩)))
              clear S2 rX
              have hne1 : ¬ w.heap.size + 1 = wr.heap.size := by omega
              have Hz := Lib.hid (show u3.heap.size = (u3.setCell ⟨wr.heap.size, 1, none⟩ (.string ⟨#[]⟩)).heap.size by simp)
              have Hone := Lib.hid (show ∀ u ∈ [Value.float .f64 0, .string ⟨#[]⟩], u.oneCell' = true from by intro u hu; simp at hu; rcases hu with rfl | rfl <;> rfl)
              go_wp2_with (first
                | (at_builtin
                   refine wpList_append_at rfl (.tmp 88) (.tmp 90) _ _ rfl 88 i0 _ 2 24 Tryz.underlying23 hi0 hz0 hz1 hz2 rfl A2 xs.length c2 (itCells xs) rfl ((own_set ho2 hob).alloc _) _ 1 _ rfl (src_at Tryz.underlying23 _ _ _ rfl Hone.out Hz.out) hl1.len (hl1.fit 24 (by omega)) ?_
                   intro A3 c3 w3 ho3 hg3 hat3
                   have S9 := HS2.out.app hp hA HV.out.new hg3
                   have f9 : ∀ o, w3.frozen? ⟨w.heap.size + 1, o, none⟩ = false := fun o => frozen_of_row _ _ o _ _ S9.row1
                   have c9 := fun o => cell_of_row w3 _ o _ _ (0, 0) S9.row1
                   clear S9))
              go_roundw
              case rel => exact ⟨i + 1, by go_num, by omega, HV.out.fail hp hA Hb.out hc HS2.out hg3 _⟩
              case measure => simp [intOf]; omega
            | ok t n =>
              rw [hT] at hY
              have HI := Lib.hid (show itR 8 (bs.drop (at_ + n0 + n1 + n2 + d)) = .ok ⟨0, ⟨t.toArray⟩⟩ n by show Res.map _ (txtR 16 _) = _; rw [hT]; rfl)
              have HY := Lib.hid hY
              clear hY hT
              go_wp2_with fail
              clear cE c1 f1 cR fR
              refine (HY.out _ HS1.out.ey).mono ?_
              rintro e u3 ⟨hk2, ⟨qk, qu, qi, qq, qt, qb, hpl, rfl⟩, he2⟩
              have hqi : qt = ⟨t.toArray⟩ := congrArg PK.Rp.s hpl
              subst hqi
              clear hpl
              have hfd : ∀ w : World, (Instr.field 115 (.agg #[.int .u8 (qk : Int), .int .u64 (qu : Int), .int .i64 qi, .int .u64 (qq : Int), .string ⟨t.toArray⟩, .bool qb]) 4).run Tryz.prog w = .ok (.string ⟨t.toArray⟩) w := fun _ => by kernel_rfl
              have S2 := HS1.out.call hp hk2 he2
              have ho2 := HV.out.own2 hp hk2
              have rX := (hk2.block wr.heap.size (by simp) (by show ¬ wr.heap.size = p; omega)).trans (heap_alloc_new wr _)
              clear hk2 he2
              have cE := fun o => cell_of_row u3 _ o _ _ (0, 0) S2.ey.row
              have c1 := fun o => cell_of_row u3 _ o _ _ (0, 0) S2.row1
              have f1 : ∀ o, u3.frozen? ⟨w.heap.size + 1, o, none⟩ = false := fun o => frozen_of_row _ _ o _ _ S2.row1
              have cR := fun o => cell_of_row u3 _ o _ _ (0, 0) S2.res
              have fR : ∀ o, u3.frozen? ⟨w.heap.size, o, none⟩ = false := fun o => frozen_of_row _ _ o _ _ S2.res
              have cX := fun o => cell_of_row u3 _ o _ _ (0, 0) rX
              have fX : ∀ o, u3.frozen? ⟨wr.heap.size, o, none⟩ = false := fun o => frozen_of_row _ _ o _ _ rX
              have HS2 := Lib.hid (S2.far hp hA (Kp.setCell (p := ⟨wr.heap.size, 1, none⟩) (Kp.refl _ _) (Or.inl hsz) (.string ⟨t.toArray⟩)))
              clear S2 rX
              have hne1 : ¬ w.heap.size + 1 = wr.heap.size := by omega
              have Hz := Lib.hid (show u3.heap.size = (u3.setCell ⟨wr.heap.size, 1, none⟩ (.string ⟨t.toArray⟩)).heap.size by simp)
              have Hone := Lib.hid (show ∀ u ∈ [Value.float .f64 0, .string ⟨t.toArray⟩], u.oneCell' = true from by intro u hu; simp at hu; rcases hu with rfl | rfl <;> rfl)
              go_wp2_with (first
                | (at_builtin
                   refine wpList_append_at rfl (.tmp 88) (.tmp 90) _ _ rfl 88 i0 _ 2 24 Tryz.underlying23 hi0 hz0 hz1 hz2 rfl A2 xs.length c2 (itCells xs) rfl ((own_set ho2 hob).alloc _) _ 1 _ rfl (src_at Tryz.underlying23 _ _ _ rfl Hone.out Hz.out) hl1.len (hl1.fit 24 (by omega)) ?_
                   intro A3 c3 w3 ho3 hg3 hat3
                   have S9 := HS2.out.app hp hA HV.out.new hg3
                   have f9 : ∀ o, w3.frozen? ⟨w.heap.size + 1, o, none⟩ = false := fun o => frozen_of_row _ _ o _ _ S9.row1
                   have c9 := fun o => cell_of_row w3 _ o _ _ (0, 0) S9.row1
                   clear S9))
              go_roundw
              case rel => exact ⟨i + 1, by go_num, by omega, HV.out.next hp hA hlt HI.out HS2.out hg3 hat3 ho3⟩
              case measure => simp [intOf]; omega
          · have hi' : i = N := by omega
            subst hi'
            have hsp := hv.spec
            rw [Nat.sub_self] at hsp
            have hits : itsR 8 i (bs.drop (at_ + n0 + n1 + n2)) = .ok xs d := hsp.trans (by show Res.ok (xs ++ []) (d + 0) = _; simp)
            have Hf := Lib.hid (HfG.out xs d hits)
            have hl32 : xs.length ≤ 32 := by have := hv.len; omega
            have S := hv.st
            have cE := fun o => cell_of_row wr _ o _ _ (0, 0) S.ey.row
            have c1 := fun o => cell_of_row wr _ o _ _ (0, 0) S.row1
            have f1 : ∀ o, wr.frozen? ⟨w.heap.size + 1, o, none⟩ = false := fun o => frozen_of_row _ _ o _ _ S.row1
            have cR := fun o => cell_of_row wr _ o _ _ (0, 0) S.res
            have fR : ∀ o, wr.frozen? ⟨w.heap.size, o, none⟩ = false := fun o => frozen_of_row _ _ o _ _ S.res
            have HS := Lib.hid S
            have HO := Lib.hid hv.own
            have HN := Lib.hid hv.new
            clear S hsp hits HfG HfB hv
            go_wp2_with fail
            clear cE c1 f1 cR fR
            have hqo := (fieldR_one (by omega) Hf.out).2.2.1
            refine (rcheck_any ⟨8, 0, 0, 0, 0, (x1 : Int), ⟨#[]⟩, xs⟩ A2 c2 wr hqo (Its.own HO.out) (by show Lim xs.length; unfold Lim; omega)).mono ?_
            rintro e w3 ⟨rfl, hb3⟩
            have HS3 := Lib.hid (HS.out.below hb3)
            have HO3 := Lib.hid (own_below HO.out hb3)
            clear hb3
            go_wp2_with fail
            refine (efail_yes p A c bs _ _ w3 HS3.out.ey).mono ?_
            rintro e w4 ⟨rfl, he4, hk4⟩
            have S4 := HS3.out.call hp hk4 he4
            have HO4 := Lib.hid (hk4.own HO3.out (fun k e x => by rw [ownBlock_slice] at e; have := HN.out k e; have x' : k = p := x; omega))
            clear hk4 he4 HO3 HS3
            rcases Nat.eq_zero_or_pos (RC.chk ⟨8, 0, 0, 0, 0, (x1 : Int), ⟨#[]⟩, xs⟩) with hc | hc
            · have HC := Lib.hid (recR_ok HK.out Hf.out hc)
              rw [hc] at S4
              have cE := fun o => cell_of_row w4 _ o _ _ (0, 0) S4.ey.row
              have c1 := fun o => cell_of_row w4 _ o _ _ (0, 0) S4.row1
              have f1 : ∀ o, w4.frozen? ⟨w.heap.size + 1, o, none⟩ = false := fun o => frozen_of_row _ _ o _ _ S4.row1
              have cR := fun o => cell_of_row w4 _ o _ _ (0, 0) S4.res
              have fR : ∀ o, w4.frozen? ⟨w.heap.size, o, none⟩ = false := fun o => frozen_of_row _ _ o _ _ S4.res
              have HS4 := Lib.hid S4
              clear hc S4
              go_wp2_with fail
              refine bodyPost_ret (v := recV ⟨8, 0, 0, 0, 0, (x1 : Int), ⟨#[]⟩, xs⟩ A2 c2) (by simp [results, Tryz.results89, go_sem, cR]) rfl ?_
              rw [HC.out]
              refine ⟨?_, ⟨A2, c2, rfl, ?_, fun k e => by have := HN.out k e; omega⟩, ?_⟩
              · iterate 8 refine Kp.setCell ?_ (Or.inr (by simp)) _
                exact HS4.out.kp
              · refine Kp.own (S := fun k => k = w.heap.size) ?_ HO4.out (fun k e x => by rw [ownBlock_slice] at e; have := HN.out k e; have x' : k = w.heap.size := x; omega)
                iterate 8 refine Kp.setCell ?_ (Or.inl (by exact rfl)) _
                exact Kp.refl _ _
              · rw [show at_ + (n0 + (n1 + (n2 + d))) = at_ + n0 + n1 + n2 + d by omega]
                refine HS4.out.ey.far hp hA ?_
                iterate 8 refine Kp.setCell ?_ (Or.inl (by simp)) _
                exact Kp.refl _ _
            · have HC := Lib.hid (recR_no HK.out Hf.out (by omega))
              generalize RC.chk _ = code at *
              have h1 : ((code : Int) == 0) = false := by simp; omega
              have h2 : ((code : Int) != 0) = true := by simp; omega
              have cE := fun o => cell_of_row w4 _ o _ _ (0, 0) S4.ey.row
              have c1 := fun o => cell_of_row w4 _ o _ _ (0, 0) S4.row1
              have f1 : ∀ o, w4.frozen? ⟨w.heap.size + 1, o, none⟩ = false := fun o => frozen_of_row _ _ o _ _ S4.row1
              have cR := fun o => cell_of_row w4 _ o _ _ (0, 0) S4.res
              have fR : ∀ o, w4.frozen? ⟨w.heap.size, o, none⟩ = false := fun o => frozen_of_row _ _ o _ _ S4.res
              have HS4 := Lib.hid S4
              clear hc S4
              go_wp2_with fail
              refine bodyPost_ret (v := .agg zeroC) (by simp [results, Tryz.results89, go_sem, cR]) rfl ?_
              refine NPost.bad HC.out ?_ (by omega) (HS4.out.ey.far hp hA ?_)
              · iterate 8 refine Kp.setCell ?_ (Or.inr (by simp)) _
                exact HS4.out.kp
              · iterate 8 refine Kp.setCell ?_ (Or.inl (by simp)) _
                exact Kp.refl _ _
        · have S := hv.st
          have hc := hv.pos
          have h1 : ((code : Int) == 0) = false := by simp; omega
          have h2 : ((code : Int) != 0) = true := by simp; omega
          have Hf := Lib.hid hv.spec
          have cE := fun o => cell_of_row wr _ o _ _ (0, 0) S.ey.row
          have c1 := fun o => cell_of_row wr _ o _ _ (0, 0) S.row1
          have f1 : ∀ o, wr.frozen? ⟨w.heap.size + 1, o, none⟩ = false := fun o => frozen_of_row _ _ o _ _ S.row1
          have cR := fun o => cell_of_row wr _ o _ _ (0, 0) S.res
          have fR : ∀ o, wr.frozen? ⟨w.heap.size, o, none⟩ = false := fun o => frozen_of_row _ _ o _ _ S.res
          have HS := Lib.hid S
          clear S hv HfG HfB
          by_cases hlt : i < N
          · have hi1 : (i : Int) < (N : Int) := by omega
            go_wp2_with fail
            refine bodyPost_ret (v := .agg zeroC) (by simp [results, Tryz.results89, go_sem, cR]) rfl ?_
            refine NPost.bad Hf.out ?_ rfl (HS.out.ey.far hp hA ?_)
            · iterate 8 refine Kp.setCell ?_ (Or.inr (by simp)) _
              exact HS.out.kp
            · iterate 8 refine Kp.setCell ?_ (Or.inl (by simp)) _
              exact Kp.refl _ _
          · have hi1 : ¬ (i : Int) < (N : Int) := by omega
            go_wp2_with fail
            refine bodyPost_ret (v := .agg zeroC) (by simp [results, Tryz.results89, go_sem, cR]) rfl ?_
            refine NPost.bad Hf.out ?_ rfl (HS.out.ey.far hp hA ?_)
            · iterate 8 refine Kp.setCell ?_ (Or.inr (by simp)) _
              exact HS.out.kp
            · iterate 8 refine Kp.setCell ?_ (Or.inl (by simp)) _
              exact Kp.refl _ _

set_option maxHeartbeats 4000000 in
set_option maxRecDepth 100000 in
theorem next_9 (n0 : Nat) (p : Nat) (A : Option Addr) (c : Nat) (bs : List UInt8) (at_ : Nat) (w : World) (he : Ey w p A c bs at_ 0) (hU : uptoR 9 (bs.drop at_) = .ok 9 n0) (hA : bs ≠ [] → ∀ ad, A = some ad → ad.block < w.heap.size) :
    Calls Tryz.prog 89 #[.pointer (some ⟨p, 0, none⟩)] w (NPost p A c bs at_ (recR (bs.drop at_)) w) := by
  obtain ⟨i0, hi0, hz0, hz1, hz2⟩ := info_parts item_info
  have hp := lt_of_heap he.row
  have hK : kindR (bs.drop at_) = .ok 9 n0 := by unfold kindR; rw [andR_ok hU]; rfl
  have HX := Lib.hid (fun w' (he' : Ey w' p A c bs at_ 0) => eupto_any p A c bs at_ 9 w' (by omega) he')
  rw [show ((9 : Nat) : Int) = 9 from rfl, hU] at HX
  have hC := fun w' (he' : Ey w' p A c bs (at_ + n0) 0) => eupto_any p A c bs (at_ + n0) 32 w' (by omega) he'
  rw [show ((32 : Nat) : Int) = 32 from rfl] at hC
  have HE := Lib.hid he
  have HK := Lib.hid hK
  clear he hU hK
  cases hU1 : uptoR 32 (bs.drop (at_ + n0)) with
  | bad code n =>
    rw [hU1] at hC
    have Hf := Lib.hid (recR_bad2 HK.out (show fieldR 9 ((bs.drop at_).drop n0) = .bad code n by rw [List.drop_drop, fieldR89 (by first | exact .inl rfl | exact .inr rfl)]; unfold listK; rw [andR_bad hU1]))
    have hc := uptoR_bad_pos hU1
    have HC := Lib.hid hC
    have h1 : ((code : Int) == 0) = false := by simp; omega
    have h2 : ((code : Int) != 0) = true := by simp; omega
    clear hC hU1
    go_enter Tryz.func89, Tryz.ntmps89
    go_wp2_with fail
    refine (HX.out _ (HE.out.below (below2 w _ _))).mono ?_
    rintro e w1 ⟨hk1, rfl, he1⟩
    have S1 : NSt w p A c bs (at_ + n0) 0 zeroC w1 := ⟨he1, (hk1.block w.heap.size (by simp only [World.size_alloc]; omega) (by show ¬ w.heap.size = p; omega)).trans (heap_alloc2_old w _ _), (hk1.block (w.heap.size + 1) (by simp only [World.size_alloc]; omega) (by show ¬ w.heap.size + 1 = p; omega)).trans (heap_alloc2_new w _ _), (((Kp.refl _ w).alloc _).alloc _).same hk1⟩
    clear hk1 he1
    have cE := fun o => cell_of_row w1 _ o _ _ (0, 0) S1.ey.row
    have c1 := fun o => cell_of_row w1 _ o _ _ (0, 0) S1.row1
    have f1 : ∀ o, w1.frozen? ⟨w.heap.size + 1, o, none⟩ = false := fun o => frozen_of_row _ _ o _ _ S1.row1
    have cR := fun o => cell_of_row w1 _ o _ _ (0, 0) S1.res
    have fR : ∀ o, w1.frozen? ⟨w.heap.size, o, none⟩ = false := fun o => frozen_of_row _ _ o _ _ S1.res
    have HS1 := Lib.hid S1
    clear S1
    go_wp2_with fail
    clear cE c1 f1 cR fR
    generalize hv1 : World.setCell _ _ _ = v1
    have S2 : NSt w p A c bs (at_ + n0) 0 (recC 9 0 0 0 0 0 ⟨#[]⟩ (.slice none 0 0)) v1 := by rw [← hv1]; exact HS1.out.set hp hA 0 _
    clear hv1 HS1
    refine (HC.out _ S2.ey).mono ?_
    rintro e u1 ⟨hk2, rfl, he2⟩
    have S3 := S2.call hp hk2 he2
    clear hk2 he2 S2
    have cE := fun o => cell_of_row u1 _ o _ _ (0, 0) S3.ey.row
    have c1 := fun o => cell_of_row u1 _ o _ _ (0, 0) S3.row1
    have f1 : ∀ o, u1.frozen? ⟨w.heap.size + 1, o, none⟩ = false := fun o => frozen_of_row _ _ o _ _ S3.row1
    have cR := fun o => cell_of_row u1 _ o _ _ (0, 0) S3.res
    have fR : ∀ o, u1.frozen? ⟨w.heap.size, o, none⟩ = false := fun o => frozen_of_row _ _ o _ _ S3.res
    have HS3 := Lib.hid S3
    clear S3
    go_wp2_with fail
    clear cE c1 f1 cR fR
    generalize hv1 : World.setCell _ _ _ = v2
    have S4 : NSt w p A c bs (at_ + n0 + n) code (recC 9 0 0 0 0 0 ⟨#[]⟩ (.slice none 0 0)) v2 := by rw [← hv1]; exact HS3.out.set hp hA 5 _
    clear hv1 HS3
    refine (eupto_no p A c bs _ code 32 _ hc S4.ey).mono ?_
    rintro e u2 ⟨rfl, hb2⟩
    have S5 := S4.below hb2
    have HS5 := Lib.hid (show NSt w p A c bs (at_ + (n0 + n)) code (recC 9 0 0 0 0 0 ⟨#[]⟩ (.slice none 0 0)) u2 by rw [← Nat.add_assoc]; exact S5)
    clear S5 S4 hb2
    go_wp2_with fail
    go_loopw [5] (fun t5 u => t5 = .int .i64 0 ∧ NSt w p A c bs (at_ + (n0 + n)) code (recC 9 0 0 0 0 0 ⟨#[]⟩ (.slice none 0 0)) u) (fun _ _ => 0)
    case atStart => exact ⟨rfl, HS5.out⟩
    case round =>
      obtain ⟨rfl, S⟩ := hrel
      have cE := fun o => cell_of_row wr _ o _ _ (0, 0) S.ey.row
      have c1 := fun o => cell_of_row wr _ o _ _ (0, 0) S.row1
      have f1 : ∀ o, wr.frozen? ⟨w.heap.size + 1, o, none⟩ = false := fun o => frozen_of_row _ _ o _ _ S.row1
      have cR := fun o => cell_of_row wr _ o _ _ (0, 0) S.res
      have fR : ∀ o, wr.frozen? ⟨w.heap.size, o, none⟩ = false := fun o => frozen_of_row _ _ o _ _ S.res
      have HS := Lib.hid S
      clear S
      go_wp2_with fail
      refine bodyPost_ret (v := .agg zeroC) (by simp [results, Tryz.results89, go_sem, cR]) rfl ?_
      refine NPost.bad Hf.out ?_ rfl (HS.out.ey.far hp hA ?_)
      · iterate 8 refine Kp.setCell ?_ (Or.inr (by simp)) _
        exact HS.out.kp
      · iterate 8 refine Kp.setCell ?_ (Or.inl (by simp)) _
        exact Kp.refl _ _
  | ok x1 n1 =>
    rw [hU1] at hC
    have HC := Lib.hid hC
    clear hC
    have hD := fun w' (he' : Ey w' p A c bs (at_ + n0 + n1) 0) => eupto_any p A c bs (at_ + n0 + n1) 32 w' (by omega) he'
    rw [show ((32 : Nat) : Int) = 32 from rfl] at hD
    have hx1 : x1 ≤ 32 := (uptoR_one hU1).2.2
    cases hU2 : uptoR 32 (bs.drop (at_ + n0 + n1)) with
    | bad code n =>
      rw [hU2] at hD
      have Hf := Lib.hid (recR_bad2 HK.out (show fieldR 9 ((bs.drop at_).drop n0) = .bad code (n1 + n) by rw [List.drop_drop, fieldR89 (by first | exact .inl rfl | exact .inr rfl)]; unfold listK; rw [andR_ok hU1, List.drop_drop, andR_bad hU2]; rfl))
      have hc := uptoR_bad_pos hU2
      have HD := Lib.hid hD
      have h1 : ((code : Int) == 0) = false := by simp; omega
      have h2 : ((code : Int) != 0) = true := by simp; omega
      clear hD hU1 hU2
      go_enter Tryz.func89, Tryz.ntmps89
      go_wp2_with fail
      refine (HX.out _ (HE.out.below (below2 w _ _))).mono ?_
      rintro e w1 ⟨hk1, rfl, he1⟩
      have S1 : NSt w p A c bs (at_ + n0) 0 zeroC w1 := ⟨he1, (hk1.block w.heap.size (by simp only [World.size_alloc]; omega) (by show ¬ w.heap.size = p; omega)).trans (heap_alloc2_old w _ _), (hk1.block (w.heap.size + 1) (by simp only [World.size_alloc]; omega) (by show ¬ w.heap.size + 1 = p; omega)).trans (heap_alloc2_new w _ _), (((Kp.refl _ w).alloc _).alloc _).same hk1⟩
      clear hk1 he1
      have cE := fun o => cell_of_row w1 _ o _ _ (0, 0) S1.ey.row
      have c1 := fun o => cell_of_row w1 _ o _ _ (0, 0) S1.row1
      have f1 : ∀ o, w1.frozen? ⟨w.heap.size + 1, o, none⟩ = false := fun o => frozen_of_row _ _ o _ _ S1.row1
      have cR := fun o => cell_of_row w1 _ o _ _ (0, 0) S1.res
      have fR : ∀ o, w1.frozen? ⟨w.heap.size, o, none⟩ = false := fun o => frozen_of_row _ _ o _ _ S1.res
      have HS1 := Lib.hid S1
      clear S1
      go_wp2_with fail
      clear cE c1 f1 cR fR
      generalize hv1 : World.setCell _ _ _ = v1
      have S2 : NSt w p A c bs (at_ + n0) 0 (recC 9 0 0 0 0 0 ⟨#[]⟩ (.slice none 0 0)) v1 := by rw [← hv1]; exact HS1.out.set hp hA 0 _
      clear hv1 HS1
      refine (HC.out _ S2.ey).mono ?_
      rintro e u1 ⟨hk2, rfl, he2⟩
      have S3 := S2.call hp hk2 he2
      clear hk2 he2 S2
      have cE := fun o => cell_of_row u1 _ o _ _ (0, 0) S3.ey.row
      have c1 := fun o => cell_of_row u1 _ o _ _ (0, 0) S3.row1
      have f1 : ∀ o, u1.frozen? ⟨w.heap.size + 1, o, none⟩ = false := fun o => frozen_of_row _ _ o _ _ S3.row1
      have cR := fun o => cell_of_row u1 _ o _ _ (0, 0) S3.res
      have fR : ∀ o, u1.frozen? ⟨w.heap.size, o, none⟩ = false := fun o => frozen_of_row _ _ o _ _ S3.res
      have HS3 := Lib.hid S3
      clear S3
      go_wp2_with fail
      clear cE c1 f1 cR fR
      generalize hv1 : World.setCell _ _ _ = v2
      have S4 : NSt w p A c bs (at_ + n0 + n1) 0 (recC 9 0 0 0 0 (x1 : Int) ⟨#[]⟩ (.slice none 0 0)) v2 := by rw [← hv1]; exact HS3.out.set hp hA 5 _
      clear hv1 HS3
      refine (HD.out _ S4.ey).mono ?_
      rintro e u2 ⟨hk2, rfl, he2⟩
      have S5 := S4.call hp hk2 he2
      clear hk2 he2 S4
      have HS5 := Lib.hid (show NSt w p A c bs (at_ + (n0 + (n1 + n))) code (recC 9 0 0 0 0 (x1 : Int) ⟨#[]⟩ (.slice none 0 0)) u2 by rw [show at_ + (n0 + (n1 + n)) = at_ + n0 + n1 + n by omega]; exact S5)
      clear S5
      go_wp2_with fail
      go_loopw [5] (fun t5 u => t5 = .int .i64 0 ∧ NSt w p A c bs (at_ + (n0 + (n1 + n))) code (recC 9 0 0 0 0 (x1 : Int) ⟨#[]⟩ (.slice none 0 0)) u) (fun _ _ => 0)
      case atStart => exact ⟨rfl, HS5.out⟩
      case round =>
        obtain ⟨rfl, S⟩ := hrel
        have cE := fun o => cell_of_row wr _ o _ _ (0, 0) S.ey.row
        have c1 := fun o => cell_of_row wr _ o _ _ (0, 0) S.row1
        have f1 : ∀ o, wr.frozen? ⟨w.heap.size + 1, o, none⟩ = false := fun o => frozen_of_row _ _ o _ _ S.row1
        have cR := fun o => cell_of_row wr _ o _ _ (0, 0) S.res
        have fR : ∀ o, wr.frozen? ⟨w.heap.size, o, none⟩ = false := fun o => frozen_of_row _ _ o _ _ S.res
        have HS := Lib.hid S
        clear S
        go_wp2_with fail
        refine bodyPost_ret (v := .agg zeroC) (by simp [results, Tryz.results89, go_sem, cR]) rfl ?_
        refine NPost.bad Hf.out ?_ rfl (HS.out.ey.far hp hA ?_)
        · iterate 8 refine Kp.setCell ?_ (Or.inr (by simp)) _
          exact HS.out.kp
        · iterate 8 refine Kp.setCell ?_ (Or.inl (by simp)) _
          exact Kp.refl _ _
    | ok N n2 =>
      rw [hU2] at hD
      have HD := Lib.hid hD
      clear hD
      have hN : N ≤ 32 := (uptoR_one hU2).2.2
      have hN' : (N : Int) ≤ 32 := by omega
      have HfB := Lib.hid (fun (E q : Nat) (h : itsR 9 N (bs.drop (at_ + n0 + n1 + n2)) = .bad E q) => recR_bad2 HK.out (show fieldR 9 ((bs.drop at_).drop n0) = .bad E (n1 + (n2 + q)) by rw [List.drop_drop, fieldR89 (by first | exact .inl rfl | exact .inr rfl)]; unfold listK; rw [andR_ok hU1, List.drop_drop, andR_ok hU2, List.drop_drop, h]; rfl))
      have HfG := Lib.hid (fun (xs : List RC.It) (q : Nat) (h : itsR 9 N (bs.drop (at_ + n0 + n1 + n2)) = .ok xs q) => (show fieldR 9 ((bs.drop at_).drop n0) = .ok ⟨9, 0, 0, 0, 0, (x1 : Int), ⟨#[]⟩, xs⟩ (n1 + (n2 + q)) by rw [List.drop_drop, fieldR89 (by first | exact .inl rfl | exact .inr rfl)]; unfold listK; rw [andR_ok hU1, List.drop_drop, andR_ok hU2, List.drop_drop, h]; rfl))
      clear hU1 hU2
      go_enter Tryz.func89, Tryz.ntmps89
      go_wp2_with fail
      refine (HX.out _ (HE.out.below (below2 w _ _))).mono ?_
      rintro e w1 ⟨hk1, rfl, he1⟩
      have S1 : NSt w p A c bs (at_ + n0) 0 zeroC w1 := ⟨he1, (hk1.block w.heap.size (by simp only [World.size_alloc]; omega) (by show ¬ w.heap.size = p; omega)).trans (heap_alloc2_old w _ _), (hk1.block (w.heap.size + 1) (by simp only [World.size_alloc]; omega) (by show ¬ w.heap.size + 1 = p; omega)).trans (heap_alloc2_new w _ _), (((Kp.refl _ w).alloc _).alloc _).same hk1⟩
      clear hk1 he1
      have cE := fun o => cell_of_row w1 _ o _ _ (0, 0) S1.ey.row
      have c1 := fun o => cell_of_row w1 _ o _ _ (0, 0) S1.row1
      have f1 : ∀ o, w1.frozen? ⟨w.heap.size + 1, o, none⟩ = false := fun o => frozen_of_row _ _ o _ _ S1.row1
      have cR := fun o => cell_of_row w1 _ o _ _ (0, 0) S1.res
      have fR : ∀ o, w1.frozen? ⟨w.heap.size, o, none⟩ = false := fun o => frozen_of_row _ _ o _ _ S1.res
      have HS1 := Lib.hid S1
      clear S1
      go_wp2_with fail
      clear cE c1 f1 cR fR
      generalize hv1 : World.setCell _ _ _ = v1
      have S2 : NSt w p A c bs (at_ + n0) 0 (recC 9 0 0 0 0 0 ⟨#[]⟩ (.slice none 0 0)) v1 := by rw [← hv1]; exact HS1.out.set hp hA 0 _
      clear hv1 HS1
      refine (HC.out _ S2.ey).mono ?_
      rintro e u1 ⟨hk2, rfl, he2⟩
      have S3 := S2.call hp hk2 he2
      clear hk2 he2 S2
      have cE := fun o => cell_of_row u1 _ o _ _ (0, 0) S3.ey.row
      have c1 := fun o => cell_of_row u1 _ o _ _ (0, 0) S3.row1
      have f1 : ∀ o, u1.frozen? ⟨w.heap.size + 1, o, none⟩ = false := fun o => frozen_of_row _ _ o _ _ S3.row1
      have cR := fun o => cell_of_row u1 _ o _ _ (0, 0) S3.res
      have fR : ∀ o, u1.frozen? ⟨w.heap.size, o, none⟩ = false := fun o => frozen_of_row _ _ o _ _ S3.res
      have HS3 := Lib.hid S3
      clear S3
      go_wp2_with fail
      clear cE c1 f1 cR fR
      generalize hv1 : World.setCell _ _ _ = v2
      have S4 : NSt w p A c bs (at_ + n0 + n1) 0 (recC 9 0 0 0 0 (x1 : Int) ⟨#[]⟩ (.slice none 0 0)) v2 := by rw [← hv1]; exact HS3.out.set hp hA 5 _
      clear hv1 HS3
      refine (HD.out _ S4.ey).mono ?_
      rintro e u2 ⟨hk2, rfl, he2⟩
      have S5 := S4.call hp hk2 he2
      clear hk2 he2 S4
      have HS5 := Lib.hid S5
      clear S5
      go_wp2_with fail
      go_loopw [5] (fun t5 u => ∃ i : Nat, t5 = .int .i64 i ∧ i ≤ N ∧ NRel 9 N (at_ + n0 + n1 + n2) (x1 : Int) w p A c bs at_ i u) (fun t5 _ => N - (intOf t5).toNat)
      case atStart => exact ⟨0, rfl, Nat.zero_le _, .inl ⟨0, [], none, 0, HS5.out, by rw [lift_nil]; rfl, rfl, World.ownsRow_nil _ _ _ _, fun k e => by cases e⟩⟩
      case round =>
        obtain ⟨i, rfl, hi, hR⟩ := hrel
        clear HS5 HX HC HD
        rcases hR with ⟨d, xs, A2, c2, hv⟩ | ⟨code, q, v, hv⟩
        · by_cases hlt : i < N
          · have hi1 : (i : Int) < (N : Int) := by omega
            have S := hv.st
            have cE := fun o => cell_of_row wr _ o _ _ (0, 0) S.ey.row
            have c1 := fun o => cell_of_row wr _ o _ _ (0, 0) S.row1
            have f1 : ∀ o, wr.frozen? ⟨w.heap.size + 1, o, none⟩ = false := fun o => frozen_of_row _ _ o _ _ S.row1
            have cR := fun o => cell_of_row wr _ o _ _ (0, 0) S.res
            have fR : ∀ o, wr.frozen? ⟨w.heap.size, o, none⟩ = false := fun o => frozen_of_row _ _ o _ _ S.res
            have hsz := S.lt
            have HV := Lib.hid hv
            have hl1 : Lim (xs.length + 1) := by have := hv.len; unfold Lim; omega
            have hob : ob A2 ≠ some wr.heap.size := ob_ne hv.own rfl
            have S1 := S.below (below1 wr (.cells #[.float .f64 0, .string ⟨#[]⟩] 88))
            have hpw : p < wr.heap.size := by omega
            have hr1 : w.heap.size + 1 < wr.heap.size := by omega
            have hr0 : w.heap.size < wr.heap.size := by omega
            have HSp := Lib.hid hv.spec
            clear hv
            have HS1 := Lib.hid S1
            clear S1 S
            have hF := fun w' (he' : Ey w' p A c bs (at_ + n0 + n1 + n2 + d) 0) => epart_any p A c bs (at_ + n0 + n1 + n2 + d) 102 0 w' (by omega) rfl he'
            rw [show partR 102 0 (bs.drop (at_ + n0 + n1 + n2 + d)) = Res.map (fun x => { PK.zeroPt 102 with f := x }) (floR (bs.drop (at_ + n0 + n1 + n2 + d))) from rfl] at hF
            cases hFl : floR (bs.drop (at_ + n0 + n1 + n2 + d)) with
            | bad code n =>
              rw [hFl] at hF
              have hc := partR_bad_pos (k := 102) (m := 0) (l := bs.drop (at_ + n0 + n1 + n2 + d)) (e := code) (n := n) (by show Res.map _ (floR (bs.drop (at_ + n0 + n1 + n2 + d))) = _; rw [hFl]; rfl)
              have Hb := Lib.hid (HfB.out code (d + n) (by rw [HSp.out, show N - i = (N - (i + 1)) + 1 by omega, itsR_bad (show itR 9 _ = .bad code n by rw [itR9, andR_bad hFl])]; rfl))
              have HF := Lib.hid hF
              have hfd3 : ∀ w : World, (Instr.field 115 (.agg #[.int .u8 0, .int .u64 0, .int .i64 0, .int .u64 0, .string ⟨#[]⟩, .bool false]) 3).run Tryz.prog w = .ok (.int .u64 0) w := fun _ => by kernel_rfl
              have hfd : ∀ w : World, (Instr.field 115 (.agg #[.int .u8 0, .int .u64 0, .int .i64 0, .int .u64 0, .string ⟨#[]⟩, .bool false]) 4).run Tryz.prog w = .ok (.string ⟨#[]⟩) w := fun _ => by kernel_rfl
              clear hF hFl
              go_wp2_with fail
              clear cE c1 f1 cR fR
              refine (HF.out _ HS1.out.ey).mono ?_
              rintro e u3 ⟨hk2, rfl, he2⟩
              have S2 := HS1.out.call hp hk2 he2
              have ho2 := HV.out.own2 hp hk2
              have rX := (hk2.block wr.heap.size (by simp) (by show ¬ wr.heap.size = p; omega)).trans (heap_alloc_new wr _)
              clear hk2 he2
              have cE := fun o => cell_of_row u3 _ o _ _ (0, 0) S2.ey.row
              have c1 := fun o => cell_of_row u3 _ o _ _ (0, 0) S2.row1
              have f1 : ∀ o, u3.frozen? ⟨w.heap.size + 1, o, none⟩ = false := fun o => frozen_of_row _ _ o _ _ S2.row1
              have cR := fun o => cell_of_row u3 _ o _ _ (0, 0) S2.res
              have fR : ∀ o, u3.frozen? ⟨w.heap.size, o, none⟩ = false := fun o => frozen_of_row _ _ o _ _ S2.res
              have cX := fun o => cell_of_row u3 _ o _ _ (0, 0) rX
              have fX : ∀ o, u3.frozen? ⟨wr.heap.size, o, none⟩ = false := fun o => frozen_of_row _ _ o _ _ rX
              have HS2 := Lib.hid S2
              have HO2 := Lib.hid ho2
              have HX2 := Lib.hid rX
              clear S2 ho2 rX
              go_wp2_with fail
              refine (rnumber1_any 0 u3 (by unfold MF.W64; decide)).mono ?_
              rintro e u3_ ⟨rfl, rfl⟩
              go_wp2_with fail
              clear cE c1 f1 cR fR cX fX
              generalize hv3 : World.setCell _ _ _ = v3
              have S3 := show NSt w p A c bs _ _ _ v3 by rw [← hv3]; exact HS2.out.far hp hA (Kp.setCell (p := ⟨wr.heap.size, 0, none⟩) (Kp.refl _ _) (Or.inl hsz) _)
              have ho3 : v3.ownsRow 0 88 2 (.slice A2 xs.length c2) xs.length (itCells xs) := by rw [← hv3]; exact own_set HO2.out hob
              have rX3 : v3.heap[wr.heap.size]? = some (.cells #[.float .f64 (MF.bk 0), .string ⟨#[]⟩] 88 (0, 0)) := by rw [← hv3]; exact heap_setCell_same _ _ _ _ _ _ HX2.out
              clear hv3 HS2 HO2 HX2
              refine (epart_no p A c bs _ code 115 16 _ hc S3.ey).mono ?_
              rintro e u4 ⟨rfl, hb4⟩
              have S4 := S3.below hb4
              have ho4 := own_below ho3 hb4
              have rX4 := (hb4.block _ (lt_of_heap rX3)).trans rX3
              clear hb4 S3 ho3 rX3
              have cE := fun o => cell_of_row u4 _ o _ _ (0, 0) S4.ey.row
              have c1 := fun o => cell_of_row u4 _ o _ _ (0, 0) S4.row1
              have f1 : ∀ o, u4.frozen? ⟨w.heap.size + 1, o, none⟩ = false := fun o => frozen_of_row _ _ o _ _ S4.row1
              have cR := fun o => cell_of_row u4 _ o _ _ (0, 0) S4.res
              have fR : ∀ o, u4.frozen? ⟨w.heap.size, o, none⟩ = false := fun o => frozen_of_row _ _ o _ _ S4.res
              have cX := fun o => cell_of_row u4 _ o _ _ (0, 0) rX4
              have fX : ∀ o, u4.frozen? ⟨wr.heap.size, o, none⟩ = false := fun o => frozen_of_row _ _ o _ _ rX4
              have HS4 := Lib.hid (show NSt w p A c bs (at_ + (n0 + (n1 + (n2 + (d + n))))) code _ _ by rw [show at_ + (n0 + (n1 + (n2 + (d + n)))) = at_ + n0 + n1 + n2 + d + n by omega]; exact S4.far hp hA (Kp.setCell (p := ⟨wr.heap.size, 1, none⟩) (Kp.refl _ _) (Or.inl hsz) (.string ⟨#[]⟩)))
              clear S4 rX4
              have hne1 : ¬ w.heap.size + 1 = wr.heap.size := by omega
              have Hz := Lib.hid (show u4.heap.size = (u4.setCell ⟨wr.heap.size, 1, none⟩ (.string ⟨#[]⟩)).heap.size by simp)
              have Hone := Lib.hid (show ∀ u ∈ [Value.float .f64 (MF.bk 0), .string ⟨#[]⟩], u.oneCell' = true from by intro u hu; simp at hu; rcases hu with rfl | rfl <;> rfl)
              go_wp2_with (first
                | (at_builtin
                   refine wpList_append_at rfl (.tmp 88) (.tmp 90) _ _ rfl 88 i0 _ 2 24 Tryz.underlying23 hi0 hz0 hz1 hz2 rfl A2 xs.length c2 (itCells xs) rfl ((own_set ho4 hob).alloc _) _ 1 _ rfl (src_at Tryz.underlying23 _ _ _ rfl Hone.out Hz.out) hl1.len (hl1.fit 24 (by omega)) ?_
                   intro A3 c3 w3 ho3 hg3 hat3
                   have S9 := HS4.out.app hp hA HV.out.new hg3
                   have f9 : ∀ o, w3.frozen? ⟨w.heap.size + 1, o, none⟩ = false := fun o => frozen_of_row _ _ o _ _ S9.row1
                   have c9 := fun o => cell_of_row w3 _ o _ _ (0, 0) S9.row1
                   clear S9))
              go_roundw
              case rel => exact ⟨i + 1, by go_num, by omega, HV.out.fail hp hA Hb.out hc HS4.out hg3 _⟩
              case measure => simp [intOf]; omega
            | ok s1 n3 =>
              rw [hFl] at hF
              obtain ⟨-, -, -, hW, hcn⟩ := floR_one hFl
              have HB := Lib.hid (show MF.bk (MF.key s1) = s1 by rw [MF.bk_key hW, hcn])
              have HW := Lib.hid (MF.key_lt hW)
              have HF := Lib.hid hF
              clear hF hW hcn
              have hY := fun w' (he' : Ey w' p A c bs (at_ + n0 + n1 + n2 + d + n3) 0) => epart_any p A c bs (at_ + n0 + n1 + n2 + d + n3) 115 16 w' (by omega) rfl he'
              rw [show partR 115 16 (bs.drop (at_ + n0 + n1 + n2 + d + n3)) = Res.map (fun s => { PK.zeroPt 115 with s := ⟨s.toArray⟩ }) (txtR 16 (bs.drop (at_ + n0 + n1 + n2 + d + n3))) from rfl] at hY
              cases hT : txtR 16 (bs.drop (at_ + n0 + n1 + n2 + d + n3)) with
              | bad code n =>
                rw [hT] at hY
                have hc := partR_bad_pos (k := 115) (m := 16) (l := bs.drop (at_ + n0 + n1 + n2 + d + n3)) (e := code) (n := n) (by show Res.map _ (txtR 16 _) = _; rw [hT]; rfl)
                have Hb := Lib.hid (HfB.out code (d + (n3 + n)) (by rw [HSp.out, show N - i = (N - (i + 1)) + 1 by omega, itsR_bad (show itR 9 _ = .bad code (n3 + n) by rw [itR9, andR_ok hFl, List.drop_drop, hT]; rfl)]; rfl))
                have HY := Lib.hid hY
                clear hY hT hFl
                go_wp2_with fail
                clear cE c1 f1 cR fR
                refine (HF.out _ HS1.out.ey).mono ?_
                rintro e u3 ⟨hk2, ⟨qk, qu, qi, qq, qt, qb, hpl, rfl⟩, he2⟩
                have hqi : qq = MF.key s1 := congrArg PK.Rp.p hpl
                subst hqi
                clear hpl
                have hfd3 : ∀ w : World, (Instr.field 115 (.agg #[.int .u8 (qk : Int), .int .u64 (qu : Int), .int .i64 qi, .int .u64 (MF.key s1 : Nat), .string qt, .bool qb]) 3).run Tryz.prog w = .ok (.int .u64 (MF.key s1 : Nat)) w := fun _ => by kernel_rfl
                have S2 := HS1.out.call hp hk2 he2
                have ho2 := HV.out.own2 hp hk2
                have rX := (hk2.block wr.heap.size (by simp) (by show ¬ wr.heap.size = p; omega)).trans (heap_alloc_new wr _)
                clear hk2 he2
                have cE := fun o => cell_of_row u3 _ o _ _ (0, 0) S2.ey.row
                have c1 := fun o => cell_of_row u3 _ o _ _ (0, 0) S2.row1
                have f1 : ∀ o, u3.frozen? ⟨w.heap.size + 1, o, none⟩ = false := fun o => frozen_of_row _ _ o _ _ S2.row1
                have cR := fun o => cell_of_row u3 _ o _ _ (0, 0) S2.res
                have fR : ∀ o, u3.frozen? ⟨w.heap.size, o, none⟩ = false := fun o => frozen_of_row _ _ o _ _ S2.res
                have cX := fun o => cell_of_row u3 _ o _ _ (0, 0) rX
                have fX : ∀ o, u3.frozen? ⟨wr.heap.size, o, none⟩ = false := fun o => frozen_of_row _ _ o _ _ rX
                have HS2 := Lib.hid S2
                have HO2 := Lib.hid ho2
                have HX2 := Lib.hid rX
                clear S2 ho2 rX
                go_wp2_with fail
                refine (rnumber1_any (MF.key s1) u3 HW.out).mono ?_
                rintro e u3_ ⟨rfl, rfl⟩
                rw [HB.out]
                go_wp2_with fail
                clear cE c1 f1 cR fR cX fX
                generalize hv3 : World.setCell _ _ _ = v3
                have S3 := show NSt w p A c bs _ _ _ v3 by rw [← hv3]; exact HS2.out.far hp hA (Kp.setCell (p := ⟨wr.heap.size, 0, none⟩) (Kp.refl _ _) (Or.inl hsz) _)
                have ho3 : v3.ownsRow 0 88 2 (.slice A2 xs.length c2) xs.length (itCells xs) := by rw [← hv3]; exact own_set HO2.out hob
                have rX3 : v3.heap[wr.heap.size]? = some (.cells #[.float .f64 (s1), .string ⟨#[]⟩] 88 (0, 0)) := by rw [← hv3]; exact heap_setCell_same _ _ _ _ _ _ HX2.out
                clear hv3 HS2 HO2 HX2
                clear hfd3
                have hfd : ∀ w : World, (Instr.field 115 (.agg #[.int .u8 0, .int .u64 0, .int .i64 0, .int .u64 0, .string ⟨#[]⟩, .bool false]) 4).run Tryz.prog w = .ok (.string ⟨#[]⟩) w := fun _ => by kernel_rfl
                refine (HY.out _ S3.ey).mono ?_
                rintro e u4 ⟨hk4, rfl, he4⟩
                have S4 := S3.call hp hk4 he4
                have ho4 := hk4.own ho3 (fun k e x => by rw [ownBlock_slice] at e; have := HV.out.new k e; have x' : k = p := x; omega)
                have rX4 := (hk4.block _ (lt_of_heap rX3) (by show ¬ wr.heap.size = p; omega)).trans rX3
                clear hk4 he4 S3 ho3 rX3
                have cE := fun o => cell_of_row u4 _ o _ _ (0, 0) S4.ey.row
                have c1 := fun o => cell_of_row u4 _ o _ _ (0, 0) S4.row1
                have f1 : ∀ o, u4.frozen? ⟨w.heap.size + 1, o, none⟩ = false := fun o => frozen_of_row _ _ o _ _ S4.row1
                have cR := fun o => cell_of_row u4 _ o _ _ (0, 0) S4.res
                have fR : ∀ o, u4.frozen? ⟨w.heap.size, o, none⟩ = false := fun o => frozen_of_row _ _ o _ _ S4.res
                have cX := fun o => cell_of_row u4 _ o _ _ (0, 0) rX4
                have fX : ∀ o, u4.frozen? ⟨wr.heap.size, o, none⟩ = false := fun o => frozen_of_row _ _ o _ _ rX4
                have HS4 := Lib.hid (show NSt w p A c bs (at_ + (n0 + (n1 + (n2 + (d + (n3 + n)))))) code _ _ by rw [show at_ + (n0 + (n1 + (n2 + (d + (n3 + n))))) = at_ + n0 + n1 + n2 + d + n3 + n by omega]; exact S4.far hp hA (Kp.setCell (p := ⟨wr.heap.size, 1, none⟩) (Kp.refl _ _) (Or.inl hsz) (.string ⟨#[]⟩)))
                clear S4 rX4
                have hne1 : ¬ w.heap.size + 1 = wr.heap.size := by omega
                have Hz := Lib.hid (show u4.heap.size = (u4.setCell ⟨wr.heap.size, 1, none⟩ (.string ⟨#[]⟩)).heap.size by simp)
                have Hone := Lib.hid (show ∀ u ∈ [Value.float .f64 s1, .string ⟨#[]⟩], u.oneCell' = true from by intro u hu; simp at hu; rcases hu with rfl | rfl <;> rfl)
                go_wp2_with (first
                  | (at_builtin
                     refine wpList_append_at rfl (.tmp 88) (.tmp 90) _ _ rfl 88 i0 _ 2 24 Tryz.underlying23 hi0 hz0 hz1 hz2 rfl A2 xs.length c2 (itCells xs) rfl ((own_set ho4 hob).alloc _) _ 1 _ rfl (src_at Tryz.underlying23 _ _ _ rfl Hone.out Hz.out) hl1.len (hl1.fit 24 (by omega)) ?_
                     intro A3 c3 w3 ho3 hg3 hat3
                     have S9 := HS4.out.app hp hA HV.out.new hg3
                     have f9 : ∀ o, w3.frozen? ⟨w.heap.size + 1, o, none⟩ = false := fun o => frozen_of_row _ _ o _ _ S9.row1
                     have c9 := fun o => cell_of_row w3 _ o _ _ (0, 0) S9.row1
                     clear S9))
                go_roundw
                case rel => exact ⟨i + 1, by go_num, by omega, HV.out.fail hp hA Hb.out hc HS4.out hg3 _⟩
                case measure => simp [intOf]; omega
              | ok t n =>
                rw [hT] at hY
                have HI := Lib.hid (show itR 9 (bs.drop (at_ + n0 + n1 + n2 + d)) = .ok ⟨s1, ⟨t.toArray⟩⟩ (n3 + n) by rw [itR9, andR_ok hFl, List.drop_drop, hT]; rfl)
                have HY := Lib.hid hY
                clear hY hT hFl
                go_wp2_with fail
                clear cE c1 f1 cR fR
                refine (HF.out _ HS1.out.ey).mono ?_
                rintro e u3 ⟨hk2, ⟨qk, qu, qi, qq, qt, qb, hpl, rfl⟩, he2⟩
                have hqi : qq = MF.key s1 := congrArg PK.Rp.p hpl
                subst hqi
                clear hpl
                have hfd3 : ∀ w : World, (Instr.field 115 (.agg #[.int .u8 (qk : Int), .int .u64 (qu : Int), .int .i64 qi, .int .u64 (MF.key s1 : Nat), .string qt, .bool qb]) 3).run Tryz.prog w = .ok (.int .u64 (MF.key s1 : Nat)) w := fun _ => by kernel_rfl
                have S2 := HS1.out.call hp hk2 he2
                have ho2 := HV.out.own2 hp hk2
                have rX := (hk2.block wr.heap.size (by simp) (by show ¬ wr.heap.size = p; omega)).trans (heap_alloc_new wr _)
                clear hk2 he2
                have cE := fun o => cell_of_row u3 _ o _ _ (0, 0) S2.ey.row
                have c1 := fun o => cell_of_row u3 _ o _ _ (0, 0) S2.row1
                have f1 : ∀ o, u3.frozen? ⟨w.heap.size + 1, o, none⟩ = false := fun o => frozen_of_row _ _ o _ _ S2.row1
                have cR := fun o => cell_of_row u3 _ o _ _ (0, 0) S2.res
                have fR : ∀ o, u3.frozen? ⟨w.heap.size, o, none⟩ = false := fun o => frozen_of_row _ _ o _ _ S2.res
                have cX := fun o => cell_of_row u3 _ o _ _ (0, 0) rX
                have fX : ∀ o, u3.frozen? ⟨wr.heap.size, o, none⟩ = false := fun o => frozen_of_row _ _ o _ _ rX
                have HS2 := Lib.hid S2
                have HO2 := Lib.hid ho2
                have HX2 := Lib.hid rX
                clear S2 ho2 rX
                go_wp2_with fail
                refine (rnumber1_any (MF.key s1) u3 HW.out).mono ?_
                rintro e u3_ ⟨rfl, rfl⟩
                rw [HB.out]
                go_wp2_with fail
                clear cE c1 f1 cR fR cX fX
                generalize hv3 : World.setCell _ _ _ = v3
                have S3 := show NSt w p A c bs _ _ _ v3 by rw [← hv3]; exact HS2.out.far hp hA (Kp.setCell (p := ⟨wr.heap.size, 0, none⟩) (Kp.refl _ _) (Or.inl hsz) _)
                have ho3 : v3.ownsRow 0 88 2 (.slice A2 xs.length c2) xs.length (itCells xs) := by rw [← hv3]; exact own_set HO2.out hob
                have rX3 : v3.heap[wr.heap.size]? = some (.cells #[.float .f64 (s1), .string ⟨#[]⟩] 88 (0, 0)) := by rw [← hv3]; exact heap_setCell_same _ _ _ _ _ _ HX2.out
                clear hv3 HS2 HO2 HX2
                clear hfd3
                refine (HY.out _ S3.ey).mono ?_
                rintro e u4 ⟨hk4, ⟨rk, ru, ri, rq, rt, rb, hpl, rfl⟩, he4⟩
                have hqi : rt = ⟨t.toArray⟩ := congrArg PK.Rp.s hpl
                subst hqi
                clear hpl
                have hfd : ∀ w : World, (Instr.field 115 (.agg #[.int .u8 (rk : Int), .int .u64 (ru : Int), .int .i64 ri, .int .u64 (rq : Int), .string ⟨t.toArray⟩, .bool rb]) 4).run Tryz.prog w = .ok (.string ⟨t.toArray⟩) w := fun _ => by kernel_rfl
                have S4 := S3.call hp hk4 he4
                have ho4 := hk4.own ho3 (fun k e x => by rw [ownBlock_slice] at e; have := HV.out.new k e; have x' : k = p := x; omega)
                have rX4 := (hk4.block _ (lt_of_heap rX3) (by show ¬ wr.heap.size = p; omega)).trans rX3
                clear hk4 he4 S3 ho3 rX3
                have cE := fun o => cell_of_row u4 _ o _ _ (0, 0) S4.ey.row
                have c1 := fun o => cell_of_row u4 _ o _ _ (0, 0) S4.row1
                have f1 : ∀ o, u4.frozen? ⟨w.heap.size + 1, o, none⟩ = false := fun o => frozen_of_row _ _ o _ _ S4.row1
                have cR := fun o => cell_of_row u4 _ o _ _ (0, 0) S4.res
                have fR : ∀ o, u4.frozen? ⟨w.heap.size, o, none⟩ = false := fun o => frozen_of_row _ _ o _ _ S4.res
                have cX := fun o => cell_of_row u4 _ o _ _ (0, 0) rX4
                have fX : ∀ o, u4.frozen? ⟨wr.heap.size, o, none⟩ = false := fun o => frozen_of_row _ _ o _ _ rX4
                have HS4 := Lib.hid (show NSt w p A c bs (at_ + n0 + n1 + n2 + d + (n3 + n)) 0 _ _ by rw [← Nat.add_assoc]; exact S4.far hp hA (Kp.setCell (p := ⟨wr.heap.size, 1, none⟩) (Kp.refl _ _) (Or.inl hsz) (.string ⟨t.toArray⟩)))
                clear S4 rX4
                have hne1 : ¬ w.heap.size + 1 = wr.heap.size := by omega
                have Hz := Lib.hid (show u4.heap.size = (u4.setCell ⟨wr.heap.size, 1, none⟩ (.string ⟨t.toArray⟩)).heap.size by simp)
                have Hone := Lib.hid (show ∀ u ∈ [Value.float .f64 s1, .string ⟨t.toArray⟩], u.oneCell' = true from by intro u hu; simp at hu; rcases hu with rfl | rfl <;> rfl)
                go_wp2_with (first
                  | (at_builtin
                     refine wpList_append_at rfl (.tmp 88) (.tmp 90) _ _ rfl 88 i0 _ 2 24 Tryz.underlying23 hi0 hz0 hz1 hz2 rfl A2 xs.length c2 (itCells xs) rfl ((own_set ho4 hob).alloc _) _ 1 _ rfl (src_at Tryz.underlying23 _ _ _ rfl Hone.out Hz.out) hl1.len (hl1.fit 24 (by omega)) ?_
                     intro A3 c3 w3 ho3 hg3 hat3
                     have S9 := HS4.out.app hp hA HV.out.new hg3
                     have f9 : ∀ o, w3.frozen? ⟨w.heap.size + 1, o, none⟩ = false := fun o => frozen_of_row _ _ o _ _ S9.row1
                     have c9 := fun o => cell_of_row w3 _ o _ _ (0, 0) S9.row1
                     clear S9))
                go_roundw
                case rel => exact ⟨i + 1, by go_num, by omega, HV.out.next hp hA hlt HI.out HS4.out hg3 hat3 ho3⟩
                case measure => simp [intOf]; omega
          · have hi' : i = N := by omega
            subst hi'
            have hsp := hv.spec
            rw [Nat.sub_self] at hsp
            have hits : itsR 9 i (bs.drop (at_ + n0 + n1 + n2)) = .ok xs d := hsp.trans (by show Res.ok (xs ++ []) (d + 0) = _; simp)
            have Hf := Lib.hid (HfG.out xs d hits)
            have hl32 : xs.length ≤ 32 := by have := hv.len; omega
            have S := hv.st
            have cE := fun o => cell_of_row wr _ o _ _ (0, 0) S.ey.row
            have c1 := fun o => cell_of_row wr _ o _ _ (0, 0) S.row1
            have f1 : ∀ o, wr.frozen? ⟨w.heap.size + 1, o, none⟩ = false := fun o => frozen_of_row _ _ o _ _ S.row1
            have cR := fun o => cell_of_row wr _ o _ _ (0, 0) S.res
            have fR : ∀ o, wr.frozen? ⟨w.heap.size, o, none⟩ = false := fun o => frozen_of_row _ _ o _ _ S.res
            have HS := Lib.hid S
            have HO := Lib.hid hv.own
            have HN := Lib.hid hv.new
            clear S hsp hits HfG HfB hv
            go_wp2_with fail
            clear cE c1 f1 cR fR
            have hqo := (fieldR_one (by omega) Hf.out).2.2.1
            refine (rcheck_any ⟨9, 0, 0, 0, 0, (x1 : Int), ⟨#[]⟩, xs⟩ A2 c2 wr hqo (Its.own HO.out) (by show Lim xs.length; unfold Lim; omega)).mono ?_
            rintro e w3 ⟨rfl, hb3⟩
            have HS3 := Lib.hid (HS.out.below hb3)
            have HO3 := Lib.hid (own_below HO.out hb3)
            clear hb3
            go_wp2_with fail
            refine (efail_yes p A c bs _ _ w3 HS3.out.ey).mono ?_
            rintro e w4 ⟨rfl, he4, hk4⟩
            have S4 := HS3.out.call hp hk4 he4
            have HO4 := Lib.hid (hk4.own HO3.out (fun k e x => by rw [ownBlock_slice] at e; have := HN.out k e; have x' : k = p := x; omega))
            clear hk4 he4 HO3 HS3
            rcases Nat.eq_zero_or_pos (RC.chk ⟨9, 0, 0, 0, 0, (x1 : Int), ⟨#[]⟩, xs⟩) with hc | hc
            · have HC := Lib.hid (recR_ok HK.out Hf.out hc)
              rw [hc] at S4
              have cE := fun o => cell_of_row w4 _ o _ _ (0, 0) S4.ey.row
              have c1 := fun o => cell_of_row w4 _ o _ _ (0, 0) S4.row1
              have f1 : ∀ o, w4.frozen? ⟨w.heap.size + 1, o, none⟩ = false := fun o => frozen_of_row _ _ o _ _ S4.row1
              have cR := fun o => cell_of_row w4 _ o _ _ (0, 0) S4.res
              have fR : ∀ o, w4.frozen? ⟨w.heap.size, o, none⟩ = false := fun o => frozen_of_row _ _ o _ _ S4.res
              have HS4 := Lib.hid S4
              clear hc S4
              go_wp2_with fail
              refine bodyPost_ret (v := recV ⟨9, 0, 0, 0, 0, (x1 : Int), ⟨#[]⟩, xs⟩ A2 c2) (by simp [results, Tryz.results89, go_sem, cR]) rfl ?_
              rw [HC.out]
              refine ⟨?_, ⟨A2, c2, rfl, ?_, fun k e => by have := HN.out k e; omega⟩, ?_⟩
              · iterate 8 refine Kp.setCell ?_ (Or.inr (by simp)) _
                exact HS4.out.kp
              · refine Kp.own (S := fun k => k = w.heap.size) ?_ HO4.out (fun k e x => by rw [ownBlock_slice] at e; have := HN.out k e; have x' : k = w.heap.size := x; omega)
                iterate 8 refine Kp.setCell ?_ (Or.inl (by exact rfl)) _
                exact Kp.refl _ _
              · rw [show at_ + (n0 + (n1 + (n2 + d))) = at_ + n0 + n1 + n2 + d by omega]
                refine HS4.out.ey.far hp hA ?_
                iterate 8 refine Kp.setCell ?_ (Or.inl (by simp)) _
                exact Kp.refl _ _
            · have HC := Lib.hid (recR_no HK.out Hf.out (by omega))
              generalize RC.chk _ = code at *
              have h1 : ((code : Int) == 0) = false := by simp; omega
              have h2 : ((code : Int) != 0) = true := by simp; omega
              have cE := fun o => cell_of_row w4 _ o _ _ (0, 0) S4.ey.row
              have c1 := fun o => cell_of_row w4 _ o _ _ (0, 0) S4.row1
              have f1 : ∀ o, w4.frozen? ⟨w.heap.size + 1, o, none⟩ = false := fun o => frozen_of_row _ _ o _ _ S4.row1
              have cR := fun o => cell_of_row w4 _ o _ _ (0, 0) S4.res
              have fR : ∀ o, w4.frozen? ⟨w.heap.size, o, none⟩ = false := fun o => frozen_of_row _ _ o _ _ S4.res
              have HS4 := Lib.hid S4
              clear hc S4
              go_wp2_with fail
              refine bodyPost_ret (v := .agg zeroC) (by simp [results, Tryz.results89, go_sem, cR]) rfl ?_
              refine NPost.bad HC.out ?_ (by omega) (HS4.out.ey.far hp hA ?_)
              · iterate 8 refine Kp.setCell ?_ (Or.inr (by simp)) _
                exact HS4.out.kp
              · iterate 8 refine Kp.setCell ?_ (Or.inl (by simp)) _
                exact Kp.refl _ _
        · have S := hv.st
          have hc := hv.pos
          have h1 : ((code : Int) == 0) = false := by simp; omega
          have h2 : ((code : Int) != 0) = true := by simp; omega
          have Hf := Lib.hid hv.spec
          have cE := fun o => cell_of_row wr _ o _ _ (0, 0) S.ey.row
          have c1 := fun o => cell_of_row wr _ o _ _ (0, 0) S.row1
          have f1 : ∀ o, wr.frozen? ⟨w.heap.size + 1, o, none⟩ = false := fun o => frozen_of_row _ _ o _ _ S.row1
          have cR := fun o => cell_of_row wr _ o _ _ (0, 0) S.res
          have fR : ∀ o, wr.frozen? ⟨w.heap.size, o, none⟩ = false := fun o => frozen_of_row _ _ o _ _ S.res
          have HS := Lib.hid S
          clear S hv HfG HfB
          by_cases hlt : i < N
          · have hi1 : (i : Int) < (N : Int) := by omega
            go_wp2_with fail
            refine bodyPost_ret (v := .agg zeroC) (by simp [results, Tryz.results89, go_sem, cR]) rfl ?_
            refine NPost.bad Hf.out ?_ rfl (HS.out.ey.far hp hA ?_)
            · iterate 8 refine Kp.setCell ?_ (Or.inr (by simp)) _
              exact HS.out.kp
            · iterate 8 refine Kp.setCell ?_ (Or.inl (by simp)) _
              exact Kp.refl _ _
          · have hi1 : ¬ (i : Int) < (N : Int) := by omega
            go_wp2_with fail
            refine bodyPost_ret (v := .agg zeroC) (by simp [results, Tryz.results89, go_sem, cR]) rfl ?_
            refine NPost.bad Hf.out ?_ rfl (HS.out.ey.far hp hA ?_)
            · iterate 8 refine Kp.setCell ?_ (Or.inr (by simp)) _
              exact HS.out.kp
            · iterate 8 refine Kp.setCell ?_ (Or.inl (by simp)) _
              exact Kp.refl _ _

end Go.Proofs.YtaaeefndhmfceaaGreatDoor
/- Contracts of the document's own answers for layer 3: the record that bytes are. -/
namespace Go.Proofs.YtaaeefndhmfceaaGreatDoor
open Go.RowKit MM

/-! ### an error's number is none of OK's -/
def PosR {α : Type} (r : Res α) : Prop := ∀ e n, r = .bad e n → 0 < e
section
variable {α β : Type}
theorem PosR.ok (x : α) (n : Nat) : PosR (.ok x n) := fun _ _ h => by cases h
theorem PosR.map {r : Res α} {f : α → β} (h : PosR r) : PosR (Res.map f r) := by
  intro e n hh
  cases r with
  | ok x k => cases hh
  | bad c k => injection hh with h1 h2; subst h1; exact h c k rfl
theorem PosR.and {r : Res α} {l : List UInt8} {f : α → List UInt8 → Res β} (h : PosR r) (hf : ∀ x m, PosR (f x m)) : PosR (andR r l f) := by
  intro e n hh
  cases r with
  | bad c k => injection hh with h1 h2; subst h1; exact h c k rfl
  | ok x k =>
    have hh : shiftR k (f x (l.drop k)) = .bad e n := hh
    cases hq : f x (l.drop k) with
    | ok y j => rw [hq] at hh; cases hh
    | bad c j => rw [hq] at hh; injection hh with h1 h2; subst h1; exact hf x _ c j hq
end
theorem PosR.num (l : List UInt8) : PosR (numR l) := fun _ _ h => numR_bad_pos h
theorem PosR.upto (m : Int) (l : List UInt8) : PosR (uptoR m l) := fun _ _ h => uptoR_bad_pos h
theorem PosR.flo (l : List UInt8) : PosR (floR l) := fun e n h => partR_bad_pos (k := 102) (m := 0) (l := l) (e := e) (n := n) (by show Res.map _ (floR l) = _; rw [h]; rfl)
theorem PosR.txt (m : Int) (l : List UInt8) : PosR (txtR m l) := fun e n h => partR_bad_pos (k := 115) (m := m) (l := l) (e := e) (n := n) (by show Res.map _ (txtR m l) = _; rw [h]; rfl)
theorem PosR.flag (l : List UInt8) : PosR (flagR l) := fun e n h => partR_bad_pos (k := 98) (m := 0) (l := l) (e := e) (n := n) (by show Res.map _ (flagR l) = _; rw [h]; rfl)
theorem PosR.it (k : Nat) (l : List UInt8) : PosR (itR k l) := by
  unfold itR
  split
  · exact (PosR.flo l).and fun _ m => (PosR.txt 16 m).map
  · exact (PosR.txt 16 l).map
theorem PosR.its (k : Nat) : ∀ (m : Nat) (l : List UInt8), PosR (itsR k m l)
  | 0, _ => PosR.ok _ _
  | m + 1, l => (PosR.it k l).and fun _ q => (PosR.its k m q).map
theorem PosR.field (k : Nat) (l : List UInt8) : PosR (fieldR k l) := by
  unfold fieldR
  repeat' split
  · exact (PosR.txt 64 l).map
  · exact (PosR.num l).map
  · exact (PosR.num l).and fun _ q => (PosR.num q).and fun _ q => (PosR.num q).map
  · exact (PosR.flo l).map
  · exact (PosR.upto 32 l).and fun _ q => (PosR.upto 32 q).and fun _ q => (PosR.its _ _ q).map
theorem PosR.endC (r : RC.Rc) : PosR (endC r) := by
  intro e n h
  unfold Go.Proofs.YtaaeefndhmfceaaGreatDoor.endC at h
  split at h
  · cases h
  · injection h with h1 h2; omega
theorem PosR.rc (l : List UInt8) : PosR (recR l) := by
  refine (PosR.upto 9 l).and fun k q => ?_
  unfold bodyR
  split
  · intro e n h; injection h with h1 h2; omega
  · exact (PosR.field k q).and fun r _ => PosR.endC r

theorem rnext_any (p : Nat) (A : Option Addr) (c : Nat) (bs : List UInt8) (at_ : Nat) (w : World) (he : Ey w p A c bs at_ 0) (hA : bs ≠ [] → ∀ ad, A = some ad → ad.block < w.heap.size) :
    Calls Tryz.prog 89 #[.pointer (some ⟨p, 0, none⟩)] w (NPost p A c bs at_ (recR (bs.drop at_)) w) := by
  cases hU : uptoR 9 (bs.drop at_) with
  | bad code n =>
    rw [show recR (bs.drop at_) = .bad code n by unfold recR; rw [andR_bad hU]]
    exact next_kind code n p A c bs at_ w he hU (uptoR_bad_pos hU) hA
  | ok k n =>
    have hk : k ≤ 9 := (uptoR_one hU).2.2
    have hc : k = 0 ∨ k = 1 ∨ k = 2 ∨ k = 3 ∨ k = 4 ∨ k = 5 ∨ k = 6 ∨ k = 7 ∨ k = 8 ∨ k = 9 := by omega
    rcases hc with rfl | rfl | rfl | rfl | rfl | rfl | rfl | rfl | rfl | rfl
    · rw [show recR (bs.drop at_) = .bad 5 n by unfold recR; rw [andR_ok hU]; rfl]
      exact next_zero n p A c bs at_ w he hU hA
    · exact next_1 n p A c bs at_ w he hU hA
    · exact next_2 n p A c bs at_ w he hU hA
    · exact next_3 n p A c bs at_ w he hU hA
    · exact next_4 n p A c bs at_ w he hU hA
    · exact next_5 n p A c bs at_ w he hU hA
    · exact next_6 n p A c bs at_ w he hU hA
    · exact next_7 n p A c bs at_ w he hU hA
    · exact next_8 n p A c bs at_ w he hU hA
    · exact next_9 n p A c bs at_ w he hU hA

theorem below8 {B : Nat} {w0 w : World} {g : Nat} {c0 c1 c2 c3 c4 c5 c6 c7 : Value} (h : Below B w0 w) (hg : B ≤ g) : Below B w0 ((((((((w.setCell ⟨g, 0, none⟩ c0).setCell ⟨g, 1, none⟩ c1).setCell ⟨g, 2, none⟩ c2).setCell ⟨g, 3, none⟩ c3).setCell ⟨g, 4, none⟩ c4).setCell ⟨g, 5, none⟩ c5).setCell ⟨g, 6, none⟩ c6).setCell ⟨g, 7, none⟩ c7) := by
  iterate 8 refine Below.setCell ?_ hg _
  exact h
theorem kp8 {w0 w : World} {g : Nat} {c0 c1 c2 c3 c4 c5 c6 c7 : Value} (h : Kp (fun k => k = g) w0 w) : Kp (fun k => k = g) w0 ((((((((w.setCell ⟨g, 0, none⟩ c0).setCell ⟨g, 1, none⟩ c1).setCell ⟨g, 2, none⟩ c2).setCell ⟨g, 3, none⟩ c3).setCell ⟨g, 4, none⟩ c4).setCell ⟨g, 5, none⟩ c5).setCell ⟨g, 6, none⟩ c6).setCell ⟨g, 7, none⟩ c7) := by
  iterate 8 refine Kp.setCell ?_ (Or.inl (by exact rfl)) _
  exact h

/-- What Read answers. -/
def NRPost (r : Res RC.Rc) (w : World) (e : Ending) (w' : World) : Prop :=
  Below w.heap.size w w' ∧ match r with
  | .ok x _ => ∃ A' c', e = .returned (.tuple #[recV x A' c', .int .i64 0, .int .i64 0]) ∧ w'.ownsRow 0 88 2 (.slice A' x.list.length c') x.list.length (itCells x.list)
  | .bad code n => e = .returned (.tuple #[recV RC.zero none 0, .int .i64 (code : Nat), .int .i64 (n : Nat)])
theorem Ey.new {w : World} {A : Option Addr} {c : Nat} {bs : List UInt8} (o : Obj) (hb : Bts w A bs) (hl : Lim bs.length) (hc : bs.length ≤ c) :
    Ey ((w.alloc o).alloc (.cells #[.slice A bs.length c, .int .i64 0, .int .i64 0] 77)) (w.heap.size + 1) A c bs 0 0 :=
  ⟨heap_alloc2_new w _ _, (hb.alloc _).alloc _, fun h ad e => by have := hb.inside h ad e; omega, hc, Nat.zero_le _, hl⟩

end Go.Proofs.YtaaeefndhmfceaaGreatDoor
