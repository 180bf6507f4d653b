/- Contracts of the document's own answers for layer 3: the next record with three numbers. -/
import Derived.Test.YtafjginegipakaaDoorEyeO
namespace Go.Proofs.YtafjginegipakaaDoor
open Go.RowKit MM

set_option maxHeartbeats 2000000 in
set_option maxRecDepth 100000 in
theorem next_4 (n0 : Nat) (p : Nat) (A : Option Addr) (c : Nat) (bs : List UInt8) (at_ : Nat) (w : World) (he : Ey w p A c bs at_ 0) (hU : uptoR 9 (bs.drop at_) = .ok 4 n0) (hA : bs ≠ [] → ∀ ad, A = some ad → ad.block < w.heap.size) :
    Calls Tryd.prog 55 #[.pointer (some ⟨p, 0, none⟩)] w (NPost p A c bs at_ (recR (bs.drop at_)) w) := by
  have hp := lt_of_heap he.row
  have hK : kindR (bs.drop at_) = .ok 4 n0 := by unfold kindR; rw [andR_ok hU]; rfl
  have HX := Lib.hid (fun w' (he' : Ey w' p A c bs at_ 0) => eupto_any p A c bs at_ 9 w' (by omega) he')
  rw [show ((9 : Nat) : Int) = 9 from rfl, hU] at HX
  have HE := Lib.hid he
  have HK := Lib.hid hK
  clear he hU hK
  have hY := fun w' (he' : Ey w' p A c bs (at_ + n0) 0) => epart_any p A c bs (at_ + n0) 105 0 w' (by omega) rfl he'
  rw [show partR 105 0 (bs.drop (at_ + n0)) = Res.map (fun n => { PK.zeroPt 105 with i := PK.zag n }) (numR (bs.drop (at_ + n0))) from rfl] at hY
  cases hN1 : numR (bs.drop (at_ + n0)) with
  | bad code n =>
    rw [hN1] at hY
    have HY1 := Lib.hid hY
    have Hf := Lib.hid (recR_bad2 HK.out (show fieldR 4 ((bs.drop at_).drop n0) = .bad code (n) by rw [List.drop_drop, fieldR4, andR_bad hN1]))
    have hc := numR_bad_pos hN1
    have h1 : ((code : Int) == 0) = false := by simp; omega
    have h2 : ((code : Int) != 0) = true := by simp; omega
    clear hY hN1
    go_enter Tryd.func55, Tryd.ntmps55
    go_wp2_with fail
    refine (HX.out _ (HE.out.below (below2 w _ _))).mono ?_
    rintro e w1 ⟨hk1, rfl, he1⟩
    have r0 := (hk1.block w.heap.size (by simp only [World.size_alloc]; omega) (by show ¬ w.heap.size = p; omega)).trans (heap_alloc2_old w _ _)
    have r1 := (hk1.block (w.heap.size + 1) (by simp only [World.size_alloc]; omega) (by show ¬ w.heap.size + 1 = p; omega)).trans (heap_alloc2_new w _ _)
    have c1 := fun o => cell_of_row w1 _ o _ _ (0, 0) r1
    have f1 : ∀ o, w1.frozen? ⟨w.heap.size + 1, o, none⟩ = false := fun o => frozen_of_row _ _ o _ _ r1
    have HK1 := Lib.hid (show Kp (fun k => k = p) w w1 from (((Kp.refl _ w).alloc _).alloc _).same hk1)
    have R0 := Lib.hid r0
    have R1 := Lib.hid r1
    have HE1 := Lib.hid he1
    clear r0 r1 hk1 he1
    go_wp2_with fail
    generalize hv1 : World.setCell _ _ _ = v1
    have kv : Kp (fun k => w.heap.size ≤ k) w1 v1 := by rw [← hv1]; exact Kp.setCell (Kp.refl _ _) (Or.inl (by show w.heap.size ≤ w.heap.size + 1; omega)) _
    have heV := HE1.out.far hp hA kv
    have HKv := Lib.hid (show Kp (fun k => k = p) w v1 by rw [← hv1]; exact Kp.setCell HK1.out (Or.inr (by show w.heap.size ≤ w.heap.size + 1; omega)) _)
    have O1 := Lib.hid (show v1.heap[w.heap.size + 1]? = some (.cells (recC 4 0 0 0 0 0 ⟨#[]⟩ (.slice none 0 0)) 27 (0, 0)) by rw [← hv1]; exact heap_setCell_same _ _ _ _ _ _ R1.out)
    have Q1 := Lib.hid ((show v1.heap[w.heap.size]? = _ by rw [← hv1]; exact heap_setCell_other _ _ _ _ (by show w.heap.size ≠ w.heap.size + 1; omega)).trans R0.out)
    clear hv1 kv c1 f1 R0 R1 HK1 HE1
    have hfdz : ∀ w : World, (Instr.field 135 (.agg #[.int .u8 0, .int .u64 0, .int .i64 0, .int .u64 0, .string ⟨#[]⟩, .bool false]) 2).run Tryd.prog w = .ok (.int .i64 (0)) w := fun _ => by kernel_rfl
    refine (HY1.out _ heV).mono ?_
    rintro e u1 ⟨hk2, rfl, he2⟩
    have r0 := (hk2.block _ (lt_of_heap Q1.out) (by show ¬ w.heap.size = p; omega)).trans Q1.out
    have r1 := (hk2.block _ (lt_of_heap O1.out) (by show ¬ w.heap.size + 1 = p; omega)).trans O1.out
    have c1 := fun o => cell_of_row u1 _ o _ _ (0, 0) r1
    have f1 : ∀ o, u1.frozen? ⟨w.heap.size + 1, o, none⟩ = false := fun o => frozen_of_row _ _ o _ _ r1
    have cR := fun o => cell_of_row u1 _ o _ _ (0, 0) r0
    have fR : ∀ o, u1.frozen? ⟨w.heap.size, o, none⟩ = false := fun o => frozen_of_row _ _ o _ _ r0
    have cE := fun o => cell_of_row u1 _ o _ _ (0, 0) he2.row
    have HE2 := Lib.hid he2
    have HK2 := Lib.hid (HKv.out.same hk2)
    have RO := Lib.hid r1
    have RR := Lib.hid r0
    clear r0 r1 he2 hk2
    go_wp2_with fail
    generalize hv2 : World.setCell _ _ _ = v2
    have kv2 : Kp (fun k => w.heap.size ≤ k) u1 v2 := by rw [← hv2]; exact Kp.setCell (Kp.refl _ _) (Or.inl (by show w.heap.size ≤ w.heap.size + 1; omega)) _
    have heV2 := HE2.out.far hp hA kv2
    have HKv2 := Lib.hid (show Kp (fun k => k = p) w v2 by rw [← hv2]; exact Kp.setCell HK2.out (Or.inr (by show w.heap.size ≤ w.heap.size + 1; omega)) _)
    have O2 := Lib.hid (show v2.heap[w.heap.size + 1]? = some (.cells (recC 4 (0) (0) (0) 0 0 ⟨#[]⟩ (.slice none 0 0)) 27 (0, 0)) by rw [← hv2]; exact heap_setCell_same _ _ _ _ _ _ RO.out)
    have Q2 := Lib.hid ((show v2.heap[w.heap.size]? = _ by rw [← hv2]; exact heap_setCell_other _ _ _ _ (by show w.heap.size ≠ w.heap.size + 1; omega)).trans RR.out)
    clear hv2 kv2 c1 f1 cR fR cE HE2 HK2 RO RR HKv O1 Q1 heV
    refine (epart_no p A c bs _ code 105 0 _ hc heV2).mono ?_
    rintro e u2 ⟨rfl, hb2⟩
    have he2 := heV2.below hb2
    have hk2 : Kp (fun k => k = p) v2 u2 := Kp.of_below hb2 _
    clear hb2
    have r0 := (hk2.block _ (lt_of_heap Q2.out) (by show ¬ w.heap.size = p; omega)).trans Q2.out
    have r1 := (hk2.block _ (lt_of_heap O2.out) (by show ¬ w.heap.size + 1 = p; omega)).trans O2.out
    have c1 := fun o => cell_of_row u2 _ o _ _ (0, 0) r1
    have f1 : ∀ o, u2.frozen? ⟨w.heap.size + 1, o, none⟩ = false := fun o => frozen_of_row _ _ o _ _ r1
    have cR := fun o => cell_of_row u2 _ o _ _ (0, 0) r0
    have fR : ∀ o, u2.frozen? ⟨w.heap.size, o, none⟩ = false := fun o => frozen_of_row _ _ o _ _ r0
    have cE := fun o => cell_of_row u2 _ o _ _ (0, 0) he2.row
    have HE2 := Lib.hid he2
    have HK2 := Lib.hid (HKv2.out.same hk2)
    have RO := Lib.hid r1
    have RR := Lib.hid r0
    clear r0 r1 he2 hk2
    go_wp2_with fail
    generalize hv2 : World.setCell _ _ _ = v3
    have kv2 : Kp (fun k => w.heap.size ≤ k) u2 v3 := by rw [← hv2]; exact Kp.setCell (Kp.refl _ _) (Or.inl (by show w.heap.size ≤ w.heap.size + 1; omega)) _
    have heV3 := HE2.out.far hp hA kv2
    have HKv3 := Lib.hid (show Kp (fun k => k = p) w v3 by rw [← hv2]; exact Kp.setCell HK2.out (Or.inr (by show w.heap.size ≤ w.heap.size + 1; omega)) _)
    have O3 := Lib.hid (show v3.heap[w.heap.size + 1]? = some (.cells (recC 4 (0) (0) (0) 0 0 ⟨#[]⟩ (.slice none 0 0)) 27 (0, 0)) by rw [← hv2]; exact heap_setCell_same _ _ _ _ _ _ RO.out)
    have Q3 := Lib.hid ((show v3.heap[w.heap.size]? = _ by rw [← hv2]; exact heap_setCell_other _ _ _ _ (by show w.heap.size ≠ w.heap.size + 1; omega)).trans RR.out)
    clear hv2 kv2 c1 f1 cR fR cE HE2 HK2 RO RR HKv2 O2 Q2 heV2
    refine (epart_no p A c bs _ code 105 0 _ hc heV3).mono ?_
    rintro e u3 ⟨rfl, hb2⟩
    have he2 := heV3.below hb2
    have hk2 : Kp (fun k => k = p) v3 u3 := Kp.of_below hb2 _
    clear hb2
    have r0 := (hk2.block _ (lt_of_heap Q3.out) (by show ¬ w.heap.size = p; omega)).trans Q3.out
    have r1 := (hk2.block _ (lt_of_heap O3.out) (by show ¬ w.heap.size + 1 = p; omega)).trans O3.out
    have c1 := fun o => cell_of_row u3 _ o _ _ (0, 0) r1
    have f1 : ∀ o, u3.frozen? ⟨w.heap.size + 1, o, none⟩ = false := fun o => frozen_of_row _ _ o _ _ r1
    have cR := fun o => cell_of_row u3 _ o _ _ (0, 0) r0
    have fR : ∀ o, u3.frozen? ⟨w.heap.size, o, none⟩ = false := fun o => frozen_of_row _ _ o _ _ r0
    have cE := fun o => cell_of_row u3 _ o _ _ (0, 0) he2.row
    have HE2 := Lib.hid he2
    have HK2 := Lib.hid (HKv3.out.same hk2)
    have RO := Lib.hid r1
    have RR := Lib.hid r0
    clear r0 r1 he2 hk2
    go_wp2_with fail
    refine bodyPost_ret (v := .agg (recC 0 0 0 0 0 0 ⟨#[]⟩ (.slice none 0 0))) (by simp [results, Tryd.results55, go_sem, cR]) rfl ?_
    refine NPost.bad Hf.out ?_ (by omega) (HE2.out.far hp hA ?_)
    · iterate 9 refine Kp.setCell ?_ (Or.inr (by simp)) _
      exact HK2.out
    · iterate 9 refine Kp.setCell ?_ (Or.inl (by simp)) _
      exact Kp.refl _ _
  | ok x1 n1 =>
    rw [hN1] at hY
    have HY1 := Lib.hid hY
    clear hY
    have hY := fun w' (he' : Ey w' p A c bs (at_ + n0 + n1) 0) => epart_any p A c bs (at_ + n0 + n1) 105 0 w' (by omega) rfl he'
    rw [show partR 105 0 (bs.drop (at_ + n0 + n1)) = Res.map (fun n => { PK.zeroPt 105 with i := PK.zag n }) (numR (bs.drop (at_ + n0 + n1))) from rfl] at hY
    cases hN2 : numR (bs.drop (at_ + n0 + n1)) with
    | bad code n =>
      rw [hN2] at hY
      have HY2 := Lib.hid hY
      have Hf := Lib.hid (recR_bad2 HK.out (show fieldR 4 ((bs.drop at_).drop n0) = .bad code (n1 + (n)) by rw [List.drop_drop, fieldR4, andR_ok hN1, List.drop_drop, andR_bad hN2]; rfl))
      have hc := numR_bad_pos hN2
      have h1 : ((code : Int) == 0) = false := by simp; omega
      have h2 : ((code : Int) != 0) = true := by simp; omega
      clear hY hN1 hN2
      go_enter Tryd.func55, Tryd.ntmps55
      go_wp2_with fail
      refine (HX.out _ (HE.out.below (below2 w _ _))).mono ?_
      rintro e w1 ⟨hk1, rfl, he1⟩
      have r0 := (hk1.block w.heap.size (by simp only [World.size_alloc]; omega) (by show ¬ w.heap.size = p; omega)).trans (heap_alloc2_old w _ _)
      have r1 := (hk1.block (w.heap.size + 1) (by simp only [World.size_alloc]; omega) (by show ¬ w.heap.size + 1 = p; omega)).trans (heap_alloc2_new w _ _)
      have c1 := fun o => cell_of_row w1 _ o _ _ (0, 0) r1
      have f1 : ∀ o, w1.frozen? ⟨w.heap.size + 1, o, none⟩ = false := fun o => frozen_of_row _ _ o _ _ r1
      have HK1 := Lib.hid (show Kp (fun k => k = p) w w1 from (((Kp.refl _ w).alloc _).alloc _).same hk1)
      have R0 := Lib.hid r0
      have R1 := Lib.hid r1
      have HE1 := Lib.hid he1
      clear r0 r1 hk1 he1
      go_wp2_with fail
      generalize hv1 : World.setCell _ _ _ = v1
      have kv : Kp (fun k => w.heap.size ≤ k) w1 v1 := by rw [← hv1]; exact Kp.setCell (Kp.refl _ _) (Or.inl (by show w.heap.size ≤ w.heap.size + 1; omega)) _
      have heV := HE1.out.far hp hA kv
      have HKv := Lib.hid (show Kp (fun k => k = p) w v1 by rw [← hv1]; exact Kp.setCell HK1.out (Or.inr (by show w.heap.size ≤ w.heap.size + 1; omega)) _)
      have O1 := Lib.hid (show v1.heap[w.heap.size + 1]? = some (.cells (recC 4 0 0 0 0 0 ⟨#[]⟩ (.slice none 0 0)) 27 (0, 0)) by rw [← hv1]; exact heap_setCell_same _ _ _ _ _ _ R1.out)
      have Q1 := Lib.hid ((show v1.heap[w.heap.size]? = _ by rw [← hv1]; exact heap_setCell_other _ _ _ _ (by show w.heap.size ≠ w.heap.size + 1; omega)).trans R0.out)
      clear hv1 kv c1 f1 R0 R1 HK1 HE1
      have hfdz : ∀ w : World, (Instr.field 135 (.agg #[.int .u8 0, .int .u64 0, .int .i64 0, .int .u64 0, .string ⟨#[]⟩, .bool false]) 2).run Tryd.prog w = .ok (.int .i64 (0)) w := fun _ => by kernel_rfl
      refine (HY1.out _ heV).mono ?_
      rintro e u1 ⟨hk2, ⟨qk, qu, qi, qq, qt, qb, hpl, rfl⟩, he2⟩
      have hqi : qi = PK.zag x1 := congrArg PK.Rp.i hpl
      subst hqi
      clear hpl
      have hfd : ∀ w : World, (Instr.field 135 (.agg #[.int .u8 (qk : Int), .int .u64 (qu : Int), .int .i64 (PK.zag x1), .int .u64 (qq : Int), .string qt, .bool qb]) 2).run Tryd.prog w = .ok (.int .i64 (PK.zag x1)) w := fun _ => by kernel_rfl
      have r0 := (hk2.block _ (lt_of_heap Q1.out) (by show ¬ w.heap.size = p; omega)).trans Q1.out
      have r1 := (hk2.block _ (lt_of_heap O1.out) (by show ¬ w.heap.size + 1 = p; omega)).trans O1.out
      have c1 := fun o => cell_of_row u1 _ o _ _ (0, 0) r1
      have f1 : ∀ o, u1.frozen? ⟨w.heap.size + 1, o, none⟩ = false := fun o => frozen_of_row _ _ o _ _ r1
      have cR := fun o => cell_of_row u1 _ o _ _ (0, 0) r0
      have fR : ∀ o, u1.frozen? ⟨w.heap.size, o, none⟩ = false := fun o => frozen_of_row _ _ o _ _ r0
      have cE := fun o => cell_of_row u1 _ o _ _ (0, 0) he2.row
      have HE2 := Lib.hid he2
      have HK2 := Lib.hid (HKv.out.same hk2)
      have RO := Lib.hid r1
      have RR := Lib.hid r0
      clear r0 r1 he2 hk2
      go_wp2_with fail
      generalize hv2 : World.setCell _ _ _ = v2
      have kv2 : Kp (fun k => w.heap.size ≤ k) u1 v2 := by rw [← hv2]; exact Kp.setCell (Kp.refl _ _) (Or.inl (by show w.heap.size ≤ w.heap.size + 1; omega)) _
      have heV2 := HE2.out.far hp hA kv2
      have HKv2 := Lib.hid (show Kp (fun k => k = p) w v2 by rw [← hv2]; exact Kp.setCell HK2.out (Or.inr (by show w.heap.size ≤ w.heap.size + 1; omega)) _)
      have O2 := Lib.hid (show v2.heap[w.heap.size + 1]? = some (.cells (recC 4 (0) (PK.zag x1) (0) 0 0 ⟨#[]⟩ (.slice none 0 0)) 27 (0, 0)) by rw [← hv2]; exact heap_setCell_same _ _ _ _ _ _ RO.out)
      have Q2 := Lib.hid ((show v2.heap[w.heap.size]? = _ by rw [← hv2]; exact heap_setCell_other _ _ _ _ (by show w.heap.size ≠ w.heap.size + 1; omega)).trans RR.out)
      clear hv2 kv2 c1 f1 cR fR cE HE2 HK2 RO RR HKv O1 Q1 heV hfd
      refine (HY2.out _ heV2).mono ?_
      rintro e u2 ⟨hk2, rfl, he2⟩
      have r0 := (hk2.block _ (lt_of_heap Q2.out) (by show ¬ w.heap.size = p; omega)).trans Q2.out
      have r1 := (hk2.block _ (lt_of_heap O2.out) (by show ¬ w.heap.size + 1 = p; omega)).trans O2.out
      have c1 := fun o => cell_of_row u2 _ o _ _ (0, 0) r1
      have f1 : ∀ o, u2.frozen? ⟨w.heap.size + 1, o, none⟩ = false := fun o => frozen_of_row _ _ o _ _ r1
      have cR := fun o => cell_of_row u2 _ o _ _ (0, 0) r0
      have fR : ∀ o, u2.frozen? ⟨w.heap.size, o, none⟩ = false := fun o => frozen_of_row _ _ o _ _ r0
      have cE := fun o => cell_of_row u2 _ o _ _ (0, 0) he2.row
      have HE2 := Lib.hid he2
      have HK2 := Lib.hid (HKv2.out.same hk2)
      have RO := Lib.hid r1
      have RR := Lib.hid r0
      clear r0 r1 he2 hk2
      go_wp2_with fail
      generalize hv2 : World.setCell _ _ _ = v3
      have kv2 : Kp (fun k => w.heap.size ≤ k) u2 v3 := by rw [← hv2]; exact Kp.setCell (Kp.refl _ _) (Or.inl (by show w.heap.size ≤ w.heap.size + 1; omega)) _
      have heV3 := HE2.out.far hp hA kv2
      have HKv3 := Lib.hid (show Kp (fun k => k = p) w v3 by rw [← hv2]; exact Kp.setCell HK2.out (Or.inr (by show w.heap.size ≤ w.heap.size + 1; omega)) _)
      have O3 := Lib.hid (show v3.heap[w.heap.size + 1]? = some (.cells (recC 4 (0) (PK.zag x1) (0) 0 0 ⟨#[]⟩ (.slice none 0 0)) 27 (0, 0)) by rw [← hv2]; exact heap_setCell_same _ _ _ _ _ _ RO.out)
      have Q3 := Lib.hid ((show v3.heap[w.heap.size]? = _ by rw [← hv2]; exact heap_setCell_other _ _ _ _ (by show w.heap.size ≠ w.heap.size + 1; omega)).trans RR.out)
      clear hv2 kv2 c1 f1 cR fR cE HE2 HK2 RO RR HKv2 O2 Q2 heV2
      refine (epart_no p A c bs _ code 105 0 _ hc heV3).mono ?_
      rintro e u3 ⟨rfl, hb2⟩
      have he2 := heV3.below hb2
      have hk2 : Kp (fun k => k = p) v3 u3 := Kp.of_below hb2 _
      clear hb2
      have r0 := (hk2.block _ (lt_of_heap Q3.out) (by show ¬ w.heap.size = p; omega)).trans Q3.out
      have r1 := (hk2.block _ (lt_of_heap O3.out) (by show ¬ w.heap.size + 1 = p; omega)).trans O3.out
      have c1 := fun o => cell_of_row u3 _ o _ _ (0, 0) r1
      have f1 : ∀ o, u3.frozen? ⟨w.heap.size + 1, o, none⟩ = false := fun o => frozen_of_row _ _ o _ _ r1
      have cR := fun o => cell_of_row u3 _ o _ _ (0, 0) r0
      have fR : ∀ o, u3.frozen? ⟨w.heap.size, o, none⟩ = false := fun o => frozen_of_row _ _ o _ _ r0
      have cE := fun o => cell_of_row u3 _ o _ _ (0, 0) he2.row
      have HE2 := Lib.hid he2
      have HK2 := Lib.hid (HKv3.out.same hk2)
      have RO := Lib.hid r1
      have RR := Lib.hid r0
      clear r0 r1 he2 hk2
      go_wp2_with fail
      refine bodyPost_ret (v := .agg (recC 0 0 0 0 0 0 ⟨#[]⟩ (.slice none 0 0))) (by simp [results, Tryd.results55, go_sem, cR]) rfl ?_
      refine NPost.bad Hf.out ?_ (by omega) (HE2.out.far hp hA ?_)
      · iterate 9 refine Kp.setCell ?_ (Or.inr (by simp)) _
        exact HK2.out
      · iterate 9 refine Kp.setCell ?_ (Or.inl (by simp)) _
        exact Kp.refl _ _
    | ok x2 n2 =>
      rw [hN2] at hY
      have HY2 := Lib.hid hY
      clear hY
      have hY := fun w' (he' : Ey w' p A c bs (at_ + n0 + n1 + n2) 0) => epart_any p A c bs (at_ + n0 + n1 + n2) 105 0 w' (by omega) rfl he'
      rw [show partR 105 0 (bs.drop (at_ + n0 + n1 + n2)) = Res.map (fun n => { PK.zeroPt 105 with i := PK.zag n }) (numR (bs.drop (at_ + n0 + n1 + n2))) from rfl] at hY
      cases hN3 : numR (bs.drop (at_ + n0 + n1 + n2)) with
      | bad code n =>
        rw [hN3] at hY
        have HY3 := Lib.hid hY
        have Hf := Lib.hid (recR_bad2 HK.out (show fieldR 4 ((bs.drop at_).drop n0) = .bad code (n1 + (n2 + (n))) by rw [List.drop_drop, fieldR4, andR_ok hN1, List.drop_drop, andR_ok hN2, List.drop_drop, hN3]; rfl))
        have hc := numR_bad_pos hN3
        have h1 : ((code : Int) == 0) = false := by simp; omega
        have h2 : ((code : Int) != 0) = true := by simp; omega
        clear hY hN1 hN2 hN3
        go_enter Tryd.func55, Tryd.ntmps55
        go_wp2_with fail
        refine (HX.out _ (HE.out.below (below2 w _ _))).mono ?_
        rintro e w1 ⟨hk1, rfl, he1⟩
        have r0 := (hk1.block w.heap.size (by simp only [World.size_alloc]; omega) (by show ¬ w.heap.size = p; omega)).trans (heap_alloc2_old w _ _)
        have r1 := (hk1.block (w.heap.size + 1) (by simp only [World.size_alloc]; omega) (by show ¬ w.heap.size + 1 = p; omega)).trans (heap_alloc2_new w _ _)
        have c1 := fun o => cell_of_row w1 _ o _ _ (0, 0) r1
        have f1 : ∀ o, w1.frozen? ⟨w.heap.size + 1, o, none⟩ = false := fun o => frozen_of_row _ _ o _ _ r1
        have HK1 := Lib.hid (show Kp (fun k => k = p) w w1 from (((Kp.refl _ w).alloc _).alloc _).same hk1)
        have R0 := Lib.hid r0
        have R1 := Lib.hid r1
        have HE1 := Lib.hid he1
        clear r0 r1 hk1 he1
        go_wp2_with fail
        generalize hv1 : World.setCell _ _ _ = v1
        have kv : Kp (fun k => w.heap.size ≤ k) w1 v1 := by rw [← hv1]; exact Kp.setCell (Kp.refl _ _) (Or.inl (by show w.heap.size ≤ w.heap.size + 1; omega)) _
        have heV := HE1.out.far hp hA kv
        have HKv := Lib.hid (show Kp (fun k => k = p) w v1 by rw [← hv1]; exact Kp.setCell HK1.out (Or.inr (by show w.heap.size ≤ w.heap.size + 1; omega)) _)
        have O1 := Lib.hid (show v1.heap[w.heap.size + 1]? = some (.cells (recC 4 0 0 0 0 0 ⟨#[]⟩ (.slice none 0 0)) 27 (0, 0)) by rw [← hv1]; exact heap_setCell_same _ _ _ _ _ _ R1.out)
        have Q1 := Lib.hid ((show v1.heap[w.heap.size]? = _ by rw [← hv1]; exact heap_setCell_other _ _ _ _ (by show w.heap.size ≠ w.heap.size + 1; omega)).trans R0.out)
        clear hv1 kv c1 f1 R0 R1 HK1 HE1
        have hfdz : ∀ w : World, (Instr.field 135 (.agg #[.int .u8 0, .int .u64 0, .int .i64 0, .int .u64 0, .string ⟨#[]⟩, .bool false]) 2).run Tryd.prog w = .ok (.int .i64 (0)) w := fun _ => by kernel_rfl
        refine (HY1.out _ heV).mono ?_
        rintro e u1 ⟨hk2, ⟨qk, qu, qi, qq, qt, qb, hpl, rfl⟩, he2⟩
        have hqi : qi = PK.zag x1 := congrArg PK.Rp.i hpl
        subst hqi
        clear hpl
        have hfd : ∀ w : World, (Instr.field 135 (.agg #[.int .u8 (qk : Int), .int .u64 (qu : Int), .int .i64 (PK.zag x1), .int .u64 (qq : Int), .string qt, .bool qb]) 2).run Tryd.prog w = .ok (.int .i64 (PK.zag x1)) w := fun _ => by kernel_rfl
        have r0 := (hk2.block _ (lt_of_heap Q1.out) (by show ¬ w.heap.size = p; omega)).trans Q1.out
        have r1 := (hk2.block _ (lt_of_heap O1.out) (by show ¬ w.heap.size + 1 = p; omega)).trans O1.out
        have c1 := fun o => cell_of_row u1 _ o _ _ (0, 0) r1
        have f1 : ∀ o, u1.frozen? ⟨w.heap.size + 1, o, none⟩ = false := fun o => frozen_of_row _ _ o _ _ r1
        have cR := fun o => cell_of_row u1 _ o _ _ (0, 0) r0
        have fR : ∀ o, u1.frozen? ⟨w.heap.size, o, none⟩ = false := fun o => frozen_of_row _ _ o _ _ r0
        have cE := fun o => cell_of_row u1 _ o _ _ (0, 0) he2.row
        have HE2 := Lib.hid he2
        have HK2 := Lib.hid (HKv.out.same hk2)
        have RO := Lib.hid r1
        have RR := Lib.hid r0
        clear r0 r1 he2 hk2
        go_wp2_with fail
        generalize hv2 : World.setCell _ _ _ = v2
        have kv2 : Kp (fun k => w.heap.size ≤ k) u1 v2 := by rw [← hv2]; exact Kp.setCell (Kp.refl _ _) (Or.inl (by show w.heap.size ≤ w.heap.size + 1; omega)) _
        have heV2 := HE2.out.far hp hA kv2
        have HKv2 := Lib.hid (show Kp (fun k => k = p) w v2 by rw [← hv2]; exact Kp.setCell HK2.out (Or.inr (by show w.heap.size ≤ w.heap.size + 1; omega)) _)
        have O2 := Lib.hid (show v2.heap[w.heap.size + 1]? = some (.cells (recC 4 (0) (PK.zag x1) (0) 0 0 ⟨#[]⟩ (.slice none 0 0)) 27 (0, 0)) by rw [← hv2]; exact heap_setCell_same _ _ _ _ _ _ RO.out)
        have Q2 := Lib.hid ((show v2.heap[w.heap.size]? = _ by rw [← hv2]; exact heap_setCell_other _ _ _ _ (by show w.heap.size ≠ w.heap.size + 1; omega)).trans RR.out)
        clear hv2 kv2 c1 f1 cR fR cE HE2 HK2 RO RR HKv O1 Q1 heV hfd
        refine (HY2.out _ heV2).mono ?_
        rintro e u2 ⟨hk2, ⟨qk, qu, qi, qq, qt, qb, hpl, rfl⟩, he2⟩
        have hqi : qi = PK.zag x2 := congrArg PK.Rp.i hpl
        subst hqi
        clear hpl
        have hfd : ∀ w : World, (Instr.field 135 (.agg #[.int .u8 (qk : Int), .int .u64 (qu : Int), .int .i64 (PK.zag x2), .int .u64 (qq : Int), .string qt, .bool qb]) 2).run Tryd.prog w = .ok (.int .i64 (PK.zag x2)) w := fun _ => by kernel_rfl
        have r0 := (hk2.block _ (lt_of_heap Q2.out) (by show ¬ w.heap.size = p; omega)).trans Q2.out
        have r1 := (hk2.block _ (lt_of_heap O2.out) (by show ¬ w.heap.size + 1 = p; omega)).trans O2.out
        have c1 := fun o => cell_of_row u2 _ o _ _ (0, 0) r1
        have f1 : ∀ o, u2.frozen? ⟨w.heap.size + 1, o, none⟩ = false := fun o => frozen_of_row _ _ o _ _ r1
        have cR := fun o => cell_of_row u2 _ o _ _ (0, 0) r0
        have fR : ∀ o, u2.frozen? ⟨w.heap.size, o, none⟩ = false := fun o => frozen_of_row _ _ o _ _ r0
        have cE := fun o => cell_of_row u2 _ o _ _ (0, 0) he2.row
        have HE2 := Lib.hid he2
        have HK2 := Lib.hid (HKv2.out.same hk2)
        have RO := Lib.hid r1
        have RR := Lib.hid r0
        clear r0 r1 he2 hk2
        go_wp2_with fail
        generalize hv2 : World.setCell _ _ _ = v3
        have kv2 : Kp (fun k => w.heap.size ≤ k) u2 v3 := by rw [← hv2]; exact Kp.setCell (Kp.refl _ _) (Or.inl (by show w.heap.size ≤ w.heap.size + 1; omega)) _
        have heV3 := HE2.out.far hp hA kv2
        have HKv3 := Lib.hid (show Kp (fun k => k = p) w v3 by rw [← hv2]; exact Kp.setCell HK2.out (Or.inr (by show w.heap.size ≤ w.heap.size + 1; omega)) _)
        have O3 := Lib.hid (show v3.heap[w.heap.size + 1]? = some (.cells (recC 4 (0) (PK.zag x1) (PK.zag x2) 0 0 ⟨#[]⟩ (.slice none 0 0)) 27 (0, 0)) by rw [← hv2]; exact heap_setCell_same _ _ _ _ _ _ RO.out)
        have Q3 := Lib.hid ((show v3.heap[w.heap.size]? = _ by rw [← hv2]; exact heap_setCell_other _ _ _ _ (by show w.heap.size ≠ w.heap.size + 1; omega)).trans RR.out)
        clear hv2 kv2 c1 f1 cR fR cE HE2 HK2 RO RR HKv2 O2 Q2 heV2 hfd
        refine (HY3.out _ heV3).mono ?_
        rintro e u3 ⟨hk2, rfl, he2⟩
        have r0 := (hk2.block _ (lt_of_heap Q3.out) (by show ¬ w.heap.size = p; omega)).trans Q3.out
        have r1 := (hk2.block _ (lt_of_heap O3.out) (by show ¬ w.heap.size + 1 = p; omega)).trans O3.out
        have c1 := fun o => cell_of_row u3 _ o _ _ (0, 0) r1
        have f1 : ∀ o, u3.frozen? ⟨w.heap.size + 1, o, none⟩ = false := fun o => frozen_of_row _ _ o _ _ r1
        have cR := fun o => cell_of_row u3 _ o _ _ (0, 0) r0
        have fR : ∀ o, u3.frozen? ⟨w.heap.size, o, none⟩ = false := fun o => frozen_of_row _ _ o _ _ r0
        have cE := fun o => cell_of_row u3 _ o _ _ (0, 0) he2.row
        have HE2 := Lib.hid he2
        have HK2 := Lib.hid (HKv3.out.same hk2)
        have RO := Lib.hid r1
        have RR := Lib.hid r0
        clear r0 r1 he2 hk2
        go_wp2_with fail
        refine bodyPost_ret (v := .agg (recC 0 0 0 0 0 0 ⟨#[]⟩ (.slice none 0 0))) (by simp [results, Tryd.results55, go_sem, cR]) rfl ?_
        refine NPost.bad Hf.out ?_ (by omega) (HE2.out.far hp hA ?_)
        · iterate 9 refine Kp.setCell ?_ (Or.inr (by simp)) _
          exact HK2.out
        · iterate 9 refine Kp.setCell ?_ (Or.inl (by simp)) _
          exact Kp.refl _ _
      | ok x3 n3 =>
        rw [hN3] at hY
        have HY3 := Lib.hid hY
        clear hY
        have Hf := Lib.hid (show fieldR 4 ((bs.drop at_).drop n0) = .ok ⟨4, PK.zag x3, PK.zag x1, PK.zag x2, 0, 0, ⟨#[]⟩, []⟩ (n1 + (n2 + n3)) by rw [List.drop_drop, fieldR4, andR_ok hN1, List.drop_drop, andR_ok hN2, List.drop_drop, hN3]; rfl)
        clear hN1 hN2 hN3
        go_enter Tryd.func55, Tryd.ntmps55
        go_wp2_with fail
        refine (HX.out _ (HE.out.below (below2 w _ _))).mono ?_
        rintro e w1 ⟨hk1, rfl, he1⟩
        have r0 := (hk1.block w.heap.size (by simp only [World.size_alloc]; omega) (by show ¬ w.heap.size = p; omega)).trans (heap_alloc2_old w _ _)
        have r1 := (hk1.block (w.heap.size + 1) (by simp only [World.size_alloc]; omega) (by show ¬ w.heap.size + 1 = p; omega)).trans (heap_alloc2_new w _ _)
        have c1 := fun o => cell_of_row w1 _ o _ _ (0, 0) r1
        have f1 : ∀ o, w1.frozen? ⟨w.heap.size + 1, o, none⟩ = false := fun o => frozen_of_row _ _ o _ _ r1
        have HK1 := Lib.hid (show Kp (fun k => k = p) w w1 from (((Kp.refl _ w).alloc _).alloc _).same hk1)
        have R0 := Lib.hid r0
        have R1 := Lib.hid r1
        have HE1 := Lib.hid he1
        clear r0 r1 hk1 he1
        go_wp2_with fail
        generalize hv1 : World.setCell _ _ _ = v1
        have kv : Kp (fun k => w.heap.size ≤ k) w1 v1 := by rw [← hv1]; exact Kp.setCell (Kp.refl _ _) (Or.inl (by show w.heap.size ≤ w.heap.size + 1; omega)) _
        have heV := HE1.out.far hp hA kv
        have HKv := Lib.hid (show Kp (fun k => k = p) w v1 by rw [← hv1]; exact Kp.setCell HK1.out (Or.inr (by show w.heap.size ≤ w.heap.size + 1; omega)) _)
        have O1 := Lib.hid (show v1.heap[w.heap.size + 1]? = some (.cells (recC 4 0 0 0 0 0 ⟨#[]⟩ (.slice none 0 0)) 27 (0, 0)) by rw [← hv1]; exact heap_setCell_same _ _ _ _ _ _ R1.out)
        have Q1 := Lib.hid ((show v1.heap[w.heap.size]? = _ by rw [← hv1]; exact heap_setCell_other _ _ _ _ (by show w.heap.size ≠ w.heap.size + 1; omega)).trans R0.out)
        clear hv1 kv c1 f1 R0 R1 HK1 HE1
        refine (HY1.out _ heV).mono ?_
        rintro e u1 ⟨hk2, ⟨qk, qu, qi, qq, qt, qb, hpl, rfl⟩, he2⟩
        have hqi : qi = PK.zag x1 := congrArg PK.Rp.i hpl
        subst hqi
        clear hpl
        have hfd : ∀ w : World, (Instr.field 135 (.agg #[.int .u8 (qk : Int), .int .u64 (qu : Int), .int .i64 (PK.zag x1), .int .u64 (qq : Int), .string qt, .bool qb]) 2).run Tryd.prog w = .ok (.int .i64 (PK.zag x1)) w := fun _ => by kernel_rfl
        have r0 := (hk2.block _ (lt_of_heap Q1.out) (by show ¬ w.heap.size = p; omega)).trans Q1.out
        have r1 := (hk2.block _ (lt_of_heap O1.out) (by show ¬ w.heap.size + 1 = p; omega)).trans O1.out
        have c1 := fun o => cell_of_row u1 _ o _ _ (0, 0) r1
        have f1 : ∀ o, u1.frozen? ⟨w.heap.size + 1, o, none⟩ = false := fun o => frozen_of_row _ _ o _ _ r1
        have cR := fun o => cell_of_row u1 _ o _ _ (0, 0) r0
        have fR : ∀ o, u1.frozen? ⟨w.heap.size, o, none⟩ = false := fun o => frozen_of_row _ _ o _ _ r0
        have cE := fun o => cell_of_row u1 _ o _ _ (0, 0) he2.row
        have HE2 := Lib.hid he2
        have HK2 := Lib.hid (HKv.out.same hk2)
        have RO := Lib.hid r1
        have RR := Lib.hid r0
        clear r0 r1 he2 hk2
        go_wp2_with fail
        generalize hv2 : World.setCell _ _ _ = v2
        have kv2 : Kp (fun k => w.heap.size ≤ k) u1 v2 := by rw [← hv2]; exact Kp.setCell (Kp.refl _ _) (Or.inl (by show w.heap.size ≤ w.heap.size + 1; omega)) _
        have heV2 := HE2.out.far hp hA kv2
        have HKv2 := Lib.hid (show Kp (fun k => k = p) w v2 by rw [← hv2]; exact Kp.setCell HK2.out (Or.inr (by show w.heap.size ≤ w.heap.size + 1; omega)) _)
        have O2 := Lib.hid (show v2.heap[w.heap.size + 1]? = some (.cells (recC 4 (0) (PK.zag x1) (0) 0 0 ⟨#[]⟩ (.slice none 0 0)) 27 (0, 0)) by rw [← hv2]; exact heap_setCell_same _ _ _ _ _ _ RO.out)
        have Q2 := Lib.hid ((show v2.heap[w.heap.size]? = _ by rw [← hv2]; exact heap_setCell_other _ _ _ _ (by show w.heap.size ≠ w.heap.size + 1; omega)).trans RR.out)
        clear hv2 kv2 c1 f1 cR fR cE HE2 HK2 RO RR HKv O1 Q1 heV hfd
        refine (HY2.out _ heV2).mono ?_
        rintro e u2 ⟨hk2, ⟨qk, qu, qi, qq, qt, qb, hpl, rfl⟩, he2⟩
        have hqi : qi = PK.zag x2 := congrArg PK.Rp.i hpl
        subst hqi
        clear hpl
        have hfd : ∀ w : World, (Instr.field 135 (.agg #[.int .u8 (qk : Int), .int .u64 (qu : Int), .int .i64 (PK.zag x2), .int .u64 (qq : Int), .string qt, .bool qb]) 2).run Tryd.prog w = .ok (.int .i64 (PK.zag x2)) w := fun _ => by kernel_rfl
        have r0 := (hk2.block _ (lt_of_heap Q2.out) (by show ¬ w.heap.size = p; omega)).trans Q2.out
        have r1 := (hk2.block _ (lt_of_heap O2.out) (by show ¬ w.heap.size + 1 = p; omega)).trans O2.out
        have c1 := fun o => cell_of_row u2 _ o _ _ (0, 0) r1
        have f1 : ∀ o, u2.frozen? ⟨w.heap.size + 1, o, none⟩ = false := fun o => frozen_of_row _ _ o _ _ r1
        have cR := fun o => cell_of_row u2 _ o _ _ (0, 0) r0
        have fR : ∀ o, u2.frozen? ⟨w.heap.size, o, none⟩ = false := fun o => frozen_of_row _ _ o _ _ r0
        have cE := fun o => cell_of_row u2 _ o _ _ (0, 0) he2.row
        have HE2 := Lib.hid he2
        have HK2 := Lib.hid (HKv2.out.same hk2)
        have RO := Lib.hid r1
        have RR := Lib.hid r0
        clear r0 r1 he2 hk2
        go_wp2_with fail
        generalize hv2 : World.setCell _ _ _ = v3
        have kv2 : Kp (fun k => w.heap.size ≤ k) u2 v3 := by rw [← hv2]; exact Kp.setCell (Kp.refl _ _) (Or.inl (by show w.heap.size ≤ w.heap.size + 1; omega)) _
        have heV3 := HE2.out.far hp hA kv2
        have HKv3 := Lib.hid (show Kp (fun k => k = p) w v3 by rw [← hv2]; exact Kp.setCell HK2.out (Or.inr (by show w.heap.size ≤ w.heap.size + 1; omega)) _)
        have O3 := Lib.hid (show v3.heap[w.heap.size + 1]? = some (.cells (recC 4 (0) (PK.zag x1) (PK.zag x2) 0 0 ⟨#[]⟩ (.slice none 0 0)) 27 (0, 0)) by rw [← hv2]; exact heap_setCell_same _ _ _ _ _ _ RO.out)
        have Q3 := Lib.hid ((show v3.heap[w.heap.size]? = _ by rw [← hv2]; exact heap_setCell_other _ _ _ _ (by show w.heap.size ≠ w.heap.size + 1; omega)).trans RR.out)
        clear hv2 kv2 c1 f1 cR fR cE HE2 HK2 RO RR HKv2 O2 Q2 heV2 hfd
        refine (HY3.out _ heV3).mono ?_
        rintro e u3 ⟨hk2, ⟨qk, qu, qi, qq, qt, qb, hpl, rfl⟩, he2⟩
        have hqi : qi = PK.zag x3 := congrArg PK.Rp.i hpl
        subst hqi
        clear hpl
        have hfd : ∀ w : World, (Instr.field 135 (.agg #[.int .u8 (qk : Int), .int .u64 (qu : Int), .int .i64 (PK.zag x3), .int .u64 (qq : Int), .string qt, .bool qb]) 2).run Tryd.prog w = .ok (.int .i64 (PK.zag x3)) w := fun _ => by kernel_rfl
        have r0 := (hk2.block _ (lt_of_heap Q3.out) (by show ¬ w.heap.size = p; omega)).trans Q3.out
        have r1 := (hk2.block _ (lt_of_heap O3.out) (by show ¬ w.heap.size + 1 = p; omega)).trans O3.out
        have c1 := fun o => cell_of_row u3 _ o _ _ (0, 0) r1
        have f1 : ∀ o, u3.frozen? ⟨w.heap.size + 1, o, none⟩ = false := fun o => frozen_of_row _ _ o _ _ r1
        have cR := fun o => cell_of_row u3 _ o _ _ (0, 0) r0
        have fR : ∀ o, u3.frozen? ⟨w.heap.size, o, none⟩ = false := fun o => frozen_of_row _ _ o _ _ r0
        have cE := fun o => cell_of_row u3 _ o _ _ (0, 0) he2.row
        have HE2 := Lib.hid he2
        have HK2 := Lib.hid (HKv3.out.same hk2)
        have RO := Lib.hid r1
        have RR := Lib.hid r0
        clear r0 r1 he2 hk2
        go_wp2_with fail
        generalize hv2 : World.setCell _ _ _ = v4
        have kv2 : Kp (fun k => w.heap.size ≤ k) u3 v4 := by rw [← hv2]; exact Kp.setCell (Kp.refl _ _) (Or.inl (by show w.heap.size ≤ w.heap.size + 1; omega)) _
        have heV4 := HE2.out.far hp hA kv2
        have HKv4 := Lib.hid (show Kp (fun k => k = p) w v4 by rw [← hv2]; exact Kp.setCell HK2.out (Or.inr (by show w.heap.size ≤ w.heap.size + 1; omega)) _)
        have O4 := Lib.hid (show v4.heap[w.heap.size + 1]? = some (.cells (recC 4 (PK.zag x3) (PK.zag x1) (PK.zag x2) 0 0 ⟨#[]⟩ (.slice none 0 0)) 27 (0, 0)) by rw [← hv2]; exact heap_setCell_same _ _ _ _ _ _ RO.out)
        have Q4 := Lib.hid ((show v4.heap[w.heap.size]? = _ by rw [← hv2]; exact heap_setCell_other _ _ _ _ (by show w.heap.size ≠ w.heap.size + 1; omega)).trans RR.out)
        clear hv2 kv2 c1 f1 cR fR cE HE2 HK2 RO RR HKv3 O3 Q3 heV3 hfd
        have hqo := (fieldR_one (by omega) Hf.out).2.2.1
        refine (rcheck_any ⟨4, PK.zag x3, PK.zag x1, PK.zag x2, 0, 0, ⟨#[]⟩, []⟩ none 0 v4 hqo (Its.nil _ _) (by show Lim ([] : List RC.It).length; unfold Lim; decide)).mono ?_
        rintro e w3 ⟨rfl, hb3⟩
        have O3 := Lib.hid ((hb3.block _ (lt_of_heap O4.out)).trans O4.out)
        have Q3 := Lib.hid ((hb3.block _ (lt_of_heap Q4.out)).trans Q4.out)
        have he3 := heV4.below hb3
        have hk3 : Kp (fun k => k = p) w w3 := HKv4.out.same (Kp.of_below hb3 _)
        have HK3 := Lib.hid hk3
        clear hb3 hk3 O4 Q4 heV4 HKv4
        go_wp2_with fail
        refine (efail_yes p A c bs _ _ w3 he3).mono ?_
        rintro e w4 ⟨rfl, he4, hk4⟩
        have O4 := Lib.hid ((hk4.block _ (lt_of_heap O3.out) (by show ¬ w.heap.size + 1 = p; omega)).trans O3.out)
        have Q4 := Lib.hid ((hk4.block _ (lt_of_heap Q3.out) (by show ¬ w.heap.size = p; omega)).trans Q3.out)
        have HK4 := Lib.hid (HK3.out.same hk4)
        clear hk4 he3 O3 Q3 HK3
        have c1 := fun o => cell_of_row w4 _ o _ _ (0, 0) O4.out
        have cR := fun o => cell_of_row w4 _ o _ _ (0, 0) Q4.out
        have fR : ∀ o, w4.frozen? ⟨w.heap.size, o, none⟩ = false := fun o => frozen_of_row _ _ o _ _ Q4.out
        rcases Nat.eq_zero_or_pos (RC.chk ⟨4, PK.zag x3, PK.zag x1, PK.zag x2, 0, 0, ⟨#[]⟩, []⟩) with hc | hc
        · have HC := Lib.hid (recR_ok HK.out Hf.out hc)
          rw [hc] at he4
          have cE := fun o => cell_of_row w4 _ o _ _ (0, 0) he4.row
          have HE4 := Lib.hid he4
          clear hc he4
          go_wp2_with fail
          refine bodyPost_ret (v := recV ⟨4, PK.zag x3, PK.zag x1, PK.zag x2, 0, 0, ⟨#[]⟩, []⟩ none 0) (by simp [results, Tryd.results55, go_sem, cR]) rfl ?_
          rw [HC.out]
          refine ⟨?_, ⟨none, 0, rfl, World.ownsRow_nil _ _ _ _, fun k e => by cases e⟩, ?_⟩
          · iterate 8 refine Kp.setCell ?_ (Or.inr (by simp)) _
            exact HK4.out
          · rw [show at_ + (n0 + (n1 + (n2 + n3))) = at_ + n0 + n1 + n2 + n3 by omega]
            refine HE4.out.far hp hA ?_
            iterate 8 refine Kp.setCell ?_ (Or.inl (by simp)) _
            exact Kp.refl _ _
        · have HC := Lib.hid (recR_no HK.out Hf.out (by omega))
          generalize RC.chk _ = code at *
          have h1 : ((code : Int) == 0) = false := by simp; omega
          have h2 : ((code : Int) != 0) = true := by simp; omega
          have cE := fun o => cell_of_row w4 _ o _ _ (0, 0) he4.row
          have HE4 := Lib.hid he4
          clear hc he4
          go_wp2_with fail
          refine bodyPost_ret (v := .agg (recC 0 0 0 0 0 0 ⟨#[]⟩ (.slice none 0 0))) (by simp [results, Tryd.results55, go_sem, cR]) rfl ?_
          refine NPost.bad HC.out ?_ (by omega) (HE4.out.far hp hA ?_)
          · iterate 8 refine Kp.setCell ?_ (Or.inr (by simp)) _
            exact HK4.out
          · iterate 8 refine Kp.setCell ?_ (Or.inl (by simp)) _
            exact Kp.refl _ _

end Go.Proofs.YtafjginegipakaaDoor
