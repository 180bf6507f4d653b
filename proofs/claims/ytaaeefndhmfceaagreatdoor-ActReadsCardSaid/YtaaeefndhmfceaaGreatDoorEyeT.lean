/- Contracts of the document's own answers for layer 3: the next record, where its kind can't be read. -/
import Derived.Test.YtaaeefndhmfceaaGreatDoorEyeU
import Derived.Test.YtaaeefndhmfceaaGreatDoorRef3f
import Derived.Test.YtaaeefndhmfceaaGreatDoorRec8
namespace Go.Proofs.YtaaeefndhmfceaaGreatDoor
open Go.RowKit MM

set_option maxHeartbeats 1000000 in
set_option maxRecDepth 100000 in
theorem rnumber1_any (k : Nat) (w : World) (hk : MF.W64 k) :
    Calls Tryz.prog 88 #[.int .u64 k] w fun e w' => e = .returned (.float .f64 (MF.bk k)) ∧ w = w' := by
  by_cases h : k < 9223372036854775808
  · have He := Lib.hid (show MF.bk k = 18446744073709551615 - k by unfold MF.bk; rw [if_pos h])
    have hge : decide ((9223372036854775808 : Int) ≤ (k : Int)) = false := by simp; omega
    have H := Lib.hid h
    clear h
    go_enter Tryz.func88, Tryz.ntmps88
    go_wp2_with fail
    go_ret
    exact ⟨ret_flo (by rw [IntKind.wrap_u64, IntKind.wrap_u64, He.out]; have := H.out; omega), rfl⟩
  · have He := Lib.hid (show MF.bk k = k - 9223372036854775808 by unfold MF.bk; rw [if_neg h])
    have hge : decide ((9223372036854775808 : Int) ≤ (k : Int)) = true := by simp; omega
    have H := Lib.hid h
    clear h
    go_enter Tryz.func88, Tryz.ntmps88
    go_wp2_with fail
    go_ret
    exact ⟨ret_flo (by rw [IntKind.wrap_u64, He.out]; have := H.out; unfold MF.W64 at hk; omega), rfl⟩

/-- What Next answers. -/
def NPost (p : Nat) (A : Option Addr) (c : Nat) (bs : List UInt8) (at_ : Nat) (r : Res RC.Rc) (w : World) (e : Ending) (w' : World) : Prop :=
  Kp (fun k => k = p) w w' ∧ match r with
  | .ok r n => (∃ A' c', e = .returned (recV r A' c') ∧ w'.ownsRow 0 88 2 (.slice A' r.list.length c') r.list.length (itCells r.list) ∧ (∀ k, ob A' = some k → w.heap.size ≤ k)) ∧ Ey w' p A c bs (at_ + n) 0
  | .bad code n => e = .returned (recV RC.zero none 0) ∧ Ey w' p A c bs (at_ + n) code

theorem NPost.bad {p : Nat} {A : Option Addr} {c : Nat} {bs : List UInt8} {at_ n m code : Nat} {r : Res RC.Rc} {w w' : World} (h : r = .bad code n) (hk : Kp (fun k => k = p) w w') (hm : m = at_ + n) (he : Ey w' p A c bs m code) : NPost p A c bs at_ r w (.returned (.agg (recC 0 0 0 0 0 0 ⟨#[]⟩ (.slice none 0 0)))) w' := by
  subst h hm
  exact ⟨hk, rfl, he⟩

/-- Blocks apart from the eye. -/
theorem Ey.far {w w' : World} {p B : Nat} {A : Option Addr} {c : Nat} {bs : List UInt8} {at_ E : Nat} (h : Ey w p A c bs at_ E) (hp : p < B) (hA : bs ≠ [] → ∀ ad, A = some ad → ad.block < B) (hk : Kp (fun k => B ≤ k) w w') : Ey w' p A c bs at_ E := by
  refine ⟨(hk.block _ (lt_of_heap h.row) (by omega)).trans h.row, ?_, h.ne, h.cap, h.le, h.lim⟩
  by_cases hb : bs = []
  · subst hb; exact Bts.nil A
  · exact h.bts.kp hk (fun ad e => by have := hA hb ad e; omega)

set_option maxHeartbeats 2000000 in
set_option maxRecDepth 100000 in
/-- A record whose kind can't be read. -/
theorem next_kind (code n : Nat) (p : Nat) (A : Option Addr) (c : Nat) (bs : List UInt8) (at_ : Nat) (w : World) (he : Ey w p A c bs at_ 0) (hU : uptoR 9 (bs.drop at_) = .bad code n) (hc : 0 < code) (hA : bs ≠ [] → ∀ ad, A = some ad → ad.block < w.heap.size) :
    Calls Tryz.prog 89 #[.pointer (some ⟨p, 0, none⟩)] w (NPost p A c bs at_ (.bad code n) w) := by
  have hp := lt_of_heap he.row
  have HX := Lib.hid (fun w' (he' : Ey w' p A c bs at_ 0) => eupto_any p A c bs at_ 9 w' (by omega) he')
  rw [show ((9 : Nat) : Int) = 9 from rfl, hU] at HX
  have HFl := Lib.hid (fun w' at2 (he' : Ey w' p A c bs at2 code) => efail_no p A c bs at2 code 5 w' hc he')
  have HE := Lib.hid he
  have h1 : ((code : Int) == 0) = false := by simp; omega
  have h2 : ((code : Int) != 0) = true := by simp; omega
  clear he hU
  go_enter Tryz.func89, Tryz.ntmps89
  go_wp2_with fail
  refine (HX.out _ (HE.out.below (below2 w _ _))).mono ?_
  rintro e w1 ⟨hk1, rfl, he1⟩
  have r0 := (hk1.block w.heap.size (by simp only [World.size_alloc]; omega) (by show ¬ w.heap.size = p; omega)).trans (heap_alloc2_old w _ _)
  have r1 := (hk1.block (w.heap.size + 1) (by simp only [World.size_alloc]; omega) (by show ¬ w.heap.size + 1 = p; omega)).trans (heap_alloc2_new w _ _)
  have c1 := fun o => cell_of_row w1 _ o _ _ (0, 0) r1
  have f1 : ∀ o, w1.frozen? ⟨w.heap.size + 1, o, none⟩ = false := fun o => frozen_of_row _ _ o _ _ r1
  have HK1 := Lib.hid (show Kp (fun k => k = p) w w1 from (((Kp.refl _ w).alloc _).alloc _).same hk1)
  have R0 := Lib.hid r0
  have R1 := Lib.hid r1
  have HE1 := Lib.hid he1
  clear r0 r1 hk1 he1
  go_wp2_with fail
  generalize hv1 : World.setCell _ _ _ = v1
  have kv : Kp (fun k => w.heap.size ≤ k) w1 v1 := by rw [← hv1]; exact Kp.setCell (Kp.refl _ _) (Or.inl (by show w.heap.size ≤ w.heap.size + 1; omega)) _
  have heV := HE1.out.far hp hA kv
  have HKv := Lib.hid (show Kp (fun k => k = p) w v1 by rw [← hv1]; exact Kp.setCell HK1.out (Or.inr (by show w.heap.size ≤ w.heap.size + 1; omega)) _)
  have O1 := Lib.hid (show v1.heap[w.heap.size + 1]? = some (.cells (recC 0 0 0 0 0 0 ⟨#[]⟩ (.slice none 0 0)) 25 (0, 0)) by rw [← hv1]; exact heap_setCell_same _ _ _ _ _ _ R1.out)
  have Q1 := Lib.hid ((show v1.heap[w.heap.size]? = _ by rw [← hv1]; exact heap_setCell_other _ _ _ _ (by show w.heap.size ≠ w.heap.size + 1; omega)).trans R0.out)
  clear hv1 kv c1 f1 R0 R1 HK1 HE1
  refine (HFl.out _ _ heV).mono ?_
  rintro e w2 ⟨rfl, he2, hk2⟩
  have r0 := (hk2.block _ (lt_of_heap Q1.out) (by show ¬ w.heap.size = p; omega)).trans Q1.out
  have r1 := (hk2.block _ (lt_of_heap O1.out) (by show ¬ w.heap.size + 1 = p; omega)).trans O1.out
  have c1 := fun o => cell_of_row w2 _ o _ _ (0, 0) r1
  have cR := fun o => cell_of_row w2 _ o _ _ (0, 0) r0
  have fR : ∀ o, w2.frozen? ⟨w.heap.size, o, none⟩ = false := fun o => frozen_of_row _ _ o _ _ r0
  have cE := fun o => cell_of_row w2 _ o _ _ (0, 0) he2.row
  have HE2 := Lib.hid he2
  have HK2 := Lib.hid (HKv.out.same hk2)
  clear r0 r1 he2 hk2
  go_wp2_with fail
  refine bodyPost_ret (v := .agg (recC 0 0 0 0 0 0 ⟨#[]⟩ (.slice none 0 0))) (by simp [results, Tryz.results89, go_sem, cR]) rfl ?_
  refine NPost.bad rfl ?_ rfl (HE2.out.far hp hA ?_)
  · iterate 8 refine Kp.setCell ?_ (Or.inr (by simp)) _
    exact HK2.out
  · iterate 8 refine Kp.setCell ?_ (Or.inl (by simp)) _
    exact Kp.refl _ _

end Go.Proofs.YtaaeefndhmfceaaGreatDoor
/- Contracts of the document's own answers for layer 3: the next record with one field. -/
namespace Go.Proofs.YtaaeefndhmfceaaGreatDoor
open Go.RowKit MM

set_option maxHeartbeats 2000000 in
set_option maxRecDepth 100000 in
theorem next_1 (n0 : Nat) (p : Nat) (A : Option Addr) (c : Nat) (bs : List UInt8) (at_ : Nat) (w : World) (he : Ey w p A c bs at_ 0) (hU : uptoR 9 (bs.drop at_) = .ok 1 n0) (hA : bs ≠ [] → ∀ ad, A = some ad → ad.block < w.heap.size) :
    Calls Tryz.prog 89 #[.pointer (some ⟨p, 0, none⟩)] w (NPost p A c bs at_ (recR (bs.drop at_)) w) := by
  have hp := lt_of_heap he.row
  have hK : kindR (bs.drop at_) = .ok 1 n0 := by unfold kindR; rw [andR_ok hU]; rfl
  have HX := Lib.hid (fun w' (he' : Ey w' p A c bs at_ 0) => eupto_any p A c bs at_ 9 w' (by omega) he')
  rw [show ((9 : Nat) : Int) = 9 from rfl, hU] at HX
  have hY := fun w' (he' : Ey w' p A c bs (at_ + n0) 0) => epart_any p A c bs (at_ + n0) 115 64 w' (by omega) rfl he'
  rw [show partR 115 64 (bs.drop (at_ + n0)) = Res.map (fun s => { PK.zeroPt 115 with s := ⟨s.toArray⟩ }) (txtR 64 (bs.drop (at_ + n0))) from rfl] at hY
  have HE := Lib.hid he
  have HK := Lib.hid hK
  clear he hU hK
  cases hN : txtR 64 (bs.drop (at_ + n0)) with
  | bad code n =>
    rw [hN] at hY
    have Hf := Lib.hid (recR_bad2 HK.out (show fieldR 1 ((bs.drop at_).drop n0) = .bad code n by rw [List.drop_drop]; show Res.map _ (txtR 64 _) = _; rw [hN]; rfl))
    have hc := partR_bad_pos (k := 115) (m := 64) (l := bs.drop (at_ + n0)) (e := code) (n := n) (by show Res.map _ (txtR 64 (bs.drop (at_ + n0))) = _; rw [hN]; rfl)
    have HY := Lib.hid hY
    have h1 : ((code : Int) == 0) = false := by simp; omega
    have h2 : ((code : Int) != 0) = true := by simp; omega
    have hfd : ∀ w : World, (Instr.field 115 (.agg #[.int .u8 0, .int .u64 0, .int .i64 0, .int .u64 0, .string ⟨#[]⟩, .bool false]) 4).run Tryz.prog w = .ok (.string ⟨#[]⟩) w := fun _ => by kernel_rfl
    clear hY hN
    go_enter Tryz.func89, Tryz.ntmps89
    go_wp2_with fail
    refine (HX.out _ (HE.out.below (below2 w _ _))).mono ?_
    rintro e w1 ⟨hk1, rfl, he1⟩
    have r0 := (hk1.block w.heap.size (by simp only [World.size_alloc]; omega) (by show ¬ w.heap.size = p; omega)).trans (heap_alloc2_old w _ _)
    have r1 := (hk1.block (w.heap.size + 1) (by simp only [World.size_alloc]; omega) (by show ¬ w.heap.size + 1 = p; omega)).trans (heap_alloc2_new w _ _)
    have c1 := fun o => cell_of_row w1 _ o _ _ (0, 0) r1
    have f1 : ∀ o, w1.frozen? ⟨w.heap.size + 1, o, none⟩ = false := fun o => frozen_of_row _ _ o _ _ r1
    have HK1 := Lib.hid (show Kp (fun k => k = p) w w1 from (((Kp.refl _ w).alloc _).alloc _).same hk1)
    have R0 := Lib.hid r0
    have R1 := Lib.hid r1
    have HE1 := Lib.hid he1
    clear r0 r1 hk1 he1
    go_wp2_with fail
    generalize hv1 : World.setCell _ _ _ = v1
    have kv : Kp (fun k => w.heap.size ≤ k) w1 v1 := by rw [← hv1]; exact Kp.setCell (Kp.refl _ _) (Or.inl (by show w.heap.size ≤ w.heap.size + 1; omega)) _
    have heV := HE1.out.far hp hA kv
    have HKv := Lib.hid (show Kp (fun k => k = p) w v1 by rw [← hv1]; exact Kp.setCell HK1.out (Or.inr (by show w.heap.size ≤ w.heap.size + 1; omega)) _)
    have O1 := Lib.hid (show v1.heap[w.heap.size + 1]? = some (.cells (recC 1 0 0 0 0 0 ⟨#[]⟩ (.slice none 0 0)) 25 (0, 0)) by rw [← hv1]; exact heap_setCell_same _ _ _ _ _ _ R1.out)
    have Q1 := Lib.hid ((show v1.heap[w.heap.size]? = _ by rw [← hv1]; exact heap_setCell_other _ _ _ _ (by show w.heap.size ≠ w.heap.size + 1; omega)).trans R0.out)
    clear hv1 kv c1 f1 R0 R1 HK1 HE1
    refine (HY.out _ heV).mono ?_
    rintro e w2 ⟨hk2, rfl, he2⟩
    have r0 := (hk2.block _ (lt_of_heap Q1.out) (by show ¬ w.heap.size = p; omega)).trans Q1.out
    have r1 := (hk2.block _ (lt_of_heap O1.out) (by show ¬ w.heap.size + 1 = p; omega)).trans O1.out
    have c1 := fun o => cell_of_row w2 _ o _ _ (0, 0) r1
    have f1 : ∀ o, w2.frozen? ⟨w.heap.size + 1, o, none⟩ = false := fun o => frozen_of_row _ _ o _ _ r1
    have cR := fun o => cell_of_row w2 _ o _ _ (0, 0) r0
    have fR : ∀ o, w2.frozen? ⟨w.heap.size, o, none⟩ = false := fun o => frozen_of_row _ _ o _ _ r0
    have cE := fun o => cell_of_row w2 _ o _ _ (0, 0) he2.row
    have HE2 := Lib.hid he2
    have HK2 := Lib.hid (HKv.out.same hk2)
    have RO := Lib.hid r1
    have RR := Lib.hid r0
    clear r0 r1 he2 hk2
    go_wp2_with fail
    refine bodyPost_ret (v := .agg (recC 0 0 0 0 0 0 ⟨#[]⟩ (.slice none 0 0))) (by simp [results, Tryz.results89, go_sem, cR]) rfl ?_
    refine NPost.bad Hf.out ?_ (by omega) (HE2.out.far hp hA ?_)
    · iterate 9 refine Kp.setCell ?_ (Or.inr (by simp)) _
      exact HK2.out
    · iterate 9 refine Kp.setCell ?_ (Or.inl (by simp)) _
      exact Kp.refl _ _
  | ok x1 n =>
    rw [hN] at hY
    have Hf := Lib.hid (show fieldR 1 ((bs.drop at_).drop n0) = .ok ⟨1, 0, 0, 0, 0, 0, ⟨x1.toArray⟩, []⟩ n by rw [List.drop_drop]; show Res.map _ (txtR 64 _) = _; rw [hN]; rfl)
    have HY := Lib.hid hY
    clear hY hN
    go_enter Tryz.func89, Tryz.ntmps89
    go_wp2_with fail
    refine (HX.out _ (HE.out.below (below2 w _ _))).mono ?_
    rintro e w1 ⟨hk1, rfl, he1⟩
    have r0 := (hk1.block w.heap.size (by simp only [World.size_alloc]; omega) (by show ¬ w.heap.size = p; omega)).trans (heap_alloc2_old w _ _)
    have r1 := (hk1.block (w.heap.size + 1) (by simp only [World.size_alloc]; omega) (by show ¬ w.heap.size + 1 = p; omega)).trans (heap_alloc2_new w _ _)
    have c1 := fun o => cell_of_row w1 _ o _ _ (0, 0) r1
    have f1 : ∀ o, w1.frozen? ⟨w.heap.size + 1, o, none⟩ = false := fun o => frozen_of_row _ _ o _ _ r1
    have HK1 := Lib.hid (show Kp (fun k => k = p) w w1 from (((Kp.refl _ w).alloc _).alloc _).same hk1)
    have R0 := Lib.hid r0
    have R1 := Lib.hid r1
    have HE1 := Lib.hid he1
    clear r0 r1 hk1 he1
    go_wp2_with fail
    generalize hv1 : World.setCell _ _ _ = v1
    have kv : Kp (fun k => w.heap.size ≤ k) w1 v1 := by rw [← hv1]; exact Kp.setCell (Kp.refl _ _) (Or.inl (by show w.heap.size ≤ w.heap.size + 1; omega)) _
    have heV := HE1.out.far hp hA kv
    have HKv := Lib.hid (show Kp (fun k => k = p) w v1 by rw [← hv1]; exact Kp.setCell HK1.out (Or.inr (by show w.heap.size ≤ w.heap.size + 1; omega)) _)
    have O1 := Lib.hid (show v1.heap[w.heap.size + 1]? = some (.cells (recC 1 0 0 0 0 0 ⟨#[]⟩ (.slice none 0 0)) 25 (0, 0)) by rw [← hv1]; exact heap_setCell_same _ _ _ _ _ _ R1.out)
    have Q1 := Lib.hid ((show v1.heap[w.heap.size]? = _ by rw [← hv1]; exact heap_setCell_other _ _ _ _ (by show w.heap.size ≠ w.heap.size + 1; omega)).trans R0.out)
    clear hv1 kv c1 f1 R0 R1 HK1 HE1
    refine (HY.out _ heV).mono ?_
    rintro e w2 ⟨hk2, ⟨qk, qu, qi, qq, qt, qb, hpl, rfl⟩, he2⟩
    have hqi : qt = ⟨x1.toArray⟩ := congrArg PK.Rp.s hpl
    subst hqi
    clear hpl
    have hfd : ∀ w : World, (Instr.field 115 (.agg #[.int .u8 (qk : Int), .int .u64 (qu : Int), .int .i64 qi, .int .u64 (qq : Int), .string ⟨x1.toArray⟩, .bool qb]) 4).run Tryz.prog w = .ok (.string ⟨x1.toArray⟩) w := fun _ => by kernel_rfl
    have r0 := (hk2.block _ (lt_of_heap Q1.out) (by show ¬ w.heap.size = p; omega)).trans Q1.out
    have r1 := (hk2.block _ (lt_of_heap O1.out) (by show ¬ w.heap.size + 1 = p; omega)).trans O1.out
    have c1 := fun o => cell_of_row w2 _ o _ _ (0, 0) r1
    have f1 : ∀ o, w2.frozen? ⟨w.heap.size + 1, o, none⟩ = false := fun o => frozen_of_row _ _ o _ _ r1
    have cR := fun o => cell_of_row w2 _ o _ _ (0, 0) r0
    have fR : ∀ o, w2.frozen? ⟨w.heap.size, o, none⟩ = false := fun o => frozen_of_row _ _ o _ _ r0
    have cE := fun o => cell_of_row w2 _ o _ _ (0, 0) he2.row
    have HE2 := Lib.hid he2
    have HK2 := Lib.hid (HKv.out.same hk2)
    have RO := Lib.hid r1
    have RR := Lib.hid r0
    clear r0 r1 he2 hk2
    go_wp2_with fail
    generalize hv2 : World.setCell _ _ _ = v2
    have kv2 : Kp (fun k => w.heap.size ≤ k) w2 v2 := by rw [← hv2]; exact Kp.setCell (Kp.refl _ _) (Or.inl (by show w.heap.size ≤ w.heap.size + 1; omega)) _
    have heV2 := HE2.out.far hp hA kv2
    have HKv2 := Lib.hid (show Kp (fun k => k = p) w v2 by rw [← hv2]; exact Kp.setCell HK2.out (Or.inr (by show w.heap.size ≤ w.heap.size + 1; omega)) _)
    have O2 := Lib.hid (show v2.heap[w.heap.size + 1]? = some (.cells (recC 1 0 0 0 0 0 ⟨x1.toArray⟩ (.slice none 0 0)) 25 (0, 0)) by rw [← hv2]; exact heap_setCell_same _ _ _ _ _ _ RO.out)
    have Q2 := Lib.hid ((show v2.heap[w.heap.size]? = _ by rw [← hv2]; exact heap_setCell_other _ _ _ _ (by show w.heap.size ≠ w.heap.size + 1; omega)).trans RR.out)
    clear hv2 kv2 c1 f1 cR fR cE HE2 HK2 RO RR HKv O1 Q1 heV
    have hqo := (fieldR_one (by omega) Hf.out).2.2.1
    refine (rcheck_any ⟨1, 0, 0, 0, 0, 0, ⟨x1.toArray⟩, []⟩ none 0 v2 hqo (Its.nil _ _) (by show Lim ([] : List RC.It).length; unfold Lim; decide)).mono ?_
    rintro e w3 ⟨rfl, hb3⟩
    have O3 := Lib.hid ((hb3.block _ (lt_of_heap O2.out)).trans O2.out)
    have Q3 := Lib.hid ((hb3.block _ (lt_of_heap Q2.out)).trans Q2.out)
    have he3 := heV2.below hb3
    have hk3 : Kp (fun k => k = p) w w3 := HKv2.out.same (Kp.of_below hb3 _)
    have HK3 := Lib.hid hk3
    clear hb3 hk3 O2 Q2 heV2 HKv2
    go_wp2_with fail
    refine (efail_yes p A c bs _ _ w3 he3).mono ?_
    rintro e w4 ⟨rfl, he4, hk4⟩
    have O4 := Lib.hid ((hk4.block _ (lt_of_heap O3.out) (by show ¬ w.heap.size + 1 = p; omega)).trans O3.out)
    have Q4 := Lib.hid ((hk4.block _ (lt_of_heap Q3.out) (by show ¬ w.heap.size = p; omega)).trans Q3.out)
    have HK4 := Lib.hid (HK3.out.same hk4)
    clear hk4 he3 O3 Q3 HK3
    have c1 := fun o => cell_of_row w4 _ o _ _ (0, 0) O4.out
    have cR := fun o => cell_of_row w4 _ o _ _ (0, 0) Q4.out
    have fR : ∀ o, w4.frozen? ⟨w.heap.size, o, none⟩ = false := fun o => frozen_of_row _ _ o _ _ Q4.out
    rcases Nat.eq_zero_or_pos (RC.chk ⟨1, 0, 0, 0, 0, 0, ⟨x1.toArray⟩, []⟩) with hc | hc
    · have HC := Lib.hid (recR_ok HK.out Hf.out hc)
      rw [hc] at he4
      have cE := fun o => cell_of_row w4 _ o _ _ (0, 0) he4.row
      have HE4 := Lib.hid he4
      clear hc he4
      go_wp2_with fail
      refine bodyPost_ret (v := recV ⟨1, 0, 0, 0, 0, 0, ⟨x1.toArray⟩, []⟩ none 0) (by simp [results, Tryz.results89, go_sem, cR]) rfl ?_
      rw [HC.out]
      refine ⟨?_, ⟨none, 0, rfl, World.ownsRow_nil _ _ _ _, fun k e => by cases e⟩, ?_⟩
      · iterate 8 refine Kp.setCell ?_ (Or.inr (by simp)) _
        exact HK4.out
      · rw [← Nat.add_assoc]
        refine HE4.out.far hp hA ?_
        iterate 8 refine Kp.setCell ?_ (Or.inl (by simp)) _
        exact Kp.refl _ _
    · have HC := Lib.hid (recR_no HK.out Hf.out (by omega))
      generalize RC.chk _ = code at *
      have h1 : ((code : Int) == 0) = false := by simp; omega
      have h2 : ((code : Int) != 0) = true := by simp; omega
      have cE := fun o => cell_of_row w4 _ o _ _ (0, 0) he4.row
      have HE4 := Lib.hid he4
      clear hc he4
      go_wp2_with fail
      refine bodyPost_ret (v := .agg (recC 0 0 0 0 0 0 ⟨#[]⟩ (.slice none 0 0))) (by simp [results, Tryz.results89, go_sem, cR]) rfl ?_
      refine NPost.bad HC.out ?_ (by omega) (HE4.out.far hp hA ?_)
      · iterate 8 refine Kp.setCell ?_ (Or.inr (by simp)) _
        exact HK4.out
      · iterate 8 refine Kp.setCell ?_ (Or.inl (by simp)) _
        exact Kp.refl _ _

set_option maxHeartbeats 2000000 in
set_option maxRecDepth 100000 in
theorem next_2 (n0 : Nat) (p : Nat) (A : Option Addr) (c : Nat) (bs : List UInt8) (at_ : Nat) (w : World) (he : Ey w p A c bs at_ 0) (hU : uptoR 9 (bs.drop at_) = .ok 2 n0) (hA : bs ≠ [] → ∀ ad, A = some ad → ad.block < w.heap.size) :
    Calls Tryz.prog 89 #[.pointer (some ⟨p, 0, none⟩)] w (NPost p A c bs at_ (recR (bs.drop at_)) w) := by
  have hp := lt_of_heap he.row
  have hK : kindR (bs.drop at_) = .ok 2 n0 := by unfold kindR; rw [andR_ok hU]; rfl
  have HX := Lib.hid (fun w' (he' : Ey w' p A c bs at_ 0) => eupto_any p A c bs at_ 9 w' (by omega) he')
  rw [show ((9 : Nat) : Int) = 9 from rfl, hU] at HX
  have hY := fun w' (he' : Ey w' p A c bs (at_ + n0) 0) => epart_any p A c bs (at_ + n0) 105 0 w' (by omega) rfl he'
  rw [show partR 105 0 (bs.drop (at_ + n0)) = Res.map (fun n => { PK.zeroPt 105 with i := PK.zag n }) (numR (bs.drop (at_ + n0))) from rfl] at hY
  have HE := Lib.hid he
  have HK := Lib.hid hK
  clear he hU hK
  cases hN : numR (bs.drop (at_ + n0)) with
  | bad code n =>
    rw [hN] at hY
    have Hf := Lib.hid (recR_bad2 HK.out (show fieldR 2 ((bs.drop at_).drop n0) = .bad code n by rw [List.drop_drop]; show Res.map _ (numR _) = _; rw [hN]; rfl))
    have hc := partR_bad_pos (k := 105) (m := 0) (l := bs.drop (at_ + n0)) (e := code) (n := n) (by show Res.map _ (numR (bs.drop (at_ + n0))) = _; rw [hN]; rfl)
    have HY := Lib.hid hY
    have h1 : ((code : Int) == 0) = false := by simp; omega
    have h2 : ((code : Int) != 0) = true := by simp; omega
    have hfd : ∀ w : World, (Instr.field 115 (.agg #[.int .u8 0, .int .u64 0, .int .i64 0, .int .u64 0, .string ⟨#[]⟩, .bool false]) 2).run Tryz.prog w = .ok (.int .i64 0) w := fun _ => by kernel_rfl
    clear hY hN
    go_enter Tryz.func89, Tryz.ntmps89
    go_wp2_with fail
    refine (HX.out _ (HE.out.below (below2 w _ _))).mono ?_
    rintro e w1 ⟨hk1, rfl, he1⟩
    have r0 := (hk1.block w.heap.size (by simp only [World.size_alloc]; omega) (by show ¬ w.heap.size = p; omega)).trans (heap_alloc2_old w _ _)
    have r1 := (hk1.block (w.heap.size + 1) (by simp only [World.size_alloc]; omega) (by show ¬ w.heap.size + 1 = p; omega)).trans (heap_alloc2_new w _ _)
    have c1 := fun o => cell_of_row w1 _ o _ _ (0, 0) r1
    have f1 : ∀ o, w1.frozen? ⟨w.heap.size + 1, o, none⟩ = false := fun o => frozen_of_row _ _ o _ _ r1
    have HK1 := Lib.hid (show Kp (fun k => k = p) w w1 from (((Kp.refl _ w).alloc _).alloc _).same hk1)
    have R0 := Lib.hid r0
    have R1 := Lib.hid r1
    have HE1 := Lib.hid he1
    clear r0 r1 hk1 he1
    go_wp2_with fail
    generalize hv1 : World.setCell _ _ _ = v1
    have kv : Kp (fun k => w.heap.size ≤ k) w1 v1 := by rw [← hv1]; exact Kp.setCell (Kp.refl _ _) (Or.inl (by show w.heap.size ≤ w.heap.size + 1; omega)) _
    have heV := HE1.out.far hp hA kv
    have HKv := Lib.hid (show Kp (fun k => k = p) w v1 by rw [← hv1]; exact Kp.setCell HK1.out (Or.inr (by show w.heap.size ≤ w.heap.size + 1; omega)) _)
    have O1 := Lib.hid (show v1.heap[w.heap.size + 1]? = some (.cells (recC 2 0 0 0 0 0 ⟨#[]⟩ (.slice none 0 0)) 25 (0, 0)) by rw [← hv1]; exact heap_setCell_same _ _ _ _ _ _ R1.out)
    have Q1 := Lib.hid ((show v1.heap[w.heap.size]? = _ by rw [← hv1]; exact heap_setCell_other _ _ _ _ (by show w.heap.size ≠ w.heap.size + 1; omega)).trans R0.out)
    clear hv1 kv c1 f1 R0 R1 HK1 HE1
    refine (HY.out _ heV).mono ?_
    rintro e w2 ⟨hk2, rfl, he2⟩
    have r0 := (hk2.block _ (lt_of_heap Q1.out) (by show ¬ w.heap.size = p; omega)).trans Q1.out
    have r1 := (hk2.block _ (lt_of_heap O1.out) (by show ¬ w.heap.size + 1 = p; omega)).trans O1.out
    have c1 := fun o => cell_of_row w2 _ o _ _ (0, 0) r1
    have f1 : ∀ o, w2.frozen? ⟨w.heap.size + 1, o, none⟩ = false := fun o => frozen_of_row _ _ o _ _ r1
    have cR := fun o => cell_of_row w2 _ o _ _ (0, 0) r0
    have fR : ∀ o, w2.frozen? ⟨w.heap.size, o, none⟩ = false := fun o => frozen_of_row _ _ o _ _ r0
    have cE := fun o => cell_of_row w2 _ o _ _ (0, 0) he2.row
    have HE2 := Lib.hid he2
    have HK2 := Lib.hid (HKv.out.same hk2)
    have RO := Lib.hid r1
    have RR := Lib.hid r0
    clear r0 r1 he2 hk2
    go_wp2_with fail
    refine bodyPost_ret (v := .agg (recC 0 0 0 0 0 0 ⟨#[]⟩ (.slice none 0 0))) (by simp [results, Tryz.results89, go_sem, cR]) rfl ?_
    refine NPost.bad Hf.out ?_ (by omega) (HE2.out.far hp hA ?_)
    · iterate 9 refine Kp.setCell ?_ (Or.inr (by simp)) _
      exact HK2.out
    · iterate 9 refine Kp.setCell ?_ (Or.inl (by simp)) _
      exact Kp.refl _ _
  | ok x1 n =>
    rw [hN] at hY
    have Hf := Lib.hid (show fieldR 2 ((bs.drop at_).drop n0) = .ok ⟨2, PK.zag x1, 0, 0, 0, 0, ⟨#[]⟩, []⟩ n by rw [List.drop_drop]; show Res.map _ (numR _) = _; rw [hN]; rfl)
    have HY := Lib.hid hY
    clear hY hN
    go_enter Tryz.func89, Tryz.ntmps89
    go_wp2_with fail
    refine (HX.out _ (HE.out.below (below2 w _ _))).mono ?_
    rintro e w1 ⟨hk1, rfl, he1⟩
    have r0 := (hk1.block w.heap.size (by simp only [World.size_alloc]; omega) (by show ¬ w.heap.size = p; omega)).trans (heap_alloc2_old w _ _)
    have r1 := (hk1.block (w.heap.size + 1) (by simp only [World.size_alloc]; omega) (by show ¬ w.heap.size + 1 = p; omega)).trans (heap_alloc2_new w _ _)
    have c1 := fun o => cell_of_row w1 _ o _ _ (0, 0) r1
    have f1 : ∀ o, w1.frozen? ⟨w.heap.size + 1, o, none⟩ = false := fun o => frozen_of_row _ _ o _ _ r1
    have HK1 := Lib.hid (show Kp (fun k => k = p) w w1 from (((Kp.refl _ w).alloc _).alloc _).same hk1)
    have R0 := Lib.hid r0
    have R1 := Lib.hid r1
    have HE1 := Lib.hid he1
    clear r0 r1 hk1 he1
    go_wp2_with fail
    generalize hv1 : World.setCell _ _ _ = v1
    have kv : Kp (fun k => w.heap.size ≤ k) w1 v1 := by rw [← hv1]; exact Kp.setCell (Kp.refl _ _) (Or.inl (by show w.heap.size ≤ w.heap.size + 1; omega)) _
    have heV := HE1.out.far hp hA kv
    have HKv := Lib.hid (show Kp (fun k => k = p) w v1 by rw [← hv1]; exact Kp.setCell HK1.out (Or.inr (by show w.heap.size ≤ w.heap.size + 1; omega)) _)
    have O1 := Lib.hid (show v1.heap[w.heap.size + 1]? = some (.cells (recC 2 0 0 0 0 0 ⟨#[]⟩ (.slice none 0 0)) 25 (0, 0)) by rw [← hv1]; exact heap_setCell_same _ _ _ _ _ _ R1.out)
    have Q1 := Lib.hid ((show v1.heap[w.heap.size]? = _ by rw [← hv1]; exact heap_setCell_other _ _ _ _ (by show w.heap.size ≠ w.heap.size + 1; omega)).trans R0.out)
    clear hv1 kv c1 f1 R0 R1 HK1 HE1
    refine (HY.out _ heV).mono ?_
    rintro e w2 ⟨hk2, ⟨qk, qu, qi, qq, qt, qb, hpl, rfl⟩, he2⟩
    have hqi : qi = PK.zag x1 := congrArg PK.Rp.i hpl
    subst hqi
    clear hpl
    have hfd : ∀ w : World, (Instr.field 115 (.agg #[.int .u8 (qk : Int), .int .u64 (qu : Int), .int .i64 (PK.zag x1), .int .u64 (qq : Int), .string qt, .bool qb]) 2).run Tryz.prog w = .ok (.int .i64 (PK.zag x1)) w := fun _ => by kernel_rfl
    have r0 := (hk2.block _ (lt_of_heap Q1.out) (by show ¬ w.heap.size = p; omega)).trans Q1.out
    have r1 := (hk2.block _ (lt_of_heap O1.out) (by show ¬ w.heap.size + 1 = p; omega)).trans O1.out
    have c1 := fun o => cell_of_row w2 _ o _ _ (0, 0) r1
    have f1 : ∀ o, w2.frozen? ⟨w.heap.size + 1, o, none⟩ = false := fun o => frozen_of_row _ _ o _ _ r1
    have cR := fun o => cell_of_row w2 _ o _ _ (0, 0) r0
    have fR : ∀ o, w2.frozen? ⟨w.heap.size, o, none⟩ = false := fun o => frozen_of_row _ _ o _ _ r0
    have cE := fun o => cell_of_row w2 _ o _ _ (0, 0) he2.row
    have HE2 := Lib.hid he2
    have HK2 := Lib.hid (HKv.out.same hk2)
    have RO := Lib.hid r1
    have RR := Lib.hid r0
    clear r0 r1 he2 hk2
    go_wp2_with fail
    generalize hv2 : World.setCell _ _ _ = v2
    have kv2 : Kp (fun k => w.heap.size ≤ k) w2 v2 := by rw [← hv2]; exact Kp.setCell (Kp.refl _ _) (Or.inl (by show w.heap.size ≤ w.heap.size + 1; omega)) _
    have heV2 := HE2.out.far hp hA kv2
    have HKv2 := Lib.hid (show Kp (fun k => k = p) w v2 by rw [← hv2]; exact Kp.setCell HK2.out (Or.inr (by show w.heap.size ≤ w.heap.size + 1; omega)) _)
    have O2 := Lib.hid (show v2.heap[w.heap.size + 1]? = some (.cells (recC 2 (PK.zag x1) 0 0 0 0 ⟨#[]⟩ (.slice none 0 0)) 25 (0, 0)) by rw [← hv2]; exact heap_setCell_same _ _ _ _ _ _ RO.out)
    have Q2 := Lib.hid ((show v2.heap[w.heap.size]? = _ by rw [← hv2]; exact heap_setCell_other _ _ _ _ (by show w.heap.size ≠ w.heap.size + 1; omega)).trans RR.out)
    clear hv2 kv2 c1 f1 cR fR cE HE2 HK2 RO RR HKv O1 Q1 heV
    have hqo := (fieldR_one (by omega) Hf.out).2.2.1
    refine (rcheck_any ⟨2, PK.zag x1, 0, 0, 0, 0, ⟨#[]⟩, []⟩ none 0 v2 hqo (Its.nil _ _) (by show Lim ([] : List RC.It).length; unfold Lim; decide)).mono ?_
    rintro e w3 ⟨rfl, hb3⟩
    have O3 := Lib.hid ((hb3.block _ (lt_of_heap O2.out)).trans O2.out)
    have Q3 := Lib.hid ((hb3.block _ (lt_of_heap Q2.out)).trans Q2.out)
    have he3 := heV2.below hb3
    have hk3 : Kp (fun k => k = p) w w3 := HKv2.out.same (Kp.of_below hb3 _)
    have HK3 := Lib.hid hk3
    clear hb3 hk3 O2 Q2 heV2 HKv2
    go_wp2_with fail
    refine (efail_yes p A c bs _ _ w3 he3).mono ?_
    rintro e w4 ⟨rfl, he4, hk4⟩
    have O4 := Lib.hid ((hk4.block _ (lt_of_heap O3.out) (by show ¬ w.heap.size + 1 = p; omega)).trans O3.out)
    have Q4 := Lib.hid ((hk4.block _ (lt_of_heap Q3.out) (by show ¬ w.heap.size = p; omega)).trans Q3.out)
    have HK4 := Lib.hid (HK3.out.same hk4)
    clear hk4 he3 O3 Q3 HK3
    have c1 := fun o => cell_of_row w4 _ o _ _ (0, 0) O4.out
    have cR := fun o => cell_of_row w4 _ o _ _ (0, 0) Q4.out
    have fR : ∀ o, w4.frozen? ⟨w.heap.size, o, none⟩ = false := fun o => frozen_of_row _ _ o _ _ Q4.out
    rcases Nat.eq_zero_or_pos (RC.chk ⟨2, PK.zag x1, 0, 0, 0, 0, ⟨#[]⟩, []⟩) with hc | hc
    · have HC := Lib.hid (recR_ok HK.out Hf.out hc)
      rw [hc] at he4
      have cE := fun o => cell_of_row w4 _ o _ _ (0, 0) he4.row
      have HE4 := Lib.hid he4
      clear hc he4
      go_wp2_with fail
      refine bodyPost_ret (v := recV ⟨2, PK.zag x1, 0, 0, 0, 0, ⟨#[]⟩, []⟩ none 0) (by simp [results, Tryz.results89, go_sem, cR]) rfl ?_
      rw [HC.out]
      refine ⟨?_, ⟨none, 0, rfl, World.ownsRow_nil _ _ _ _, fun k e => by cases e⟩, ?_⟩
      · iterate 8 refine Kp.setCell ?_ (Or.inr (by simp)) _
        exact HK4.out
      · rw [← Nat.add_assoc]
        refine HE4.out.far hp hA ?_
        iterate 8 refine Kp.setCell ?_ (Or.inl (by simp)) _
        exact Kp.refl _ _
    · have HC := Lib.hid (recR_no HK.out Hf.out (by omega))
      generalize RC.chk _ = code at *
      have h1 : ((code : Int) == 0) = false := by simp; omega
      have h2 : ((code : Int) != 0) = true := by simp; omega
      have cE := fun o => cell_of_row w4 _ o _ _ (0, 0) he4.row
      have HE4 := Lib.hid he4
      clear hc he4
      go_wp2_with fail
      refine bodyPost_ret (v := .agg (recC 0 0 0 0 0 0 ⟨#[]⟩ (.slice none 0 0))) (by simp [results, Tryz.results89, go_sem, cR]) rfl ?_
      refine NPost.bad HC.out ?_ (by omega) (HE4.out.far hp hA ?_)
      · iterate 8 refine Kp.setCell ?_ (Or.inr (by simp)) _
        exact HK4.out
      · iterate 8 refine Kp.setCell ?_ (Or.inl (by simp)) _
        exact Kp.refl _ _

set_option maxHeartbeats 2000000 in
set_option maxRecDepth 100000 in
theorem next_3 (n0 : Nat) (p : Nat) (A : Option Addr) (c : Nat) (bs : List UInt8) (at_ : Nat) (w : World) (he : Ey w p A c bs at_ 0) (hU : uptoR 9 (bs.drop at_) = .ok 3 n0) (hA : bs ≠ [] → ∀ ad, A = some ad → ad.block < w.heap.size) :
    Calls Tryz.prog 89 #[.pointer (some ⟨p, 0, none⟩)] w (NPost p A c bs at_ (recR (bs.drop at_)) w) := by
  have hp := lt_of_heap he.row
  have hK : kindR (bs.drop at_) = .ok 3 n0 := by unfold kindR; rw [andR_ok hU]; rfl
  have HX := Lib.hid (fun w' (he' : Ey w' p A c bs at_ 0) => eupto_any p A c bs at_ 9 w' (by omega) he')
  rw [show ((9 : Nat) : Int) = 9 from rfl, hU] at HX
  have hY := fun w' (he' : Ey w' p A c bs (at_ + n0) 0) => epart_any p A c bs (at_ + n0) 105 0 w' (by omega) rfl he'
  rw [show partR 105 0 (bs.drop (at_ + n0)) = Res.map (fun n => { PK.zeroPt 105 with i := PK.zag n }) (numR (bs.drop (at_ + n0))) from rfl] at hY
  have HE := Lib.hid he
  have HK := Lib.hid hK
  clear he hU hK
  cases hN : numR (bs.drop (at_ + n0)) with
  | bad code n =>
    rw [hN] at hY
    have Hf := Lib.hid (recR_bad2 HK.out (show fieldR 3 ((bs.drop at_).drop n0) = .bad code n by rw [List.drop_drop]; show Res.map _ (numR _) = _; rw [hN]; rfl))
    have hc := partR_bad_pos (k := 105) (m := 0) (l := bs.drop (at_ + n0)) (e := code) (n := n) (by show Res.map _ (numR (bs.drop (at_ + n0))) = _; rw [hN]; rfl)
    have HY := Lib.hid hY
    have h1 : ((code : Int) == 0) = false := by simp; omega
    have h2 : ((code : Int) != 0) = true := by simp; omega
    have hfd : ∀ w : World, (Instr.field 115 (.agg #[.int .u8 0, .int .u64 0, .int .i64 0, .int .u64 0, .string ⟨#[]⟩, .bool false]) 2).run Tryz.prog w = .ok (.int .i64 0) w := fun _ => by kernel_rfl
    clear hY hN
    go_enter Tryz.func89, Tryz.ntmps89
    go_wp2_with fail
    refine (HX.out _ (HE.out.below (below2 w _ _))).mono ?_
    rintro e w1 ⟨hk1, rfl, he1⟩
    have r0 := (hk1.block w.heap.size (by simp only [World.size_alloc]; omega) (by show ¬ w.heap.size = p; omega)).trans (heap_alloc2_old w _ _)
    have r1 := (hk1.block (w.heap.size + 1) (by simp only [World.size_alloc]; omega) (by show ¬ w.heap.size + 1 = p; omega)).trans (heap_alloc2_new w _ _)
    have c1 := fun o => cell_of_row w1 _ o _ _ (0, 0) r1
    have f1 : ∀ o, w1.frozen? ⟨w.heap.size + 1, o, none⟩ = false := fun o => frozen_of_row _ _ o _ _ r1
    have HK1 := Lib.hid (show Kp (fun k => k = p) w w1 from (((Kp.refl _ w).alloc _).alloc _).same hk1)
    have R0 := Lib.hid r0
    have R1 := Lib.hid r1
    have HE1 := Lib.hid he1
    clear r0 r1 hk1 he1
    go_wp2_with fail
    generalize hv1 : World.setCell _ _ _ = v1
    have kv : Kp (fun k => w.heap.size ≤ k) w1 v1 := by rw [← hv1]; exact Kp.setCell (Kp.refl _ _) (Or.inl (by show w.heap.size ≤ w.heap.size + 1; omega)) _
    have heV := HE1.out.far hp hA kv
    have HKv := Lib.hid (show Kp (fun k => k = p) w v1 by rw [← hv1]; exact Kp.setCell HK1.out (Or.inr (by show w.heap.size ≤ w.heap.size + 1; omega)) _)
    have O1 := Lib.hid (show v1.heap[w.heap.size + 1]? = some (.cells (recC 3 0 0 0 0 0 ⟨#[]⟩ (.slice none 0 0)) 25 (0, 0)) by rw [← hv1]; exact heap_setCell_same _ _ _ _ _ _ R1.out)
    have Q1 := Lib.hid ((show v1.heap[w.heap.size]? = _ by rw [← hv1]; exact heap_setCell_other _ _ _ _ (by show w.heap.size ≠ w.heap.size + 1; omega)).trans R0.out)
    clear hv1 kv c1 f1 R0 R1 HK1 HE1
    refine (HY.out _ heV).mono ?_
    rintro e w2 ⟨hk2, rfl, he2⟩
    have r0 := (hk2.block _ (lt_of_heap Q1.out) (by show ¬ w.heap.size = p; omega)).trans Q1.out
    have r1 := (hk2.block _ (lt_of_heap O1.out) (by show ¬ w.heap.size + 1 = p; omega)).trans O1.out
    have c1 := fun o => cell_of_row w2 _ o _ _ (0, 0) r1
    have f1 : ∀ o, w2.frozen? ⟨w.heap.size + 1, o, none⟩ = false := fun o => frozen_of_row _ _ o _ _ r1
    have cR := fun o => cell_of_row w2 _ o _ _ (0, 0) r0
    have fR : ∀ o, w2.frozen? ⟨w.heap.size, o, none⟩ = false := fun o => frozen_of_row _ _ o _ _ r0
    have cE := fun o => cell_of_row w2 _ o _ _ (0, 0) he2.row
    have HE2 := Lib.hid he2
    have HK2 := Lib.hid (HKv.out.same hk2)
    have RO := Lib.hid r1
    have RR := Lib.hid r0
    clear r0 r1 he2 hk2
    go_wp2_with fail
    refine bodyPost_ret (v := .agg (recC 0 0 0 0 0 0 ⟨#[]⟩ (.slice none 0 0))) (by simp [results, Tryz.results89, go_sem, cR]) rfl ?_
    refine NPost.bad Hf.out ?_ (by omega) (HE2.out.far hp hA ?_)
    · iterate 9 refine Kp.setCell ?_ (Or.inr (by simp)) _
      exact HK2.out
    · iterate 9 refine Kp.setCell ?_ (Or.inl (by simp)) _
      exact Kp.refl _ _
  | ok x1 n =>
    rw [hN] at hY
    have Hf := Lib.hid (show fieldR 3 ((bs.drop at_).drop n0) = .ok ⟨3, PK.zag x1, 0, 0, 0, 0, ⟨#[]⟩, []⟩ n by rw [List.drop_drop]; show Res.map _ (numR _) = _; rw [hN]; rfl)
    have HY := Lib.hid hY
    clear hY hN
    go_enter Tryz.func89, Tryz.ntmps89
    go_wp2_with fail
    refine (HX.out _ (HE.out.below (below2 w _ _))).mono ?_
    rintro e w1 ⟨hk1, rfl, he1⟩
    have r0 := (hk1.block w.heap.size (by simp only [World.size_alloc]; omega) (by show ¬ w.heap.size = p; omega)).trans (heap_alloc2_old w _ _)
    have r1 := (hk1.block (w.heap.size + 1) (by simp only [World.size_alloc]; omega) (by show ¬ w.heap.size + 1 = p; omega)).trans (heap_alloc2_new w _ _)
    have c1 := fun o => cell_of_row w1 _ o _ _ (0, 0) r1
    have f1 : ∀ o, w1.frozen? ⟨w.heap.size + 1, o, none⟩ = false := fun o => frozen_of_row _ _ o _ _ r1
    have HK1 := Lib.hid (show Kp (fun k => k = p) w w1 from (((Kp.refl _ w).alloc _).alloc _).same hk1)
    have R0 := Lib.hid r0
    have R1 := Lib.hid r1
    have HE1 := Lib.hid he1
    clear r0 r1 hk1 he1
    go_wp2_with fail
    generalize hv1 : World.setCell _ _ _ = v1
    have kv : Kp (fun k => w.heap.size ≤ k) w1 v1 := by rw [← hv1]; exact Kp.setCell (Kp.refl _ _) (Or.inl (by show w.heap.size ≤ w.heap.size + 1; omega)) _
    have heV := HE1.out.far hp hA kv
    have HKv := Lib.hid (show Kp (fun k => k = p) w v1 by rw [← hv1]; exact Kp.setCell HK1.out (Or.inr (by show w.heap.size ≤ w.heap.size + 1; omega)) _)
    have O1 := Lib.hid (show v1.heap[w.heap.size + 1]? = some (.cells (recC 3 0 0 0 0 0 ⟨#[]⟩ (.slice none 0 0)) 25 (0, 0)) by rw [← hv1]; exact heap_setCell_same _ _ _ _ _ _ R1.out)
    have Q1 := Lib.hid ((show v1.heap[w.heap.size]? = _ by rw [← hv1]; exact heap_setCell_other _ _ _ _ (by show w.heap.size ≠ w.heap.size + 1; omega)).trans R0.out)
    clear hv1 kv c1 f1 R0 R1 HK1 HE1
    refine (HY.out _ heV).mono ?_
    rintro e w2 ⟨hk2, ⟨qk, qu, qi, qq, qt, qb, hpl, rfl⟩, he2⟩
    have hqi : qi = PK.zag x1 := congrArg PK.Rp.i hpl
    subst hqi
    clear hpl
    have hfd : ∀ w : World, (Instr.field 115 (.agg #[.int .u8 (qk : Int), .int .u64 (qu : Int), .int .i64 (PK.zag x1), .int .u64 (qq : Int), .string qt, .bool qb]) 2).run Tryz.prog w = .ok (.int .i64 (PK.zag x1)) w := fun _ => by kernel_rfl
    have r0 := (hk2.block _ (lt_of_heap Q1.out) (by show ¬ w.heap.size = p; omega)).trans Q1.out
    have r1 := (hk2.block _ (lt_of_heap O1.out) (by show ¬ w.heap.size + 1 = p; omega)).trans O1.out
    have c1 := fun o => cell_of_row w2 _ o _ _ (0, 0) r1
    have f1 : ∀ o, w2.frozen? ⟨w.heap.size + 1, o, none⟩ = false := fun o => frozen_of_row _ _ o _ _ r1
    have cR := fun o => cell_of_row w2 _ o _ _ (0, 0) r0
    have fR : ∀ o, w2.frozen? ⟨w.heap.size, o, none⟩ = false := fun o => frozen_of_row _ _ o _ _ r0
    have cE := fun o => cell_of_row w2 _ o _ _ (0, 0) he2.row
    have HE2 := Lib.hid he2
    have HK2 := Lib.hid (HKv.out.same hk2)
    have RO := Lib.hid r1
    have RR := Lib.hid r0
    clear r0 r1 he2 hk2
    go_wp2_with fail
    generalize hv2 : World.setCell _ _ _ = v2
    have kv2 : Kp (fun k => w.heap.size ≤ k) w2 v2 := by rw [← hv2]; exact Kp.setCell (Kp.refl _ _) (Or.inl (by show w.heap.size ≤ w.heap.size + 1; omega)) _
    have heV2 := HE2.out.far hp hA kv2
    have HKv2 := Lib.hid (show Kp (fun k => k = p) w v2 by rw [← hv2]; exact Kp.setCell HK2.out (Or.inr (by show w.heap.size ≤ w.heap.size + 1; omega)) _)
    have O2 := Lib.hid (show v2.heap[w.heap.size + 1]? = some (.cells (recC 3 (PK.zag x1) 0 0 0 0 ⟨#[]⟩ (.slice none 0 0)) 25 (0, 0)) by rw [← hv2]; exact heap_setCell_same _ _ _ _ _ _ RO.out)
    have Q2 := Lib.hid ((show v2.heap[w.heap.size]? = _ by rw [← hv2]; exact heap_setCell_other _ _ _ _ (by show w.heap.size ≠ w.heap.size + 1; omega)).trans RR.out)
    clear hv2 kv2 c1 f1 cR fR cE HE2 HK2 RO RR HKv O1 Q1 heV
    have hqo := (fieldR_one (by omega) Hf.out).2.2.1
    refine (rcheck_any ⟨3, PK.zag x1, 0, 0, 0, 0, ⟨#[]⟩, []⟩ none 0 v2 hqo (Its.nil _ _) (by show Lim ([] : List RC.It).length; unfold Lim; decide)).mono ?_
    rintro e w3 ⟨rfl, hb3⟩
    have O3 := Lib.hid ((hb3.block _ (lt_of_heap O2.out)).trans O2.out)
    have Q3 := Lib.hid ((hb3.block _ (lt_of_heap Q2.out)).trans Q2.out)
    have he3 := heV2.below hb3
    have hk3 : Kp (fun k => k = p) w w3 := HKv2.out.same (Kp.of_below hb3 _)
    have HK3 := Lib.hid hk3
    clear hb3 hk3 O2 Q2 heV2 HKv2
    go_wp2_with fail
    refine (efail_yes p A c bs _ _ w3 he3).mono ?_
    rintro e w4 ⟨rfl, he4, hk4⟩
    have O4 := Lib.hid ((hk4.block _ (lt_of_heap O3.out) (by show ¬ w.heap.size + 1 = p; omega)).trans O3.out)
    have Q4 := Lib.hid ((hk4.block _ (lt_of_heap Q3.out) (by show ¬ w.heap.size = p; omega)).trans Q3.out)
    have HK4 := Lib.hid (HK3.out.same hk4)
    clear hk4 he3 O3 Q3 HK3
    have c1 := fun o => cell_of_row w4 _ o _ _ (0, 0) O4.out
    have cR := fun o => cell_of_row w4 _ o _ _ (0, 0) Q4.out
    have fR : ∀ o, w4.frozen? ⟨w.heap.size, o, none⟩ = false := fun o => frozen_of_row _ _ o _ _ Q4.out
    rcases Nat.eq_zero_or_pos (RC.chk ⟨3, PK.zag x1, 0, 0, 0, 0, ⟨#[]⟩, []⟩) with hc | hc
    · have HC := Lib.hid (recR_ok HK.out Hf.out hc)
      rw [hc] at he4
      have cE := fun o => cell_of_row w4 _ o _ _ (0, 0) he4.row
      have HE4 := Lib.hid he4
      clear hc he4
      go_wp2_with fail
      refine bodyPost_ret (v := recV ⟨3, PK.zag x1, 0, 0, 0, 0, ⟨#[]⟩, []⟩ none 0) (by simp [results, Tryz.results89, go_sem, cR]) rfl ?_
      rw [HC.out]
      refine ⟨?_, ⟨none, 0, rfl, World.ownsRow_nil _ _ _ _, fun k e => by cases e⟩, ?_⟩
      · iterate 8 refine Kp.setCell ?_ (Or.inr (by simp)) _
        exact HK4.out
      · rw [← Nat.add_assoc]
        refine HE4.out.far hp hA ?_
        iterate 8 refine Kp.setCell ?_ (Or.inl (by simp)) _
        exact Kp.refl _ _
    · have HC := Lib.hid (recR_no HK.out Hf.out (by omega))
      generalize RC.chk _ = code at *
      have h1 : ((code : Int) == 0) = false := by simp; omega
      have h2 : ((code : Int) != 0) = true := by simp; omega
      have cE := fun o => cell_of_row w4 _ o _ _ (0, 0) he4.row
      have HE4 := Lib.hid he4
      clear hc he4
      go_wp2_with fail
      refine bodyPost_ret (v := .agg (recC 0 0 0 0 0 0 ⟨#[]⟩ (.slice none 0 0))) (by simp [results, Tryz.results89, go_sem, cR]) rfl ?_
      refine NPost.bad HC.out ?_ (by omega) (HE4.out.far hp hA ?_)
      · iterate 8 refine Kp.setCell ?_ (Or.inr (by simp)) _
        exact HK4.out
      · iterate 8 refine Kp.setCell ?_ (Or.inl (by simp)) _
        exact Kp.refl _ _

set_option maxHeartbeats 2000000 in
set_option maxRecDepth 100000 in
theorem next_5 (n0 : Nat) (p : Nat) (A : Option Addr) (c : Nat) (bs : List UInt8) (at_ : Nat) (w : World) (he : Ey w p A c bs at_ 0) (hU : uptoR 9 (bs.drop at_) = .ok 5 n0) (hA : bs ≠ [] → ∀ ad, A = some ad → ad.block < w.heap.size) :
    Calls Tryz.prog 89 #[.pointer (some ⟨p, 0, none⟩)] w (NPost p A c bs at_ (recR (bs.drop at_)) w) := by
  have hp := lt_of_heap he.row
  have hK : kindR (bs.drop at_) = .ok 5 n0 := by unfold kindR; rw [andR_ok hU]; rfl
  have HX := Lib.hid (fun w' (he' : Ey w' p A c bs at_ 0) => eupto_any p A c bs at_ 9 w' (by omega) he')
  rw [show ((9 : Nat) : Int) = 9 from rfl, hU] at HX
  have hY := fun w' (he' : Ey w' p A c bs (at_ + n0) 0) => epart_any p A c bs (at_ + n0) 102 0 w' (by omega) rfl he'
  rw [show partR 102 0 (bs.drop (at_ + n0)) = Res.map (fun x => { PK.zeroPt 102 with f := x }) (floR (bs.drop (at_ + n0))) from rfl] at hY
  have HE := Lib.hid he
  have HK := Lib.hid hK
  clear he hU hK
  cases hN : floR (bs.drop (at_ + n0)) with
  | bad code n =>
    rw [hN] at hY
    have Hf := Lib.hid (recR_bad2 HK.out (show fieldR 5 ((bs.drop at_).drop n0) = .bad code n by rw [List.drop_drop]; show Res.map _ (floR _) = _; rw [hN]; rfl))
    have hc := partR_bad_pos (k := 102) (m := 0) (l := bs.drop (at_ + n0)) (e := code) (n := n) (by show Res.map _ (floR (bs.drop (at_ + n0))) = _; rw [hN]; rfl)
    have HY := Lib.hid hY
    have h1 : ((code : Int) == 0) = false := by simp; omega
    have h2 : ((code : Int) != 0) = true := by simp; omega
    have hfd : ∀ w : World, (Instr.field 115 (.agg #[.int .u8 0, .int .u64 0, .int .i64 0, .int .u64 0, .string ⟨#[]⟩, .bool false]) 3).run Tryz.prog w = .ok (.int .u64 0) w := fun _ => by kernel_rfl
    clear hY hN
    go_enter Tryz.func89, Tryz.ntmps89
    go_wp2_with fail
    refine (HX.out _ (HE.out.below (below2 w _ _))).mono ?_
    rintro e w1 ⟨hk1, rfl, he1⟩
    have r0 := (hk1.block w.heap.size (by simp only [World.size_alloc]; omega) (by show ¬ w.heap.size = p; omega)).trans (heap_alloc2_old w _ _)
    have r1 := (hk1.block (w.heap.size + 1) (by simp only [World.size_alloc]; omega) (by show ¬ w.heap.size + 1 = p; omega)).trans (heap_alloc2_new w _ _)
    have c1 := fun o => cell_of_row w1 _ o _ _ (0, 0) r1
    have f1 : ∀ o, w1.frozen? ⟨w.heap.size + 1, o, none⟩ = false := fun o => frozen_of_row _ _ o _ _ r1
    have HK1 := Lib.hid (show Kp (fun k => k = p) w w1 from (((Kp.refl _ w).alloc _).alloc _).same hk1)
    have R0 := Lib.hid r0
    have R1 := Lib.hid r1
    have HE1 := Lib.hid he1
    clear r0 r1 hk1 he1
    go_wp2_with fail
    generalize hv1 : World.setCell _ _ _ = v1
    have kv : Kp (fun k => w.heap.size ≤ k) w1 v1 := by rw [← hv1]; exact Kp.setCell (Kp.refl _ _) (Or.inl (by show w.heap.size ≤ w.heap.size + 1; omega)) _
    have heV := HE1.out.far hp hA kv
    have HKv := Lib.hid (show Kp (fun k => k = p) w v1 by rw [← hv1]; exact Kp.setCell HK1.out (Or.inr (by show w.heap.size ≤ w.heap.size + 1; omega)) _)
    have O1 := Lib.hid (show v1.heap[w.heap.size + 1]? = some (.cells (recC 5 0 0 0 0 0 ⟨#[]⟩ (.slice none 0 0)) 25 (0, 0)) by rw [← hv1]; exact heap_setCell_same _ _ _ _ _ _ R1.out)
    have Q1 := Lib.hid ((show v1.heap[w.heap.size]? = _ by rw [← hv1]; exact heap_setCell_other _ _ _ _ (by show w.heap.size ≠ w.heap.size + 1; omega)).trans R0.out)
    clear hv1 kv c1 f1 R0 R1 HK1 HE1
    refine (HY.out _ heV).mono ?_
    rintro e w2 ⟨hk2, rfl, he2⟩
    have r0 := (hk2.block _ (lt_of_heap Q1.out) (by show ¬ w.heap.size = p; omega)).trans Q1.out
    have r1 := (hk2.block _ (lt_of_heap O1.out) (by show ¬ w.heap.size + 1 = p; omega)).trans O1.out
    have c1 := fun o => cell_of_row w2 _ o _ _ (0, 0) r1
    have f1 : ∀ o, w2.frozen? ⟨w.heap.size + 1, o, none⟩ = false := fun o => frozen_of_row _ _ o _ _ r1
    have cR := fun o => cell_of_row w2 _ o _ _ (0, 0) r0
    have fR : ∀ o, w2.frozen? ⟨w.heap.size, o, none⟩ = false := fun o => frozen_of_row _ _ o _ _ r0
    have cE := fun o => cell_of_row w2 _ o _ _ (0, 0) he2.row
    have HE2 := Lib.hid he2
    have HK2 := Lib.hid (HKv.out.same hk2)
    have RO := Lib.hid r1
    have RR := Lib.hid r0
    clear r0 r1 he2 hk2
    go_wp2_with fail
    refine (rnumber1_any 0 w2 (by unfold MF.W64; decide)).mono ?_
    rintro e w2_ ⟨rfl, rfl⟩
    go_wp2_with fail
    refine bodyPost_ret (v := .agg (recC 0 0 0 0 0 0 ⟨#[]⟩ (.slice none 0 0))) (by simp [results, Tryz.results89, go_sem, cR]) rfl ?_
    refine NPost.bad Hf.out ?_ (by omega) (HE2.out.far hp hA ?_)
    · iterate 9 refine Kp.setCell ?_ (Or.inr (by simp)) _
      exact HK2.out
    · iterate 9 refine Kp.setCell ?_ (Or.inl (by simp)) _
      exact Kp.refl _ _
  | ok x1 n =>
    rw [hN] at hY
    have Hf := Lib.hid (show fieldR 5 ((bs.drop at_).drop n0) = .ok ⟨5, 0, 0, 0, x1, 0, ⟨#[]⟩, []⟩ n by rw [List.drop_drop]; show Res.map _ (floR _) = _; rw [hN]; rfl)
    obtain ⟨-, -, -, hW, hcn⟩ := floR_one hN
    have HB := Lib.hid (show MF.bk (MF.key x1) = x1 by rw [MF.bk_key hW, hcn])
    have HW := Lib.hid (MF.key_lt hW)
    clear hW hcn
    have HY := Lib.hid hY
    clear hY hN
    go_enter Tryz.func89, Tryz.ntmps89
    go_wp2_with fail
    refine (HX.out _ (HE.out.below (below2 w _ _))).mono ?_
    rintro e w1 ⟨hk1, rfl, he1⟩
    have r0 := (hk1.block w.heap.size (by simp only [World.size_alloc]; omega) (by show ¬ w.heap.size = p; omega)).trans (heap_alloc2_old w _ _)
    have r1 := (hk1.block (w.heap.size + 1) (by simp only [World.size_alloc]; omega) (by show ¬ w.heap.size + 1 = p; omega)).trans (heap_alloc2_new w _ _)
    have c1 := fun o => cell_of_row w1 _ o _ _ (0, 0) r1
    have f1 : ∀ o, w1.frozen? ⟨w.heap.size + 1, o, none⟩ = false := fun o => frozen_of_row _ _ o _ _ r1
    have HK1 := Lib.hid (show Kp (fun k => k = p) w w1 from (((Kp.refl _ w).alloc _).alloc _).same hk1)
    have R0 := Lib.hid r0
    have R1 := Lib.hid r1
    have HE1 := Lib.hid he1
    clear r0 r1 hk1 he1
    go_wp2_with fail
    generalize hv1 : World.setCell _ _ _ = v1
    have kv : Kp (fun k => w.heap.size ≤ k) w1 v1 := by rw [← hv1]; exact Kp.setCell (Kp.refl _ _) (Or.inl (by show w.heap.size ≤ w.heap.size + 1; omega)) _
    have heV := HE1.out.far hp hA kv
    have HKv := Lib.hid (show Kp (fun k => k = p) w v1 by rw [← hv1]; exact Kp.setCell HK1.out (Or.inr (by show w.heap.size ≤ w.heap.size + 1; omega)) _)
    have O1 := Lib.hid (show v1.heap[w.heap.size + 1]? = some (.cells (recC 5 0 0 0 0 0 ⟨#[]⟩ (.slice none 0 0)) 25 (0, 0)) by rw [← hv1]; exact heap_setCell_same _ _ _ _ _ _ R1.out)
    have Q1 := Lib.hid ((show v1.heap[w.heap.size]? = _ by rw [← hv1]; exact heap_setCell_other _ _ _ _ (by show w.heap.size ≠ w.heap.size + 1; omega)).trans R0.out)
    clear hv1 kv c1 f1 R0 R1 HK1 HE1
    refine (HY.out _ heV).mono ?_
    rintro e w2 ⟨hk2, ⟨qk, qu, qi, qq, qt, qb, hpl, rfl⟩, he2⟩
    have hqi : qq = MF.key x1 := congrArg PK.Rp.p hpl
    subst hqi
    clear hpl
    have hfd : ∀ w : World, (Instr.field 115 (.agg #[.int .u8 (qk : Int), .int .u64 (qu : Int), .int .i64 qi, .int .u64 (MF.key x1 : Nat), .string qt, .bool qb]) 3).run Tryz.prog w = .ok (.int .u64 (MF.key x1 : Nat)) w := fun _ => by kernel_rfl
    have r0 := (hk2.block _ (lt_of_heap Q1.out) (by show ¬ w.heap.size = p; omega)).trans Q1.out
    have r1 := (hk2.block _ (lt_of_heap O1.out) (by show ¬ w.heap.size + 1 = p; omega)).trans O1.out
    have c1 := fun o => cell_of_row w2 _ o _ _ (0, 0) r1
    have f1 : ∀ o, w2.frozen? ⟨w.heap.size + 1, o, none⟩ = false := fun o => frozen_of_row _ _ o _ _ r1
    have cR := fun o => cell_of_row w2 _ o _ _ (0, 0) r0
    have fR : ∀ o, w2.frozen? ⟨w.heap.size, o, none⟩ = false := fun o => frozen_of_row _ _ o _ _ r0
    have cE := fun o => cell_of_row w2 _ o _ _ (0, 0) he2.row
    have HE2 := Lib.hid he2
    have HK2 := Lib.hid (HKv.out.same hk2)
    have RO := Lib.hid r1
    have RR := Lib.hid r0
    clear r0 r1 he2 hk2
    go_wp2_with fail
    refine (rnumber1_any (MF.key x1) w2 HW.out).mono ?_
    rintro e w2_ ⟨rfl, rfl⟩
    rw [HB.out]
    go_wp2_with fail
    generalize hv2 : World.setCell _ _ _ = v2
    have kv2 : Kp (fun k => w.heap.size ≤ k) w2 v2 := by rw [← hv2]; exact Kp.setCell (Kp.refl _ _) (Or.inl (by show w.heap.size ≤ w.heap.size + 1; omega)) _
    have heV2 := HE2.out.far hp hA kv2
    have HKv2 := Lib.hid (show Kp (fun k => k = p) w v2 by rw [← hv2]; exact Kp.setCell HK2.out (Or.inr (by show w.heap.size ≤ w.heap.size + 1; omega)) _)
    have O2 := Lib.hid (show v2.heap[w.heap.size + 1]? = some (.cells (recC 5 0 0 0 x1 0 ⟨#[]⟩ (.slice none 0 0)) 25 (0, 0)) by rw [← hv2]; exact heap_setCell_same _ _ _ _ _ _ RO.out)
    have Q2 := Lib.hid ((show v2.heap[w.heap.size]? = _ by rw [← hv2]; exact heap_setCell_other _ _ _ _ (by show w.heap.size ≠ w.heap.size + 1; omega)).trans RR.out)
    clear hv2 kv2 c1 f1 cR fR cE HE2 HK2 RO RR HKv O1 Q1 heV
    have hqo := (fieldR_one (by omega) Hf.out).2.2.1
    refine (rcheck_any ⟨5, 0, 0, 0, x1, 0, ⟨#[]⟩, []⟩ none 0 v2 hqo (Its.nil _ _) (by show Lim ([] : List RC.It).length; unfold Lim; decide)).mono ?_
    rintro e w3 ⟨rfl, hb3⟩
    have O3 := Lib.hid ((hb3.block _ (lt_of_heap O2.out)).trans O2.out)
    have Q3 := Lib.hid ((hb3.block _ (lt_of_heap Q2.out)).trans Q2.out)
    have he3 := heV2.below hb3
    have hk3 : Kp (fun k => k = p) w w3 := HKv2.out.same (Kp.of_below hb3 _)
    have HK3 := Lib.hid hk3
    clear hb3 hk3 O2 Q2 heV2 HKv2
    go_wp2_with fail
    refine (efail_yes p A c bs _ _ w3 he3).mono ?_
    rintro e w4 ⟨rfl, he4, hk4⟩
    have O4 := Lib.hid ((hk4.block _ (lt_of_heap O3.out) (by show ¬ w.heap.size + 1 = p; omega)).trans O3.out)
    have Q4 := Lib.hid ((hk4.block _ (lt_of_heap Q3.out) (by show ¬ w.heap.size = p; omega)).trans Q3.out)
    have HK4 := Lib.hid (HK3.out.same hk4)
    clear hk4 he3 O3 Q3 HK3
    have c1 := fun o => cell_of_row w4 _ o _ _ (0, 0) O4.out
    have cR := fun o => cell_of_row w4 _ o _ _ (0, 0) Q4.out
    have fR : ∀ o, w4.frozen? ⟨w.heap.size, o, none⟩ = false := fun o => frozen_of_row _ _ o _ _ Q4.out
    rcases Nat.eq_zero_or_pos (RC.chk ⟨5, 0, 0, 0, x1, 0, ⟨#[]⟩, []⟩) with hc | hc
    · have HC := Lib.hid (recR_ok HK.out Hf.out hc)
      rw [hc] at he4
      have cE := fun o => cell_of_row w4 _ o _ _ (0, 0) he4.row
      have HE4 := Lib.hid he4
      clear hc he4
      go_wp2_with fail
      refine bodyPost_ret (v := recV ⟨5, 0, 0, 0, x1, 0, ⟨#[]⟩, []⟩ none 0) (by simp [results, Tryz.results89, go_sem, cR]) rfl ?_
      rw [HC.out]
      refine ⟨?_, ⟨none, 0, rfl, World.ownsRow_nil _ _ _ _, fun k e => by cases e⟩, ?_⟩
      · iterate 8 refine Kp.setCell ?_ (Or.inr (by simp)) _
        exact HK4.out
      · rw [← Nat.add_assoc]
        refine HE4.out.far hp hA ?_
        iterate 8 refine Kp.setCell ?_ (Or.inl (by simp)) _
        exact Kp.refl _ _
    · have HC := Lib.hid (recR_no HK.out Hf.out (by omega))
      generalize RC.chk _ = code at *
      have h1 : ((code : Int) == 0) = false := by simp; omega
      have h2 : ((code : Int) != 0) = true := by simp; omega
      have cE := fun o => cell_of_row w4 _ o _ _ (0, 0) he4.row
      have HE4 := Lib.hid he4
      clear hc he4
      go_wp2_with fail
      refine bodyPost_ret (v := .agg (recC 0 0 0 0 0 0 ⟨#[]⟩ (.slice none 0 0))) (by simp [results, Tryz.results89, go_sem, cR]) rfl ?_
      refine NPost.bad HC.out ?_ (by omega) (HE4.out.far hp hA ?_)
      · iterate 8 refine Kp.setCell ?_ (Or.inr (by simp)) _
        exact HK4.out
      · iterate 8 refine Kp.setCell ?_ (Or.inl (by simp)) _
        exact Kp.refl _ _

set_option maxHeartbeats 2000000 in
set_option maxRecDepth 100000 in
theorem next_6 (n0 : Nat) (p : Nat) (A : Option Addr) (c : Nat) (bs : List UInt8) (at_ : Nat) (w : World) (he : Ey w p A c bs at_ 0) (hU : uptoR 9 (bs.drop at_) = .ok 6 n0) (hA : bs ≠ [] → ∀ ad, A = some ad → ad.block < w.heap.size) :
    Calls Tryz.prog 89 #[.pointer (some ⟨p, 0, none⟩)] w (NPost p A c bs at_ (recR (bs.drop at_)) w) := by
  have hp := lt_of_heap he.row
  have hK : kindR (bs.drop at_) = .ok 6 n0 := by unfold kindR; rw [andR_ok hU]; rfl
  have HX := Lib.hid (fun w' (he' : Ey w' p A c bs at_ 0) => eupto_any p A c bs at_ 9 w' (by omega) he')
  rw [show ((9 : Nat) : Int) = 9 from rfl, hU] at HX
  have hY := fun w' (he' : Ey w' p A c bs (at_ + n0) 0) => epart_any p A c bs (at_ + n0) 102 0 w' (by omega) rfl he'
  rw [show partR 102 0 (bs.drop (at_ + n0)) = Res.map (fun x => { PK.zeroPt 102 with f := x }) (floR (bs.drop (at_ + n0))) from rfl] at hY
  have HE := Lib.hid he
  have HK := Lib.hid hK
  clear he hU hK
  cases hN : floR (bs.drop (at_ + n0)) with
  | bad code n =>
    rw [hN] at hY
    have Hf := Lib.hid (recR_bad2 HK.out (show fieldR 6 ((bs.drop at_).drop n0) = .bad code n by rw [List.drop_drop]; show Res.map _ (floR _) = _; rw [hN]; rfl))
    have hc := partR_bad_pos (k := 102) (m := 0) (l := bs.drop (at_ + n0)) (e := code) (n := n) (by show Res.map _ (floR (bs.drop (at_ + n0))) = _; rw [hN]; rfl)
    have HY := Lib.hid hY
    have h1 : ((code : Int) == 0) = false := by simp; omega
    have h2 : ((code : Int) != 0) = true := by simp; omega
    have hfd : ∀ w : World, (Instr.field 115 (.agg #[.int .u8 0, .int .u64 0, .int .i64 0, .int .u64 0, .string ⟨#[]⟩, .bool false]) 3).run Tryz.prog w = .ok (.int .u64 0) w := fun _ => by kernel_rfl
    clear hY hN
    go_enter Tryz.func89, Tryz.ntmps89
    go_wp2_with fail
    refine (HX.out _ (HE.out.below (below2 w _ _))).mono ?_
    rintro e w1 ⟨hk1, rfl, he1⟩
    have r0 := (hk1.block w.heap.size (by simp only [World.size_alloc]; omega) (by show ¬ w.heap.size = p; omega)).trans (heap_alloc2_old w _ _)
    have r1 := (hk1.block (w.heap.size + 1) (by simp only [World.size_alloc]; omega) (by show ¬ w.heap.size + 1 = p; omega)).trans (heap_alloc2_new w _ _)
    have c1 := fun o => cell_of_row w1 _ o _ _ (0, 0) r1
    have f1 : ∀ o, w1.frozen? ⟨w.heap.size + 1, o, none⟩ = false := fun o => frozen_of_row _ _ o _ _ r1
    have HK1 := Lib.hid (show Kp (fun k => k = p) w w1 from (((Kp.refl _ w).alloc _).alloc _).same hk1)
    have R0 := Lib.hid r0
    have R1 := Lib.hid r1
    have HE1 := Lib.hid he1
    clear r0 r1 hk1 he1
    go_wp2_with fail
    generalize hv1 : World.setCell _ _ _ = v1
    have kv : Kp (fun k => w.heap.size ≤ k) w1 v1 := by rw [← hv1]; exact Kp.setCell (Kp.refl _ _) (Or.inl (by show w.heap.size ≤ w.heap.size + 1; omega)) _
    have heV := HE1.out.far hp hA kv
    have HKv := Lib.hid (show Kp (fun k => k = p) w v1 by rw [← hv1]; exact Kp.setCell HK1.out (Or.inr (by show w.heap.size ≤ w.heap.size + 1; omega)) _)
    have O1 := Lib.hid (show v1.heap[w.heap.size + 1]? = some (.cells (recC 6 0 0 0 0 0 ⟨#[]⟩ (.slice none 0 0)) 25 (0, 0)) by rw [← hv1]; exact heap_setCell_same _ _ _ _ _ _ R1.out)
    have Q1 := Lib.hid ((show v1.heap[w.heap.size]? = _ by rw [← hv1]; exact heap_setCell_other _ _ _ _ (by show w.heap.size ≠ w.heap.size + 1; omega)).trans R0.out)
    clear hv1 kv c1 f1 R0 R1 HK1 HE1
    refine (HY.out _ heV).mono ?_
    rintro e w2 ⟨hk2, rfl, he2⟩
    have r0 := (hk2.block _ (lt_of_heap Q1.out) (by show ¬ w.heap.size = p; omega)).trans Q1.out
    have r1 := (hk2.block _ (lt_of_heap O1.out) (by show ¬ w.heap.size + 1 = p; omega)).trans O1.out
    have c1 := fun o => cell_of_row w2 _ o _ _ (0, 0) r1
    have f1 : ∀ o, w2.frozen? ⟨w.heap.size + 1, o, none⟩ = false := fun o => frozen_of_row _ _ o _ _ r1
    have cR := fun o => cell_of_row w2 _ o _ _ (0, 0) r0
    have fR : ∀ o, w2.frozen? ⟨w.heap.size, o, none⟩ = false := fun o => frozen_of_row _ _ o _ _ r0
    have cE := fun o => cell_of_row w2 _ o _ _ (0, 0) he2.row
    have HE2 := Lib.hid he2
    have HK2 := Lib.hid (HKv.out.same hk2)
    have RO := Lib.hid r1
    have RR := Lib.hid r0
    clear r0 r1 he2 hk2
    go_wp2_with fail
    refine (rnumber1_any 0 w2 (by unfold MF.W64; decide)).mono ?_
    rintro e w2_ ⟨rfl, rfl⟩
    go_wp2_with fail
    refine bodyPost_ret (v := .agg (recC 0 0 0 0 0 0 ⟨#[]⟩ (.slice none 0 0))) (by simp [results, Tryz.results89, go_sem, cR]) rfl ?_
    refine NPost.bad Hf.out ?_ (by omega) (HE2.out.far hp hA ?_)
    · iterate 9 refine Kp.setCell ?_ (Or.inr (by simp)) _
      exact HK2.out
    · iterate 9 refine Kp.setCell ?_ (Or.inl (by simp)) _
      exact Kp.refl _ _
  | ok x1 n =>
    rw [hN] at hY
    have Hf := Lib.hid (show fieldR 6 ((bs.drop at_).drop n0) = .ok ⟨6, 0, 0, 0, x1, 0, ⟨#[]⟩, []⟩ n by rw [List.drop_drop]; show Res.map _ (floR _) = _; rw [hN]; rfl)
    obtain ⟨-, -, -, hW, hcn⟩ := floR_one hN
    have HB := Lib.hid (show MF.bk (MF.key x1) = x1 by rw [MF.bk_key hW, hcn])
    have HW := Lib.hid (MF.key_lt hW)
    clear hW hcn
    have HY := Lib.hid hY
    clear hY hN
    go_enter Tryz.func89, Tryz.ntmps89
    go_wp2_with fail
    refine (HX.out _ (HE.out.below (below2 w _ _))).mono ?_
    rintro e w1 ⟨hk1, rfl, he1⟩
    have r0 := (hk1.block w.heap.size (by simp only [World.size_alloc]; omega) (by show ¬ w.heap.size = p; omega)).trans (heap_alloc2_old w _ _)
    have r1 := (hk1.block (w.heap.size + 1) (by simp only [World.size_alloc]; omega) (by show ¬ w.heap.size + 1 = p; omega)).trans (heap_alloc2_new w _ _)
    have c1 := fun o => cell_of_row w1 _ o _ _ (0, 0) r1
    have f1 : ∀ o, w1.frozen? ⟨w.heap.size + 1, o, none⟩ = false := fun o => frozen_of_row _ _ o _ _ r1
    have HK1 := Lib.hid (show Kp (fun k => k = p) w w1 from (((Kp.refl _ w).alloc _).alloc _).same hk1)
    have R0 := Lib.hid r0
    have R1 := Lib.hid r1
    have HE1 := Lib.hid he1
    clear r0 r1 hk1 he1
    go_wp2_with fail
    generalize hv1 : World.setCell _ _ _ = v1
    have kv : Kp (fun k => w.heap.size ≤ k) w1 v1 := by rw [← hv1]; exact Kp.setCell (Kp.refl _ _) (Or.inl (by show w.heap.size ≤ w.heap.size + 1; omega)) _
    have heV := HE1.out.far hp hA kv
    have HKv := Lib.hid (show Kp (fun k => k = p) w v1 by rw [← hv1]; exact Kp.setCell HK1.out (Or.inr (by show w.heap.size ≤ w.heap.size + 1; omega)) _)
    have O1 := Lib.hid (show v1.heap[w.heap.size + 1]? = some (.cells (recC 6 0 0 0 0 0 ⟨#[]⟩ (.slice none 0 0)) 25 (0, 0)) by rw [← hv1]; exact heap_setCell_same _ _ _ _ _ _ R1.out)
    have Q1 := Lib.hid ((show v1.heap[w.heap.size]? = _ by rw [← hv1]; exact heap_setCell_other _ _ _ _ (by show w.heap.size ≠ w.heap.size + 1; omega)).trans R0.out)
    clear hv1 kv c1 f1 R0 R1 HK1 HE1
    refine (HY.out _ heV).mono ?_
    rintro e w2 ⟨hk2, ⟨qk, qu, qi, qq, qt, qb, hpl, rfl⟩, he2⟩
    have hqi : qq = MF.key x1 := congrArg PK.Rp.p hpl
    subst hqi
    clear hpl
    have hfd : ∀ w : World, (Instr.field 115 (.agg #[.int .u8 (qk : Int), .int .u64 (qu : Int), .int .i64 qi, .int .u64 (MF.key x1 : Nat), .string qt, .bool qb]) 3).run Tryz.prog w = .ok (.int .u64 (MF.key x1 : Nat)) w := fun _ => by kernel_rfl
    have r0 := (hk2.block _ (lt_of_heap Q1.out) (by show ¬ w.heap.size = p; omega)).trans Q1.out
    have r1 := (hk2.block _ (lt_of_heap O1.out) (by show ¬ w.heap.size + 1 = p; omega)).trans O1.out
    have c1 := fun o => cell_of_row w2 _ o _ _ (0, 0) r1
    have f1 : ∀ o, w2.frozen? ⟨w.heap.size + 1, o, none⟩ = false := fun o => frozen_of_row _ _ o _ _ r1
    have cR := fun o => cell_of_row w2 _ o _ _ (0, 0) r0
    have fR : ∀ o, w2.frozen? ⟨w.heap.size, o, none⟩ = false := fun o => frozen_of_row _ _ o _ _ r0
    have cE := fun o => cell_of_row w2 _ o _ _ (0, 0) he2.row
    have HE2 := Lib.hid he2
    have HK2 := Lib.hid (HKv.out.same hk2)
    have RO := Lib.hid r1
    have RR := Lib.hid r0
    clear r0 r1 he2 hk2
    go_wp2_with fail
    refine (rnumber1_any (MF.key x1) w2 HW.out).mono ?_
    rintro e w2_ ⟨rfl, rfl⟩
    rw [HB.out]
    go_wp2_with fail
    generalize hv2 : World.setCell _ _ _ = v2
    have kv2 : Kp (fun k => w.heap.size ≤ k) w2 v2 := by rw [← hv2]; exact Kp.setCell (Kp.refl _ _) (Or.inl (by show w.heap.size ≤ w.heap.size + 1; omega)) _
    have heV2 := HE2.out.far hp hA kv2
    have HKv2 := Lib.hid (show Kp (fun k => k = p) w v2 by rw [← hv2]; exact Kp.setCell HK2.out (Or.inr (by show w.heap.size ≤ w.heap.size + 1; omega)) _)
    have O2 := Lib.hid (show v2.heap[w.heap.size + 1]? = some (.cells (recC 6 0 0 0 x1 0 ⟨#[]⟩ (.slice none 0 0)) 25 (0, 0)) by rw [← hv2]; exact heap_setCell_same _ _ _ _ _ _ RO.out)
    have Q2 := Lib.hid ((show v2.heap[w.heap.size]? = _ by rw [← hv2]; exact heap_setCell_other _ _ _ _ (by show w.heap.size ≠ w.heap.size + 1; omega)).trans RR.out)
    clear hv2 kv2 c1 f1 cR fR cE HE2 HK2 RO RR HKv O1 Q1 heV
    have hqo := (fieldR_one (by omega) Hf.out).2.2.1
    refine (rcheck_any ⟨6, 0, 0, 0, x1, 0, ⟨#[]⟩, []⟩ none 0 v2 hqo (Its.nil _ _) (by show Lim ([] : List RC.It).length; unfold Lim; decide)).mono ?_
    rintro e w3 ⟨rfl, hb3⟩
    have O3 := Lib.hid ((hb3.block _ (lt_of_heap O2.out)).trans O2.out)
    have Q3 := Lib.hid ((hb3.block _ (lt_of_heap Q2.out)).trans Q2.out)
    have he3 := heV2.below hb3
    have hk3 : Kp (fun k => k = p) w w3 := HKv2.out.same (Kp.of_below hb3 _)
    have HK3 := Lib.hid hk3
    clear hb3 hk3 O2 Q2 heV2 HKv2
    go_wp2_with fail
    refine (efail_yes p A c bs _ _ w3 he3).mono ?_
    rintro e w4 ⟨rfl, he4, hk4⟩
    have O4 := Lib.hid ((hk4.block _ (lt_of_heap O3.out) (by show ¬ w.heap.size + 1 = p; omega)).trans O3.out)
    have Q4 := Lib.hid ((hk4.block _ (lt_of_heap Q3.out) (by show ¬ w.heap.size = p; omega)).trans Q3.out)
    have HK4 := Lib.hid (HK3.out.same hk4)
    clear hk4 he3 O3 Q3 HK3
    have c1 := fun o => cell_of_row w4 _ o _ _ (0, 0) O4.out
    have cR := fun o => cell_of_row w4 _ o _ _ (0, 0) Q4.out
    have fR : ∀ o, w4.frozen? ⟨w.heap.size, o, none⟩ = false := fun o => frozen_of_row _ _ o _ _ Q4.out
    rcases Nat.eq_zero_or_pos (RC.chk ⟨6, 0, 0, 0, x1, 0, ⟨#[]⟩, []⟩) with hc | hc
    · have HC := Lib.hid (recR_ok HK.out Hf.out hc)
      rw [hc] at he4
      have cE := fun o => cell_of_row w4 _ o _ _ (0, 0) he4.row
      have HE4 := Lib.hid he4
      clear hc he4
      go_wp2_with fail
      refine bodyPost_ret (v := recV ⟨6, 0, 0, 0, x1, 0, ⟨#[]⟩, []⟩ none 0) (by simp [results, Tryz.results89, go_sem, cR]) rfl ?_
      rw [HC.out]
      refine ⟨?_, ⟨none, 0, rfl, World.ownsRow_nil _ _ _ _, fun k e => by cases e⟩, ?_⟩
      · iterate 8 refine Kp.setCell ?_ (Or.inr (by simp)) _
        exact HK4.out
      · rw [← Nat.add_assoc]
        refine HE4.out.far hp hA ?_
        iterate 8 refine Kp.setCell ?_ (Or.inl (by simp)) _
        exact Kp.refl _ _
    · have HC := Lib.hid (recR_no HK.out Hf.out (by omega))
      generalize RC.chk _ = code at *
      have h1 : ((code : Int) == 0) = false := by simp; omega
      have h2 : ((code : Int) != 0) = true := by simp; omega
      have cE := fun o => cell_of_row w4 _ o _ _ (0, 0) he4.row
      have HE4 := Lib.hid he4
      clear hc he4
      go_wp2_with fail
      refine bodyPost_ret (v := .agg (recC 0 0 0 0 0 0 ⟨#[]⟩ (.slice none 0 0))) (by simp [results, Tryz.results89, go_sem, cR]) rfl ?_
      refine NPost.bad HC.out ?_ (by omega) (HE4.out.far hp hA ?_)
      · iterate 8 refine Kp.setCell ?_ (Or.inr (by simp)) _
        exact HK4.out
      · iterate 8 refine Kp.setCell ?_ (Or.inl (by simp)) _
        exact Kp.refl _ _

set_option maxHeartbeats 2000000 in
set_option maxRecDepth 100000 in
theorem next_7 (n0 : Nat) (p : Nat) (A : Option Addr) (c : Nat) (bs : List UInt8) (at_ : Nat) (w : World) (he : Ey w p A c bs at_ 0) (hU : uptoR 9 (bs.drop at_) = .ok 7 n0) (hA : bs ≠ [] → ∀ ad, A = some ad → ad.block < w.heap.size) :
    Calls Tryz.prog 89 #[.pointer (some ⟨p, 0, none⟩)] w (NPost p A c bs at_ (recR (bs.drop at_)) w) := by
  have hp := lt_of_heap he.row
  have hK : kindR (bs.drop at_) = .ok 7 n0 := by unfold kindR; rw [andR_ok hU]; rfl
  have HX := Lib.hid (fun w' (he' : Ey w' p A c bs at_ 0) => eupto_any p A c bs at_ 9 w' (by omega) he')
  rw [show ((9 : Nat) : Int) = 9 from rfl, hU] at HX
  have hY := fun w' (he' : Ey w' p A c bs (at_ + n0) 0) => epart_any p A c bs (at_ + n0) 102 0 w' (by omega) rfl he'
  rw [show partR 102 0 (bs.drop (at_ + n0)) = Res.map (fun x => { PK.zeroPt 102 with f := x }) (floR (bs.drop (at_ + n0))) from rfl] at hY
  have HE := Lib.hid he
  have HK := Lib.hid hK
  clear he hU hK
  cases hN : floR (bs.drop (at_ + n0)) with
  | bad code n =>
    rw [hN] at hY
    have Hf := Lib.hid (recR_bad2 HK.out (show fieldR 7 ((bs.drop at_).drop n0) = .bad code n by rw [List.drop_drop]; show Res.map _ (floR _) = _; rw [hN]; rfl))
    have hc := partR_bad_pos (k := 102) (m := 0) (l := bs.drop (at_ + n0)) (e := code) (n := n) (by show Res.map _ (floR (bs.drop (at_ + n0))) = _; rw [hN]; rfl)
    have HY := Lib.hid hY
    have h1 : ((code : Int) == 0) = false := by simp; omega
    have h2 : ((code : Int) != 0) = true := by simp; omega
    have hfd : ∀ w : World, (Instr.field 115 (.agg #[.int .u8 0, .int .u64 0, .int .i64 0, .int .u64 0, .string ⟨#[]⟩, .bool false]) 3).run Tryz.prog w = .ok (.int .u64 0) w := fun _ => by kernel_rfl
    clear hY hN
    go_enter Tryz.func89, Tryz.ntmps89
    go_wp2_with fail
    refine (HX.out _ (HE.out.below (below2 w _ _))).mono ?_
    rintro e w1 ⟨hk1, rfl, he1⟩
    have r0 := (hk1.block w.heap.size (by simp only [World.size_alloc]; omega) (by show ¬ w.heap.size = p; omega)).trans (heap_alloc2_old w _ _)
    have r1 := (hk1.block (w.heap.size + 1) (by simp only [World.size_alloc]; omega) (by show ¬ w.heap.size + 1 = p; omega)).trans (heap_alloc2_new w _ _)
    have c1 := fun o => cell_of_row w1 _ o _ _ (0, 0) r1
    have f1 : ∀ o, w1.frozen? ⟨w.heap.size + 1, o, none⟩ = false := fun o => frozen_of_row _ _ o _ _ r1
    have HK1 := Lib.hid (show Kp (fun k => k = p) w w1 from (((Kp.refl _ w).alloc _).alloc _).same hk1)
    have R0 := Lib.hid r0
    have R1 := Lib.hid r1
    have HE1 := Lib.hid he1
    clear r0 r1 hk1 he1
    go_wp2_with fail
    generalize hv1 : World.setCell _ _ _ = v1
    have kv : Kp (fun k => w.heap.size ≤ k) w1 v1 := by rw [← hv1]; exact Kp.setCell (Kp.refl _ _) (Or.inl (by show w.heap.size ≤ w.heap.size + 1; omega)) _
    have heV := HE1.out.far hp hA kv
    have HKv := Lib.hid (show Kp (fun k => k = p) w v1 by rw [← hv1]; exact Kp.setCell HK1.out (Or.inr (by show w.heap.size ≤ w.heap.size + 1; omega)) _)
    have O1 := Lib.hid (show v1.heap[w.heap.size + 1]? = some (.cells (recC 7 0 0 0 0 0 ⟨#[]⟩ (.slice none 0 0)) 25 (0, 0)) by rw [← hv1]; exact heap_setCell_same _ _ _ _ _ _ R1.out)
    have Q1 := Lib.hid ((show v1.heap[w.heap.size]? = _ by rw [← hv1]; exact heap_setCell_other _ _ _ _ (by show w.heap.size ≠ w.heap.size + 1; omega)).trans R0.out)
    clear hv1 kv c1 f1 R0 R1 HK1 HE1
    refine (HY.out _ heV).mono ?_
    rintro e w2 ⟨hk2, rfl, he2⟩
    have r0 := (hk2.block _ (lt_of_heap Q1.out) (by show ¬ w.heap.size = p; omega)).trans Q1.out
    have r1 := (hk2.block _ (lt_of_heap O1.out) (by show ¬ w.heap.size + 1 = p; omega)).trans O1.out
    have c1 := fun o => cell_of_row w2 _ o _ _ (0, 0) r1
    have f1 : ∀ o, w2.frozen? ⟨w.heap.size + 1, o, none⟩ = false := fun o => frozen_of_row _ _ o _ _ r1
    have cR := fun o => cell_of_row w2 _ o _ _ (0, 0) r0
    have fR : ∀ o, w2.frozen? ⟨w.heap.size, o, none⟩ = false := fun o => frozen_of_row _ _ o _ _ r0
    have cE := fun o => cell_of_row w2 _ o _ _ (0, 0) he2.row
    have HE2 := Lib.hid he2
    have HK2 := Lib.hid (HKv.out.same hk2)
    have RO := Lib.hid r1
    have RR := Lib.hid r0
    clear r0 r1 he2 hk2
    go_wp2_with fail
    refine (rnumber1_any 0 w2 (by unfold MF.W64; decide)).mono ?_
    rintro e w2_ ⟨rfl, rfl⟩
    go_wp2_with fail
    refine bodyPost_ret (v := .agg (recC 0 0 0 0 0 0 ⟨#[]⟩ (.slice none 0 0))) (by simp [results, Tryz.results89, go_sem, cR]) rfl ?_
    refine NPost.bad Hf.out ?_ (by omega) (HE2.out.far hp hA ?_)
    · iterate 9 refine Kp.setCell ?_ (Or.inr (by simp)) _
      exact HK2.out
    · iterate 9 refine Kp.setCell ?_ (Or.inl (by simp)) _
      exact Kp.refl _ _
  | ok x1 n =>
    rw [hN] at hY
    have Hf := Lib.hid (show fieldR 7 ((bs.drop at_).drop n0) = .ok ⟨7, 0, 0, 0, x1, 0, ⟨#[]⟩, []⟩ n by rw [List.drop_drop]; show Res.map _ (floR _) = _; rw [hN]; rfl)
    obtain ⟨-, -, -, hW, hcn⟩ := floR_one hN
    have HB := Lib.hid (show MF.bk (MF.key x1) = x1 by rw [MF.bk_key hW, hcn])
    have HW := Lib.hid (MF.key_lt hW)
    clear hW hcn
    have HY := Lib.hid hY
    clear hY hN
    go_enter Tryz.func89, Tryz.ntmps89
    go_wp2_with fail
    refine (HX.out _ (HE.out.below (below2 w _ _))).mono ?_
    rintro e w1 ⟨hk1, rfl, he1⟩
    have r0 := (hk1.block w.heap.size (by simp only [World.size_alloc]; omega) (by show ¬ w.heap.size = p; omega)).trans (heap_alloc2_old w _ _)
    have r1 := (hk1.block (w.heap.size + 1) (by simp only [World.size_alloc]; omega) (by show ¬ w.heap.size + 1 = p; omega)).trans (heap_alloc2_new w _ _)
    have c1 := fun o => cell_of_row w1 _ o _ _ (0, 0) r1
    have f1 : ∀ o, w1.frozen? ⟨w.heap.size + 1, o, none⟩ = false := fun o => frozen_of_row _ _ o _ _ r1
    have HK1 := Lib.hid (show Kp (fun k => k = p) w w1 from (((Kp.refl _ w).alloc _).alloc _).same hk1)
    have R0 := Lib.hid r0
    have R1 := Lib.hid r1
    have HE1 := Lib.hid he1
    clear r0 r1 hk1 he1
    go_wp2_with fail
    generalize hv1 : World.setCell _ _ _ = v1
    have kv : Kp (fun k => w.heap.size ≤ k) w1 v1 := by rw [← hv1]; exact Kp.setCell (Kp.refl _ _) (Or.inl (by show w.heap.size ≤ w.heap.size + 1; omega)) _
    have heV := HE1.out.far hp hA kv
    have HKv := Lib.hid (show Kp (fun k => k = p) w v1 by rw [← hv1]; exact Kp.setCell HK1.out (Or.inr (by show w.heap.size ≤ w.heap.size + 1; omega)) _)
    have O1 := Lib.hid (show v1.heap[w.heap.size + 1]? = some (.cells (recC 7 0 0 0 0 0 ⟨#[]⟩ (.slice none 0 0)) 25 (0, 0)) by rw [← hv1]; exact heap_setCell_same _ _ _ _ _ _ R1.out)
    have Q1 := Lib.hid ((show v1.heap[w.heap.size]? = _ by rw [← hv1]; exact heap_setCell_other _ _ _ _ (by show w.heap.size ≠ w.heap.size + 1; omega)).trans R0.out)
    clear hv1 kv c1 f1 R0 R1 HK1 HE1
    refine (HY.out _ heV).mono ?_
    rintro e w2 ⟨hk2, ⟨qk, qu, qi, qq, qt, qb, hpl, rfl⟩, he2⟩
    have hqi : qq = MF.key x1 := congrArg PK.Rp.p hpl
    subst hqi
    clear hpl
    have hfd : ∀ w : World, (Instr.field 115 (.agg #[.int .u8 (qk : Int), .int .u64 (qu : Int), .int .i64 qi, .int .u64 (MF.key x1 : Nat), .string qt, .bool qb]) 3).run Tryz.prog w = .ok (.int .u64 (MF.key x1 : Nat)) w := fun _ => by kernel_rfl
    have r0 := (hk2.block _ (lt_of_heap Q1.out) (by show ¬ w.heap.size = p; omega)).trans Q1.out
    have r1 := (hk2.block _ (lt_of_heap O1.out) (by show ¬ w.heap.size + 1 = p; omega)).trans O1.out
    have c1 := fun o => cell_of_row w2 _ o _ _ (0, 0) r1
    have f1 : ∀ o, w2.frozen? ⟨w.heap.size + 1, o, none⟩ = false := fun o => frozen_of_row _ _ o _ _ r1
    have cR := fun o => cell_of_row w2 _ o _ _ (0, 0) r0
    have fR : ∀ o, w2.frozen? ⟨w.heap.size, o, none⟩ = false := fun o => frozen_of_row _ _ o _ _ r0
    have cE := fun o => cell_of_row w2 _ o _ _ (0, 0) he2.row
    have HE2 := Lib.hid he2
    have HK2 := Lib.hid (HKv.out.same hk2)
    have RO := Lib.hid r1
    have RR := Lib.hid r0
    clear r0 r1 he2 hk2
    go_wp2_with fail
    refine (rnumber1_any (MF.key x1) w2 HW.out).mono ?_
    rintro e w2_ ⟨rfl, rfl⟩
    rw [HB.out]
    go_wp2_with fail
    generalize hv2 : World.setCell _ _ _ = v2
    have kv2 : Kp (fun k => w.heap.size ≤ k) w2 v2 := by rw [← hv2]; exact Kp.setCell (Kp.refl _ _) (Or.inl (by show w.heap.size ≤ w.heap.size + 1; omega)) _
    have heV2 := HE2.out.far hp hA kv2
    have HKv2 := Lib.hid (show Kp (fun k => k = p) w v2 by rw [← hv2]; exact Kp.setCell HK2.out (Or.inr (by show w.heap.size ≤ w.heap.size + 1; omega)) _)
    have O2 := Lib.hid (show v2.heap[w.heap.size + 1]? = some (.cells (recC 7 0 0 0 x1 0 ⟨#[]⟩ (.slice none 0 0)) 25 (0, 0)) by rw [← hv2]; exact heap_setCell_same _ _ _ _ _ _ RO.out)
    have Q2 := Lib.hid ((show v2.heap[w.heap.size]? = _ by rw [← hv2]; exact heap_setCell_other _ _ _ _ (by show w.heap.size ≠ w.heap.size + 1; omega)).trans RR.out)
    clear hv2 kv2 c1 f1 cR fR cE HE2 HK2 RO RR HKv O1 Q1 heV
    have hqo := (fieldR_one (by omega) Hf.out).2.2.1
    refine (rcheck_any ⟨7, 0, 0, 0, x1, 0, ⟨#[]⟩, []⟩ none 0 v2 hqo (Its.nil _ _) (by show Lim ([] : List RC.It).length; unfold Lim; decide)).mono ?_
    rintro e w3 ⟨rfl, hb3⟩
    have O3 := Lib.hid ((hb3.block _ (lt_of_heap O2.out)).trans O2.out)
    have Q3 := Lib.hid ((hb3.block _ (lt_of_heap Q2.out)).trans Q2.out)
    have he3 := heV2.below hb3
    have hk3 : Kp (fun k => k = p) w w3 := HKv2.out.same (Kp.of_below hb3 _)
    have HK3 := Lib.hid hk3
    clear hb3 hk3 O2 Q2 heV2 HKv2
    go_wp2_with fail
    refine (efail_yes p A c bs _ _ w3 he3).mono ?_
    rintro e w4 ⟨rfl, he4, hk4⟩
    have O4 := Lib.hid ((hk4.block _ (lt_of_heap O3.out) (by show ¬ w.heap.size + 1 = p; omega)).trans O3.out)
    have Q4 := Lib.hid ((hk4.block _ (lt_of_heap Q3.out) (by show ¬ w.heap.size = p; omega)).trans Q3.out)
    have HK4 := Lib.hid (HK3.out.same hk4)
    clear hk4 he3 O3 Q3 HK3
    have c1 := fun o => cell_of_row w4 _ o _ _ (0, 0) O4.out
    have cR := fun o => cell_of_row w4 _ o _ _ (0, 0) Q4.out
    have fR : ∀ o, w4.frozen? ⟨w.heap.size, o, none⟩ = false := fun o => frozen_of_row _ _ o _ _ Q4.out
    rcases Nat.eq_zero_or_pos (RC.chk ⟨7, 0, 0, 0, x1, 0, ⟨#[]⟩, []⟩) with hc | hc
    · have HC := Lib.hid (recR_ok HK.out Hf.out hc)
      rw [hc] at he4
      have cE := fun o => cell_of_row w4 _ o _ _ (0, 0) he4.row
      have HE4 := Lib.hid he4
      clear hc he4
      go_wp2_with fail
      refine bodyPost_ret (v := recV ⟨7, 0, 0, 0, x1, 0, ⟨#[]⟩, []⟩ none 0) (by simp [results, Tryz.results89, go_sem, cR]) rfl ?_
      rw [HC.out]
      refine ⟨?_, ⟨none, 0, rfl, World.ownsRow_nil _ _ _ _, fun k e => by cases e⟩, ?_⟩
      · iterate 8 refine Kp.setCell ?_ (Or.inr (by simp)) _
        exact HK4.out
      · rw [← Nat.add_assoc]
        refine HE4.out.far hp hA ?_
        iterate 8 refine Kp.setCell ?_ (Or.inl (by simp)) _
        exact Kp.refl _ _
    · have HC := Lib.hid (recR_no HK.out Hf.out (by omega))
      generalize RC.chk _ = code at *
      have h1 : ((code : Int) == 0) = false := by simp; omega
      have h2 : ((code : Int) != 0) = true := by simp; omega
      have cE := fun o => cell_of_row w4 _ o _ _ (0, 0) he4.row
      have HE4 := Lib.hid he4
      clear hc he4
      go_wp2_with fail
      refine bodyPost_ret (v := .agg (recC 0 0 0 0 0 0 ⟨#[]⟩ (.slice none 0 0))) (by simp [results, Tryz.results89, go_sem, cR]) rfl ?_
      refine NPost.bad HC.out ?_ (by omega) (HE4.out.far hp hA ?_)
      · iterate 8 refine Kp.setCell ?_ (Or.inr (by simp)) _
        exact HK4.out
      · iterate 8 refine Kp.setCell ?_ (Or.inl (by simp)) _
        exact Kp.refl _ _

end Go.Proofs.YtaaeefndhmfceaaGreatDoor
