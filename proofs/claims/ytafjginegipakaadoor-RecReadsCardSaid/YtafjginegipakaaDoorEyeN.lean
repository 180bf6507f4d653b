/- Contracts of the document's own answers for layer 3: the next record, where its kind can't be read. -/
import Derived.Test.YtafjginegipakaaDoorEyeU
import Derived.Test.YtafjginegipakaaDoorRef3f
import Derived.Test.YtafjginegipakaaDoorRec8
namespace Go.Proofs.YtafjginegipakaaDoor
open Go.RowKit MM

set_option maxHeartbeats 1000000 in
set_option maxRecDepth 100000 in
theorem rnumber1_any (k : Nat) (w : World) (hk : MF.W64 k) :
    Calls Tryd.prog 113 #[.int .u64 k] w fun e w' => e = .returned (.float .f64 (MF.bk k)) ∧ w = w' := by
  by_cases h : k < 9223372036854775808
  · have He := Lib.hid (show MF.bk k = 18446744073709551615 - k by unfold MF.bk; rw [if_pos h])
    have hge : decide ((9223372036854775808 : Int) ≤ (k : Int)) = false := by simp; omega
    have H := Lib.hid h
    clear h
    go_enter Tryd.func113, Tryd.ntmps113
    go_wp2_with fail
    go_ret
    exact ⟨ret_flo (by rw [IntKind.wrap_u64, IntKind.wrap_u64, He.out]; have := H.out; omega), rfl⟩
  · have He := Lib.hid (show MF.bk k = k - 9223372036854775808 by unfold MF.bk; rw [if_neg h])
    have hge : decide ((9223372036854775808 : Int) ≤ (k : Int)) = true := by simp; omega
    have H := Lib.hid h
    clear h
    go_enter Tryd.func113, Tryd.ntmps113
    go_wp2_with fail
    go_ret
    exact ⟨ret_flo (by rw [IntKind.wrap_u64, He.out]; have := H.out; unfold MF.W64 at hk; omega), rfl⟩

/-- What Next answers. -/
def NPost (p : Nat) (A : Option Addr) (c : Nat) (bs : List UInt8) (at_ : Nat) (r : Res RC.Rc) (w : World) (e : Ending) (w' : World) : Prop :=
  Kp (fun k => k = p) w w' ∧ match r with
  | .ok r n => (∃ A' c', e = .returned (recV r A' c') ∧ w'.ownsRow 0 73 2 (.slice A' r.list.length c') r.list.length (itCells r.list) ∧ (∀ k, ob A' = some k → w.heap.size ≤ k)) ∧ Ey w' p A c bs (at_ + n) 0
  | .bad code n => e = .returned (recV RC.zero none 0) ∧ Ey w' p A c bs (at_ + n) code

theorem NPost.bad {p : Nat} {A : Option Addr} {c : Nat} {bs : List UInt8} {at_ n m code : Nat} {r : Res RC.Rc} {w w' : World} (h : r = .bad code n) (hk : Kp (fun k => k = p) w w') (hm : m = at_ + n) (he : Ey w' p A c bs m code) : NPost p A c bs at_ r w (.returned (.agg (recC 0 0 0 0 0 0 ⟨#[]⟩ (.slice none 0 0)))) w' := by
  subst h hm
  exact ⟨hk, rfl, he⟩

/-- Blocks apart from the eye. -/
theorem Ey.far {w w' : World} {p B : Nat} {A : Option Addr} {c : Nat} {bs : List UInt8} {at_ E : Nat} (h : Ey w p A c bs at_ E) (hp : p < B) (hA : bs ≠ [] → ∀ ad, A = some ad → ad.block < B) (hk : Kp (fun k => B ≤ k) w w') : Ey w' p A c bs at_ E := by
  refine ⟨(hk.block _ (lt_of_heap h.row) (by omega)).trans h.row, ?_, h.ne, h.cap, h.le, h.lim⟩
  by_cases hb : bs = []
  · subst hb; exact Bts.nil A
  · exact h.bts.kp hk (fun ad e => by have := hA hb ad e; omega)

set_option maxHeartbeats 2000000 in
set_option maxRecDepth 100000 in
/-- A record whose kind can't be read. -/
theorem next_kind (code n : Nat) (p : Nat) (A : Option Addr) (c : Nat) (bs : List UInt8) (at_ : Nat) (w : World) (he : Ey w p A c bs at_ 0) (hU : uptoR 9 (bs.drop at_) = .bad code n) (hc : 0 < code) (hA : bs ≠ [] → ∀ ad, A = some ad → ad.block < w.heap.size) :
    Calls Tryd.prog 55 #[.pointer (some ⟨p, 0, none⟩)] w (NPost p A c bs at_ (.bad code n) w) := by
  have hp := lt_of_heap he.row
  have HX := Lib.hid (fun w' (he' : Ey w' p A c bs at_ 0) => eupto_any p A c bs at_ 9 w' (by omega) he')
  rw [show ((9 : Nat) : Int) = 9 from rfl, hU] at HX
  have HFl := Lib.hid (fun w' at2 (he' : Ey w' p A c bs at2 code) => efail_no p A c bs at2 code 5 w' hc he')
  have HE := Lib.hid he
  have h1 : ((code : Int) == 0) = false := by simp; omega
  have h2 : ((code : Int) != 0) = true := by simp; omega
  clear he hU
  go_enter Tryd.func55, Tryd.ntmps55
  go_wp2_with fail
  refine (HX.out _ (HE.out.below (below2 w _ _))).mono ?_
  rintro e w1 ⟨hk1, rfl, he1⟩
  have r0 := (hk1.block w.heap.size (by simp only [World.size_alloc]; omega) (by show ¬ w.heap.size = p; omega)).trans (heap_alloc2_old w _ _)
  have r1 := (hk1.block (w.heap.size + 1) (by simp only [World.size_alloc]; omega) (by show ¬ w.heap.size + 1 = p; omega)).trans (heap_alloc2_new w _ _)
  have c1 := fun o => cell_of_row w1 _ o _ _ (0, 0) r1
  have f1 : ∀ o, w1.frozen? ⟨w.heap.size + 1, o, none⟩ = false := fun o => frozen_of_row _ _ o _ _ r1
  have HK1 := Lib.hid (show Kp (fun k => k = p) w w1 from (((Kp.refl _ w).alloc _).alloc _).same hk1)
  have R0 := Lib.hid r0
  have R1 := Lib.hid r1
  have HE1 := Lib.hid he1
  clear r0 r1 hk1 he1
  go_wp2_with fail
  generalize hv1 : World.setCell _ _ _ = v1
  have kv : Kp (fun k => w.heap.size ≤ k) w1 v1 := by rw [← hv1]; exact Kp.setCell (Kp.refl _ _) (Or.inl (by show w.heap.size ≤ w.heap.size + 1; omega)) _
  have heV := HE1.out.far hp hA kv
  have HKv := Lib.hid (show Kp (fun k => k = p) w v1 by rw [← hv1]; exact Kp.setCell HK1.out (Or.inr (by show w.heap.size ≤ w.heap.size + 1; omega)) _)
  have O1 := Lib.hid (show v1.heap[w.heap.size + 1]? = some (.cells (recC 0 0 0 0 0 0 ⟨#[]⟩ (.slice none 0 0)) 27 (0, 0)) by rw [← hv1]; exact heap_setCell_same _ _ _ _ _ _ R1.out)
  have Q1 := Lib.hid ((show v1.heap[w.heap.size]? = _ by rw [← hv1]; exact heap_setCell_other _ _ _ _ (by show w.heap.size ≠ w.heap.size + 1; omega)).trans R0.out)
  clear hv1 kv c1 f1 R0 R1 HK1 HE1
  refine (HFl.out _ _ heV).mono ?_
  rintro e w2 ⟨rfl, he2, hk2⟩
  have r0 := (hk2.block _ (lt_of_heap Q1.out) (by show ¬ w.heap.size = p; omega)).trans Q1.out
  have r1 := (hk2.block _ (lt_of_heap O1.out) (by show ¬ w.heap.size + 1 = p; omega)).trans O1.out
  have c1 := fun o => cell_of_row w2 _ o _ _ (0, 0) r1
  have cR := fun o => cell_of_row w2 _ o _ _ (0, 0) r0
  have fR : ∀ o, w2.frozen? ⟨w.heap.size, o, none⟩ = false := fun o => frozen_of_row _ _ o _ _ r0
  have cE := fun o => cell_of_row w2 _ o _ _ (0, 0) he2.row
  have HE2 := Lib.hid he2
  have HK2 := Lib.hid (HKv.out.same hk2)
  clear r0 r1 he2 hk2
  go_wp2_with fail
  refine bodyPost_ret (v := .agg (recC 0 0 0 0 0 0 ⟨#[]⟩ (.slice none 0 0))) (by simp [results, Tryd.results55, go_sem, cR]) rfl ?_
  refine NPost.bad rfl ?_ rfl (HE2.out.far hp hA ?_)
  · iterate 8 refine Kp.setCell ?_ (Or.inr (by simp)) _
    exact HK2.out
  · iterate 8 refine Kp.setCell ?_ (Or.inl (by simp)) _
    exact Kp.refl _ _

end Go.Proofs.YtafjginegipakaaDoor
