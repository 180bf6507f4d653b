/- Contracts of the document's own answers for layer 3: the record that bytes are. -/
import Derived.Test.YtafjginegipakaaDoorEyeL
import Derived.Test.YtafjginegipakaaDoorRec9
namespace Go.Proofs.YtafjginegipakaaDoor
open Go.RowKit MM

/-! ### an error's number is none of OK's -/
def PosR {α : Type} (r : Res α) : Prop := ∀ e n, r = .bad e n → 0 < e
section
variable {α β : Type}
theorem PosR.ok (x : α) (n : Nat) : PosR (.ok x n) := fun _ _ h => by cases h
theorem PosR.map {r : Res α} {f : α → β} (h : PosR r) : PosR (Res.map f r) := by
  intro e n hh
  cases r with
  | ok x k => cases hh
  | bad c k => injection hh with h1 h2; subst h1; exact h c k rfl
theorem PosR.and {r : Res α} {l : List UInt8} {f : α → List UInt8 → Res β} (h : PosR r) (hf : ∀ x m, PosR (f x m)) : PosR (andR r l f) := by
  intro e n hh
  cases r with
  | bad c k => injection hh with h1 h2; subst h1; exact h c k rfl
  | ok x k =>
    have hh : shiftR k (f x (l.drop k)) = .bad e n := hh
    cases hq : f x (l.drop k) with
    | ok y j => rw [hq] at hh; cases hh
    | bad c j => rw [hq] at hh; injection hh with h1 h2; subst h1; exact hf x _ c j hq
end
theorem PosR.num (l : List UInt8) : PosR (numR l) := fun _ _ h => numR_bad_pos h
theorem PosR.upto (m : Int) (l : List UInt8) : PosR (uptoR m l) := fun _ _ h => uptoR_bad_pos h
theorem PosR.flo (l : List UInt8) : PosR (floR l) := fun e n h => partR_bad_pos (k := 102) (m := 0) (l := l) (e := e) (n := n) (by show Res.map _ (floR l) = _; rw [h]; rfl)
theorem PosR.txt (m : Int) (l : List UInt8) : PosR (txtR m l) := fun e n h => partR_bad_pos (k := 115) (m := m) (l := l) (e := e) (n := n) (by show Res.map _ (txtR m l) = _; rw [h]; rfl)
theorem PosR.flag (l : List UInt8) : PosR (flagR l) := fun e n h => partR_bad_pos (k := 98) (m := 0) (l := l) (e := e) (n := n) (by show Res.map _ (flagR l) = _; rw [h]; rfl)
theorem PosR.it (k : Nat) (l : List UInt8) : PosR (itR k l) := by
  unfold itR
  split
  · exact (PosR.flo l).and fun _ m => (PosR.txt 16 m).map
  · exact (PosR.txt 16 l).map
theorem PosR.its (k : Nat) : ∀ (m : Nat) (l : List UInt8), PosR (itsR k m l)
  | 0, _ => PosR.ok _ _
  | m + 1, l => (PosR.it k l).and fun _ q => (PosR.its k m q).map
theorem PosR.field (k : Nat) (l : List UInt8) : PosR (fieldR k l) := by
  unfold fieldR
  repeat' split
  · exact (PosR.txt 64 l).map
  · exact (PosR.num l).map
  · exact (PosR.num l).and fun _ q => (PosR.num q).and fun _ q => (PosR.num q).map
  · exact (PosR.flo l).map
  · exact (PosR.upto 32 l).and fun _ q => (PosR.upto 32 q).and fun _ q => (PosR.its _ _ q).map
theorem PosR.endC (r : RC.Rc) : PosR (endC r) := by
  intro e n h
  unfold Go.Proofs.YtafjginegipakaaDoor.endC at h
  split at h
  · cases h
  · injection h with h1 h2; omega
theorem PosR.rc (l : List UInt8) : PosR (recR l) := by
  refine (PosR.upto 9 l).and fun k q => ?_
  unfold bodyR
  split
  · intro e n h; injection h with h1 h2; omega
  · exact (PosR.field k q).and fun r _ => PosR.endC r

theorem rnext_any (p : Nat) (A : Option Addr) (c : Nat) (bs : List UInt8) (at_ : Nat) (w : World) (he : Ey w p A c bs at_ 0) (hA : bs ≠ [] → ∀ ad, A = some ad → ad.block < w.heap.size) :
    Calls Tryd.prog 55 #[.pointer (some ⟨p, 0, none⟩)] w (NPost p A c bs at_ (recR (bs.drop at_)) w) := by
  cases hU : uptoR 9 (bs.drop at_) with
  | bad code n =>
    rw [show recR (bs.drop at_) = .bad code n by unfold recR; rw [andR_bad hU]]
    exact next_kind code n p A c bs at_ w he hU (uptoR_bad_pos hU) hA
  | ok k n =>
    have hk : k ≤ 9 := (uptoR_one hU).2.2
    have hc : k = 0 ∨ k = 1 ∨ k = 2 ∨ k = 3 ∨ k = 4 ∨ k = 5 ∨ k = 6 ∨ k = 7 ∨ k = 8 ∨ k = 9 := by omega
    rcases hc with rfl | rfl | rfl | rfl | rfl | rfl | rfl | rfl | rfl | rfl
    · rw [show recR (bs.drop at_) = .bad 5 n by unfold recR; rw [andR_ok hU]; rfl]
      exact next_zero n p A c bs at_ w he hU hA
    · exact next_1 n p A c bs at_ w he hU hA
    · exact next_2 n p A c bs at_ w he hU hA
    · exact next_3 n p A c bs at_ w he hU hA
    · exact next_4 n p A c bs at_ w he hU hA
    · exact next_5 n p A c bs at_ w he hU hA
    · exact next_6 n p A c bs at_ w he hU hA
    · exact next_7 n p A c bs at_ w he hU hA
    · exact next_8 n p A c bs at_ w he hU hA
    · exact next_9 n p A c bs at_ w he hU hA

theorem below8 {B : Nat} {w0 w : World} {g : Nat} {c0 c1 c2 c3 c4 c5 c6 c7 : Value} (h : Below B w0 w) (hg : B ≤ g) : Below B w0 ((((((((w.setCell ⟨g, 0, none⟩ c0).setCell ⟨g, 1, none⟩ c1).setCell ⟨g, 2, none⟩ c2).setCell ⟨g, 3, none⟩ c3).setCell ⟨g, 4, none⟩ c4).setCell ⟨g, 5, none⟩ c5).setCell ⟨g, 6, none⟩ c6).setCell ⟨g, 7, none⟩ c7) := by
  iterate 8 refine Below.setCell ?_ hg _
  exact h
theorem kp8 {w0 w : World} {g : Nat} {c0 c1 c2 c3 c4 c5 c6 c7 : Value} (h : Kp (fun k => k = g) w0 w) : Kp (fun k => k = g) w0 ((((((((w.setCell ⟨g, 0, none⟩ c0).setCell ⟨g, 1, none⟩ c1).setCell ⟨g, 2, none⟩ c2).setCell ⟨g, 3, none⟩ c3).setCell ⟨g, 4, none⟩ c4).setCell ⟨g, 5, none⟩ c5).setCell ⟨g, 6, none⟩ c6).setCell ⟨g, 7, none⟩ c7) := by
  iterate 8 refine Kp.setCell ?_ (Or.inl (by exact rfl)) _
  exact h

/-- What Read answers. -/
def NRPost (r : Res RC.Rc) (w : World) (e : Ending) (w' : World) : Prop :=
  Below w.heap.size w w' ∧ match r with
  | .ok x _ => ∃ A' c', e = .returned (.tuple #[recV x A' c', .int .i64 0, .int .i64 0]) ∧ w'.ownsRow 0 73 2 (.slice A' x.list.length c') x.list.length (itCells x.list)
  | .bad code n => e = .returned (.tuple #[recV RC.zero none 0, .int .i64 (code : Nat), .int .i64 (n : Nat)])
theorem Ey.new {w : World} {A : Option Addr} {c : Nat} {bs : List UInt8} (o : Obj) (hb : Bts w A bs) (hl : Lim bs.length) (hc : bs.length ≤ c) :
    Ey ((w.alloc o).alloc (.cells #[.slice A bs.length c, .int .i64 0, .int .i64 0] 82)) (w.heap.size + 1) A c bs 0 0 :=
  ⟨heap_alloc2_new w _ _, (hb.alloc _).alloc _, fun h ad e => by have := hb.inside h ad e; omega, hc, Nat.zero_le _, hl⟩

set_option maxHeartbeats 2000000 in
set_option maxRecDepth 100000 in
theorem rread3_any (A : Option Addr) (c : Nat) (bs : List UInt8) (w : World) (hb : Bts w A bs) (hl : Lim bs.length) (hc : bs.length ≤ c) :
    Calls Tryd.prog 14 #[.slice A bs.length c] w (NRPost (wholeR recR bs) w) := by
  have HX := Lib.hid (rnext_any (w.heap.size + 1) A c bs 0 _ (Ey.new (.cells zeroC 27) hb hl hc) (fun h ad e => by have := hb.inside h ad e; simp; omega))
  have HA := Lib.hid (show bs ≠ [] → ∀ ad, A = some ad → ad.block < w.heap.size from fun h ad e => hb.inside h ad e)
  rw [List.drop_zero] at HX
  cases hR : recR bs with
  | bad code n =>
    have hp := PosR.rc bs code n hR
    have h2 : ((code : Int) != 0) = true := by simp; omega
    rw [hR] at HX
    have HW := Lib.hid (wholeR_bad hR)
    clear hR hb
    go_enter Tryd.func14, Tryd.ntmps14
    go_wp2_with fail
    refine HX.out.mono ?_
    rintro e w1 ⟨hk1, rfl, he1⟩
    rw [Nat.zero_add] at he1
    have r0 := (hk1.block w.heap.size (by simp only [World.size_alloc]; omega) (by show ¬ w.heap.size = w.heap.size + 1; omega)).trans (heap_alloc2_old w _ _)
    have HB1 := Lib.hid (show Below w.heap.size w w1 from (below2 w _ _).trans (hk1.below (by simp only [World.size_alloc]; omega) (fun i hi => by omega)))
    have hs1 := lt_of_heap he1.row
    have R0 := Lib.hid r0
    have HE1 := Lib.hid he1
    clear hk1 he1 r0
    go_wp2_with fail
    refine (eend_any _ A c bs n code code _ (HE1.out.below (below1 _ _)) (.inr (.inr ⟨hp, rfl⟩))).mono ?_
    rintro e w2 ⟨rfl, he2, hk2⟩
    have r0 := (hk2.block w.heap.size (by simp only [World.size_alloc]; omega) (by show ¬ w.heap.size = w.heap.size + 1; omega)).trans ((heap_alloc_old _ _ (by omega)).trans R0.out)
    have HB2 := Lib.hid (show Below w.heap.size w w2 from HB1.out.trans (((below1 _ _).mono HB1.out.size).trans (hk2.below (by have := HB1.out.size; simp only [World.size_alloc]; omega) (fun i hi => by omega))))
    have cR := fun o => cell_of_row w2 _ o _ _ (0, 0) r0
    have fR : ∀ o, w2.frozen? ⟨w.heap.size, o, none⟩ = false := fun o => frozen_of_row _ _ o _ _ r0
    have q1 : w2.cell? ⟨w.heap.size + 1, 1, none⟩ = some (.int .i64 n) := (cell_of_row w2 _ 1 _ _ (0, 0) he2.row).trans rfl
    have q2 : w2.cell? ⟨w.heap.size + 1, 2, none⟩ = some (.int .i64 code) := (cell_of_row w2 _ 2 _ _ (0, 0) he2.row).trans rfl
    clear he2 hk2 r0
    go_wp2_with fail
    go_region_with (fail)
    all_goals
      go_wp2_with fail
      refine bodyPost_ret (v := .tuple #[.agg zeroC, .int .i64 (code : Nat), .int .i64 (n : Nat)]) (by simp [results, Tryd.results14, go_sem, cR]) rfl ?_
      rw [HW.out]
      refine ⟨?_, rfl⟩
      exact below_drew (below8 HB2.out (Nat.le_refl _))
  | ok x n =>
    rw [hR] at HX
    have hn := (recR_one hR).2.1
    by_cases hd : n < bs.length
    · have HW := Lib.hid (wholeR_long hR (fun e => by have := congrArg List.length e; simp at this; omega))
      clear hR hb
      go_enter Tryd.func14, Tryd.ntmps14
      go_wp2_with fail
      refine HX.out.mono ?_
      rintro e w1 ⟨hk1, ⟨A1, c1, rfl, ho1, hn1⟩, he1⟩
      rw [Nat.zero_add] at he1
      have r0 := (hk1.block w.heap.size (by simp only [World.size_alloc]; omega) (by show ¬ w.heap.size = w.heap.size + 1; omega)).trans (heap_alloc2_old w _ _)
      have HB1 := Lib.hid (show Below w.heap.size w w1 from (below2 w _ _).trans (hk1.below (by simp only [World.size_alloc]; omega) (fun i hi => by omega)))
      have hs1 := lt_of_heap he1.row
      have HN1 := Lib.hid (show ∀ k, ob A1 = some k → w.heap.size + 1 < k from fun k e => by have := hn1 k e; simp only [World.size_alloc] at this; omega)
      have HO1 := Lib.hid ho1
      have R0 := Lib.hid r0
      have HE1 := Lib.hid he1
      clear hk1 he1 r0 ho1 hn1
      go_wp2_with fail
      refine (eend_any _ A c bs n 0 3 _ (HE1.out.below (below1 _ _)) (.inr (.inl ⟨hd, rfl, rfl⟩))).mono ?_
      rintro e w2 ⟨rfl, he2, hk2⟩
      have r0 := (hk2.block w.heap.size (by simp only [World.size_alloc]; omega) (by show ¬ w.heap.size = w.heap.size + 1; omega)).trans ((heap_alloc_old _ _ (by omega)).trans R0.out)
      have r1 := (hk2.block w1.heap.size (by simp) (by show ¬ w1.heap.size = w.heap.size + 1; omega)).trans (heap_alloc_new w1 _)
      have HB2 := Lib.hid (show Below w.heap.size w w2 from HB1.out.trans (((below1 _ _).mono HB1.out.size).trans (hk2.below (by have := HB1.out.size; simp only [World.size_alloc]; omega) (fun i hi => by omega))))
      have HO2 := Lib.hid (hk2.own (HO1.out.alloc _) (fun k e x => by rw [ownBlock_slice] at e; have := HN1.out k e; have x' : k = w.heap.size + 1 := x; omega))
      have cR := fun o => cell_of_row w2 _ o _ _ (0, 0) r0
      have fR : ∀ o, w2.frozen? ⟨w.heap.size, o, none⟩ = false := fun o => frozen_of_row _ _ o _ _ r0
      have cX := fun o => cell_of_row w2 _ o _ _ (0, 0) r1
      have q1 : w2.cell? ⟨w.heap.size + 1, 1, none⟩ = some (.int .i64 n) := (cell_of_row w2 _ 1 _ _ (0, 0) he2.row).trans rfl
      have q2 : w2.cell? ⟨w.heap.size + 1, 2, none⟩ = some (.int .i64 3) := (cell_of_row w2 _ 2 _ _ (0, 0) he2.row).trans rfl
      clear he2 hk2 r0 r1
      go_wp2_with fail
      go_region_with (fail)
      all_goals
        go_wp2_with fail
        refine bodyPost_ret (v := .tuple #[.agg zeroC, .int .i64 (3 : Nat), .int .i64 (n : Nat)]) (by simp [results, Tryd.results14, go_sem, cR]) rfl ?_
        rw [HW.out]
        refine ⟨?_, rfl⟩
        exact below_drew (below8 HB2.out (Nat.le_refl _))
    · have HW := Lib.hid (wholeR_ok hR (by rw [List.drop_eq_nil_iff]; omega))
      clear hR hb
      go_enter Tryd.func14, Tryd.ntmps14
      go_wp2_with fail
      refine HX.out.mono ?_
      rintro e w1 ⟨hk1, ⟨A1, c1, rfl, ho1, hn1⟩, he1⟩
      rw [Nat.zero_add] at he1
      have r0 := (hk1.block w.heap.size (by simp only [World.size_alloc]; omega) (by show ¬ w.heap.size = w.heap.size + 1; omega)).trans (heap_alloc2_old w _ _)
      have HB1 := Lib.hid (show Below w.heap.size w w1 from (below2 w _ _).trans (hk1.below (by simp only [World.size_alloc]; omega) (fun i hi => by omega)))
      have hs1 := lt_of_heap he1.row
      have HN1 := Lib.hid (show ∀ k, ob A1 = some k → w.heap.size + 1 < k from fun k e => by have := hn1 k e; simp only [World.size_alloc] at this; omega)
      have HO1 := Lib.hid ho1
      have R0 := Lib.hid r0
      have HE1 := Lib.hid he1
      clear hk1 he1 r0 ho1 hn1
      go_wp2_with fail
      refine (eend_any _ A c bs n 0 0 _ (HE1.out.below (below1 _ _)) (.inl ⟨by omega, rfl⟩)).mono ?_
      rintro e w2 ⟨rfl, he2, hk2⟩
      have r0 := (hk2.block w.heap.size (by simp only [World.size_alloc]; omega) (by show ¬ w.heap.size = w.heap.size + 1; omega)).trans ((heap_alloc_old _ _ (by omega)).trans R0.out)
      have r1 := (hk2.block w1.heap.size (by simp) (by show ¬ w1.heap.size = w.heap.size + 1; omega)).trans (heap_alloc_new w1 _)
      have HB2 := Lib.hid (show Below w.heap.size w w2 from HB1.out.trans (((below1 _ _).mono HB1.out.size).trans (hk2.below (by have := HB1.out.size; simp only [World.size_alloc]; omega) (fun i hi => by omega))))
      have HO2 := Lib.hid (hk2.own (HO1.out.alloc _) (fun k e x => by rw [ownBlock_slice] at e; have := HN1.out k e; have x' : k = w.heap.size + 1 := x; omega))
      have cR := fun o => cell_of_row w2 _ o _ _ (0, 0) r0
      have fR : ∀ o, w2.frozen? ⟨w.heap.size, o, none⟩ = false := fun o => frozen_of_row _ _ o _ _ r0
      have cX := fun o => cell_of_row w2 _ o _ _ (0, 0) r1
      have q1 : w2.cell? ⟨w.heap.size + 1, 1, none⟩ = some (.int .i64 n) := (cell_of_row w2 _ 1 _ _ (0, 0) he2.row).trans rfl
      have q2 : w2.cell? ⟨w.heap.size + 1, 2, none⟩ = some (.int .i64 0) := (cell_of_row w2 _ 2 _ _ (0, 0) he2.row).trans rfl
      clear he2 hk2 r0 r1
      go_wp2_with fail
      refine bodyPost_ret (v := .tuple #[recV x A1 c1, .int .i64 0, .int .i64 0]) (by simp [results, Tryd.results14, go_sem, cR]) rfl ?_
      rw [HW.out]
      refine ⟨?_, A1, c1, rfl, ?_⟩
      · exact below8 HB2.out (Nat.le_refl _)
      · refine Kp.own (S := fun k => k = w.heap.size) ?_ HO2.out (fun k e x => by rw [ownBlock_slice] at e; have := HN1.out k e; have x' : k = w.heap.size := x; omega)
        refine kp8 ?_
        exact Kp.refl _ _

end Go.Proofs.YtafjginegipakaaDoor
