/- Contracts of the document's own answers for layer 4: the next act, and the act that bytes are. -/
import Derived.Test.YtaaeefndhmfceaaGreatDoorEye4T
import Derived.Test.YtaaeefndhmfceaaGreatDoorEye4U
import Derived.Test.YtaaeefndhmfceaaGreatDoorEye4D
import Derived.Test.YtaaeefndhmfceaaGreatDoorEye4W
namespace Go.Proofs.YtaaeefndhmfceaaGreatDoor
open Go.RowKit MM

theorem rnext4_any (p : Nat) (A : Option Addr) (c : Nat) (bs : List UInt8) (at_ : Nat) (w : World) (he : Ey w p A c bs at_ 0) (hA : bs ≠ [] → ∀ ad, A = some ad → ad.block < w.heap.size) :
    Calls Tryz.prog 44 #[.pointer (some ⟨p, 0, none⟩)] w (N4Post p A c bs at_ (actR (bs.drop at_)) w) := by
  cases hU : uptoR 21 (bs.drop at_) with
  | bad code n => exact next4_kind code n p A c bs at_ w he hU hA
  | ok k n =>
    have hk : k ≤ 21 := (uptoR_one hU).2.2
    rcases Nat.eq_zero_or_pos k with h0 | h0
    · subst h0; exact next4_zero n p A c bs at_ w he hU hA
    · rcases AC.kinds6 (k := (k : Int)) ⟨by omega, by omega⟩ with ⟨a, b, d, e⟩ | ⟨a, b, d, e⟩ | ⟨a, b, d, e⟩ | ⟨a, b, d, e⟩ | ⟨a, b, d, e⟩ | ⟨a, b, d, e⟩
      · exact next4_0 k n p A c bs at_ w he hU h0 hk a b d e hA
      · exact next4_n k n p A c bs at_ w he hU h0 hk a b d e hA
      · exact next4_x k n p A c bs at_ w he hU h0 hk a b d e hA
      · by_cases hM : (k : Int) = 5 ∨ (k : Int) = 6
        · exact next4_sa k n p A c bs at_ w he hU h0 hk a b d e hM hA
        · exact next4_sb k n p A c bs at_ w he hU h0 hk a b d e hM hA
      · by_cases hM : (k : Int) = 5 ∨ (k : Int) = 6
        · exfalso
          rcases hM with h | h <;> (rw [h] at b; exact absurd b (by decide))
        · exact next4_xsb k n p A c bs at_ w he hU h0 hk a b d e hM hA
      · exact next4_m k n p A c bs at_ w he hU h0 hk a b d e hA

theorem PosR.opt {α : Type} {b : Bool} {z : α} {r : List UInt8 → Res α} {l : List UInt8} (h : ∀ l, PosR (r l)) : PosR (optR b z r l) := by
  unfold optR
  split
  · exact h l
  · exact PosR.ok _ _
theorem PosR.endA (a : AC.Ac) : PosR (endA a) := by
  intro e n h
  unfold Go.Proofs.YtaaeefndhmfceaaGreatDoor.endA at h
  split at h
  · cases h
  · injection h with h1 h2; omega
theorem PosR.ac (l : List UInt8) : PosR (actR l) := by
  have h1 : PosR (kindA l) := (PosR.upto 21 l).and fun k _ => by
    split
    · intro e n h; injection h with h1 h2; omega
    · exact PosR.ok _ _
  refine h1.and fun k q => (PosR.flag q).and fun must q => PosR.and (PosR.map (PosR.txt 24 q)) fun key q => PosR.and ?_ fun a _ => PosR.endA a
  exact (PosR.opt fun l => (PosR.num l).map).and fun _ q => (PosR.opt PosR.flo).and fun _ q => (PosR.opt fun l => (PosR.txt _ l).map).and fun _ q => (PosR.opt PosR.rc).map

/-- What Read answers. -/
def NR4Post (r : Res AC.Ac) (w : World) (e : Ending) (w' : World) : Prop :=
  Below w.heap.size w w' ∧ match r with
  | .ok x _ => ∃ A' c', e = .returned (.tuple #[actV x A' c', .int .i64 0, .int .i64 0]) ∧ w'.ownsRow 0 88 2 (.slice A' x.make.list.length c') x.make.list.length (itCells x.make.list)
  | .bad code n => e = .returned (.tuple #[actV AC.zero none 0, .int .i64 (code : Nat), .int .i64 (n : Nat)])
theorem Ey.new4 {w : World} {A : Option Addr} {c : Nat} {bs : List UInt8} (o : Obj) (hb : Bts w A bs) (hl : Lim bs.length) (hc : bs.length ≤ c) :
    Ey ((w.alloc o).alloc (.cells #[.slice A bs.length c, .int .i64 0, .int .i64 0] 77)) (w.heap.size + 1) A c bs 0 0 :=
  ⟨heap_alloc2_new w _ _, (hb.alloc _).alloc _, fun h ad e => by have := hb.inside h ad e; omega, hc, Nat.zero_le _, hl⟩

set_option maxHeartbeats 2000000 in
set_option maxRecDepth 100000 in
theorem rread4_any (A : Option Addr) (c : Nat) (bs : List UInt8) (w : World) (hb : Bts w A bs) (hl : Lim bs.length) (hc : bs.length ≤ c) :
    Calls Tryz.prog 14 #[.slice A bs.length c] w (NR4Post (wholeR actR bs) w) := by
  have HX := Lib.hid (rnext4_any (w.heap.size + 1) A c bs 0 _ (Ey.new4 (.cells zeroA 27) hb hl hc) (fun h ad e => by have := hb.inside h ad e; simp; omega))
  have HA := Lib.hid (show bs ≠ [] → ∀ ad, A = some ad → ad.block < w.heap.size from fun h ad e => hb.inside h ad e)
  rw [List.drop_zero] at HX
  cases hR : actR bs with
  | bad code n =>
    have hp := PosR.ac bs code n hR
    have h2 : ((code : Int) != 0) = true := by simp; omega
    rw [hR] at HX
    have HW := Lib.hid (wholeR_bad hR)
    clear hR hb
    go_enter Tryz.func14, Tryz.ntmps14
    go_wp2_with fail
    refine HX.out.mono ?_
    rintro e w1 ⟨hk1, rfl, he1⟩
    rw [Nat.zero_add] at he1
    have r0 := (hk1.block w.heap.size (by simp only [World.size_alloc]; omega) (by show ¬ w.heap.size = w.heap.size + 1; omega)).trans (heap_alloc2_old w _ _)
    have HB1 := Lib.hid (show Below w.heap.size w w1 from (below2 w _ _).trans (hk1.below (by simp only [World.size_alloc]; omega) (fun i hi => by omega)))
    have hs1 := lt_of_heap he1.row
    have R0 := Lib.hid r0
    have HE1 := Lib.hid he1
    clear hk1 he1 r0
    go_wp2_with fail
    refine (eend_any _ A c bs n code code _ (HE1.out.below (below1 _ _)) (.inr (.inr ⟨hp, rfl⟩))).mono ?_
    rintro e w2 ⟨rfl, he2, hk2⟩
    have r0 := (hk2.block w.heap.size (by simp only [World.size_alloc]; omega) (by show ¬ w.heap.size = w.heap.size + 1; omega)).trans ((heap_alloc_old _ _ (by omega)).trans R0.out)
    have HB2 := Lib.hid (show Below w.heap.size w w2 from HB1.out.trans (((below1 _ _).mono HB1.out.size).trans (hk2.below (by have := HB1.out.size; simp only [World.size_alloc]; omega) (fun i hi => by omega))))
    have cR := fun o => cell_of_row w2 _ o _ _ (0, 0) r0
    have fR : ∀ o, w2.frozen? ⟨w.heap.size, o, none⟩ = false := fun o => frozen_of_row _ _ o _ _ r0
    have q1 : w2.cell? ⟨w.heap.size + 1, 1, none⟩ = some (.int .i64 n) := (cell_of_row w2 _ 1 _ _ (0, 0) he2.row).trans rfl
    have q2 : w2.cell? ⟨w.heap.size + 1, 2, none⟩ = some (.int .i64 code) := (cell_of_row w2 _ 2 _ _ (0, 0) he2.row).trans rfl
    clear he2 hk2 r0
    go_wp2_with fail
    go_region_with (fail)
    all_goals
      go_wp2_with fail
      refine bodyPost_ret (v := .tuple #[.agg zeroA, .int .i64 (code : Nat), .int .i64 (n : Nat)]) (by simp [results, Tryz.results14, go_sem, cR, AC.zero, RC.zero]) rfl ?_
      rw [HW.out]
      refine ⟨?_, rfl⟩
      exact below_drew (below14 HB2.out (Nat.le_refl _))
  | ok x n =>
    rw [hR] at HX
    have hn := (actR_one hR).2.1
    by_cases hd : n < bs.length
    · have HW := Lib.hid (wholeR_long hR (fun e => by have := congrArg List.length e; simp at this; omega))
      clear hR hb
      go_enter Tryz.func14, Tryz.ntmps14
      go_wp2_with fail
      refine HX.out.mono ?_
      rintro e w1 ⟨hk1, ⟨A1, c1, rfl, ho1, hn1⟩, he1⟩
      rw [Nat.zero_add] at he1
      have r0 := (hk1.block w.heap.size (by simp only [World.size_alloc]; omega) (by show ¬ w.heap.size = w.heap.size + 1; omega)).trans (heap_alloc2_old w _ _)
      have HB1 := Lib.hid (show Below w.heap.size w w1 from (below2 w _ _).trans (hk1.below (by simp only [World.size_alloc]; omega) (fun i hi => by omega)))
      have hs1 := lt_of_heap he1.row
      have HN1 := Lib.hid (show ∀ k, ob A1 = some k → w.heap.size + 1 < k from fun k e => by have := hn1 k e; simp only [World.size_alloc] at this; omega)
      have HO1 := Lib.hid ho1
      have R0 := Lib.hid r0
      have HE1 := Lib.hid he1
      clear hk1 he1 r0 ho1 hn1
      go_wp2_with fail
      refine (eend_any _ A c bs n 0 3 _ (HE1.out.below (below1 _ _)) (.inr (.inl ⟨hd, rfl, rfl⟩))).mono ?_
      rintro e w2 ⟨rfl, he2, hk2⟩
      have r0 := (hk2.block w.heap.size (by simp only [World.size_alloc]; omega) (by show ¬ w.heap.size = w.heap.size + 1; omega)).trans ((heap_alloc_old _ _ (by omega)).trans R0.out)
      have r1 := (hk2.block w1.heap.size (by simp) (by show ¬ w1.heap.size = w.heap.size + 1; omega)).trans (heap_alloc_new w1 _)
      have HB2 := Lib.hid (show Below w.heap.size w w2 from HB1.out.trans (((below1 _ _).mono HB1.out.size).trans (hk2.below (by have := HB1.out.size; simp only [World.size_alloc]; omega) (fun i hi => by omega))))
      have HO2 := Lib.hid (hk2.own (HO1.out.alloc _) (fun k e x => by rw [ownBlock_slice] at e; have := HN1.out k e; have x' : k = w.heap.size + 1 := x; omega))
      have cR := fun o => cell_of_row w2 _ o _ _ (0, 0) r0
      have fR : ∀ o, w2.frozen? ⟨w.heap.size, o, none⟩ = false := fun o => frozen_of_row _ _ o _ _ r0
      have cX := fun o => cell_of_row w2 _ o _ _ (0, 0) r1
      have q1 : w2.cell? ⟨w.heap.size + 1, 1, none⟩ = some (.int .i64 n) := (cell_of_row w2 _ 1 _ _ (0, 0) he2.row).trans rfl
      have q2 : w2.cell? ⟨w.heap.size + 1, 2, none⟩ = some (.int .i64 3) := (cell_of_row w2 _ 2 _ _ (0, 0) he2.row).trans rfl
      clear he2 hk2 r0 r1
      go_wp2_with fail
      go_region_with (fail)
      all_goals
        go_wp2_with fail
        refine bodyPost_ret (v := .tuple #[.agg zeroA, .int .i64 (3 : Nat), .int .i64 (n : Nat)]) (by simp [results, Tryz.results14, go_sem, cR, AC.zero, RC.zero]) rfl ?_
        rw [HW.out]
        refine ⟨?_, rfl⟩
        exact below_drew (below14 HB2.out (Nat.le_refl _))
    · have HW := Lib.hid (wholeR_ok hR (by rw [List.drop_eq_nil_iff]; omega))
      clear hR hb
      go_enter Tryz.func14, Tryz.ntmps14
      go_wp2_with fail
      refine HX.out.mono ?_
      rintro e w1 ⟨hk1, ⟨A1, c1, rfl, ho1, hn1⟩, he1⟩
      rw [Nat.zero_add] at he1
      have r0 := (hk1.block w.heap.size (by simp only [World.size_alloc]; omega) (by show ¬ w.heap.size = w.heap.size + 1; omega)).trans (heap_alloc2_old w _ _)
      have HB1 := Lib.hid (show Below w.heap.size w w1 from (below2 w _ _).trans (hk1.below (by simp only [World.size_alloc]; omega) (fun i hi => by omega)))
      have hs1 := lt_of_heap he1.row
      have HN1 := Lib.hid (show ∀ k, ob A1 = some k → w.heap.size + 1 < k from fun k e => by have := hn1 k e; simp only [World.size_alloc] at this; omega)
      have HO1 := Lib.hid ho1
      have R0 := Lib.hid r0
      have HE1 := Lib.hid he1
      clear hk1 he1 r0 ho1 hn1
      go_wp2_with fail
      refine (eend_any _ A c bs n 0 0 _ (HE1.out.below (below1 _ _)) (.inl ⟨by omega, rfl⟩)).mono ?_
      rintro e w2 ⟨rfl, he2, hk2⟩
      have r0 := (hk2.block w.heap.size (by simp only [World.size_alloc]; omega) (by show ¬ w.heap.size = w.heap.size + 1; omega)).trans ((heap_alloc_old _ _ (by omega)).trans R0.out)
      have r1 := (hk2.block w1.heap.size (by simp) (by show ¬ w1.heap.size = w.heap.size + 1; omega)).trans (heap_alloc_new w1 _)
      have HB2 := Lib.hid (show Below w.heap.size w w2 from HB1.out.trans (((below1 _ _).mono HB1.out.size).trans (hk2.below (by have := HB1.out.size; simp only [World.size_alloc]; omega) (fun i hi => by omega))))
      have HO2 := Lib.hid (hk2.own (HO1.out.alloc _) (fun k e x => by rw [ownBlock_slice] at e; have := HN1.out k e; have x' : k = w.heap.size + 1 := x; omega))
      have cR := fun o => cell_of_row w2 _ o _ _ (0, 0) r0
      have fR : ∀ o, w2.frozen? ⟨w.heap.size, o, none⟩ = false := fun o => frozen_of_row _ _ o _ _ r0
      have cX := fun o => cell_of_row w2 _ o _ _ (0, 0) r1
      have q1 : w2.cell? ⟨w.heap.size + 1, 1, none⟩ = some (.int .i64 n) := (cell_of_row w2 _ 1 _ _ (0, 0) he2.row).trans rfl
      have q2 : w2.cell? ⟨w.heap.size + 1, 2, none⟩ = some (.int .i64 0) := (cell_of_row w2 _ 2 _ _ (0, 0) he2.row).trans rfl
      clear he2 hk2 r0 r1
      go_wp2_with fail
      refine bodyPost_ret (v := .tuple #[actV x A1 c1, .int .i64 0, .int .i64 0]) (by simp [results, Tryz.results14, go_sem, cR, AC.zero, RC.zero]) rfl ?_
      rw [HW.out]
      refine ⟨?_, A1, c1, rfl, ?_⟩
      · exact below14 HB2.out (Nat.le_refl _)
      · exact Kp.own (S := fun k => k = w.heap.size) (kp14 (Kp.refl _ _) (Or.inl rfl)) HO2.out (fun k e x => by rw [ownBlock_slice] at e; have := HN1.out k e; have x' : k = w.heap.size := x; omega)

end Go.Proofs.YtaaeefndhmfceaaGreatDoor
