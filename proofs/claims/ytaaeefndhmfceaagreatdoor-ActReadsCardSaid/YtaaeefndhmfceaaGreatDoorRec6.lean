/- Contracts of package rec: items are read. -/
import Derived.Test.YtaaeefndhmfceaaGreatDoorRec4
import Derived.Test.YtaaeefndhmfceaaGreatDoorRec5
import Derived.Test.YtaaeefndhmfceaaGreatDoorRcR
namespace Go.Proofs.YtaaeefndhmfceaaGreatDoor
open Go.RowKit MM

/-- A record's kind. -/
def kindR (l : List UInt8) : Res Nat := andR (uptoR 9 l) l fun k _ => if k = 0 then .bad 5 0 else .ok k 0
theorem recR_kind (l : List UInt8) : recR l = andR (kindR l) l fun k l1 => andR (fieldR k l1) l1 fun r _ => endC r := by
  unfold recR kindR
  cases h : uptoR 9 l with
  | bad e n => rfl
  | ok k n =>
    rw [andR_ok rfl, andR_ok rfl]
    unfold bodyR
    by_cases hk : k = 0
    · rw [if_pos hk, if_pos hk]; rfl
    · rw [if_neg hk, if_neg hk]; rfl

set_option maxHeartbeats 1000000 in
set_option maxRecDepth 100000 in
theorem takeKind_any (p : Nat) (A : Option Addr) (c : Nat) (bs : List UInt8) (at_ : Nat) (w : World) (hr : Rd 5 w p A c bs at_) :
    Calls Tryz.prog 166 #[.pointer (some ⟨p, 0, none⟩)] w (RPost 5 34 p A c bs at_ (fun n : Nat => .int .i64 n) (kindR (bs.drop at_)) w) := by
  have hx := rupto_any p A c bs at_ 9 w rfl hr
  unfold kindR
  cases hU : uptoR 9 (bs.drop at_) with
  | bad e n =>
    rw [hU] at hx
    have Hx := Lib.hid hx
    clear hx hU
    go_enter Tryz.func166, Tryz.ntmps166
    go_wp2_with fail
    refine Hx.out.mono ?_
    rintro e w1 ⟨rfl, hr2, hk2⟩
    go_wp2
    exact ⟨rfl, RPost.mkBad (n := n) rfl rfl (by omega) rfl hr2 hk2⟩
  | ok k n =>
    rw [hU] at hx
    have Hx := Lib.hid hx
    rw [andR_ok rfl]
    clear hx hU
    by_cases hk : k = 0
    · subst hk
      go_enter Tryz.func166, Tryz.ntmps166
      go_wp2_with fail
      refine Hx.out.mono ?_
      rintro e w1 ⟨rfl, hr2, hk2⟩
      go_wp2_with fail
      refine (fail_any p A c bs (at_ + n) 5 _ hr2).mono ?_
      rintro e w2 ⟨rfl, rfl⟩
      go_wp2
      exact ⟨rfl, RPost.mkBad (n := n) rfl rfl (by omega) rfl hr2 hk2⟩
    · rw [if_neg hk]
      have hk' : ((k : Int) == 0) = false := by simp; omega
      clear hk
      go_enter Tryz.func166, Tryz.ntmps166
      go_wp2_with fail
      refine Hx.out.mono ?_
      rintro e w1 ⟨rfl, hr2, hk2⟩
      go_wp2
      go_ret
      exact RPost.mkOk (x := k) (n := n) rfl rfl rfl hr2 hk2

/-- Blocks that were laid just ahead of a call that reads are there behind it. -/
theorem lt_of_heap {w : World} {k : Nat} {o : Obj} (h : w.heap[k]? = some o) : k < w.heap.size := (Array.getElem?_eq_some_iff.1 h).1
theorem rd_new {p : Nat} {w w1 : World} {o : Obj} (hk : Kp (fun k => k = p) (w.alloc o) w1) (hp : p < w.heap.size) : w1.heap[w.heap.size]? = some o :=
  (hk.block _ (by simp) (by omega)).trans (heap_alloc_new w o)
theorem rd_out {A : Option Addr} {c : Nat} {bs : List UInt8} {m p B : Nat} {w w' : World} (h : Rd 5 w p A c bs m) (hp : p < B) (hA : ∀ k, ob A = some k → k < B) (hk : Kp (fun k => B ≤ k) w w') : Rd 5 w' p A c bs m :=
  h.keep hk (by omega) (fun k e x => by have := hA k e; omega)
theorem rd_in {A : Option Addr} {c : Nat} {bs : List UInt8} {m p : Nat} {w : World} (h : Rd 5 w p A c bs m) : ∀ k, ob A = some k → k < w.heap.size := by
  intro k e
  cases A with
  | none => cases e
  | some ad =>
    have := own_inside h.own ad rfl
    injection e with e
    have e' : ad.block = k := e
    omega

set_option maxHeartbeats 2000000 in
set_option maxRecDepth 100000 in
theorem takeItem_any (k : Nat) (p : Nat) (A : Option Addr) (c : Nat) (bs : List UInt8) (at_ : Nat) (w : World) (hk : k = 8 ∨ k = 9) (hr : Rd 5 w p A c bs at_) :
    Calls Tryz.prog 174 #[.pointer (some ⟨p, 0, none⟩), .int .i64 k] w (RPost 5 34 p A c bs at_ itV (itR k (bs.drop at_)) w) := by
  have hp := hr.lt
  have Hin := Lib.hid (rd_in hr)
  have hr2 := fun o o' => (hr.alloc o).alloc o'
  rcases hk with rfl | rfl
  · have hx := fun o o' => rs_any p A c bs at_ 16 _ rfl (hr2 o o')
    have hR : itR 8 (bs.drop at_) = Res.map (fun t => ⟨0, ⟨t.toArray⟩⟩) (txtR 16 (bs.drop at_)) := rfl
    rw [hR]
    clear hR hr2
    cases hT : txtR 16 (bs.drop at_) with
    | bad e n =>
      rw [hT] at hx
      have Hx := Lib.hid hx
      clear hx hT
      go_enter Tryz.func174, Tryz.ntmps174
      go_wp2_with fail
      refine (Hx.out _ _).mono ?_
      rintro e w1 ⟨rfl, hr3, hk3⟩
      go_wp2
      exact ⟨rfl, RPost.mkBad (n := n) rfl rfl (by omega) rfl hr3 ((((Kp.refl _ w).alloc _).alloc _).same hk3)⟩
    | ok t n =>
      rw [hT] at hx
      have Hx := Lib.hid hx
      clear hx hT
      go_enter Tryz.func174, Tryz.ntmps174
      go_wp2_with fail
      refine (Hx.out _ _).mono ?_
      rintro e w1 ⟨rfl, hr3, hk3⟩
      obtain ⟨e0, e1⟩ := two_new hk3 (by omega) (by omega)
      have f0 : ∀ o, w1.frozen? ⟨w.heap.size, o, none⟩ = false := fun o => frozen_of_row _ _ o _ _ e0
      have f1 : ∀ o, w1.frozen? ⟨w.heap.size + 1, o, none⟩ = false := fun o => frozen_of_row _ _ o _ _ e1
      have c0 := fun o => cell_of_row w1 _ o _ _ (0, 0) e0
      have c1 := fun o => cell_of_row w1 _ o _ _ (0, 0) e1
      clear e0 e1 Hx
      go_wp2_with fail
      refine bodyPost_ret (v := itV ⟨0, ⟨t.toArray⟩⟩) (by simp [results, Tryz.results174, go_sem, c0]) rfl ?_
      refine RPost.mkOk (x := ⟨0, ⟨t.toArray⟩⟩) (n := n) rfl rfl rfl (rd_out hr3 hp Hin.out ?_) ?_
      · iterate 3 refine Kp.setCell ?_ (Or.inl (by simp)) _
        exact Kp.refl _ _
      · iterate 3 refine Kp.setCell ?_ (Or.inr (by simp)) _
        exact (((Kp.refl _ w).alloc _).alloc _).same hk3
  · rw [itR9]
    have hx := fun o o' => rf_any p A c bs at_ _ (hr2 o o')
    cases hF : floR (bs.drop at_) with
    | bad e n =>
      rw [hF] at hx
      have Hx := Lib.hid hx
      clear hx hF hr2
      go_enter Tryz.func174, Tryz.ntmps174
      go_wp2_with fail
      refine (Hx.out _ _).mono ?_
      rintro e w1 ⟨rfl, hr3, hk3⟩
      go_wp2
      exact ⟨rfl, RPost.mkBad (n := n) rfl rfl (by omega) rfl hr3 ((((Kp.refl _ w).alloc _).alloc _).same hk3)⟩
    | ok s m =>
      rw [hF] at hx
      have Hx := Lib.hid hx
      rw [andR_ok rfl, List.drop_drop]
      have hy := fun w hr => rs_any p A c bs (at_ + m) 16 w rfl hr
      clear hx hF hr2
      cases hT : txtR 16 (bs.drop (at_ + m)) with
      | bad e n =>
        rw [hT] at hy
        have Hy := Lib.hid hy
        clear hy hT
        go_enter Tryz.func174, Tryz.ntmps174
        go_wp2_with fail
        refine (Hx.out _ _).mono ?_
        rintro e w1 ⟨rfl, hr3, hk3⟩
        obtain ⟨e0, e1⟩ := two_new hk3 (by omega) (by omega)
        have f1 : ∀ o, w1.frozen? ⟨w.heap.size + 1, o, none⟩ = false := fun o => frozen_of_row _ _ o _ _ e1
        have c1 := fun o => cell_of_row w1 _ o _ _ (0, 0) e1
        clear e0 e1 Hx
        go_wp2_with fail
        refine (Hy.out _ (rd_out hr3 hp Hin.out (Kp.setCell (Kp.refl _ _) (Or.inl (by simp)) _))).mono ?_
        rintro e w2 ⟨rfl, hr4, hk4⟩
        go_wp2
        exact ⟨rfl, RPost.mkBad (n := m + n) rfl rfl (by omega) (by omega) hr4 ((Kp.setCell ((((Kp.refl _ w).alloc _).alloc _).same hk3) (Or.inr (by simp)) _).same hk4)⟩
      | ok t n =>
        rw [hT] at hy
        have Hy := Lib.hid hy
        clear hy hT
        go_enter Tryz.func174, Tryz.ntmps174
        go_wp2_with fail
        refine (Hx.out _ _).mono ?_
        rintro e w1 ⟨rfl, hr3, hk3⟩
        obtain ⟨e0, e1⟩ := two_new hk3 (by omega) (by omega)
        have f1 : ∀ o, w1.frozen? ⟨w.heap.size + 1, o, none⟩ = false := fun o => frozen_of_row _ _ o _ _ e1
        have c1 := fun o => cell_of_row w1 _ o _ _ (0, 0) e1
        have E0 := Lib.hid e0
        clear e0 Hx
        go_wp2_with fail
        generalize hw2 : World.setCell _ _ _ = w2
        have hr4 : Rd 5 w2 p A c bs (at_ + m) := by rw [← hw2]; exact rd_out hr3 hp Hin.out (Kp.setCell (Kp.refl _ _) (Or.inl (by simp)) _)
        have hk4 : Kp (fun k => k = p) w w2 := by rw [← hw2]; exact Kp.setCell ((((Kp.refl _ w).alloc _).alloc _).same hk3) (Or.inr (by simp)) _
        have s0 : w2.cell? ⟨w.heap.size + 1, 0, none⟩ = some (.float .f64 s) := by rw [← hw2]; simp [go_sem, c1]
        have s1 : w2.cell? ⟨w.heap.size + 1, 1, none⟩ = some (.string ⟨#[]⟩) := by rw [← hw2]; simp [go_sem, c1]
        have sf : ∀ o, w2.frozen? ⟨w.heap.size + 1, o, none⟩ = false := by intro o; rw [← hw2]; simp [f1]
        have z0 : w2.heap[w.heap.size]? = some (.cells #[.float .f64 0, .string ⟨#[]⟩] 88 (0, 0)) := by
          rw [← hw2]; exact ((Kp.setCell (S := fun k => k = w.heap.size + 1) (p := ⟨w.heap.size + 1, 0, none⟩) (Kp.refl _ w1) (Or.inl rfl) _).block _ (lt_of_heap E0.out) (by omega)).trans E0.out
        have HK := Lib.hid hk4
        clear hw2 hk4 c1 f1 E0
        refine (Hy.out _ hr4).mono ?_
        rintro e w3 ⟨rfl, hr5, hk5⟩
        have d0 := hk5.cell s0 (by show ¬ w.heap.size + 1 = p; omega)
        have d1 := hk5.cell s1 (by show ¬ w.heap.size + 1 = p; omega)
        have df : ∀ o, w3.frozen? ⟨w.heap.size + 1, o, none⟩ = false := fun o => (hk5.frozen (p := ⟨w.heap.size + 1, o, none⟩) (World.block_lt_of_cell? w2 ⟨w.heap.size + 1, 0, none⟩ s0) (by show ¬ w.heap.size + 1 = p; omega)).trans (sf o)
        have z1 := (hk5.block _ (lt_of_heap z0) (by show ¬ w.heap.size = p; omega)).trans z0
        have zf : ∀ o, w3.frozen? ⟨w.heap.size, o, none⟩ = false := fun o => frozen_of_row _ _ o _ _ z1
        have zc := fun o => cell_of_row w3 _ o _ _ (0, 0) z1
        clear s0 s1 sf z0 z1
        go_wp2_with fail
        refine bodyPost_ret (v := itV ⟨s, ⟨t.toArray⟩⟩) (by simp [results, Tryz.results174, go_sem, zc]) rfl ?_
        refine RPost.mkOk (x := ⟨s, ⟨t.toArray⟩⟩) (n := m + n) rfl rfl (by omega) (rd_out hr5 hp Hin.out ?_) ?_
        · iterate 3 refine Kp.setCell ?_ (Or.inl (by simp)) _
          exact Kp.refl _ _
        · iterate 3 refine Kp.setCell ?_ (Or.inr (by simp)) _
          exact HK.out.same hk5

end Go.Proofs.YtaaeefndhmfceaaGreatDoor
