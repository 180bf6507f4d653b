/- Contracts: a new reader; a part that is read. -/
import Derived.Test.YtmfjacehompmmaaRead3
namespace Go.Proofs.Ytmfjacehompmmaa
open Go.RowKit MM

/-- A new reader. -/
def NewPost (E : TypeId) (bs : List UInt8) (w : World) (e : Ending) (w' : World) : Prop :=
  ∃ q A c, e = .returned (.pointer (some ⟨q, 0, none⟩)) ∧ Rd E w' q A c bs 0 ∧ w.heap.size ≤ q ∧ (∀ k, ob A = some k → w.heap.size ≤ k) ∧ Below w.heap.size w w'

set_option maxHeartbeats 1000000 in
set_option maxRecDepth 100000 in
theorem new_any (A : Option Addr) (c : Nat) (bs : List UInt8) (w : World) (hb : Bts w A bs) (hl : Lim bs.length) :
    Calls Try.prog 38 #[.slice A bs.length c] w (NewPost 5 bs w) := by
  have HB := Lib.hid hb
  clear hb
  go_enter Try.func38, Try.ntmps38
  go_wp2_with fail
  refine (clone_any A c bs _ HB.out hl).mono ?_
  rintro e w1 ⟨A1, c1, rfl, ho1, hk1, hb1⟩
  go_wp2
  go_ret
  exact ⟨w1.heap.size, A1, c1, rfl, Rd.new ho1 hl, hb1.size, hk1, hb1.alloc hb1.size _⟩

/-- A part of a kind, in plain words. -/
def Res.map {α β : Type} (f : α → β) : Res α → Res β
  | .ok x n => .ok (f x) n
  | .bad e n => .bad e n
def PK.zeroPt (k : Nat) : PK.Pt := ⟨k, 0, 0, 0, ⟨#[]⟩, false⟩
def partR (k : Nat) (m : Int) (l : List UInt8) : Res PK.Pt :=
  if k = 117 then Res.map (fun n => { PK.zeroPt 117 with u := n }) (numR l)
  else if k = 105 then Res.map (fun n => { PK.zeroPt 105 with i := PK.zag n }) (numR l)
  else if k = 102 then Res.map (fun x => { PK.zeroPt 102 with f := x }) (floR l)
  else if k = 115 then Res.map (fun s => { PK.zeroPt 115 with s := ⟨s.toArray⟩ }) (txtR m l)
  else if k = 98 then Res.map (fun b => { PK.zeroPt 98 with b := b }) (flagR l)
  else .bad 5 0

set_option maxHeartbeats 2000000 in
set_option maxRecDepth 100000 in
theorem rpart_any (p : Nat) (A : Option Addr) (c : Nat) (bs : List UInt8) (at_ : Nat) (k : Nat) (m : Int) (w : World) (hk : k < 256) (hm : (Lit.int .i64 m).wf = true) (hr : Rd 5 w p A c bs at_) :
    Calls Try.prog 39 #[.pointer (some ⟨p, 0, none⟩), .int .u8 k, .int .i64 m] w (RPost 5 30 p A c bs at_ (fun q : PK.Pt => .agg q.cells) (partR k m (bs.drop at_)) w) := by
  have hpl := hr.lt
  by_cases k0 : k = 117
  · subst k0
    have hP : partR 117 m (bs.drop at_) = Res.map (fun n => { PK.zeroPt 117 with u := n }) (numR (bs.drop at_)) := rfl
    rw [hP]
    clear hP
    have hx := fun o1 o2 => ru_any p A c bs at_ _ ((hr.alloc o1).alloc o2)
    have hin := own_inside hr.own
    cases hR : numR (bs.drop at_) with
    | ok n q =>
      rw [hR] at hx
      have Hx := Lib.hid hx
      have HI := Lib.hid hin
      clear hx hR hin
      go_enter Try.func39, Try.ntmps39
      go_wp2_with fail
      refine (Hx.out _ _).mono ?_
      rintro e w1 ⟨rfl, hr2, hk2⟩
      obtain ⟨e0, e1⟩ := two_new hk2 (by omega) (by omega)
      have f0 : ∀ o, w1.frozen? ⟨w.heap.size, o, none⟩ = false := fun o => frozen_of_row _ _ o _ _ e0
      have f1 : ∀ o, w1.frozen? ⟨w.heap.size + 1, o, none⟩ = false := fun o => frozen_of_row _ _ o _ _ e1
      have c0 := fun o => cell_of_row w1 _ o _ _ (0, 0) e0
      have c1 := fun o => cell_of_row w1 _ o _ _ (0, 0) e1
      clear e0 e1 Hx
      go_wp2
      refine bodyPost_ret (v := .agg #[.int .u8 117, .int .u64 n, .int .i64 0, .float .f64 0, .string ⟨#[]⟩, .bool false]) (by simp [results, Try.results39, go_sem, c0]) rfl ?_
      refine RPost.mkOk (x := { PK.zeroPt 117 with u := n }) (n := q) rfl rfl rfl ?_ ?_
      · refine hr2.keep (S := fun k => w.heap.size ≤ k) ?_ (by omega) (fun k e x => ?_)
        · repeat (refine Kp.setCell ?_ (.inl (by simp)) _)
          exact Kp.refl _ _
        · cases A with
          | none => cases e
          | some ad =>
            have h1 := HI.out ad rfl
            injection e with e
            have e' : ad.block = k := e
            omega
      · repeat (refine Kp.setCell ?_ (.inr (by simp)) _)
        exact (((Kp.refl _ w).alloc _).alloc _).same hk2
    | bad e q =>
      rw [hR] at hx
      have Hx := Lib.hid hx
      clear hx hR hin
      go_enter Try.func39, Try.ntmps39
      go_wp2_with fail
      refine (Hx.out _ _).mono ?_
      rintro e w1 ⟨rfl, hr2, hk2⟩
      go_wp2
      exact ⟨rfl, RPost.mkBad (n := q) rfl rfl (by omega) rfl hr2 ((((Kp.refl _ w).alloc _).alloc _).same hk2)⟩
  have b0 : ((k : Int) == 117) = false := by simp; omega
  by_cases k1 : k = 105
  · subst k1
    have hP : partR 105 m (bs.drop at_) = Res.map (fun n => { PK.zeroPt 105 with i := PK.zag n }) (numR (bs.drop at_)) := rfl
    rw [hP]
    clear hP
    have hx := fun o1 o2 => ri_any p A c bs at_ _ ((hr.alloc o1).alloc o2)
    have hin := own_inside hr.own
    cases hR : numR (bs.drop at_) with
    | ok n q =>
      rw [hR] at hx
      have Hx := Lib.hid hx
      have HI := Lib.hid hin
      clear hx hR hin
      go_enter Try.func39, Try.ntmps39
      go_wp2_with fail
      refine (Hx.out _ _).mono ?_
      rintro e w1 ⟨rfl, hr2, hk2⟩
      obtain ⟨e0, e1⟩ := two_new hk2 (by omega) (by omega)
      have f0 : ∀ o, w1.frozen? ⟨w.heap.size, o, none⟩ = false := fun o => frozen_of_row _ _ o _ _ e0
      have f1 : ∀ o, w1.frozen? ⟨w.heap.size + 1, o, none⟩ = false := fun o => frozen_of_row _ _ o _ _ e1
      have c0 := fun o => cell_of_row w1 _ o _ _ (0, 0) e0
      have c1 := fun o => cell_of_row w1 _ o _ _ (0, 0) e1
      clear e0 e1 Hx
      go_wp2
      refine bodyPost_ret (v := .agg #[.int .u8 105, .int .u64 0, .int .i64 (PK.zag n), .float .f64 0, .string ⟨#[]⟩, .bool false]) (by simp [results, Try.results39, go_sem, c0]) rfl ?_
      refine RPost.mkOk (x := { PK.zeroPt 105 with i := PK.zag n }) (n := q) rfl rfl rfl ?_ ?_
      · refine hr2.keep (S := fun k => w.heap.size ≤ k) ?_ (by omega) (fun k e x => ?_)
        · repeat (refine Kp.setCell ?_ (.inl (by simp)) _)
          exact Kp.refl _ _
        · cases A with
          | none => cases e
          | some ad =>
            have h1 := HI.out ad rfl
            injection e with e
            have e' : ad.block = k := e
            omega
      · repeat (refine Kp.setCell ?_ (.inr (by simp)) _)
        exact (((Kp.refl _ w).alloc _).alloc _).same hk2
    | bad e q =>
      rw [hR] at hx
      have Hx := Lib.hid hx
      clear hx hR hin
      go_enter Try.func39, Try.ntmps39
      go_wp2_with fail
      refine (Hx.out _ _).mono ?_
      rintro e w1 ⟨rfl, hr2, hk2⟩
      go_wp2
      exact ⟨rfl, RPost.mkBad (n := q) rfl rfl (by omega) rfl hr2 ((((Kp.refl _ w).alloc _).alloc _).same hk2)⟩
  have b1 : ((k : Int) == 105) = false := by simp; omega
  by_cases k2 : k = 102
  · subst k2
    have hP : partR 102 m (bs.drop at_) = Res.map (fun x => { PK.zeroPt 102 with f := x }) (floR (bs.drop at_)) := rfl
    rw [hP]
    clear hP
    have hx := fun o1 o2 => rf_any p A c bs at_ _ ((hr.alloc o1).alloc o2)
    have hin := own_inside hr.own
    cases hR : floR (bs.drop at_) with
    | ok n q =>
      rw [hR] at hx
      have Hx := Lib.hid hx
      have HI := Lib.hid hin
      clear hx hR hin
      go_enter Try.func39, Try.ntmps39
      go_wp2_with fail
      refine (Hx.out _ _).mono ?_
      rintro e w1 ⟨rfl, hr2, hk2⟩
      obtain ⟨e0, e1⟩ := two_new hk2 (by omega) (by omega)
      have f0 : ∀ o, w1.frozen? ⟨w.heap.size, o, none⟩ = false := fun o => frozen_of_row _ _ o _ _ e0
      have f1 : ∀ o, w1.frozen? ⟨w.heap.size + 1, o, none⟩ = false := fun o => frozen_of_row _ _ o _ _ e1
      have c0 := fun o => cell_of_row w1 _ o _ _ (0, 0) e0
      have c1 := fun o => cell_of_row w1 _ o _ _ (0, 0) e1
      clear e0 e1 Hx
      go_wp2
      refine bodyPost_ret (v := .agg #[.int .u8 102, .int .u64 0, .int .i64 0, .float .f64 n, .string ⟨#[]⟩, .bool false]) (by simp [results, Try.results39, go_sem, c0]) rfl ?_
      refine RPost.mkOk (x := { PK.zeroPt 102 with f := n }) (n := q) rfl rfl rfl ?_ ?_
      · refine hr2.keep (S := fun k => w.heap.size ≤ k) ?_ (by omega) (fun k e x => ?_)
        · repeat (refine Kp.setCell ?_ (.inl (by simp)) _)
          exact Kp.refl _ _
        · cases A with
          | none => cases e
          | some ad =>
            have h1 := HI.out ad rfl
            injection e with e
            have e' : ad.block = k := e
            omega
      · repeat (refine Kp.setCell ?_ (.inr (by simp)) _)
        exact (((Kp.refl _ w).alloc _).alloc _).same hk2
    | bad e q =>
      rw [hR] at hx
      have Hx := Lib.hid hx
      clear hx hR hin
      go_enter Try.func39, Try.ntmps39
      go_wp2_with fail
      refine (Hx.out _ _).mono ?_
      rintro e w1 ⟨rfl, hr2, hk2⟩
      go_wp2
      exact ⟨rfl, RPost.mkBad (n := q) rfl rfl (by omega) rfl hr2 ((((Kp.refl _ w).alloc _).alloc _).same hk2)⟩
  have b2 : ((k : Int) == 102) = false := by simp; omega
  by_cases k3 : k = 115
  · subst k3
    have hP : partR 115 m (bs.drop at_) = Res.map (fun s => { PK.zeroPt 115 with s := ⟨s.toArray⟩ }) (txtR m (bs.drop at_)) := rfl
    rw [hP]
    clear hP
    have hx := fun o1 o2 => rs_any p A c bs at_ m _ hm ((hr.alloc o1).alloc o2)
    have hin := own_inside hr.own
    cases hR : txtR m (bs.drop at_) with
    | ok n q =>
      rw [hR] at hx
      have Hx := Lib.hid hx
      have HI := Lib.hid hin
      clear hx hR hin
      go_enter Try.func39, Try.ntmps39
      go_wp2_with fail
      refine (Hx.out _ _).mono ?_
      rintro e w1 ⟨rfl, hr2, hk2⟩
      obtain ⟨e0, e1⟩ := two_new hk2 (by omega) (by omega)
      have f0 : ∀ o, w1.frozen? ⟨w.heap.size, o, none⟩ = false := fun o => frozen_of_row _ _ o _ _ e0
      have f1 : ∀ o, w1.frozen? ⟨w.heap.size + 1, o, none⟩ = false := fun o => frozen_of_row _ _ o _ _ e1
      have c0 := fun o => cell_of_row w1 _ o _ _ (0, 0) e0
      have c1 := fun o => cell_of_row w1 _ o _ _ (0, 0) e1
      clear e0 e1 Hx
      go_wp2
      refine bodyPost_ret (v := .agg #[.int .u8 115, .int .u64 0, .int .i64 0, .float .f64 0, .string ⟨n.toArray⟩, .bool false]) (by simp [results, Try.results39, go_sem, c0]) rfl ?_
      refine RPost.mkOk (x := { PK.zeroPt 115 with s := ⟨n.toArray⟩ }) (n := q) rfl rfl rfl ?_ ?_
      · refine hr2.keep (S := fun k => w.heap.size ≤ k) ?_ (by omega) (fun k e x => ?_)
        · repeat (refine Kp.setCell ?_ (.inl (by simp)) _)
          exact Kp.refl _ _
        · cases A with
          | none => cases e
          | some ad =>
            have h1 := HI.out ad rfl
            injection e with e
            have e' : ad.block = k := e
            omega
      · repeat (refine Kp.setCell ?_ (.inr (by simp)) _)
        exact (((Kp.refl _ w).alloc _).alloc _).same hk2
    | bad e q =>
      rw [hR] at hx
      have Hx := Lib.hid hx
      clear hx hR hin
      go_enter Try.func39, Try.ntmps39
      go_wp2_with fail
      refine (Hx.out _ _).mono ?_
      rintro e w1 ⟨rfl, hr2, hk2⟩
      go_wp2
      exact ⟨rfl, RPost.mkBad (n := q) rfl rfl (by omega) rfl hr2 ((((Kp.refl _ w).alloc _).alloc _).same hk2)⟩
  have b3 : ((k : Int) == 115) = false := by simp; omega
  by_cases k4 : k = 98
  · subst k4
    have hP : partR 98 m (bs.drop at_) = Res.map (fun b => { PK.zeroPt 98 with b := b }) (flagR (bs.drop at_)) := rfl
    rw [hP]
    clear hP
    have hx := fun o1 o2 => rflag_any p A c bs at_ _ ((hr.alloc o1).alloc o2)
    have hin := own_inside hr.own
    cases hR : flagR (bs.drop at_) with
    | ok n q =>
      rw [hR] at hx
      have Hx := Lib.hid hx
      have HI := Lib.hid hin
      clear hx hR hin
      go_enter Try.func39, Try.ntmps39
      go_wp2_with fail
      refine (Hx.out _ _).mono ?_
      rintro e w1 ⟨rfl, hr2, hk2⟩
      obtain ⟨e0, e1⟩ := two_new hk2 (by omega) (by omega)
      have f0 : ∀ o, w1.frozen? ⟨w.heap.size, o, none⟩ = false := fun o => frozen_of_row _ _ o _ _ e0
      have f1 : ∀ o, w1.frozen? ⟨w.heap.size + 1, o, none⟩ = false := fun o => frozen_of_row _ _ o _ _ e1
      have c0 := fun o => cell_of_row w1 _ o _ _ (0, 0) e0
      have c1 := fun o => cell_of_row w1 _ o _ _ (0, 0) e1
      clear e0 e1 Hx
      go_wp2
      refine bodyPost_ret (v := .agg #[.int .u8 98, .int .u64 0, .int .i64 0, .float .f64 0, .string ⟨#[]⟩, .bool n]) (by simp [results, Try.results39, go_sem, c0]) rfl ?_
      refine RPost.mkOk (x := { PK.zeroPt 98 with b := n }) (n := q) rfl rfl rfl ?_ ?_
      · refine hr2.keep (S := fun k => w.heap.size ≤ k) ?_ (by omega) (fun k e x => ?_)
        · repeat (refine Kp.setCell ?_ (.inl (by simp)) _)
          exact Kp.refl _ _
        · cases A with
          | none => cases e
          | some ad =>
            have h1 := HI.out ad rfl
            injection e with e
            have e' : ad.block = k := e
            omega
      · repeat (refine Kp.setCell ?_ (.inr (by simp)) _)
        exact (((Kp.refl _ w).alloc _).alloc _).same hk2
    | bad e q =>
      rw [hR] at hx
      have Hx := Lib.hid hx
      clear hx hR hin
      go_enter Try.func39, Try.ntmps39
      go_wp2_with fail
      refine (Hx.out _ _).mono ?_
      rintro e w1 ⟨rfl, hr2, hk2⟩
      go_wp2
      exact ⟨rfl, RPost.mkBad (n := q) rfl rfl (by omega) rfl hr2 ((((Kp.refl _ w).alloc _).alloc _).same hk2)⟩
  have b4 : ((k : Int) == 98) = false := by simp; omega
  have hP : partR k m (bs.drop at_) = .bad 5 0 := by unfold partR; rw [if_neg k0, if_neg k1, if_neg k2, if_neg k3, if_neg k4]
  rw [hP]
  clear hP k0 k1 k2 k3 k4
  go_enter Try.func39, Try.ntmps39
  go_wp2_with fail
  refine (fail_any p A c bs at_ 5 _ ((hr.alloc _).alloc _)).mono ?_
  rintro e w1 ⟨rfl, rfl⟩
  go_wp2
  exact ⟨rfl, RPost.mkBad (n := 0) rfl rfl (by omega) rfl ((hr.alloc _).alloc _) (((Kp.refl _ w).alloc _).alloc _)⟩

end Go.Proofs.Ytmfjacehompmmaa
