/- Contracts of package rec: a record is read. -/
import Derived.Test.YtaaeefndhmfceaaGreatDoorRec7
namespace Go.Proofs.YtaaeefndhmfceaaGreatDoor
open Go.RowKit MM

/-- What Take answers. -/
def TPost (p : Nat) (A : Option Addr) (c : Nat) (bs : List UInt8) (at_ : Nat) (r : Res RC.Rc) (w : World) (e : Ending) (w' : World) : Prop :=
  match r with
  | .ok r n => ∃ A' c', e = .returned (recV r A' c') ∧ w'.ownsRow 0 88 2 (.slice A' r.list.length c') r.list.length (itCells r.list) ∧ (∀ k, ob A' = some k → w.heap.size ≤ k) ∧ Rd 5 w' p A c bs (at_ + n) ∧ Kp (fun k => k = p) w w'
  | .bad code n => e = thr 34 code (at_ + n) ∧ Rd 5 w' p A c bs (at_ + n) ∧ Kp (fun k => k = p) w w'
section
variable {p : Nat} {A : Option Addr} {c : Nat} {bs : List UInt8} {at_ m n code : Nat} {r : Res RC.Rc} {w w' : World} {z y : Int} {x : RC.Rc}
theorem TPost.mkBad (h : r = .bad code n) (hy : y = (code : Int)) (hz : z = ((at_ + n : Nat) : Int)) (hm : m = at_ + n) (hr : Rd 5 w' p A c bs m) (hk : Kp (fun k => k = p) w w') :
    TPost p A c bs at_ r w (.panicked [{ v := .iface 34 (.agg #[.int .i64 y, .int .i64 z]), recovered := false }]) w' := by
  subst h hy hz hm
  exact ⟨rfl, hr, hk⟩
theorem TPost.mkOk {A' : Option Addr} {c' : Nat} {v : Value} (h : r = .ok x n) (hv : v = recV x A' c') (ho : w'.ownsRow 0 88 2 (.slice A' x.list.length c') x.list.length (itCells x.list)) (hn : ∀ k, ob A' = some k → w.heap.size ≤ k) (hm : m = at_ + n) (hr : Rd 5 w' p A c bs m) (hk : Kp (fun k => k = p) w w') :
    TPost p A c bs at_ r w (.returned v) w' := by
  subst h hm hv
  exact ⟨A', c', rfl, ho, hn, hr, hk⟩
end
section
variable {l : List UInt8} {k n0 n e : Nat} {r : RC.Rc}
theorem recR_bad1 (hk : kindR l = .bad e n) : recR l = .bad e n := by rw [recR_kind, andR_bad hk]
theorem recR_bad2 (hk : kindR l = .ok k n0) (hf : fieldR k (l.drop n0) = .bad e n) : recR l = .bad e (n0 + n) := by rw [recR_kind, andR_ok hk, andR_bad hf]; rfl
theorem recR_ok (hk : kindR l = .ok k n0) (hf : fieldR k (l.drop n0) = .ok r n) (hc : RC.chk r = 0) : recR l = .ok r (n0 + n) := by rw [recR_kind, andR_ok hk, andR_ok hf]; unfold endC; rw [if_pos hc]; rfl
theorem recR_no (hk : kindR l = .ok k n0) (hf : fieldR k (l.drop n0) = .ok r n) (hc : RC.chk r ≠ 0) : recR l = .bad (RC.chk r) (n0 + n) := by rw [recR_kind, andR_ok hk, andR_ok hf]; unfold endC; rw [if_neg hc]; rfl
theorem kindR_pos (hk : kindR l = .ok k n0) : 0 < k ∧ k ≤ 9 := by
  obtain ⟨x, a, b, hx, hf, rfl⟩ := andR_inv (show andR (uptoR 9 l) l _ = _ from hk)
  have h9 := (uptoR_one hx).2.2
  split at hf
  · cases hf
  · injection hf with h1 h2
    subst h1
    have h9' : x ≤ 9 := h9
    omega
end
theorem itsR_count {k : Nat} : ∀ {m : Nat} {l : List UInt8} {xs : List RC.It} {n : Nat}, itsR k m l = .ok xs n → xs.length = m
  | 0, l, xs, n, h => by injection h with h1 h2; subst h1; rfl
  | m + 1, l, xs, n, h => by
    obtain ⟨x, a, b, hx, hf, rfl⟩ := andR_inv (show andR (itR k l) l _ = _ from h)
    obtain ⟨ys, hy, rfl⟩ := map_inv hf
    simp [itsR_count hy]
abbrev recC (k n l h : Int) (x : Nat) (cap : Int) (t : ByteArray) (v : Value) : Array Value := #[.int .i64 k, .int .i64 n, .int .i64 l, .int .i64 h, .float .f64 x, .int .i64 cap, .string t, v]

theorem fieldR_list2 {k : Nat} (hk : k = 8 ∨ k = 9) (l : List UInt8) : fieldR k l = andR (uptoR 32 l) l fun c l1 => Res.map (fun xs => (⟨(k : Int), 0, 0, 0, 0, (c : Int), ⟨#[]⟩, xs⟩ : RC.Rc)) (countR k l1) := by
  have h : ∀ l, fieldR k l = andR (uptoR 32 l) l fun c l1 => andR (uptoR 32 l1) l1 fun n l2 => Res.map (fun xs => (⟨(k : Int), 0, 0, 0, 0, (c : Int), ⟨#[]⟩, xs⟩ : RC.Rc)) (itsR k n l2) := by intro l; rcases hk with rfl | rfl <;> rfl
  rw [h]
  congr 1
  funext c l1
  unfold countR
  cases h1 : uptoR 32 l1 with
  | bad e n => rfl
  | ok x n =>
    rw [andR_ok rfl, andR_ok rfl]
    cases itsR k x (l1.drop n) <;> rfl
theorem countR_len {k : Nat} {l : List UInt8} {xs : List RC.It} {n : Nat} (h : countR k l = .ok xs n) : xs.length ≤ 32 := by
  obtain ⟨m, a, b, hm, hf, rfl⟩ := andR_inv (show andR (uptoR 32 l) l _ = _ from h)
  have h1 : m ≤ 32 := (uptoR_one hm).2.2
  have h2 := itsR_count hf
  omega


set_option maxHeartbeats 2000000 in
set_option maxRecDepth 100000 in
theorem recTake_1 (n0 : Nat) (p : Nat) (A : Option Addr) (c : Nat) (bs : List UInt8) (at_ : Nat) (w : World) (hr : Rd 5 w p A c bs at_) (hK : kindR (bs.drop at_) = .ok 1 n0) :
    Calls Tryz.prog 142 #[.pointer (some ⟨p, 0, none⟩)] w (TPost p A c bs at_ (recR (bs.drop at_)) w) := by
  have hp := hr.lt
  have Hin := Lib.hid (rd_in hr)
  have hx := fun o => takeKind_any p A c bs at_ (w.alloc o) (hr.alloc o)
  rw [hK] at hx
  have Hx := Lib.hid hx
  have HK := Lib.hid hK
  clear hx hK
  have hy := fun w hr => rs_any p A c bs (at_ + n0) 64 w rfl hr
  cases hN1 : txtR 64 (bs.drop (at_ + n0)) with
  | bad e n1 =>
    rw [hN1] at hy
    have Hy1 := Lib.hid hy
    have Hf := Lib.hid (show fieldR 1 ((bs.drop at_).drop n0) = .bad e (n1) by rw [List.drop_drop]; show Res.map _ (txtR 64 _) = _; rw [hN1]; rfl)
    clear hy hN1
    go_enter Tryz.func142, Tryz.ntmps142
    go_wp2_with fail
    refine (Hx.out _).mono ?_
    rintro e w1 ⟨rfl, hr1, hk1⟩
    clear Hx
    have hs1 : w.heap.size < w1.heap.size := by have := hk1.size; simp at this; omega
    go_wp2_with fail
    generalize hv0 : w1.alloc _ = v0
    have HO0 := Lib.hid (show v0.heap[w1.heap.size]? = some (.cells (recC 1 0 0 0 0 0 ⟨#[]⟩ (.slice none 0 0)) 25 (0, 0)) by rw [← hv0]; exact heap_alloc_new _ _)
    have HR0 := Lib.hid (show v0.heap[w.heap.size]? = some (.cells #[.int .i64 0, .int .i64 0, .int .i64 0, .int .i64 0, .float .f64 0, .int .i64 0, .string ⟨#[]⟩, .slice none 0 0] 25 (0, 0)) by rw [← hv0]; exact (heap_alloc_old w1 _ hs1).trans (rd_new hk1 hp))
    have hr0 : Rd 5 v0 p A c bs (at_ + n0) := by rw [← hv0]; exact hr1.alloc _
    have HK0 := Lib.hid (show Kp (fun k => k = p) w v0 by rw [← hv0]; exact (((Kp.refl _ w).alloc _).same hk1).alloc _)
    clear hv0 hk1 hr1
    refine (Hy1.out _ hr0).mono ?_
    rintro e u1 ⟨rfl, hu1, ku1⟩
    go_wp2
    exact ⟨rfl, TPost.mkBad (n := n0 + n1) (recR_bad2 HK.out Hf.out) rfl (by omega) (by omega) hu1 (HK0.out.same ku1)⟩
  | ok x1 n1 =>
    rw [hN1] at hy
    have Hy1 := Lib.hid hy
    clear hy
    have Hf := Lib.hid (show fieldR 1 ((bs.drop at_).drop n0) = .ok ⟨1, 0, 0, 0, 0, 0, ⟨x1.toArray⟩, []⟩ (n1) by rw [List.drop_drop]; show Res.map _ (txtR 64 _) = _; rw [hN1]; rfl)
    clear hN1
    go_enter Tryz.func142, Tryz.ntmps142
    go_wp2_with fail
    refine (Hx.out _).mono ?_
    rintro e w1 ⟨rfl, hr1, hk1⟩
    clear Hx
    have hs1 : w.heap.size < w1.heap.size := by have := hk1.size; simp at this; omega
    go_wp2_with fail
    generalize hv0 : w1.alloc _ = v0
    have HO0 := Lib.hid (show v0.heap[w1.heap.size]? = some (.cells (recC 1 0 0 0 0 0 ⟨#[]⟩ (.slice none 0 0)) 25 (0, 0)) by rw [← hv0]; exact heap_alloc_new _ _)
    have HR0 := Lib.hid (show v0.heap[w.heap.size]? = some (.cells #[.int .i64 0, .int .i64 0, .int .i64 0, .int .i64 0, .float .f64 0, .int .i64 0, .string ⟨#[]⟩, .slice none 0 0] 25 (0, 0)) by rw [← hv0]; exact (heap_alloc_old w1 _ hs1).trans (rd_new hk1 hp))
    have hr0 : Rd 5 v0 p A c bs (at_ + n0) := by rw [← hv0]; exact hr1.alloc _
    have HK0 := Lib.hid (show Kp (fun k => k = p) w v0 by rw [← hv0]; exact (((Kp.refl _ w).alloc _).same hk1).alloc _)
    clear hv0 hk1 hr1
    refine (Hy1.out _ hr0).mono ?_
    rintro e u1 ⟨rfl, hu1, ku1⟩
    have EO1 := Lib.hid ((ku1.block _ (lt_of_heap HO0.out) (by show ¬ w1.heap.size = p; omega)).trans HO0.out)
    have ER1 := Lib.hid ((ku1.block _ (lt_of_heap HR0.out) (by show ¬ w.heap.size = p; omega)).trans HR0.out)
    have fO1 : ∀ o, u1.frozen? ⟨w1.heap.size, o, none⟩ = false := fun o => frozen_of_row _ _ o _ _ EO1.out
    have cO1 := fun o => cell_of_row u1 _ o _ _ (0, 0) EO1.out
    clear Hy1 hr0
    go_wp2_with fail
    generalize hv1 : World.setCell _ _ _ = v1
    have HO1 := Lib.hid (show v1.heap[w1.heap.size]? = some (.cells (recC 1 0 0 0 0 0 ⟨x1.toArray⟩ (.slice none 0 0)) 25 (0, 0)) by rw [← hv1]; exact heap_setCell_same _ _ _ _ _ _ EO1.out)
    have HR1 := Lib.hid ((show v1.heap[w.heap.size]? = _ by rw [← hv1]; exact heap_setCell_other _ _ _ _ (by show w.heap.size ≠ w1.heap.size; omega)).trans ER1.out)
    have hr1 : Rd 5 v1 p A c bs (at_ + n0 + n1) := by rw [← hv1]; exact rd_out hu1 hp Hin.out (Kp.setCell (Kp.refl _ _) (Or.inl (by show w.heap.size ≤ w1.heap.size; omega)) _)
    have HK1 := Lib.hid (show Kp (fun k => k = p) w v1 by rw [← hv1]; exact Kp.setCell (HK0.out.same ku1) (Or.inr (by show w.heap.size ≤ w1.heap.size; omega)) _)
    clear hv1 EO1 ER1 fO1 cO1 hu1 ku1 HO0 HR0 HK0
    have hqo := (fieldR_one (by omega) Hf.out).2.2.1
    refine (recCheck_any ⟨1, 0, 0, 0, 0, 0, ⟨x1.toArray⟩, []⟩ none 0 v1 hqo (Its.nil _ _) (by show Lim ([] : List RC.It).length; unfold Lim; decide)).mono ?_
    rintro e w4 ⟨rfl, hb4⟩
    have HO := Lib.hid ((hb4.block _ (lt_of_heap HO1.out)).trans HO1.out)
    have HR := Lib.hid ((hb4.block _ (lt_of_heap HR1.out)).trans HR1.out)
    have hr4 : Rd 5 w4 p A c bs (at_ + n0 + n1) := hr1.keep (Kp.of_below hb4 (fun _ => False)) (fun h => h) (fun _ _ h => h)
    have hk4 : Kp (fun k => k = p) w w4 := HK1.out.same (Kp.of_below hb4 _)
    clear hb4 HO1 HR1 HK1 hr1
    rcases Nat.eq_zero_or_pos (RC.chk ⟨1, 0, 0, 0, 0, 0, ⟨x1.toArray⟩, []⟩) with hc | hc
    · rw [hc]
      have HC := Lib.hid (recR_ok HK.out Hf.out hc)
      clear hc
      have cO := fun o => cell_of_row w4 _ o _ _ (0, 0) HO.out
      have cR := fun o => cell_of_row w4 _ o _ _ (0, 0) HR.out
      have fR : ∀ o, w4.frozen? ⟨w.heap.size, o, none⟩ = false := fun o => frozen_of_row _ _ o _ _ HR.out
      go_wp2_with fail
      refine bodyPost_ret (v := recV ⟨1, 0, 0, 0, 0, 0, ⟨x1.toArray⟩, []⟩ none 0) (by simp [results, Tryz.results142, go_sem, cR]) rfl ?_
      refine TPost.mkOk (A' := none) (c' := 0) (n := n0 + n1) HC.out rfl (World.ownsRow_nil _ _ _ _) (fun k e => by cases e) (by omega) (rd_out hr4 hp Hin.out ?_) ?_
      · iterate 8 refine Kp.setCell ?_ (Or.inl (by simp)) _
        exact Kp.refl _ _
      · iterate 8 refine Kp.setCell ?_ (Or.inr (by simp)) _
        exact hk4
    · have HC := Lib.hid (recR_no HK.out Hf.out (Nat.ne_of_gt hc))
      generalize RC.chk _ = E at hc HC
      have hE : ((E : Int) != 0) = true := by simp; omega
      go_wp2_with fail
      refine (fail_any p A c bs (at_ + n0 + n1) E _ hr4).mono ?_
      rintro e w5 ⟨rfl, rfl⟩
      go_wp2
      exact ⟨rfl, TPost.mkBad (n := n0 + n1) HC.out rfl (by omega) (by omega) hr4 hk4⟩

set_option maxHeartbeats 2000000 in
set_option maxRecDepth 100000 in
theorem recTake_2 (n0 : Nat) (p : Nat) (A : Option Addr) (c : Nat) (bs : List UInt8) (at_ : Nat) (w : World) (hr : Rd 5 w p A c bs at_) (hK : kindR (bs.drop at_) = .ok 2 n0) :
    Calls Tryz.prog 142 #[.pointer (some ⟨p, 0, none⟩)] w (TPost p A c bs at_ (recR (bs.drop at_)) w) := by
  have hp := hr.lt
  have Hin := Lib.hid (rd_in hr)
  have hx := fun o => takeKind_any p A c bs at_ (w.alloc o) (hr.alloc o)
  rw [hK] at hx
  have Hx := Lib.hid hx
  have HK := Lib.hid hK
  clear hx hK
  have hy := fun w hr => ri_any p A c bs (at_ + n0) w hr
  cases hN1 : numR (bs.drop (at_ + n0)) with
  | bad e n1 =>
    rw [hN1] at hy
    have Hy1 := Lib.hid hy
    have Hf := Lib.hid (show fieldR 2 ((bs.drop at_).drop n0) = .bad e (n1) by rw [List.drop_drop]; show Res.map _ (numR _) = _; rw [hN1]; rfl)
    clear hy hN1
    go_enter Tryz.func142, Tryz.ntmps142
    go_wp2_with fail
    refine (Hx.out _).mono ?_
    rintro e w1 ⟨rfl, hr1, hk1⟩
    clear Hx
    have hs1 : w.heap.size < w1.heap.size := by have := hk1.size; simp at this; omega
    go_wp2_with fail
    generalize hv0 : w1.alloc _ = v0
    have HO0 := Lib.hid (show v0.heap[w1.heap.size]? = some (.cells (recC 2 0 0 0 0 0 ⟨#[]⟩ (.slice none 0 0)) 25 (0, 0)) by rw [← hv0]; exact heap_alloc_new _ _)
    have HR0 := Lib.hid (show v0.heap[w.heap.size]? = some (.cells #[.int .i64 0, .int .i64 0, .int .i64 0, .int .i64 0, .float .f64 0, .int .i64 0, .string ⟨#[]⟩, .slice none 0 0] 25 (0, 0)) by rw [← hv0]; exact (heap_alloc_old w1 _ hs1).trans (rd_new hk1 hp))
    have hr0 : Rd 5 v0 p A c bs (at_ + n0) := by rw [← hv0]; exact hr1.alloc _
    have HK0 := Lib.hid (show Kp (fun k => k = p) w v0 by rw [← hv0]; exact (((Kp.refl _ w).alloc _).same hk1).alloc _)
    clear hv0 hk1 hr1
    refine (Hy1.out _ hr0).mono ?_
    rintro e u1 ⟨rfl, hu1, ku1⟩
    go_wp2
    exact ⟨rfl, TPost.mkBad (n := n0 + n1) (recR_bad2 HK.out Hf.out) rfl (by omega) (by omega) hu1 (HK0.out.same ku1)⟩
  | ok x1 n1 =>
    rw [hN1] at hy
    have Hy1 := Lib.hid hy
    clear hy
    have Hf := Lib.hid (show fieldR 2 ((bs.drop at_).drop n0) = .ok ⟨2, PK.zag x1, 0, 0, 0, 0, ⟨#[]⟩, []⟩ (n1) by rw [List.drop_drop]; show Res.map _ (numR _) = _; rw [hN1]; rfl)
    clear hN1
    go_enter Tryz.func142, Tryz.ntmps142
    go_wp2_with fail
    refine (Hx.out _).mono ?_
    rintro e w1 ⟨rfl, hr1, hk1⟩
    clear Hx
    have hs1 : w.heap.size < w1.heap.size := by have := hk1.size; simp at this; omega
    go_wp2_with fail
    generalize hv0 : w1.alloc _ = v0
    have HO0 := Lib.hid (show v0.heap[w1.heap.size]? = some (.cells (recC 2 0 0 0 0 0 ⟨#[]⟩ (.slice none 0 0)) 25 (0, 0)) by rw [← hv0]; exact heap_alloc_new _ _)
    have HR0 := Lib.hid (show v0.heap[w.heap.size]? = some (.cells #[.int .i64 0, .int .i64 0, .int .i64 0, .int .i64 0, .float .f64 0, .int .i64 0, .string ⟨#[]⟩, .slice none 0 0] 25 (0, 0)) by rw [← hv0]; exact (heap_alloc_old w1 _ hs1).trans (rd_new hk1 hp))
    have hr0 : Rd 5 v0 p A c bs (at_ + n0) := by rw [← hv0]; exact hr1.alloc _
    have HK0 := Lib.hid (show Kp (fun k => k = p) w v0 by rw [← hv0]; exact (((Kp.refl _ w).alloc _).same hk1).alloc _)
    clear hv0 hk1 hr1
    refine (Hy1.out _ hr0).mono ?_
    rintro e u1 ⟨rfl, hu1, ku1⟩
    have EO1 := Lib.hid ((ku1.block _ (lt_of_heap HO0.out) (by show ¬ w1.heap.size = p; omega)).trans HO0.out)
    have ER1 := Lib.hid ((ku1.block _ (lt_of_heap HR0.out) (by show ¬ w.heap.size = p; omega)).trans HR0.out)
    have fO1 : ∀ o, u1.frozen? ⟨w1.heap.size, o, none⟩ = false := fun o => frozen_of_row _ _ o _ _ EO1.out
    have cO1 := fun o => cell_of_row u1 _ o _ _ (0, 0) EO1.out
    clear Hy1 hr0
    go_wp2_with fail
    generalize hv1 : World.setCell _ _ _ = v1
    have HO1 := Lib.hid (show v1.heap[w1.heap.size]? = some (.cells (recC 2 (PK.zag x1) 0 0 0 0 ⟨#[]⟩ (.slice none 0 0)) 25 (0, 0)) by rw [← hv1]; exact heap_setCell_same _ _ _ _ _ _ EO1.out)
    have HR1 := Lib.hid ((show v1.heap[w.heap.size]? = _ by rw [← hv1]; exact heap_setCell_other _ _ _ _ (by show w.heap.size ≠ w1.heap.size; omega)).trans ER1.out)
    have hr1 : Rd 5 v1 p A c bs (at_ + n0 + n1) := by rw [← hv1]; exact rd_out hu1 hp Hin.out (Kp.setCell (Kp.refl _ _) (Or.inl (by show w.heap.size ≤ w1.heap.size; omega)) _)
    have HK1 := Lib.hid (show Kp (fun k => k = p) w v1 by rw [← hv1]; exact Kp.setCell (HK0.out.same ku1) (Or.inr (by show w.heap.size ≤ w1.heap.size; omega)) _)
    clear hv1 EO1 ER1 fO1 cO1 hu1 ku1 HO0 HR0 HK0
    have hqo := (fieldR_one (by omega) Hf.out).2.2.1
    refine (recCheck_any ⟨2, PK.zag x1, 0, 0, 0, 0, ⟨#[]⟩, []⟩ none 0 v1 hqo (Its.nil _ _) (by show Lim ([] : List RC.It).length; unfold Lim; decide)).mono ?_
    rintro e w4 ⟨rfl, hb4⟩
    have HO := Lib.hid ((hb4.block _ (lt_of_heap HO1.out)).trans HO1.out)
    have HR := Lib.hid ((hb4.block _ (lt_of_heap HR1.out)).trans HR1.out)
    have hr4 : Rd 5 w4 p A c bs (at_ + n0 + n1) := hr1.keep (Kp.of_below hb4 (fun _ => False)) (fun h => h) (fun _ _ h => h)
    have hk4 : Kp (fun k => k = p) w w4 := HK1.out.same (Kp.of_below hb4 _)
    clear hb4 HO1 HR1 HK1 hr1
    rcases Nat.eq_zero_or_pos (RC.chk ⟨2, PK.zag x1, 0, 0, 0, 0, ⟨#[]⟩, []⟩) with hc | hc
    · rw [hc]
      have HC := Lib.hid (recR_ok HK.out Hf.out hc)
      clear hc
      have cO := fun o => cell_of_row w4 _ o _ _ (0, 0) HO.out
      have cR := fun o => cell_of_row w4 _ o _ _ (0, 0) HR.out
      have fR : ∀ o, w4.frozen? ⟨w.heap.size, o, none⟩ = false := fun o => frozen_of_row _ _ o _ _ HR.out
      go_wp2_with fail
      refine bodyPost_ret (v := recV ⟨2, PK.zag x1, 0, 0, 0, 0, ⟨#[]⟩, []⟩ none 0) (by simp [results, Tryz.results142, go_sem, cR]) rfl ?_
      refine TPost.mkOk (A' := none) (c' := 0) (n := n0 + n1) HC.out rfl (World.ownsRow_nil _ _ _ _) (fun k e => by cases e) (by omega) (rd_out hr4 hp Hin.out ?_) ?_
      · iterate 8 refine Kp.setCell ?_ (Or.inl (by simp)) _
        exact Kp.refl _ _
      · iterate 8 refine Kp.setCell ?_ (Or.inr (by simp)) _
        exact hk4
    · have HC := Lib.hid (recR_no HK.out Hf.out (Nat.ne_of_gt hc))
      generalize RC.chk _ = E at hc HC
      have hE : ((E : Int) != 0) = true := by simp; omega
      go_wp2_with fail
      refine (fail_any p A c bs (at_ + n0 + n1) E _ hr4).mono ?_
      rintro e w5 ⟨rfl, rfl⟩
      go_wp2
      exact ⟨rfl, TPost.mkBad (n := n0 + n1) HC.out rfl (by omega) (by omega) hr4 hk4⟩

set_option maxHeartbeats 2000000 in
set_option maxRecDepth 100000 in
theorem recTake_3 (n0 : Nat) (p : Nat) (A : Option Addr) (c : Nat) (bs : List UInt8) (at_ : Nat) (w : World) (hr : Rd 5 w p A c bs at_) (hK : kindR (bs.drop at_) = .ok 3 n0) :
    Calls Tryz.prog 142 #[.pointer (some ⟨p, 0, none⟩)] w (TPost p A c bs at_ (recR (bs.drop at_)) w) := by
  have hp := hr.lt
  have Hin := Lib.hid (rd_in hr)
  have hx := fun o => takeKind_any p A c bs at_ (w.alloc o) (hr.alloc o)
  rw [hK] at hx
  have Hx := Lib.hid hx
  have HK := Lib.hid hK
  clear hx hK
  have hy := fun w hr => ri_any p A c bs (at_ + n0) w hr
  cases hN1 : numR (bs.drop (at_ + n0)) with
  | bad e n1 =>
    rw [hN1] at hy
    have Hy1 := Lib.hid hy
    have Hf := Lib.hid (show fieldR 3 ((bs.drop at_).drop n0) = .bad e (n1) by rw [List.drop_drop]; show Res.map _ (numR _) = _; rw [hN1]; rfl)
    clear hy hN1
    go_enter Tryz.func142, Tryz.ntmps142
    go_wp2_with fail
    refine (Hx.out _).mono ?_
    rintro e w1 ⟨rfl, hr1, hk1⟩
    clear Hx
    have hs1 : w.heap.size < w1.heap.size := by have := hk1.size; simp at this; omega
    go_wp2_with fail
    generalize hv0 : w1.alloc _ = v0
    have HO0 := Lib.hid (show v0.heap[w1.heap.size]? = some (.cells (recC 3 0 0 0 0 0 ⟨#[]⟩ (.slice none 0 0)) 25 (0, 0)) by rw [← hv0]; exact heap_alloc_new _ _)
    have HR0 := Lib.hid (show v0.heap[w.heap.size]? = some (.cells #[.int .i64 0, .int .i64 0, .int .i64 0, .int .i64 0, .float .f64 0, .int .i64 0, .string ⟨#[]⟩, .slice none 0 0] 25 (0, 0)) by rw [← hv0]; exact (heap_alloc_old w1 _ hs1).trans (rd_new hk1 hp))
    have hr0 : Rd 5 v0 p A c bs (at_ + n0) := by rw [← hv0]; exact hr1.alloc _
    have HK0 := Lib.hid (show Kp (fun k => k = p) w v0 by rw [← hv0]; exact (((Kp.refl _ w).alloc _).same hk1).alloc _)
    clear hv0 hk1 hr1
    refine (Hy1.out _ hr0).mono ?_
    rintro e u1 ⟨rfl, hu1, ku1⟩
    go_wp2
    exact ⟨rfl, TPost.mkBad (n := n0 + n1) (recR_bad2 HK.out Hf.out) rfl (by omega) (by omega) hu1 (HK0.out.same ku1)⟩
  | ok x1 n1 =>
    rw [hN1] at hy
    have Hy1 := Lib.hid hy
    clear hy
    have Hf := Lib.hid (show fieldR 3 ((bs.drop at_).drop n0) = .ok ⟨3, PK.zag x1, 0, 0, 0, 0, ⟨#[]⟩, []⟩ (n1) by rw [List.drop_drop]; show Res.map _ (numR _) = _; rw [hN1]; rfl)
    clear hN1
    go_enter Tryz.func142, Tryz.ntmps142
    go_wp2_with fail
    refine (Hx.out _).mono ?_
    rintro e w1 ⟨rfl, hr1, hk1⟩
    clear Hx
    have hs1 : w.heap.size < w1.heap.size := by have := hk1.size; simp at this; omega
    go_wp2_with fail
    generalize hv0 : w1.alloc _ = v0
    have HO0 := Lib.hid (show v0.heap[w1.heap.size]? = some (.cells (recC 3 0 0 0 0 0 ⟨#[]⟩ (.slice none 0 0)) 25 (0, 0)) by rw [← hv0]; exact heap_alloc_new _ _)
    have HR0 := Lib.hid (show v0.heap[w.heap.size]? = some (.cells #[.int .i64 0, .int .i64 0, .int .i64 0, .int .i64 0, .float .f64 0, .int .i64 0, .string ⟨#[]⟩, .slice none 0 0] 25 (0, 0)) by rw [← hv0]; exact (heap_alloc_old w1 _ hs1).trans (rd_new hk1 hp))
    have hr0 : Rd 5 v0 p A c bs (at_ + n0) := by rw [← hv0]; exact hr1.alloc _
    have HK0 := Lib.hid (show Kp (fun k => k = p) w v0 by rw [← hv0]; exact (((Kp.refl _ w).alloc _).same hk1).alloc _)
    clear hv0 hk1 hr1
    refine (Hy1.out _ hr0).mono ?_
    rintro e u1 ⟨rfl, hu1, ku1⟩
    have EO1 := Lib.hid ((ku1.block _ (lt_of_heap HO0.out) (by show ¬ w1.heap.size = p; omega)).trans HO0.out)
    have ER1 := Lib.hid ((ku1.block _ (lt_of_heap HR0.out) (by show ¬ w.heap.size = p; omega)).trans HR0.out)
    have fO1 : ∀ o, u1.frozen? ⟨w1.heap.size, o, none⟩ = false := fun o => frozen_of_row _ _ o _ _ EO1.out
    have cO1 := fun o => cell_of_row u1 _ o _ _ (0, 0) EO1.out
    clear Hy1 hr0
    go_wp2_with fail
    generalize hv1 : World.setCell _ _ _ = v1
    have HO1 := Lib.hid (show v1.heap[w1.heap.size]? = some (.cells (recC 3 (PK.zag x1) 0 0 0 0 ⟨#[]⟩ (.slice none 0 0)) 25 (0, 0)) by rw [← hv1]; exact heap_setCell_same _ _ _ _ _ _ EO1.out)
    have HR1 := Lib.hid ((show v1.heap[w.heap.size]? = _ by rw [← hv1]; exact heap_setCell_other _ _ _ _ (by show w.heap.size ≠ w1.heap.size; omega)).trans ER1.out)
    have hr1 : Rd 5 v1 p A c bs (at_ + n0 + n1) := by rw [← hv1]; exact rd_out hu1 hp Hin.out (Kp.setCell (Kp.refl _ _) (Or.inl (by show w.heap.size ≤ w1.heap.size; omega)) _)
    have HK1 := Lib.hid (show Kp (fun k => k = p) w v1 by rw [← hv1]; exact Kp.setCell (HK0.out.same ku1) (Or.inr (by show w.heap.size ≤ w1.heap.size; omega)) _)
    clear hv1 EO1 ER1 fO1 cO1 hu1 ku1 HO0 HR0 HK0
    have hqo := (fieldR_one (by omega) Hf.out).2.2.1
    refine (recCheck_any ⟨3, PK.zag x1, 0, 0, 0, 0, ⟨#[]⟩, []⟩ none 0 v1 hqo (Its.nil _ _) (by show Lim ([] : List RC.It).length; unfold Lim; decide)).mono ?_
    rintro e w4 ⟨rfl, hb4⟩
    have HO := Lib.hid ((hb4.block _ (lt_of_heap HO1.out)).trans HO1.out)
    have HR := Lib.hid ((hb4.block _ (lt_of_heap HR1.out)).trans HR1.out)
    have hr4 : Rd 5 w4 p A c bs (at_ + n0 + n1) := hr1.keep (Kp.of_below hb4 (fun _ => False)) (fun h => h) (fun _ _ h => h)
    have hk4 : Kp (fun k => k = p) w w4 := HK1.out.same (Kp.of_below hb4 _)
    clear hb4 HO1 HR1 HK1 hr1
    rcases Nat.eq_zero_or_pos (RC.chk ⟨3, PK.zag x1, 0, 0, 0, 0, ⟨#[]⟩, []⟩) with hc | hc
    · rw [hc]
      have HC := Lib.hid (recR_ok HK.out Hf.out hc)
      clear hc
      have cO := fun o => cell_of_row w4 _ o _ _ (0, 0) HO.out
      have cR := fun o => cell_of_row w4 _ o _ _ (0, 0) HR.out
      have fR : ∀ o, w4.frozen? ⟨w.heap.size, o, none⟩ = false := fun o => frozen_of_row _ _ o _ _ HR.out
      go_wp2_with fail
      refine bodyPost_ret (v := recV ⟨3, PK.zag x1, 0, 0, 0, 0, ⟨#[]⟩, []⟩ none 0) (by simp [results, Tryz.results142, go_sem, cR]) rfl ?_
      refine TPost.mkOk (A' := none) (c' := 0) (n := n0 + n1) HC.out rfl (World.ownsRow_nil _ _ _ _) (fun k e => by cases e) (by omega) (rd_out hr4 hp Hin.out ?_) ?_
      · iterate 8 refine Kp.setCell ?_ (Or.inl (by simp)) _
        exact Kp.refl _ _
      · iterate 8 refine Kp.setCell ?_ (Or.inr (by simp)) _
        exact hk4
    · have HC := Lib.hid (recR_no HK.out Hf.out (Nat.ne_of_gt hc))
      generalize RC.chk _ = E at hc HC
      have hE : ((E : Int) != 0) = true := by simp; omega
      go_wp2_with fail
      refine (fail_any p A c bs (at_ + n0 + n1) E _ hr4).mono ?_
      rintro e w5 ⟨rfl, rfl⟩
      go_wp2
      exact ⟨rfl, TPost.mkBad (n := n0 + n1) HC.out rfl (by omega) (by omega) hr4 hk4⟩

set_option maxHeartbeats 2000000 in
set_option maxRecDepth 100000 in
theorem recTake_4 (n0 : Nat) (p : Nat) (A : Option Addr) (c : Nat) (bs : List UInt8) (at_ : Nat) (w : World) (hr : Rd 5 w p A c bs at_) (hK : kindR (bs.drop at_) = .ok 4 n0) :
    Calls Tryz.prog 142 #[.pointer (some ⟨p, 0, none⟩)] w (TPost p A c bs at_ (recR (bs.drop at_)) w) := by
  have hp := hr.lt
  have Hin := Lib.hid (rd_in hr)
  have hx := fun o => takeKind_any p A c bs at_ (w.alloc o) (hr.alloc o)
  rw [hK] at hx
  have Hx := Lib.hid hx
  have HK := Lib.hid hK
  clear hx hK
  have hy := fun w hr => ri_any p A c bs (at_ + n0) w hr
  cases hN1 : numR (bs.drop (at_ + n0)) with
  | bad e n1 =>
    rw [hN1] at hy
    have Hy1 := Lib.hid hy
    have Hf := Lib.hid (show fieldR 4 ((bs.drop at_).drop n0) = .bad e (n1) by rw [List.drop_drop]; rw [fieldR4, andR_bad hN1])
    clear hy hN1
    go_enter Tryz.func142, Tryz.ntmps142
    go_wp2_with fail
    refine (Hx.out _).mono ?_
    rintro e w1 ⟨rfl, hr1, hk1⟩
    clear Hx
    have hs1 : w.heap.size < w1.heap.size := by have := hk1.size; simp at this; omega
    go_wp2_with fail
    generalize hv0 : w1.alloc _ = v0
    have HO0 := Lib.hid (show v0.heap[w1.heap.size]? = some (.cells (recC 4 0 0 0 0 0 ⟨#[]⟩ (.slice none 0 0)) 25 (0, 0)) by rw [← hv0]; exact heap_alloc_new _ _)
    have HR0 := Lib.hid (show v0.heap[w.heap.size]? = some (.cells #[.int .i64 0, .int .i64 0, .int .i64 0, .int .i64 0, .float .f64 0, .int .i64 0, .string ⟨#[]⟩, .slice none 0 0] 25 (0, 0)) by rw [← hv0]; exact (heap_alloc_old w1 _ hs1).trans (rd_new hk1 hp))
    have hr0 : Rd 5 v0 p A c bs (at_ + n0) := by rw [← hv0]; exact hr1.alloc _
    have HK0 := Lib.hid (show Kp (fun k => k = p) w v0 by rw [← hv0]; exact (((Kp.refl _ w).alloc _).same hk1).alloc _)
    clear hv0 hk1 hr1
    refine (Hy1.out _ hr0).mono ?_
    rintro e u1 ⟨rfl, hu1, ku1⟩
    go_wp2
    exact ⟨rfl, TPost.mkBad (n := n0 + n1) (recR_bad2 HK.out Hf.out) rfl (by omega) (by omega) hu1 (HK0.out.same ku1)⟩
  | ok x1 n1 =>
    rw [hN1] at hy
    have Hy1 := Lib.hid hy
    clear hy
    have hy := fun w hr => ri_any p A c bs (at_ + n0 + n1) w hr
    cases hN2 : numR (bs.drop (at_ + n0 + n1)) with
    | bad e n2 =>
      rw [hN2] at hy
      have Hy2 := Lib.hid hy
      have Hf := Lib.hid (show fieldR 4 ((bs.drop at_).drop n0) = .bad e (n1 + (n2)) by rw [List.drop_drop]; rw [fieldR4, andR_ok hN1, List.drop_drop, andR_bad hN2]; rfl)
      clear hy hN1 hN2
      go_enter Tryz.func142, Tryz.ntmps142
      go_wp2_with fail
      refine (Hx.out _).mono ?_
      rintro e w1 ⟨rfl, hr1, hk1⟩
      clear Hx
      have hs1 : w.heap.size < w1.heap.size := by have := hk1.size; simp at this; omega
      go_wp2_with fail
      generalize hv0 : w1.alloc _ = v0
      have HO0 := Lib.hid (show v0.heap[w1.heap.size]? = some (.cells (recC 4 0 0 0 0 0 ⟨#[]⟩ (.slice none 0 0)) 25 (0, 0)) by rw [← hv0]; exact heap_alloc_new _ _)
      have HR0 := Lib.hid (show v0.heap[w.heap.size]? = some (.cells #[.int .i64 0, .int .i64 0, .int .i64 0, .int .i64 0, .float .f64 0, .int .i64 0, .string ⟨#[]⟩, .slice none 0 0] 25 (0, 0)) by rw [← hv0]; exact (heap_alloc_old w1 _ hs1).trans (rd_new hk1 hp))
      have hr0 : Rd 5 v0 p A c bs (at_ + n0) := by rw [← hv0]; exact hr1.alloc _
      have HK0 := Lib.hid (show Kp (fun k => k = p) w v0 by rw [← hv0]; exact (((Kp.refl _ w).alloc _).same hk1).alloc _)
      clear hv0 hk1 hr1
      refine (Hy1.out _ hr0).mono ?_
      rintro e u1 ⟨rfl, hu1, ku1⟩
      have EO1 := Lib.hid ((ku1.block _ (lt_of_heap HO0.out) (by show ¬ w1.heap.size = p; omega)).trans HO0.out)
      have ER1 := Lib.hid ((ku1.block _ (lt_of_heap HR0.out) (by show ¬ w.heap.size = p; omega)).trans HR0.out)
      have fO1 : ∀ o, u1.frozen? ⟨w1.heap.size, o, none⟩ = false := fun o => frozen_of_row _ _ o _ _ EO1.out
      have cO1 := fun o => cell_of_row u1 _ o _ _ (0, 0) EO1.out
      clear Hy1 hr0
      go_wp2_with fail
      generalize hv1 : World.setCell _ _ _ = v1
      have HO1 := Lib.hid (show v1.heap[w1.heap.size]? = some (.cells (recC 4 0 (PK.zag x1) 0 0 0 ⟨#[]⟩ (.slice none 0 0)) 25 (0, 0)) by rw [← hv1]; exact heap_setCell_same _ _ _ _ _ _ EO1.out)
      have HR1 := Lib.hid ((show v1.heap[w.heap.size]? = _ by rw [← hv1]; exact heap_setCell_other _ _ _ _ (by show w.heap.size ≠ w1.heap.size; omega)).trans ER1.out)
      have hr1 : Rd 5 v1 p A c bs (at_ + n0 + n1) := by rw [← hv1]; exact rd_out hu1 hp Hin.out (Kp.setCell (Kp.refl _ _) (Or.inl (by show w.heap.size ≤ w1.heap.size; omega)) _)
      have HK1 := Lib.hid (show Kp (fun k => k = p) w v1 by rw [← hv1]; exact Kp.setCell (HK0.out.same ku1) (Or.inr (by show w.heap.size ≤ w1.heap.size; omega)) _)
      clear hv1 EO1 ER1 fO1 cO1 hu1 ku1 HO0 HR0 HK0
      refine (Hy2.out _ hr1).mono ?_
      rintro e u2 ⟨rfl, hu2, ku2⟩
      go_wp2
      exact ⟨rfl, TPost.mkBad (n := n0 + (n1 + n2)) (recR_bad2 HK.out Hf.out) rfl (by omega) (by omega) hu2 (HK1.out.same ku2)⟩
    | ok x2 n2 =>
      rw [hN2] at hy
      have Hy2 := Lib.hid hy
      clear hy
      have hy := fun w hr => ri_any p A c bs (at_ + n0 + n1 + n2) w hr
      cases hN3 : numR (bs.drop (at_ + n0 + n1 + n2)) with
      | bad e n3 =>
        rw [hN3] at hy
        have Hy3 := Lib.hid hy
        have Hf := Lib.hid (show fieldR 4 ((bs.drop at_).drop n0) = .bad e (n1 + (n2 + (n3))) by rw [List.drop_drop]; rw [fieldR4, andR_ok hN1, List.drop_drop, andR_ok hN2, List.drop_drop, hN3]; rfl)
        clear hy hN1 hN2 hN3
        go_enter Tryz.func142, Tryz.ntmps142
        go_wp2_with fail
        refine (Hx.out _).mono ?_
        rintro e w1 ⟨rfl, hr1, hk1⟩
        clear Hx
        have hs1 : w.heap.size < w1.heap.size := by have := hk1.size; simp at this; omega
        go_wp2_with fail
        generalize hv0 : w1.alloc _ = v0
        have HO0 := Lib.hid (show v0.heap[w1.heap.size]? = some (.cells (recC 4 0 0 0 0 0 ⟨#[]⟩ (.slice none 0 0)) 25 (0, 0)) by rw [← hv0]; exact heap_alloc_new _ _)
        have HR0 := Lib.hid (show v0.heap[w.heap.size]? = some (.cells #[.int .i64 0, .int .i64 0, .int .i64 0, .int .i64 0, .float .f64 0, .int .i64 0, .string ⟨#[]⟩, .slice none 0 0] 25 (0, 0)) by rw [← hv0]; exact (heap_alloc_old w1 _ hs1).trans (rd_new hk1 hp))
        have hr0 : Rd 5 v0 p A c bs (at_ + n0) := by rw [← hv0]; exact hr1.alloc _
        have HK0 := Lib.hid (show Kp (fun k => k = p) w v0 by rw [← hv0]; exact (((Kp.refl _ w).alloc _).same hk1).alloc _)
        clear hv0 hk1 hr1
        refine (Hy1.out _ hr0).mono ?_
        rintro e u1 ⟨rfl, hu1, ku1⟩
        have EO1 := Lib.hid ((ku1.block _ (lt_of_heap HO0.out) (by show ¬ w1.heap.size = p; omega)).trans HO0.out)
        have ER1 := Lib.hid ((ku1.block _ (lt_of_heap HR0.out) (by show ¬ w.heap.size = p; omega)).trans HR0.out)
        have fO1 : ∀ o, u1.frozen? ⟨w1.heap.size, o, none⟩ = false := fun o => frozen_of_row _ _ o _ _ EO1.out
        have cO1 := fun o => cell_of_row u1 _ o _ _ (0, 0) EO1.out
        clear Hy1 hr0
        go_wp2_with fail
        generalize hv1 : World.setCell _ _ _ = v1
        have HO1 := Lib.hid (show v1.heap[w1.heap.size]? = some (.cells (recC 4 0 (PK.zag x1) 0 0 0 ⟨#[]⟩ (.slice none 0 0)) 25 (0, 0)) by rw [← hv1]; exact heap_setCell_same _ _ _ _ _ _ EO1.out)
        have HR1 := Lib.hid ((show v1.heap[w.heap.size]? = _ by rw [← hv1]; exact heap_setCell_other _ _ _ _ (by show w.heap.size ≠ w1.heap.size; omega)).trans ER1.out)
        have hr1 : Rd 5 v1 p A c bs (at_ + n0 + n1) := by rw [← hv1]; exact rd_out hu1 hp Hin.out (Kp.setCell (Kp.refl _ _) (Or.inl (by show w.heap.size ≤ w1.heap.size; omega)) _)
        have HK1 := Lib.hid (show Kp (fun k => k = p) w v1 by rw [← hv1]; exact Kp.setCell (HK0.out.same ku1) (Or.inr (by show w.heap.size ≤ w1.heap.size; omega)) _)
        clear hv1 EO1 ER1 fO1 cO1 hu1 ku1 HO0 HR0 HK0
        refine (Hy2.out _ hr1).mono ?_
        rintro e u2 ⟨rfl, hu2, ku2⟩
        have EO2 := Lib.hid ((ku2.block _ (lt_of_heap HO1.out) (by show ¬ w1.heap.size = p; omega)).trans HO1.out)
        have ER2 := Lib.hid ((ku2.block _ (lt_of_heap HR1.out) (by show ¬ w.heap.size = p; omega)).trans HR1.out)
        have fO2 : ∀ o, u2.frozen? ⟨w1.heap.size, o, none⟩ = false := fun o => frozen_of_row _ _ o _ _ EO2.out
        have cO2 := fun o => cell_of_row u2 _ o _ _ (0, 0) EO2.out
        clear Hy2 hr1
        go_wp2_with fail
        generalize hv2 : World.setCell _ _ _ = v2
        have HO2 := Lib.hid (show v2.heap[w1.heap.size]? = some (.cells (recC 4 0 (PK.zag x1) (PK.zag x2) 0 0 ⟨#[]⟩ (.slice none 0 0)) 25 (0, 0)) by rw [← hv2]; exact heap_setCell_same _ _ _ _ _ _ EO2.out)
        have HR2 := Lib.hid ((show v2.heap[w.heap.size]? = _ by rw [← hv2]; exact heap_setCell_other _ _ _ _ (by show w.heap.size ≠ w1.heap.size; omega)).trans ER2.out)
        have hr2 : Rd 5 v2 p A c bs (at_ + n0 + n1 + n2) := by rw [← hv2]; exact rd_out hu2 hp Hin.out (Kp.setCell (Kp.refl _ _) (Or.inl (by show w.heap.size ≤ w1.heap.size; omega)) _)
        have HK2 := Lib.hid (show Kp (fun k => k = p) w v2 by rw [← hv2]; exact Kp.setCell (HK1.out.same ku2) (Or.inr (by show w.heap.size ≤ w1.heap.size; omega)) _)
        clear hv2 EO2 ER2 fO2 cO2 hu2 ku2 HO1 HR1 HK1
        refine (Hy3.out _ hr2).mono ?_
        rintro e u3 ⟨rfl, hu3, ku3⟩
        go_wp2
        exact ⟨rfl, TPost.mkBad (n := n0 + (n1 + (n2 + n3))) (recR_bad2 HK.out Hf.out) rfl (by omega) (by omega) hu3 (HK2.out.same ku3)⟩
      | ok x3 n3 =>
        rw [hN3] at hy
        have Hy3 := Lib.hid hy
        clear hy
        have Hf := Lib.hid (show fieldR 4 ((bs.drop at_).drop n0) = .ok ⟨4, PK.zag x3, PK.zag x1, PK.zag x2, 0, 0, ⟨#[]⟩, []⟩ (n1 + (n2 + (n3))) by rw [List.drop_drop]; rw [fieldR4, andR_ok hN1, List.drop_drop, andR_ok hN2, List.drop_drop, hN3]; rfl)
        clear hN1 hN2 hN3
        go_enter Tryz.func142, Tryz.ntmps142
        go_wp2_with fail
        refine (Hx.out _).mono ?_
        rintro e w1 ⟨rfl, hr1, hk1⟩
        clear Hx
        have hs1 : w.heap.size < w1.heap.size := by have := hk1.size; simp at this; omega
        go_wp2_with fail
        generalize hv0 : w1.alloc _ = v0
        have HO0 := Lib.hid (show v0.heap[w1.heap.size]? = some (.cells (recC 4 0 0 0 0 0 ⟨#[]⟩ (.slice none 0 0)) 25 (0, 0)) by rw [← hv0]; exact heap_alloc_new _ _)
        have HR0 := Lib.hid (show v0.heap[w.heap.size]? = some (.cells #[.int .i64 0, .int .i64 0, .int .i64 0, .int .i64 0, .float .f64 0, .int .i64 0, .string ⟨#[]⟩, .slice none 0 0] 25 (0, 0)) by rw [← hv0]; exact (heap_alloc_old w1 _ hs1).trans (rd_new hk1 hp))
        have hr0 : Rd 5 v0 p A c bs (at_ + n0) := by rw [← hv0]; exact hr1.alloc _
        have HK0 := Lib.hid (show Kp (fun k => k = p) w v0 by rw [← hv0]; exact (((Kp.refl _ w).alloc _).same hk1).alloc _)
        clear hv0 hk1 hr1
        refine (Hy1.out _ hr0).mono ?_
        rintro e u1 ⟨rfl, hu1, ku1⟩
        have EO1 := Lib.hid ((ku1.block _ (lt_of_heap HO0.out) (by show ¬ w1.heap.size = p; omega)).trans HO0.out)
        have ER1 := Lib.hid ((ku1.block _ (lt_of_heap HR0.out) (by show ¬ w.heap.size = p; omega)).trans HR0.out)
        have fO1 : ∀ o, u1.frozen? ⟨w1.heap.size, o, none⟩ = false := fun o => frozen_of_row _ _ o _ _ EO1.out
        have cO1 := fun o => cell_of_row u1 _ o _ _ (0, 0) EO1.out
        clear Hy1 hr0
        go_wp2_with fail
        generalize hv1 : World.setCell _ _ _ = v1
        have HO1 := Lib.hid (show v1.heap[w1.heap.size]? = some (.cells (recC 4 0 (PK.zag x1) 0 0 0 ⟨#[]⟩ (.slice none 0 0)) 25 (0, 0)) by rw [← hv1]; exact heap_setCell_same _ _ _ _ _ _ EO1.out)
        have HR1 := Lib.hid ((show v1.heap[w.heap.size]? = _ by rw [← hv1]; exact heap_setCell_other _ _ _ _ (by show w.heap.size ≠ w1.heap.size; omega)).trans ER1.out)
        have hr1 : Rd 5 v1 p A c bs (at_ + n0 + n1) := by rw [← hv1]; exact rd_out hu1 hp Hin.out (Kp.setCell (Kp.refl _ _) (Or.inl (by show w.heap.size ≤ w1.heap.size; omega)) _)
        have HK1 := Lib.hid (show Kp (fun k => k = p) w v1 by rw [← hv1]; exact Kp.setCell (HK0.out.same ku1) (Or.inr (by show w.heap.size ≤ w1.heap.size; omega)) _)
        clear hv1 EO1 ER1 fO1 cO1 hu1 ku1 HO0 HR0 HK0
        refine (Hy2.out _ hr1).mono ?_
        rintro e u2 ⟨rfl, hu2, ku2⟩
        have EO2 := Lib.hid ((ku2.block _ (lt_of_heap HO1.out) (by show ¬ w1.heap.size = p; omega)).trans HO1.out)
        have ER2 := Lib.hid ((ku2.block _ (lt_of_heap HR1.out) (by show ¬ w.heap.size = p; omega)).trans HR1.out)
        have fO2 : ∀ o, u2.frozen? ⟨w1.heap.size, o, none⟩ = false := fun o => frozen_of_row _ _ o _ _ EO2.out
        have cO2 := fun o => cell_of_row u2 _ o _ _ (0, 0) EO2.out
        clear Hy2 hr1
        go_wp2_with fail
        generalize hv2 : World.setCell _ _ _ = v2
        have HO2 := Lib.hid (show v2.heap[w1.heap.size]? = some (.cells (recC 4 0 (PK.zag x1) (PK.zag x2) 0 0 ⟨#[]⟩ (.slice none 0 0)) 25 (0, 0)) by rw [← hv2]; exact heap_setCell_same _ _ _ _ _ _ EO2.out)
        have HR2 := Lib.hid ((show v2.heap[w.heap.size]? = _ by rw [← hv2]; exact heap_setCell_other _ _ _ _ (by show w.heap.size ≠ w1.heap.size; omega)).trans ER2.out)
        have hr2 : Rd 5 v2 p A c bs (at_ + n0 + n1 + n2) := by rw [← hv2]; exact rd_out hu2 hp Hin.out (Kp.setCell (Kp.refl _ _) (Or.inl (by show w.heap.size ≤ w1.heap.size; omega)) _)
        have HK2 := Lib.hid (show Kp (fun k => k = p) w v2 by rw [← hv2]; exact Kp.setCell (HK1.out.same ku2) (Or.inr (by show w.heap.size ≤ w1.heap.size; omega)) _)
        clear hv2 EO2 ER2 fO2 cO2 hu2 ku2 HO1 HR1 HK1
        refine (Hy3.out _ hr2).mono ?_
        rintro e u3 ⟨rfl, hu3, ku3⟩
        have EO3 := Lib.hid ((ku3.block _ (lt_of_heap HO2.out) (by show ¬ w1.heap.size = p; omega)).trans HO2.out)
        have ER3 := Lib.hid ((ku3.block _ (lt_of_heap HR2.out) (by show ¬ w.heap.size = p; omega)).trans HR2.out)
        have fO3 : ∀ o, u3.frozen? ⟨w1.heap.size, o, none⟩ = false := fun o => frozen_of_row _ _ o _ _ EO3.out
        have cO3 := fun o => cell_of_row u3 _ o _ _ (0, 0) EO3.out
        clear Hy3 hr2
        go_wp2_with fail
        generalize hv3 : World.setCell _ _ _ = v3
        have HO3 := Lib.hid (show v3.heap[w1.heap.size]? = some (.cells (recC 4 (PK.zag x3) (PK.zag x1) (PK.zag x2) 0 0 ⟨#[]⟩ (.slice none 0 0)) 25 (0, 0)) by rw [← hv3]; exact heap_setCell_same _ _ _ _ _ _ EO3.out)
        have HR3 := Lib.hid ((show v3.heap[w.heap.size]? = _ by rw [← hv3]; exact heap_setCell_other _ _ _ _ (by show w.heap.size ≠ w1.heap.size; omega)).trans ER3.out)
        have hr3 : Rd 5 v3 p A c bs (at_ + n0 + n1 + n2 + n3) := by rw [← hv3]; exact rd_out hu3 hp Hin.out (Kp.setCell (Kp.refl _ _) (Or.inl (by show w.heap.size ≤ w1.heap.size; omega)) _)
        have HK3 := Lib.hid (show Kp (fun k => k = p) w v3 by rw [← hv3]; exact Kp.setCell (HK2.out.same ku3) (Or.inr (by show w.heap.size ≤ w1.heap.size; omega)) _)
        clear hv3 EO3 ER3 fO3 cO3 hu3 ku3 HO2 HR2 HK2
        have hqo := (fieldR_one (by omega) Hf.out).2.2.1
        refine (recCheck_any ⟨4, PK.zag x3, PK.zag x1, PK.zag x2, 0, 0, ⟨#[]⟩, []⟩ none 0 v3 hqo (Its.nil _ _) (by show Lim ([] : List RC.It).length; unfold Lim; decide)).mono ?_
        rintro e w4 ⟨rfl, hb4⟩
        have HO := Lib.hid ((hb4.block _ (lt_of_heap HO3.out)).trans HO3.out)
        have HR := Lib.hid ((hb4.block _ (lt_of_heap HR3.out)).trans HR3.out)
        have hr4 : Rd 5 w4 p A c bs (at_ + n0 + n1 + n2 + n3) := hr3.keep (Kp.of_below hb4 (fun _ => False)) (fun h => h) (fun _ _ h => h)
        have hk4 : Kp (fun k => k = p) w w4 := HK3.out.same (Kp.of_below hb4 _)
        clear hb4 HO3 HR3 HK3 hr3
        rcases Nat.eq_zero_or_pos (RC.chk ⟨4, PK.zag x3, PK.zag x1, PK.zag x2, 0, 0, ⟨#[]⟩, []⟩) with hc | hc
        · rw [hc]
          have HC := Lib.hid (recR_ok HK.out Hf.out hc)
          clear hc
          have cO := fun o => cell_of_row w4 _ o _ _ (0, 0) HO.out
          have cR := fun o => cell_of_row w4 _ o _ _ (0, 0) HR.out
          have fR : ∀ o, w4.frozen? ⟨w.heap.size, o, none⟩ = false := fun o => frozen_of_row _ _ o _ _ HR.out
          go_wp2_with fail
          refine bodyPost_ret (v := recV ⟨4, PK.zag x3, PK.zag x1, PK.zag x2, 0, 0, ⟨#[]⟩, []⟩ none 0) (by simp [results, Tryz.results142, go_sem, cR]) rfl ?_
          refine TPost.mkOk (A' := none) (c' := 0) (n := n0 + (n1 + (n2 + n3))) HC.out rfl (World.ownsRow_nil _ _ _ _) (fun k e => by cases e) (by omega) (rd_out hr4 hp Hin.out ?_) ?_
          · iterate 8 refine Kp.setCell ?_ (Or.inl (by simp)) _
            exact Kp.refl _ _
          · iterate 8 refine Kp.setCell ?_ (Or.inr (by simp)) _
            exact hk4
        · have HC := Lib.hid (recR_no HK.out Hf.out (Nat.ne_of_gt hc))
          generalize RC.chk _ = E at hc HC
          have hE : ((E : Int) != 0) = true := by simp; omega
          go_wp2_with fail
          refine (fail_any p A c bs (at_ + n0 + n1 + n2 + n3) E _ hr4).mono ?_
          rintro e w5 ⟨rfl, rfl⟩
          go_wp2
          exact ⟨rfl, TPost.mkBad (n := n0 + (n1 + (n2 + n3))) HC.out rfl (by omega) (by omega) hr4 hk4⟩

set_option maxHeartbeats 2000000 in
set_option maxRecDepth 100000 in
theorem recTake_5 (n0 : Nat) (p : Nat) (A : Option Addr) (c : Nat) (bs : List UInt8) (at_ : Nat) (w : World) (hr : Rd 5 w p A c bs at_) (hK : kindR (bs.drop at_) = .ok 5 n0) :
    Calls Tryz.prog 142 #[.pointer (some ⟨p, 0, none⟩)] w (TPost p A c bs at_ (recR (bs.drop at_)) w) := by
  have hp := hr.lt
  have Hin := Lib.hid (rd_in hr)
  have hx := fun o => takeKind_any p A c bs at_ (w.alloc o) (hr.alloc o)
  rw [hK] at hx
  have Hx := Lib.hid hx
  have HK := Lib.hid hK
  clear hx hK
  have hy := fun w hr => rf_any p A c bs (at_ + n0) w hr
  cases hN1 : floR (bs.drop (at_ + n0)) with
  | bad e n1 =>
    rw [hN1] at hy
    have Hy1 := Lib.hid hy
    have Hf := Lib.hid (show fieldR 5 ((bs.drop at_).drop n0) = .bad e (n1) by rw [List.drop_drop]; show Res.map _ (floR _) = _; rw [hN1]; rfl)
    clear hy hN1
    go_enter Tryz.func142, Tryz.ntmps142
    go_wp2_with fail
    refine (Hx.out _).mono ?_
    rintro e w1 ⟨rfl, hr1, hk1⟩
    clear Hx
    have hs1 : w.heap.size < w1.heap.size := by have := hk1.size; simp at this; omega
    go_wp2_with fail
    generalize hv0 : w1.alloc _ = v0
    have HO0 := Lib.hid (show v0.heap[w1.heap.size]? = some (.cells (recC 5 0 0 0 0 0 ⟨#[]⟩ (.slice none 0 0)) 25 (0, 0)) by rw [← hv0]; exact heap_alloc_new _ _)
    have HR0 := Lib.hid (show v0.heap[w.heap.size]? = some (.cells #[.int .i64 0, .int .i64 0, .int .i64 0, .int .i64 0, .float .f64 0, .int .i64 0, .string ⟨#[]⟩, .slice none 0 0] 25 (0, 0)) by rw [← hv0]; exact (heap_alloc_old w1 _ hs1).trans (rd_new hk1 hp))
    have hr0 : Rd 5 v0 p A c bs (at_ + n0) := by rw [← hv0]; exact hr1.alloc _
    have HK0 := Lib.hid (show Kp (fun k => k = p) w v0 by rw [← hv0]; exact (((Kp.refl _ w).alloc _).same hk1).alloc _)
    clear hv0 hk1 hr1
    refine (Hy1.out _ hr0).mono ?_
    rintro e u1 ⟨rfl, hu1, ku1⟩
    go_wp2
    exact ⟨rfl, TPost.mkBad (n := n0 + n1) (recR_bad2 HK.out Hf.out) rfl (by omega) (by omega) hu1 (HK0.out.same ku1)⟩
  | ok x1 n1 =>
    rw [hN1] at hy
    have Hy1 := Lib.hid hy
    clear hy
    have Hf := Lib.hid (show fieldR 5 ((bs.drop at_).drop n0) = .ok ⟨5, 0, 0, 0, x1, 0, ⟨#[]⟩, []⟩ (n1) by rw [List.drop_drop]; show Res.map _ (floR _) = _; rw [hN1]; rfl)
    clear hN1
    go_enter Tryz.func142, Tryz.ntmps142
    go_wp2_with fail
    refine (Hx.out _).mono ?_
    rintro e w1 ⟨rfl, hr1, hk1⟩
    clear Hx
    have hs1 : w.heap.size < w1.heap.size := by have := hk1.size; simp at this; omega
    go_wp2_with fail
    generalize hv0 : w1.alloc _ = v0
    have HO0 := Lib.hid (show v0.heap[w1.heap.size]? = some (.cells (recC 5 0 0 0 0 0 ⟨#[]⟩ (.slice none 0 0)) 25 (0, 0)) by rw [← hv0]; exact heap_alloc_new _ _)
    have HR0 := Lib.hid (show v0.heap[w.heap.size]? = some (.cells #[.int .i64 0, .int .i64 0, .int .i64 0, .int .i64 0, .float .f64 0, .int .i64 0, .string ⟨#[]⟩, .slice none 0 0] 25 (0, 0)) by rw [← hv0]; exact (heap_alloc_old w1 _ hs1).trans (rd_new hk1 hp))
    have hr0 : Rd 5 v0 p A c bs (at_ + n0) := by rw [← hv0]; exact hr1.alloc _
    have HK0 := Lib.hid (show Kp (fun k => k = p) w v0 by rw [← hv0]; exact (((Kp.refl _ w).alloc _).same hk1).alloc _)
    clear hv0 hk1 hr1
    refine (Hy1.out _ hr0).mono ?_
    rintro e u1 ⟨rfl, hu1, ku1⟩
    have EO1 := Lib.hid ((ku1.block _ (lt_of_heap HO0.out) (by show ¬ w1.heap.size = p; omega)).trans HO0.out)
    have ER1 := Lib.hid ((ku1.block _ (lt_of_heap HR0.out) (by show ¬ w.heap.size = p; omega)).trans HR0.out)
    have fO1 : ∀ o, u1.frozen? ⟨w1.heap.size, o, none⟩ = false := fun o => frozen_of_row _ _ o _ _ EO1.out
    have cO1 := fun o => cell_of_row u1 _ o _ _ (0, 0) EO1.out
    clear Hy1 hr0
    go_wp2_with fail
    generalize hv1 : World.setCell _ _ _ = v1
    have HO1 := Lib.hid (show v1.heap[w1.heap.size]? = some (.cells (recC 5 0 0 0 x1 0 ⟨#[]⟩ (.slice none 0 0)) 25 (0, 0)) by rw [← hv1]; exact heap_setCell_same _ _ _ _ _ _ EO1.out)
    have HR1 := Lib.hid ((show v1.heap[w.heap.size]? = _ by rw [← hv1]; exact heap_setCell_other _ _ _ _ (by show w.heap.size ≠ w1.heap.size; omega)).trans ER1.out)
    have hr1 : Rd 5 v1 p A c bs (at_ + n0 + n1) := by rw [← hv1]; exact rd_out hu1 hp Hin.out (Kp.setCell (Kp.refl _ _) (Or.inl (by show w.heap.size ≤ w1.heap.size; omega)) _)
    have HK1 := Lib.hid (show Kp (fun k => k = p) w v1 by rw [← hv1]; exact Kp.setCell (HK0.out.same ku1) (Or.inr (by show w.heap.size ≤ w1.heap.size; omega)) _)
    clear hv1 EO1 ER1 fO1 cO1 hu1 ku1 HO0 HR0 HK0
    have hqo := (fieldR_one (by omega) Hf.out).2.2.1
    refine (recCheck_any ⟨5, 0, 0, 0, x1, 0, ⟨#[]⟩, []⟩ none 0 v1 hqo (Its.nil _ _) (by show Lim ([] : List RC.It).length; unfold Lim; decide)).mono ?_
    rintro e w4 ⟨rfl, hb4⟩
    have HO := Lib.hid ((hb4.block _ (lt_of_heap HO1.out)).trans HO1.out)
    have HR := Lib.hid ((hb4.block _ (lt_of_heap HR1.out)).trans HR1.out)
    have hr4 : Rd 5 w4 p A c bs (at_ + n0 + n1) := hr1.keep (Kp.of_below hb4 (fun _ => False)) (fun h => h) (fun _ _ h => h)
    have hk4 : Kp (fun k => k = p) w w4 := HK1.out.same (Kp.of_below hb4 _)
    clear hb4 HO1 HR1 HK1 hr1
    rcases Nat.eq_zero_or_pos (RC.chk ⟨5, 0, 0, 0, x1, 0, ⟨#[]⟩, []⟩) with hc | hc
    · rw [hc]
      have HC := Lib.hid (recR_ok HK.out Hf.out hc)
      clear hc
      have cO := fun o => cell_of_row w4 _ o _ _ (0, 0) HO.out
      have cR := fun o => cell_of_row w4 _ o _ _ (0, 0) HR.out
      have fR : ∀ o, w4.frozen? ⟨w.heap.size, o, none⟩ = false := fun o => frozen_of_row _ _ o _ _ HR.out
      go_wp2_with fail
      refine bodyPost_ret (v := recV ⟨5, 0, 0, 0, x1, 0, ⟨#[]⟩, []⟩ none 0) (by simp [results, Tryz.results142, go_sem, cR]) rfl ?_
      refine TPost.mkOk (A' := none) (c' := 0) (n := n0 + n1) HC.out rfl (World.ownsRow_nil _ _ _ _) (fun k e => by cases e) (by omega) (rd_out hr4 hp Hin.out ?_) ?_
      · iterate 8 refine Kp.setCell ?_ (Or.inl (by simp)) _
        exact Kp.refl _ _
      · iterate 8 refine Kp.setCell ?_ (Or.inr (by simp)) _
        exact hk4
    · have HC := Lib.hid (recR_no HK.out Hf.out (Nat.ne_of_gt hc))
      generalize RC.chk _ = E at hc HC
      have hE : ((E : Int) != 0) = true := by simp; omega
      go_wp2_with fail
      refine (fail_any p A c bs (at_ + n0 + n1) E _ hr4).mono ?_
      rintro e w5 ⟨rfl, rfl⟩
      go_wp2
      exact ⟨rfl, TPost.mkBad (n := n0 + n1) HC.out rfl (by omega) (by omega) hr4 hk4⟩

set_option maxHeartbeats 2000000 in
set_option maxRecDepth 100000 in
theorem recTake_6 (n0 : Nat) (p : Nat) (A : Option Addr) (c : Nat) (bs : List UInt8) (at_ : Nat) (w : World) (hr : Rd 5 w p A c bs at_) (hK : kindR (bs.drop at_) = .ok 6 n0) :
    Calls Tryz.prog 142 #[.pointer (some ⟨p, 0, none⟩)] w (TPost p A c bs at_ (recR (bs.drop at_)) w) := by
  have hp := hr.lt
  have Hin := Lib.hid (rd_in hr)
  have hx := fun o => takeKind_any p A c bs at_ (w.alloc o) (hr.alloc o)
  rw [hK] at hx
  have Hx := Lib.hid hx
  have HK := Lib.hid hK
  clear hx hK
  have hy := fun w hr => rf_any p A c bs (at_ + n0) w hr
  cases hN1 : floR (bs.drop (at_ + n0)) with
  | bad e n1 =>
    rw [hN1] at hy
    have Hy1 := Lib.hid hy
    have Hf := Lib.hid (show fieldR 6 ((bs.drop at_).drop n0) = .bad e (n1) by rw [List.drop_drop]; show Res.map _ (floR _) = _; rw [hN1]; rfl)
    clear hy hN1
    go_enter Tryz.func142, Tryz.ntmps142
    go_wp2_with fail
    refine (Hx.out _).mono ?_
    rintro e w1 ⟨rfl, hr1, hk1⟩
    clear Hx
    have hs1 : w.heap.size < w1.heap.size := by have := hk1.size; simp at this; omega
    go_wp2_with fail
    generalize hv0 : w1.alloc _ = v0
    have HO0 := Lib.hid (show v0.heap[w1.heap.size]? = some (.cells (recC 6 0 0 0 0 0 ⟨#[]⟩ (.slice none 0 0)) 25 (0, 0)) by rw [← hv0]; exact heap_alloc_new _ _)
    have HR0 := Lib.hid (show v0.heap[w.heap.size]? = some (.cells #[.int .i64 0, .int .i64 0, .int .i64 0, .int .i64 0, .float .f64 0, .int .i64 0, .string ⟨#[]⟩, .slice none 0 0] 25 (0, 0)) by rw [← hv0]; exact (heap_alloc_old w1 _ hs1).trans (rd_new hk1 hp))
    have hr0 : Rd 5 v0 p A c bs (at_ + n0) := by rw [← hv0]; exact hr1.alloc _
    have HK0 := Lib.hid (show Kp (fun k => k = p) w v0 by rw [← hv0]; exact (((Kp.refl _ w).alloc _).same hk1).alloc _)
    clear hv0 hk1 hr1
    refine (Hy1.out _ hr0).mono ?_
    rintro e u1 ⟨rfl, hu1, ku1⟩
    go_wp2
    exact ⟨rfl, TPost.mkBad (n := n0 + n1) (recR_bad2 HK.out Hf.out) rfl (by omega) (by omega) hu1 (HK0.out.same ku1)⟩
  | ok x1 n1 =>
    rw [hN1] at hy
    have Hy1 := Lib.hid hy
    clear hy
    have Hf := Lib.hid (show fieldR 6 ((bs.drop at_).drop n0) = .ok ⟨6, 0, 0, 0, x1, 0, ⟨#[]⟩, []⟩ (n1) by rw [List.drop_drop]; show Res.map _ (floR _) = _; rw [hN1]; rfl)
    clear hN1
    go_enter Tryz.func142, Tryz.ntmps142
    go_wp2_with fail
    refine (Hx.out _).mono ?_
    rintro e w1 ⟨rfl, hr1, hk1⟩
    clear Hx
    have hs1 : w.heap.size < w1.heap.size := by have := hk1.size; simp at this; omega
    go_wp2_with fail
    generalize hv0 : w1.alloc _ = v0
    have HO0 := Lib.hid (show v0.heap[w1.heap.size]? = some (.cells (recC 6 0 0 0 0 0 ⟨#[]⟩ (.slice none 0 0)) 25 (0, 0)) by rw [← hv0]; exact heap_alloc_new _ _)
    have HR0 := Lib.hid (show v0.heap[w.heap.size]? = some (.cells #[.int .i64 0, .int .i64 0, .int .i64 0, .int .i64 0, .float .f64 0, .int .i64 0, .string ⟨#[]⟩, .slice none 0 0] 25 (0, 0)) by rw [← hv0]; exact (heap_alloc_old w1 _ hs1).trans (rd_new hk1 hp))
    have hr0 : Rd 5 v0 p A c bs (at_ + n0) := by rw [← hv0]; exact hr1.alloc _
    have HK0 := Lib.hid (show Kp (fun k => k = p) w v0 by rw [← hv0]; exact (((Kp.refl _ w).alloc _).same hk1).alloc _)
    clear hv0 hk1 hr1
    refine (Hy1.out _ hr0).mono ?_
    rintro e u1 ⟨rfl, hu1, ku1⟩
    have EO1 := Lib.hid ((ku1.block _ (lt_of_heap HO0.out) (by show ¬ w1.heap.size = p; omega)).trans HO0.out)
    have ER1 := Lib.hid ((ku1.block _ (lt_of_heap HR0.out) (by show ¬ w.heap.size = p; omega)).trans HR0.out)
    have fO1 : ∀ o, u1.frozen? ⟨w1.heap.size, o, none⟩ = false := fun o => frozen_of_row _ _ o _ _ EO1.out
    have cO1 := fun o => cell_of_row u1 _ o _ _ (0, 0) EO1.out
    clear Hy1 hr0
    go_wp2_with fail
    generalize hv1 : World.setCell _ _ _ = v1
    have HO1 := Lib.hid (show v1.heap[w1.heap.size]? = some (.cells (recC 6 0 0 0 x1 0 ⟨#[]⟩ (.slice none 0 0)) 25 (0, 0)) by rw [← hv1]; exact heap_setCell_same _ _ _ _ _ _ EO1.out)
    have HR1 := Lib.hid ((show v1.heap[w.heap.size]? = _ by rw [← hv1]; exact heap_setCell_other _ _ _ _ (by show w.heap.size ≠ w1.heap.size; omega)).trans ER1.out)
    have hr1 : Rd 5 v1 p A c bs (at_ + n0 + n1) := by rw [← hv1]; exact rd_out hu1 hp Hin.out (Kp.setCell (Kp.refl _ _) (Or.inl (by show w.heap.size ≤ w1.heap.size; omega)) _)
    have HK1 := Lib.hid (show Kp (fun k => k = p) w v1 by rw [← hv1]; exact Kp.setCell (HK0.out.same ku1) (Or.inr (by show w.heap.size ≤ w1.heap.size; omega)) _)
    clear hv1 EO1 ER1 fO1 cO1 hu1 ku1 HO0 HR0 HK0
    have hqo := (fieldR_one (by omega) Hf.out).2.2.1
    refine (recCheck_any ⟨6, 0, 0, 0, x1, 0, ⟨#[]⟩, []⟩ none 0 v1 hqo (Its.nil _ _) (by show Lim ([] : List RC.It).length; unfold Lim; decide)).mono ?_
    rintro e w4 ⟨rfl, hb4⟩
    have HO := Lib.hid ((hb4.block _ (lt_of_heap HO1.out)).trans HO1.out)
    have HR := Lib.hid ((hb4.block _ (lt_of_heap HR1.out)).trans HR1.out)
    have hr4 : Rd 5 w4 p A c bs (at_ + n0 + n1) := hr1.keep (Kp.of_below hb4 (fun _ => False)) (fun h => h) (fun _ _ h => h)
    have hk4 : Kp (fun k => k = p) w w4 := HK1.out.same (Kp.of_below hb4 _)
    clear hb4 HO1 HR1 HK1 hr1
    rcases Nat.eq_zero_or_pos (RC.chk ⟨6, 0, 0, 0, x1, 0, ⟨#[]⟩, []⟩) with hc | hc
    · rw [hc]
      have HC := Lib.hid (recR_ok HK.out Hf.out hc)
      clear hc
      have cO := fun o => cell_of_row w4 _ o _ _ (0, 0) HO.out
      have cR := fun o => cell_of_row w4 _ o _ _ (0, 0) HR.out
      have fR : ∀ o, w4.frozen? ⟨w.heap.size, o, none⟩ = false := fun o => frozen_of_row _ _ o _ _ HR.out
      go_wp2_with fail
      refine bodyPost_ret (v := recV ⟨6, 0, 0, 0, x1, 0, ⟨#[]⟩, []⟩ none 0) (by simp [results, Tryz.results142, go_sem, cR]) rfl ?_
      refine TPost.mkOk (A' := none) (c' := 0) (n := n0 + n1) HC.out rfl (World.ownsRow_nil _ _ _ _) (fun k e => by cases e) (by omega) (rd_out hr4 hp Hin.out ?_) ?_
      · iterate 8 refine Kp.setCell ?_ (Or.inl (by simp)) _
        exact Kp.refl _ _
      · iterate 8 refine Kp.setCell ?_ (Or.inr (by simp)) _
        exact hk4
    · have HC := Lib.hid (recR_no HK.out Hf.out (Nat.ne_of_gt hc))
      generalize RC.chk _ = E at hc HC
      have hE : ((E : Int) != 0) = true := by simp; omega
      go_wp2_with fail
      refine (fail_any p A c bs (at_ + n0 + n1) E _ hr4).mono ?_
      rintro e w5 ⟨rfl, rfl⟩
      go_wp2
      exact ⟨rfl, TPost.mkBad (n := n0 + n1) HC.out rfl (by omega) (by omega) hr4 hk4⟩

set_option maxHeartbeats 2000000 in
set_option maxRecDepth 100000 in
theorem recTake_7 (n0 : Nat) (p : Nat) (A : Option Addr) (c : Nat) (bs : List UInt8) (at_ : Nat) (w : World) (hr : Rd 5 w p A c bs at_) (hK : kindR (bs.drop at_) = .ok 7 n0) :
    Calls Tryz.prog 142 #[.pointer (some ⟨p, 0, none⟩)] w (TPost p A c bs at_ (recR (bs.drop at_)) w) := by
  have hp := hr.lt
  have Hin := Lib.hid (rd_in hr)
  have hx := fun o => takeKind_any p A c bs at_ (w.alloc o) (hr.alloc o)
  rw [hK] at hx
  have Hx := Lib.hid hx
  have HK := Lib.hid hK
  clear hx hK
  have hy := fun w hr => rf_any p A c bs (at_ + n0) w hr
  cases hN1 : floR (bs.drop (at_ + n0)) with
  | bad e n1 =>
    rw [hN1] at hy
    have Hy1 := Lib.hid hy
    have Hf := Lib.hid (show fieldR 7 ((bs.drop at_).drop n0) = .bad e (n1) by rw [List.drop_drop]; show Res.map _ (floR _) = _; rw [hN1]; rfl)
    clear hy hN1
    go_enter Tryz.func142, Tryz.ntmps142
    go_wp2_with fail
    refine (Hx.out _).mono ?_
    rintro e w1 ⟨rfl, hr1, hk1⟩
    clear Hx
    have hs1 : w.heap.size < w1.heap.size := by have := hk1.size; simp at this; omega
    go_wp2_with fail
    generalize hv0 : w1.alloc _ = v0
    have HO0 := Lib.hid (show v0.heap[w1.heap.size]? = some (.cells (recC 7 0 0 0 0 0 ⟨#[]⟩ (.slice none 0 0)) 25 (0, 0)) by rw [← hv0]; exact heap_alloc_new _ _)
    have HR0 := Lib.hid (show v0.heap[w.heap.size]? = some (.cells #[.int .i64 0, .int .i64 0, .int .i64 0, .int .i64 0, .float .f64 0, .int .i64 0, .string ⟨#[]⟩, .slice none 0 0] 25 (0, 0)) by rw [← hv0]; exact (heap_alloc_old w1 _ hs1).trans (rd_new hk1 hp))
    have hr0 : Rd 5 v0 p A c bs (at_ + n0) := by rw [← hv0]; exact hr1.alloc _
    have HK0 := Lib.hid (show Kp (fun k => k = p) w v0 by rw [← hv0]; exact (((Kp.refl _ w).alloc _).same hk1).alloc _)
    clear hv0 hk1 hr1
    refine (Hy1.out _ hr0).mono ?_
    rintro e u1 ⟨rfl, hu1, ku1⟩
    go_wp2
    exact ⟨rfl, TPost.mkBad (n := n0 + n1) (recR_bad2 HK.out Hf.out) rfl (by omega) (by omega) hu1 (HK0.out.same ku1)⟩
  | ok x1 n1 =>
    rw [hN1] at hy
    have Hy1 := Lib.hid hy
    clear hy
    have Hf := Lib.hid (show fieldR 7 ((bs.drop at_).drop n0) = .ok ⟨7, 0, 0, 0, x1, 0, ⟨#[]⟩, []⟩ (n1) by rw [List.drop_drop]; show Res.map _ (floR _) = _; rw [hN1]; rfl)
    clear hN1
    go_enter Tryz.func142, Tryz.ntmps142
    go_wp2_with fail
    refine (Hx.out _).mono ?_
    rintro e w1 ⟨rfl, hr1, hk1⟩
    clear Hx
    have hs1 : w.heap.size < w1.heap.size := by have := hk1.size; simp at this; omega
    go_wp2_with fail
    generalize hv0 : w1.alloc _ = v0
    have HO0 := Lib.hid (show v0.heap[w1.heap.size]? = some (.cells (recC 7 0 0 0 0 0 ⟨#[]⟩ (.slice none 0 0)) 25 (0, 0)) by rw [← hv0]; exact heap_alloc_new _ _)
    have HR0 := Lib.hid (show v0.heap[w.heap.size]? = some (.cells #[.int .i64 0, .int .i64 0, .int .i64 0, .int .i64 0, .float .f64 0, .int .i64 0, .string ⟨#[]⟩, .slice none 0 0] 25 (0, 0)) by rw [← hv0]; exact (heap_alloc_old w1 _ hs1).trans (rd_new hk1 hp))
    have hr0 : Rd 5 v0 p A c bs (at_ + n0) := by rw [← hv0]; exact hr1.alloc _
    have HK0 := Lib.hid (show Kp (fun k => k = p) w v0 by rw [← hv0]; exact (((Kp.refl _ w).alloc _).same hk1).alloc _)
    clear hv0 hk1 hr1
    refine (Hy1.out _ hr0).mono ?_
    rintro e u1 ⟨rfl, hu1, ku1⟩
    have EO1 := Lib.hid ((ku1.block _ (lt_of_heap HO0.out) (by show ¬ w1.heap.size = p; omega)).trans HO0.out)
    have ER1 := Lib.hid ((ku1.block _ (lt_of_heap HR0.out) (by show ¬ w.heap.size = p; omega)).trans HR0.out)
    have fO1 : ∀ o, u1.frozen? ⟨w1.heap.size, o, none⟩ = false := fun o => frozen_of_row _ _ o _ _ EO1.out
    have cO1 := fun o => cell_of_row u1 _ o _ _ (0, 0) EO1.out
    clear Hy1 hr0
    go_wp2_with fail
    generalize hv1 : World.setCell _ _ _ = v1
    have HO1 := Lib.hid (show v1.heap[w1.heap.size]? = some (.cells (recC 7 0 0 0 x1 0 ⟨#[]⟩ (.slice none 0 0)) 25 (0, 0)) by rw [← hv1]; exact heap_setCell_same _ _ _ _ _ _ EO1.out)
    have HR1 := Lib.hid ((show v1.heap[w.heap.size]? = _ by rw [← hv1]; exact heap_setCell_other _ _ _ _ (by show w.heap.size ≠ w1.heap.size; omega)).trans ER1.out)
    have hr1 : Rd 5 v1 p A c bs (at_ + n0 + n1) := by rw [← hv1]; exact rd_out hu1 hp Hin.out (Kp.setCell (Kp.refl _ _) (Or.inl (by show w.heap.size ≤ w1.heap.size; omega)) _)
    have HK1 := Lib.hid (show Kp (fun k => k = p) w v1 by rw [← hv1]; exact Kp.setCell (HK0.out.same ku1) (Or.inr (by show w.heap.size ≤ w1.heap.size; omega)) _)
    clear hv1 EO1 ER1 fO1 cO1 hu1 ku1 HO0 HR0 HK0
    have hqo := (fieldR_one (by omega) Hf.out).2.2.1
    refine (recCheck_any ⟨7, 0, 0, 0, x1, 0, ⟨#[]⟩, []⟩ none 0 v1 hqo (Its.nil _ _) (by show Lim ([] : List RC.It).length; unfold Lim; decide)).mono ?_
    rintro e w4 ⟨rfl, hb4⟩
    have HO := Lib.hid ((hb4.block _ (lt_of_heap HO1.out)).trans HO1.out)
    have HR := Lib.hid ((hb4.block _ (lt_of_heap HR1.out)).trans HR1.out)
    have hr4 : Rd 5 w4 p A c bs (at_ + n0 + n1) := hr1.keep (Kp.of_below hb4 (fun _ => False)) (fun h => h) (fun _ _ h => h)
    have hk4 : Kp (fun k => k = p) w w4 := HK1.out.same (Kp.of_below hb4 _)
    clear hb4 HO1 HR1 HK1 hr1
    rcases Nat.eq_zero_or_pos (RC.chk ⟨7, 0, 0, 0, x1, 0, ⟨#[]⟩, []⟩) with hc | hc
    · rw [hc]
      have HC := Lib.hid (recR_ok HK.out Hf.out hc)
      clear hc
      have cO := fun o => cell_of_row w4 _ o _ _ (0, 0) HO.out
      have cR := fun o => cell_of_row w4 _ o _ _ (0, 0) HR.out
      have fR : ∀ o, w4.frozen? ⟨w.heap.size, o, none⟩ = false := fun o => frozen_of_row _ _ o _ _ HR.out
      go_wp2_with fail
      refine bodyPost_ret (v := recV ⟨7, 0, 0, 0, x1, 0, ⟨#[]⟩, []⟩ none 0) (by simp [results, Tryz.results142, go_sem, cR]) rfl ?_
      refine TPost.mkOk (A' := none) (c' := 0) (n := n0 + n1) HC.out rfl (World.ownsRow_nil _ _ _ _) (fun k e => by cases e) (by omega) (rd_out hr4 hp Hin.out ?_) ?_
      · iterate 8 refine Kp.setCell ?_ (Or.inl (by simp)) _
        exact Kp.refl _ _
      · iterate 8 refine Kp.setCell ?_ (Or.inr (by simp)) _
        exact hk4
    · have HC := Lib.hid (recR_no HK.out Hf.out (Nat.ne_of_gt hc))
      generalize RC.chk _ = E at hc HC
      have hE : ((E : Int) != 0) = true := by simp; omega
      go_wp2_with fail
      refine (fail_any p A c bs (at_ + n0 + n1) E _ hr4).mono ?_
      rintro e w5 ⟨rfl, rfl⟩
      go_wp2
      exact ⟨rfl, TPost.mkBad (n := n0 + n1) HC.out rfl (by omega) (by omega) hr4 hk4⟩

set_option maxHeartbeats 2000000 in
set_option maxRecDepth 100000 in
theorem recTake_8 (n0 : Nat) (p : Nat) (A : Option Addr) (c : Nat) (bs : List UInt8) (at_ : Nat) (w : World) (hr : Rd 5 w p A c bs at_) (hK : kindR (bs.drop at_) = .ok 8 n0) :
    Calls Tryz.prog 142 #[.pointer (some ⟨p, 0, none⟩)] w (TPost p A c bs at_ (recR (bs.drop at_)) w) := by
  have hp := hr.lt
  have Hin := Lib.hid (rd_in hr)
  have hx := fun o => takeKind_any p A c bs at_ (w.alloc o) (hr.alloc o)
  rw [hK] at hx
  have Hx := Lib.hid hx
  have HK := Lib.hid hK
  clear hx hK
  have hy := fun w hr => rupto_any p A c bs (at_ + n0) 32 w rfl hr
  cases hN1 : uptoR 32 (bs.drop (at_ + n0)) with
  | bad e n1 =>
    rw [hN1] at hy
    have Hy1 := Lib.hid hy
    have Hf := Lib.hid (show fieldR 8 ((bs.drop at_).drop n0) = .bad e (n1) by rw [List.drop_drop]; rw [fieldR_list2 (by omega), andR_bad hN1])
    clear hy hN1
    go_enter Tryz.func142, Tryz.ntmps142
    go_wp2_with fail
    refine (Hx.out _).mono ?_
    rintro e w1 ⟨rfl, hr1, hk1⟩
    clear Hx
    have hs1 : w.heap.size < w1.heap.size := by have := hk1.size; simp at this; omega
    go_wp2_with fail
    generalize hv0 : w1.alloc _ = v0
    have HO0 := Lib.hid (show v0.heap[w1.heap.size]? = some (.cells (recC 8 0 0 0 0 0 ⟨#[]⟩ (.slice none 0 0)) 25 (0, 0)) by rw [← hv0]; exact heap_alloc_new _ _)
    have HR0 := Lib.hid (show v0.heap[w.heap.size]? = some (.cells #[.int .i64 0, .int .i64 0, .int .i64 0, .int .i64 0, .float .f64 0, .int .i64 0, .string ⟨#[]⟩, .slice none 0 0] 25 (0, 0)) by rw [← hv0]; exact (heap_alloc_old w1 _ hs1).trans (rd_new hk1 hp))
    have hr0 : Rd 5 v0 p A c bs (at_ + n0) := by rw [← hv0]; exact hr1.alloc _
    have HK0 := Lib.hid (show Kp (fun k => k = p) w v0 by rw [← hv0]; exact (((Kp.refl _ w).alloc _).same hk1).alloc _)
    clear hv0 hk1 hr1
    refine (Hy1.out _ hr0).mono ?_
    rintro e u1 ⟨rfl, hu1, ku1⟩
    go_wp2
    exact ⟨rfl, TPost.mkBad (n := n0 + n1) (recR_bad2 HK.out Hf.out) rfl (by omega) (by omega) hu1 (HK0.out.same ku1)⟩
  | ok x1 n1 =>
    rw [hN1] at hy
    have Hy1 := Lib.hid hy
    clear hy
    have hy := fun w hr => takeItems_any 8 p A c bs (at_ + n0 + n1) w (by omega) hr
    cases hN2 : countR 8 (bs.drop (at_ + n0 + n1)) with
    | bad e n2 =>
      rw [hN2] at hy
      have Hy2 := Lib.hid hy
      have Hf := Lib.hid (show fieldR 8 ((bs.drop at_).drop n0) = .bad e (n1 + (n2)) by rw [List.drop_drop]; rw [fieldR_list2 (by omega), andR_ok hN1, List.drop_drop, hN2]; rfl)
      clear hy hN1 hN2
      go_enter Tryz.func142, Tryz.ntmps142
      go_wp2_with fail
      refine (Hx.out _).mono ?_
      rintro e w1 ⟨rfl, hr1, hk1⟩
      clear Hx
      have hs1 : w.heap.size < w1.heap.size := by have := hk1.size; simp at this; omega
      go_wp2_with fail
      generalize hv0 : w1.alloc _ = v0
      have HO0 := Lib.hid (show v0.heap[w1.heap.size]? = some (.cells (recC 8 0 0 0 0 0 ⟨#[]⟩ (.slice none 0 0)) 25 (0, 0)) by rw [← hv0]; exact heap_alloc_new _ _)
      have HR0 := Lib.hid (show v0.heap[w.heap.size]? = some (.cells #[.int .i64 0, .int .i64 0, .int .i64 0, .int .i64 0, .float .f64 0, .int .i64 0, .string ⟨#[]⟩, .slice none 0 0] 25 (0, 0)) by rw [← hv0]; exact (heap_alloc_old w1 _ hs1).trans (rd_new hk1 hp))
      have hr0 : Rd 5 v0 p A c bs (at_ + n0) := by rw [← hv0]; exact hr1.alloc _
      have HK0 := Lib.hid (show Kp (fun k => k = p) w v0 by rw [← hv0]; exact (((Kp.refl _ w).alloc _).same hk1).alloc _)
      clear hv0 hk1 hr1
      refine (Hy1.out _ hr0).mono ?_
      rintro e u1 ⟨rfl, hu1, ku1⟩
      have EO1 := Lib.hid ((ku1.block _ (lt_of_heap HO0.out) (by show ¬ w1.heap.size = p; omega)).trans HO0.out)
      have ER1 := Lib.hid ((ku1.block _ (lt_of_heap HR0.out) (by show ¬ w.heap.size = p; omega)).trans HR0.out)
      have fO1 : ∀ o, u1.frozen? ⟨w1.heap.size, o, none⟩ = false := fun o => frozen_of_row _ _ o _ _ EO1.out
      have cO1 := fun o => cell_of_row u1 _ o _ _ (0, 0) EO1.out
      clear Hy1 hr0
      go_wp2_with fail
      generalize hv1 : World.setCell _ _ _ = v1
      have HO1 := Lib.hid (show v1.heap[w1.heap.size]? = some (.cells (recC 8 0 0 0 0 (x1 : Int) ⟨#[]⟩ (.slice none 0 0)) 25 (0, 0)) by rw [← hv1]; exact heap_setCell_same _ _ _ _ _ _ EO1.out)
      have HR1 := Lib.hid ((show v1.heap[w.heap.size]? = _ by rw [← hv1]; exact heap_setCell_other _ _ _ _ (by show w.heap.size ≠ w1.heap.size; omega)).trans ER1.out)
      have hr1 : Rd 5 v1 p A c bs (at_ + n0 + n1) := by rw [← hv1]; exact rd_out hu1 hp Hin.out (Kp.setCell (Kp.refl _ _) (Or.inl (by show w.heap.size ≤ w1.heap.size; omega)) _)
      have HK1 := Lib.hid (show Kp (fun k => k = p) w v1 by rw [← hv1]; exact Kp.setCell (HK0.out.same ku1) (Or.inr (by show w.heap.size ≤ w1.heap.size; omega)) _)
      clear hv1 EO1 ER1 fO1 cO1 hu1 ku1 HO0 HR0 HK0
      refine (Hy2.out _ hr1).mono ?_
      rintro e u2 ⟨rfl, hu2, ku2⟩
      go_wp2
      exact ⟨rfl, TPost.mkBad (n := n0 + (n1 + n2)) (recR_bad2 HK.out Hf.out) rfl (by omega) (by omega) hu2 (HK1.out.same ku2)⟩
    | ok x2 n2 =>
      rw [hN2] at hy
      have Hy2 := Lib.hid hy
      clear hy
      have Hf := Lib.hid (show fieldR 8 ((bs.drop at_).drop n0) = .ok ⟨8, 0, 0, 0, 0, (x1 : Int), ⟨#[]⟩, x2⟩ (n1 + (n2)) by rw [List.drop_drop]; rw [fieldR_list2 (by omega), andR_ok hN1, List.drop_drop, hN2]; rfl)
      have hlen : x2.length ≤ 32 := countR_len hN2
      clear hN1 hN2
      go_enter Tryz.func142, Tryz.ntmps142
      go_wp2_with fail
      refine (Hx.out _).mono ?_
      rintro e w1 ⟨rfl, hr1, hk1⟩
      clear Hx
      have hs1 : w.heap.size < w1.heap.size := by have := hk1.size; simp at this; omega
      go_wp2_with fail
      generalize hv0 : w1.alloc _ = v0
      have HO0 := Lib.hid (show v0.heap[w1.heap.size]? = some (.cells (recC 8 0 0 0 0 0 ⟨#[]⟩ (.slice none 0 0)) 25 (0, 0)) by rw [← hv0]; exact heap_alloc_new _ _)
      have HR0 := Lib.hid (show v0.heap[w.heap.size]? = some (.cells #[.int .i64 0, .int .i64 0, .int .i64 0, .int .i64 0, .float .f64 0, .int .i64 0, .string ⟨#[]⟩, .slice none 0 0] 25 (0, 0)) by rw [← hv0]; exact (heap_alloc_old w1 _ hs1).trans (rd_new hk1 hp))
      have hr0 : Rd 5 v0 p A c bs (at_ + n0) := by rw [← hv0]; exact hr1.alloc _
      have HK0 := Lib.hid (show Kp (fun k => k = p) w v0 by rw [← hv0]; exact (((Kp.refl _ w).alloc _).same hk1).alloc _)
      clear hv0 hk1 hr1
      refine (Hy1.out _ hr0).mono ?_
      rintro e u1 ⟨rfl, hu1, ku1⟩
      have EO1 := Lib.hid ((ku1.block _ (lt_of_heap HO0.out) (by show ¬ w1.heap.size = p; omega)).trans HO0.out)
      have ER1 := Lib.hid ((ku1.block _ (lt_of_heap HR0.out) (by show ¬ w.heap.size = p; omega)).trans HR0.out)
      have fO1 : ∀ o, u1.frozen? ⟨w1.heap.size, o, none⟩ = false := fun o => frozen_of_row _ _ o _ _ EO1.out
      have cO1 := fun o => cell_of_row u1 _ o _ _ (0, 0) EO1.out
      clear Hy1 hr0
      go_wp2_with fail
      generalize hv1 : World.setCell _ _ _ = v1
      have HO1 := Lib.hid (show v1.heap[w1.heap.size]? = some (.cells (recC 8 0 0 0 0 (x1 : Int) ⟨#[]⟩ (.slice none 0 0)) 25 (0, 0)) by rw [← hv1]; exact heap_setCell_same _ _ _ _ _ _ EO1.out)
      have HR1 := Lib.hid ((show v1.heap[w.heap.size]? = _ by rw [← hv1]; exact heap_setCell_other _ _ _ _ (by show w.heap.size ≠ w1.heap.size; omega)).trans ER1.out)
      have hr1 : Rd 5 v1 p A c bs (at_ + n0 + n1) := by rw [← hv1]; exact rd_out hu1 hp Hin.out (Kp.setCell (Kp.refl _ _) (Or.inl (by show w.heap.size ≤ w1.heap.size; omega)) _)
      have HK1 := Lib.hid (show Kp (fun k => k = p) w v1 by rw [← hv1]; exact Kp.setCell (HK0.out.same ku1) (Or.inr (by show w.heap.size ≤ w1.heap.size; omega)) _)
      clear hv1 EO1 ER1 fO1 cO1 hu1 ku1 HO0 HR0 HK0
      refine (Hy2.out _ hr1).mono ?_
      rintro e u2 ⟨A', c', rfl, hown, hnew, hu2, ku2⟩
      have EO2 := Lib.hid ((ku2.block _ (lt_of_heap HO1.out) (by show ¬ w1.heap.size = p; omega)).trans HO1.out)
      have ER2 := Lib.hid ((ku2.block _ (lt_of_heap HR1.out) (by show ¬ w.heap.size = p; omega)).trans HR1.out)
      have fO2 : ∀ o, u2.frozen? ⟨w1.heap.size, o, none⟩ = false := fun o => frozen_of_row _ _ o _ _ EO2.out
      have cO2 := fun o => cell_of_row u2 _ o _ _ (0, 0) EO2.out
      have hnO : ∀ k, ob A' = some k → w1.heap.size < k := fun k e => Nat.lt_of_lt_of_le (lt_of_heap HO1.out) (hnew k e)
      clear Hy2 hr1
      go_wp2_with fail
      generalize hv2 : World.setCell _ _ _ = v2
      have HO2 := Lib.hid (show v2.heap[w1.heap.size]? = some (.cells (recC 8 0 0 0 0 (x1 : Int) ⟨#[]⟩ (.slice A' x2.length c')) 25 (0, 0)) by rw [← hv2]; exact heap_setCell_same _ _ _ _ _ _ EO2.out)
      have HR2 := Lib.hid ((show v2.heap[w.heap.size]? = _ by rw [← hv2]; exact heap_setCell_other _ _ _ _ (by show w.heap.size ≠ w1.heap.size; omega)).trans ER2.out)
      have hr2 : Rd 5 v2 p A c bs (at_ + n0 + n1 + n2) := by rw [← hv2]; exact rd_out hu2 hp Hin.out (Kp.setCell (Kp.refl _ _) (Or.inl (by show w.heap.size ≤ w1.heap.size; omega)) _)
      have HK2 := Lib.hid (show Kp (fun k => k = p) w v2 by rw [← hv2]; exact Kp.setCell (HK1.out.same ku2) (Or.inr (by show w.heap.size ≤ w1.heap.size; omega)) _)
      have HW := Lib.hid (show v2.ownsRow 0 88 2 (.slice A' x2.length c') x2.length (itCells x2) by rw [← hv2]; exact (Kp.setCell (S := fun k => k = w1.heap.size) (Kp.refl _ _) (Or.inl rfl) _).own hown (fun k e x => by rw [ownBlock_slice] at e; have := hnO k e; have x' : k = w1.heap.size := x; omega))
      clear hv2 EO2 ER2 fO2 cO2 hu2 ku2 HO1 HR1 HK1 hown
      have hqo := (fieldR_one (by omega) Hf.out).2.2.1
      refine (recCheck_any ⟨8, 0, 0, 0, 0, (x1 : Int), ⟨#[]⟩, x2⟩ A' c' v2 hqo (Its.own HW.out) (by show Lim x2.length; unfold Lim; omega)).mono ?_
      rintro e w4 ⟨rfl, hb4⟩
      have HO := Lib.hid ((hb4.block _ (lt_of_heap HO2.out)).trans HO2.out)
      have HR := Lib.hid ((hb4.block _ (lt_of_heap HR2.out)).trans HR2.out)
      have hr4 : Rd 5 w4 p A c bs (at_ + n0 + n1 + n2) := hr2.keep (Kp.of_below hb4 (fun _ => False)) (fun h => h) (fun _ _ h => h)
      have hk4 : Kp (fun k => k = p) w w4 := HK2.out.same (Kp.of_below hb4 _)
      have HW4 := Lib.hid (own_below HW.out hb4)
      clear hb4 HO2 HR2 HK2 hr2
      rcases Nat.eq_zero_or_pos (RC.chk ⟨8, 0, 0, 0, 0, (x1 : Int), ⟨#[]⟩, x2⟩) with hc | hc
      · rw [hc]
        have HC := Lib.hid (recR_ok HK.out Hf.out hc)
        clear hc
        have cO := fun o => cell_of_row w4 _ o _ _ (0, 0) HO.out
        have cR := fun o => cell_of_row w4 _ o _ _ (0, 0) HR.out
        have fR : ∀ o, w4.frozen? ⟨w.heap.size, o, none⟩ = false := fun o => frozen_of_row _ _ o _ _ HR.out
        go_wp2_with fail
        refine bodyPost_ret (v := recV ⟨8, 0, 0, 0, 0, (x1 : Int), ⟨#[]⟩, x2⟩ A' c') (by simp [results, Tryz.results142, go_sem, cR]) rfl ?_
        refine TPost.mkOk (A' := A') (c' := c') (n := n0 + (n1 + n2)) HC.out rfl ((Kp.own (S := fun k => k = w.heap.size) ?_ HW4.out (fun k e x => by rw [ownBlock_slice] at e; have := hnO k e; have x' : k = w.heap.size := x; omega))) (fun k e => by have := hnO k e; omega) (by omega) (rd_out hr4 hp Hin.out ?_) ?_
        · iterate 8 refine Kp.setCell ?_ (Or.inl (by exact rfl)) _
          exact Kp.refl _ _
        · iterate 8 refine Kp.setCell ?_ (Or.inl (by simp)) _
          exact Kp.refl _ _
        · iterate 8 refine Kp.setCell ?_ (Or.inr (by simp)) _
          exact hk4
      · have HC := Lib.hid (recR_no HK.out Hf.out (Nat.ne_of_gt hc))
        generalize RC.chk _ = E at hc HC
        have hE : ((E : Int) != 0) = true := by simp; omega
        go_wp2_with fail
        refine (fail_any p A c bs (at_ + n0 + n1 + n2) E _ hr4).mono ?_
        rintro e w5 ⟨rfl, rfl⟩
        go_wp2
        exact ⟨rfl, TPost.mkBad (n := n0 + (n1 + n2)) HC.out rfl (by omega) (by omega) hr4 hk4⟩

set_option maxHeartbeats 2000000 in
set_option maxRecDepth 100000 in
theorem recTake_9 (n0 : Nat) (p : Nat) (A : Option Addr) (c : Nat) (bs : List UInt8) (at_ : Nat) (w : World) (hr : Rd 5 w p A c bs at_) (hK : kindR (bs.drop at_) = .ok 9 n0) :
    Calls Tryz.prog 142 #[.pointer (some ⟨p, 0, none⟩)] w (TPost p A c bs at_ (recR (bs.drop at_)) w) := by
  have hp := hr.lt
  have Hin := Lib.hid (rd_in hr)
  have hx := fun o => takeKind_any p A c bs at_ (w.alloc o) (hr.alloc o)
  rw [hK] at hx
  have Hx := Lib.hid hx
  have HK := Lib.hid hK
  clear hx hK
  have hy := fun w hr => rupto_any p A c bs (at_ + n0) 32 w rfl hr
  cases hN1 : uptoR 32 (bs.drop (at_ + n0)) with
  | bad e n1 =>
    rw [hN1] at hy
    have Hy1 := Lib.hid hy
    have Hf := Lib.hid (show fieldR 9 ((bs.drop at_).drop n0) = .bad e (n1) by rw [List.drop_drop]; rw [fieldR_list2 (by omega), andR_bad hN1])
    clear hy hN1
    go_enter Tryz.func142, Tryz.ntmps142
    go_wp2_with fail
    refine (Hx.out _).mono ?_
    rintro e w1 ⟨rfl, hr1, hk1⟩
    clear Hx
    have hs1 : w.heap.size < w1.heap.size := by have := hk1.size; simp at this; omega
    go_wp2_with fail
    generalize hv0 : w1.alloc _ = v0
    have HO0 := Lib.hid (show v0.heap[w1.heap.size]? = some (.cells (recC 9 0 0 0 0 0 ⟨#[]⟩ (.slice none 0 0)) 25 (0, 0)) by rw [← hv0]; exact heap_alloc_new _ _)
    have HR0 := Lib.hid (show v0.heap[w.heap.size]? = some (.cells #[.int .i64 0, .int .i64 0, .int .i64 0, .int .i64 0, .float .f64 0, .int .i64 0, .string ⟨#[]⟩, .slice none 0 0] 25 (0, 0)) by rw [← hv0]; exact (heap_alloc_old w1 _ hs1).trans (rd_new hk1 hp))
    have hr0 : Rd 5 v0 p A c bs (at_ + n0) := by rw [← hv0]; exact hr1.alloc _
    have HK0 := Lib.hid (show Kp (fun k => k = p) w v0 by rw [← hv0]; exact (((Kp.refl _ w).alloc _).same hk1).alloc _)
    clear hv0 hk1 hr1
    refine (Hy1.out _ hr0).mono ?_
    rintro e u1 ⟨rfl, hu1, ku1⟩
    go_wp2
    exact ⟨rfl, TPost.mkBad (n := n0 + n1) (recR_bad2 HK.out Hf.out) rfl (by omega) (by omega) hu1 (HK0.out.same ku1)⟩
  | ok x1 n1 =>
    rw [hN1] at hy
    have Hy1 := Lib.hid hy
    clear hy
    have hy := fun w hr => takeItems_any 9 p A c bs (at_ + n0 + n1) w (by omega) hr
    cases hN2 : countR 9 (bs.drop (at_ + n0 + n1)) with
    | bad e n2 =>
      rw [hN2] at hy
      have Hy2 := Lib.hid hy
      have Hf := Lib.hid (show fieldR 9 ((bs.drop at_).drop n0) = .bad e (n1 + (n2)) by rw [List.drop_drop]; rw [fieldR_list2 (by omega), andR_ok hN1, List.drop_drop, hN2]; rfl)
      clear hy hN1 hN2
      go_enter Tryz.func142, Tryz.ntmps142
      go_wp2_with fail
      refine (Hx.out _).mono ?_
      rintro e w1 ⟨rfl, hr1, hk1⟩
      clear Hx
      have hs1 : w.heap.size < w1.heap.size := by have := hk1.size; simp at this; omega
      go_wp2_with fail
      generalize hv0 : w1.alloc _ = v0
      have HO0 := Lib.hid (show v0.heap[w1.heap.size]? = some (.cells (recC 9 0 0 0 0 0 ⟨#[]⟩ (.slice none 0 0)) 25 (0, 0)) by rw [← hv0]; exact heap_alloc_new _ _)
      have HR0 := Lib.hid (show v0.heap[w.heap.size]? = some (.cells #[.int .i64 0, .int .i64 0, .int .i64 0, .int .i64 0, .float .f64 0, .int .i64 0, .string ⟨#[]⟩, .slice none 0 0] 25 (0, 0)) by rw [← hv0]; exact (heap_alloc_old w1 _ hs1).trans (rd_new hk1 hp))
      have hr0 : Rd 5 v0 p A c bs (at_ + n0) := by rw [← hv0]; exact hr1.alloc _
      have HK0 := Lib.hid (show Kp (fun k => k = p) w v0 by rw [← hv0]; exact (((Kp.refl _ w).alloc _).same hk1).alloc _)
      clear hv0 hk1 hr1
      refine (Hy1.out _ hr0).mono ?_
      rintro e u1 ⟨rfl, hu1, ku1⟩
      have EO1 := Lib.hid ((ku1.block _ (lt_of_heap HO0.out) (by show ¬ w1.heap.size = p; omega)).trans HO0.out)
      have ER1 := Lib.hid ((ku1.block _ (lt_of_heap HR0.out) (by show ¬ w.heap.size = p; omega)).trans HR0.out)
      have fO1 : ∀ o, u1.frozen? ⟨w1.heap.size, o, none⟩ = false := fun o => frozen_of_row _ _ o _ _ EO1.out
      have cO1 := fun o => cell_of_row u1 _ o _ _ (0, 0) EO1.out
      clear Hy1 hr0
      go_wp2_with fail
      generalize hv1 : World.setCell _ _ _ = v1
      have HO1 := Lib.hid (show v1.heap[w1.heap.size]? = some (.cells (recC 9 0 0 0 0 (x1 : Int) ⟨#[]⟩ (.slice none 0 0)) 25 (0, 0)) by rw [← hv1]; exact heap_setCell_same _ _ _ _ _ _ EO1.out)
      have HR1 := Lib.hid ((show v1.heap[w.heap.size]? = _ by rw [← hv1]; exact heap_setCell_other _ _ _ _ (by show w.heap.size ≠ w1.heap.size; omega)).trans ER1.out)
      have hr1 : Rd 5 v1 p A c bs (at_ + n0 + n1) := by rw [← hv1]; exact rd_out hu1 hp Hin.out (Kp.setCell (Kp.refl _ _) (Or.inl (by show w.heap.size ≤ w1.heap.size; omega)) _)
      have HK1 := Lib.hid (show Kp (fun k => k = p) w v1 by rw [← hv1]; exact Kp.setCell (HK0.out.same ku1) (Or.inr (by show w.heap.size ≤ w1.heap.size; omega)) _)
      clear hv1 EO1 ER1 fO1 cO1 hu1 ku1 HO0 HR0 HK0
      refine (Hy2.out _ hr1).mono ?_
      rintro e u2 ⟨rfl, hu2, ku2⟩
      go_wp2
      exact ⟨rfl, TPost.mkBad (n := n0 + (n1 + n2)) (recR_bad2 HK.out Hf.out) rfl (by omega) (by omega) hu2 (HK1.out.same ku2)⟩
    | ok x2 n2 =>
      rw [hN2] at hy
      have Hy2 := Lib.hid hy
      clear hy
      have Hf := Lib.hid (show fieldR 9 ((bs.drop at_).drop n0) = .ok ⟨9, 0, 0, 0, 0, (x1 : Int), ⟨#[]⟩, x2⟩ (n1 + (n2)) by rw [List.drop_drop]; rw [fieldR_list2 (by omega), andR_ok hN1, List.drop_drop, hN2]; rfl)
      have hlen : x2.length ≤ 32 := countR_len hN2
      clear hN1 hN2
      go_enter Tryz.func142, Tryz.ntmps142
      go_wp2_with fail
      refine (Hx.out _).mono ?_
      rintro e w1 ⟨rfl, hr1, hk1⟩
      clear Hx
      have hs1 : w.heap.size < w1.heap.size := by have := hk1.size; simp at this; omega
      go_wp2_with fail
      generalize hv0 : w1.alloc _ = v0
      have HO0 := Lib.hid (show v0.heap[w1.heap.size]? = some (.cells (recC 9 0 0 0 0 0 ⟨#[]⟩ (.slice none 0 0)) 25 (0, 0)) by rw [← hv0]; exact heap_alloc_new _ _)
      have HR0 := Lib.hid (show v0.heap[w.heap.size]? = some (.cells #[.int .i64 0, .int .i64 0, .int .i64 0, .int .i64 0, .float .f64 0, .int .i64 0, .string ⟨#[]⟩, .slice none 0 0] 25 (0, 0)) by rw [← hv0]; exact (heap_alloc_old w1 _ hs1).trans (rd_new hk1 hp))
      have hr0 : Rd 5 v0 p A c bs (at_ + n0) := by rw [← hv0]; exact hr1.alloc _
      have HK0 := Lib.hid (show Kp (fun k => k = p) w v0 by rw [← hv0]; exact (((Kp.refl _ w).alloc _).same hk1).alloc _)
      clear hv0 hk1 hr1
      refine (Hy1.out _ hr0).mono ?_
      rintro e u1 ⟨rfl, hu1, ku1⟩
      have EO1 := Lib.hid ((ku1.block _ (lt_of_heap HO0.out) (by show ¬ w1.heap.size = p; omega)).trans HO0.out)
      have ER1 := Lib.hid ((ku1.block _ (lt_of_heap HR0.out) (by show ¬ w.heap.size = p; omega)).trans HR0.out)
      have fO1 : ∀ o, u1.frozen? ⟨w1.heap.size, o, none⟩ = false := fun o => frozen_of_row _ _ o _ _ EO1.out
      have cO1 := fun o => cell_of_row u1 _ o _ _ (0, 0) EO1.out
      clear Hy1 hr0
      go_wp2_with fail
      generalize hv1 : World.setCell _ _ _ = v1
      have HO1 := Lib.hid (show v1.heap[w1.heap.size]? = some (.cells (recC 9 0 0 0 0 (x1 : Int) ⟨#[]⟩ (.slice none 0 0)) 25 (0, 0)) by rw [← hv1]; exact heap_setCell_same _ _ _ _ _ _ EO1.out)
      have HR1 := Lib.hid ((show v1.heap[w.heap.size]? = _ by rw [← hv1]; exact heap_setCell_other _ _ _ _ (by show w.heap.size ≠ w1.heap.size; omega)).trans ER1.out)
      have hr1 : Rd 5 v1 p A c bs (at_ + n0 + n1) := by rw [← hv1]; exact rd_out hu1 hp Hin.out (Kp.setCell (Kp.refl _ _) (Or.inl (by show w.heap.size ≤ w1.heap.size; omega)) _)
      have HK1 := Lib.hid (show Kp (fun k => k = p) w v1 by rw [← hv1]; exact Kp.setCell (HK0.out.same ku1) (Or.inr (by show w.heap.size ≤ w1.heap.size; omega)) _)
      clear hv1 EO1 ER1 fO1 cO1 hu1 ku1 HO0 HR0 HK0
      refine (Hy2.out _ hr1).mono ?_
      rintro e u2 ⟨A', c', rfl, hown, hnew, hu2, ku2⟩
      have EO2 := Lib.hid ((ku2.block _ (lt_of_heap HO1.out) (by show ¬ w1.heap.size = p; omega)).trans HO1.out)
      have ER2 := Lib.hid ((ku2.block _ (lt_of_heap HR1.out) (by show ¬ w.heap.size = p; omega)).trans HR1.out)
      have fO2 : ∀ o, u2.frozen? ⟨w1.heap.size, o, none⟩ = false := fun o => frozen_of_row _ _ o _ _ EO2.out
      have cO2 := fun o => cell_of_row u2 _ o _ _ (0, 0) EO2.out
      have hnO : ∀ k, ob A' = some k → w1.heap.size < k := fun k e => Nat.lt_of_lt_of_le (lt_of_heap HO1.out) (hnew k e)
      clear Hy2 hr1
      go_wp2_with fail
      generalize hv2 : World.setCell _ _ _ = v2
      have HO2 := Lib.hid (show v2.heap[w1.heap.size]? = some (.cells (recC 9 0 0 0 0 (x1 : Int) ⟨#[]⟩ (.slice A' x2.length c')) 25 (0, 0)) by rw [← hv2]; exact heap_setCell_same _ _ _ _ _ _ EO2.out)
      have HR2 := Lib.hid ((show v2.heap[w.heap.size]? = _ by rw [← hv2]; exact heap_setCell_other _ _ _ _ (by show w.heap.size ≠ w1.heap.size; omega)).trans ER2.out)
      have hr2 : Rd 5 v2 p A c bs (at_ + n0 + n1 + n2) := by rw [← hv2]; exact rd_out hu2 hp Hin.out (Kp.setCell (Kp.refl _ _) (Or.inl (by show w.heap.size ≤ w1.heap.size; omega)) _)
      have HK2 := Lib.hid (show Kp (fun k => k = p) w v2 by rw [← hv2]; exact Kp.setCell (HK1.out.same ku2) (Or.inr (by show w.heap.size ≤ w1.heap.size; omega)) _)
      have HW := Lib.hid (show v2.ownsRow 0 88 2 (.slice A' x2.length c') x2.length (itCells x2) by rw [← hv2]; exact (Kp.setCell (S := fun k => k = w1.heap.size) (Kp.refl _ _) (Or.inl rfl) _).own hown (fun k e x => by rw [ownBlock_slice] at e; have := hnO k e; have x' : k = w1.heap.size := x; omega))
      clear hv2 EO2 ER2 fO2 cO2 hu2 ku2 HO1 HR1 HK1 hown
      have hqo := (fieldR_one (by omega) Hf.out).2.2.1
      refine (recCheck_any ⟨9, 0, 0, 0, 0, (x1 : Int), ⟨#[]⟩, x2⟩ A' c' v2 hqo (Its.own HW.out) (by show Lim x2.length; unfold Lim; omega)).mono ?_
      rintro e w4 ⟨rfl, hb4⟩
      have HO := Lib.hid ((hb4.block _ (lt_of_heap HO2.out)).trans HO2.out)
      have HR := Lib.hid ((hb4.block _ (lt_of_heap HR2.out)).trans HR2.out)
      have hr4 : Rd 5 w4 p A c bs (at_ + n0 + n1 + n2) := hr2.keep (Kp.of_below hb4 (fun _ => False)) (fun h => h) (fun _ _ h => h)
      have hk4 : Kp (fun k => k = p) w w4 := HK2.out.same (Kp.of_below hb4 _)
      have HW4 := Lib.hid (own_below HW.out hb4)
      clear hb4 HO2 HR2 HK2 hr2
      rcases Nat.eq_zero_or_pos (RC.chk ⟨9, 0, 0, 0, 0, (x1 : Int), ⟨#[]⟩, x2⟩) with hc | hc
      · rw [hc]
        have HC := Lib.hid (recR_ok HK.out Hf.out hc)
        clear hc
        have cO := fun o => cell_of_row w4 _ o _ _ (0, 0) HO.out
        have cR := fun o => cell_of_row w4 _ o _ _ (0, 0) HR.out
        have fR : ∀ o, w4.frozen? ⟨w.heap.size, o, none⟩ = false := fun o => frozen_of_row _ _ o _ _ HR.out
        go_wp2_with fail
        refine bodyPost_ret (v := recV ⟨9, 0, 0, 0, 0, (x1 : Int), ⟨#[]⟩, x2⟩ A' c') (by simp [results, Tryz.results142, go_sem, cR]) rfl ?_
        refine TPost.mkOk (A' := A') (c' := c') (n := n0 + (n1 + n2)) HC.out rfl ((Kp.own (S := fun k => k = w.heap.size) ?_ HW4.out (fun k e x => by rw [ownBlock_slice] at e; have := hnO k e; have x' : k = w.heap.size := x; omega))) (fun k e => by have := hnO k e; omega) (by omega) (rd_out hr4 hp Hin.out ?_) ?_
        · iterate 8 refine Kp.setCell ?_ (Or.inl (by exact rfl)) _
          exact Kp.refl _ _
        · iterate 8 refine Kp.setCell ?_ (Or.inl (by simp)) _
          exact Kp.refl _ _
        · iterate 8 refine Kp.setCell ?_ (Or.inr (by simp)) _
          exact hk4
      · have HC := Lib.hid (recR_no HK.out Hf.out (Nat.ne_of_gt hc))
        generalize RC.chk _ = E at hc HC
        have hE : ((E : Int) != 0) = true := by simp; omega
        go_wp2_with fail
        refine (fail_any p A c bs (at_ + n0 + n1 + n2) E _ hr4).mono ?_
        rintro e w5 ⟨rfl, rfl⟩
        go_wp2
        exact ⟨rfl, TPost.mkBad (n := n0 + (n1 + n2)) HC.out rfl (by omega) (by omega) hr4 hk4⟩

set_option maxHeartbeats 1000000 in
set_option maxRecDepth 100000 in
theorem recTake_any (p : Nat) (A : Option Addr) (c : Nat) (bs : List UInt8) (at_ : Nat) (w : World) (hr : Rd 5 w p A c bs at_) :
    Calls Tryz.prog 142 #[.pointer (some ⟨p, 0, none⟩)] w (TPost p A c bs at_ (recR (bs.drop at_)) w) := by
  cases hK : kindR (bs.drop at_) with
  | bad e n =>
    have hx := fun o => takeKind_any p A c bs at_ (w.alloc o) (hr.alloc o)
    rw [hK] at hx
    have Hx := Lib.hid hx
    have HB := Lib.hid (recR_bad1 hK)
    clear hx hK
    go_enter Tryz.func142, Tryz.ntmps142
    go_wp2_with fail
    refine (Hx.out _).mono ?_
    rintro e w1 ⟨rfl, hr1, hk1⟩
    go_wp2
    exact ⟨rfl, TPost.mkBad (n := n) HB.out rfl (by omega) (by omega) hr1 (((Kp.refl _ w).alloc _).same hk1)⟩
  | ok k n =>
    have h9 := kindR_pos hK
    have hc : k = 1 ∨ k = 2 ∨ k = 3 ∨ k = 4 ∨ k = 5 ∨ k = 6 ∨ k = 7 ∨ k = 8 ∨ k = 9 := by omega
    rcases hc with rfl | rfl | rfl | rfl | rfl | rfl | rfl | rfl | rfl
    · exact recTake_1 n p A c bs at_ w hr hK
    · exact recTake_2 n p A c bs at_ w hr hK
    · exact recTake_3 n p A c bs at_ w hr hK
    · exact recTake_4 n p A c bs at_ w hr hK
    · exact recTake_5 n p A c bs at_ w hr hK
    · exact recTake_6 n p A c bs at_ w hr hK
    · exact recTake_7 n p A c bs at_ w hr hK
    · exact recTake_8 n p A c bs at_ w hr hK
    · exact recTake_9 n p A c bs at_ w hr hK

end Go.Proofs.YtaaeefndhmfceaaGreatDoor
