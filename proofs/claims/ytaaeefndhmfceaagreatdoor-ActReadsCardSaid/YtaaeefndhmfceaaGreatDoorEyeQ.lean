/- Contracts of the document's own answers for layer 2: the next part. -/
import Derived.Test.YtaaeefndhmfceaaGreatDoorEyeP
import Derived.Deep.RegionWith
namespace Go.Proofs.YtaaeefndhmfceaaGreatDoor
open Go.RowKit MM

def FRes (hp : PK.Rp → Prop) (n E : Nat) (W : World) (e : Ending) (w' : World) : Prop :=
  Below W.heap.size W w' ∧ ∃ k u i q t b, hp ⟨k, u, i, q, t, b⟩ ∧ e = .returned (.tuple #[.agg #[.int .u8 (k : Nat), .int .u64 (u : Nat), .int .i64 i, .int .u64 (q : Nat), .string t, .bool b], .int .i64 (n : Nat), .int .i64 (E : Nat)])
theorem FAll.ok {pt : PK.Pt} {n : Nat} {W w' : World} {e : Ending} (h : FAll (.ok pt n) W e w') : FRes (fun x => x = PK.plainP pt) n 0 W e w' := by
  obtain ⟨hb, k, u, i, q, t, b, hp, rfl⟩ := h
  exact ⟨hb, k, u, i, q, t, b, hp pt n rfl, rfl⟩
theorem FAll.bad {code n : Nat} {W w' : World} {e : Ending} (h : FAll (.bad code n) W e w') : FRes (fun _ => True) n code W e w' := by
  obtain ⟨hb, k, u, i, q, t, b, hp, rfl⟩ := h
  exact ⟨hb, k, u, i, q, t, b, trivial, rfl⟩
theorem six_rows {w : World} {g : Nat} {x0 x1 x2 x3 x4 x5 c0 c1 c2 c3 c4 c5 : Value} {t : TypeId} (hq : w.heap[g]? = some (.cells #[x0, x1, x2, x3, x4, x5] t (0, 0))) :
    ((((((w.setCell ⟨g, 0, none⟩ c0).setCell ⟨g, 1, none⟩ c1).setCell ⟨g, 2, none⟩ c2).setCell ⟨g, 3, none⟩ c3).setCell ⟨g, 4, none⟩ c4).setCell ⟨g, 5, none⟩ c5).heap[g]? = some (.cells #[c0, c1, c2, c3, c4, c5] t (0, 0)) := by
  have h1 := heap_setCell_same _ g 0 _ t c0 hq
  have h2 := heap_setCell_same _ g 1 _ t c1 h1
  have h3 := heap_setCell_same _ g 2 _ t c2 h2
  have h4 := heap_setCell_same _ g 3 _ t c3 h3
  have h5 := heap_setCell_same _ g 4 _ t c4 h4
  have h6 := heap_setCell_same _ g 5 _ t c5 h5
  exact h6.trans rfl
theorem six_other {w : World} {g k : Nat} {c0 c1 c2 c3 c4 c5 : Value} (h : k ≠ g) :
    ((((((w.setCell ⟨g, 0, none⟩ c0).setCell ⟨g, 1, none⟩ c1).setCell ⟨g, 2, none⟩ c2).setCell ⟨g, 3, none⟩ c3).setCell ⟨g, 4, none⟩ c4).setCell ⟨g, 5, none⟩ c5).heap[k]? = w.heap[k]? := by
  iterate 6 refine (heap_setCell_other _ _ _ _ h).trans ?_
  rfl

set_option maxHeartbeats 4000000 in
set_option maxRecDepth 100000 in
theorem epart_ok (pt : PK.Pt) (n : Nat) (p : Nat) (A : Option Addr) (c : Nat) (bs : List UInt8) (at_ : Nat) (k : Nat) (m : Int) (w : World) (hm : (Lit.int .i64 m).wf = true) (he : Ey w p A c bs at_ 0) (hR : partR k m (bs.drop at_) = (.ok pt n)) (hn : at_ + n ≤ bs.length) :
    Calls Tryz.prog 87 #[.pointer (some ⟨p, 0, none⟩), .int .u8 k, .int .i64 m] w (PtPost p A c bs at_ (.ok pt n) w) := by
  have HE := Lib.hid he
  have c0 := fun o => cell_of_row w _ o _ _ (0, 0) he.row
  have hlt := lt_of_heap he.row
  have hsl := fun w => slice_from A bs.length c at_ he.le w
  have HF := Lib.hid (fun w' (hb : Below w.heap.size w w') => first_at (cutA A at_ c) (c - at_) (bs.length - at_) (bs.drop at_) k m (.ok pt n) w' (by
    have := (he.bts.below hb).cut at_ (bs.length - at_) c (by have := he.le; omega) he.cap
    rwa [List.take_of_length_le (by rw [List.length_drop]; omega)] at this) (he.lim.le (by rw [List.length_drop]; omega)) (by rw [List.length_drop]; have := he.cap; omega) hm (by rw [List.length_drop]) hR |>.mono fun _ _ h => h.ok)
  have hlb : (bs.length : Int) ≤ 4294967296 := by have := he.lim; unfold Lim at this; omega
  have hle := he.le
  clear he hR
  go_enter Tryz.func87, Tryz.ntmps87
  go_wp2_with fail
  generalize hw1 : w.alloc _ = w1
  have hb1 : Below w.heap.size w w1 := by rw [← hw1]; exact below1 w _
  have hs1 : w1.heap.size = w.heap.size + 1 := by rw [← hw1]; simp
  have E1 : w1.heap[w.heap.size]? = some (.cells #[.int .u8 0, .int .u64 0, .int .i64 0, .int .u64 0, .string ⟨#[]⟩, .bool false] 115 (0, 0)) := by rw [← hw1]; exact heap_alloc_new _ _
  have EP : w1.heap[p]? = some (.cells #[.slice A bs.length c, .int .i64 at_, .int .i64 0] 77 (0, 0)) := (hb1.block _ hlt).trans HE.out.row
  have p0 : w1.cell? ⟨p, 0, none⟩ = some (.slice A bs.length c) := below_keep hb1 ((c0 0).trans rfl)
  have p1 : w1.cell? ⟨p, 1, none⟩ = some (.int .i64 at_) := below_keep hb1 ((c0 1).trans rfl)
  have hbd : Below w.heap.size w w1.drew := below_drew hb1
  have hz1 := hb1.size
  have hbdz : Below w.heap.size w (w1.alloc (.cells #[.int .u8 0, .int .u64 0, .int .i64 0, .int .u64 0, .string ⟨#[]⟩, .bool false] 115)).drew := below_drew (hb1.alloc hz1 _)
  have HFz := Lib.hid (HF.out _ hbdz)
  have HFy := Lib.hid (HF.out _ hbd)
  have Hy := Lib.hid (show ∀ w3, Below w1.drew.heap.size w1.drew w3 → Below w.heap.size w w3 ∧ w1.heap.size ≤ w3.heap.size ∧ w3.heap[p]? = some (.cells #[.slice A bs.length c, .int .i64 at_, .int .i64 0] 77 (0, 0)) ∧ w3.heap[w.heap.size]? = some (.cells #[.int .u8 0, .int .u64 0, .int .i64 0, .int .u64 0, .string ⟨#[]⟩, .bool false] 115 (0, 0)) from fun w3 hb3 => ⟨hbd.trans (hb3.mono (Below.size hbd)), hb3.size, (hb3.block p (lt_of_heap EP)).trans EP, (hb3.block _ (lt_of_heap E1)).trans E1⟩)
  have Hz := Lib.hid (show ∀ w3, Below (w1.alloc (.cells #[.int .u8 0, .int .u64 0, .int .i64 0, .int .u64 0, .string ⟨#[]⟩, .bool false] 115)).drew.heap.size (w1.alloc (.cells #[.int .u8 0, .int .u64 0, .int .i64 0, .int .u64 0, .string ⟨#[]⟩, .bool false] 115)).drew w3 → Below w.heap.size w w3 ∧ w3.heap[p]? = some (.cells #[.slice A bs.length c, .int .i64 at_, .int .i64 0] 77 (0, 0)) ∧ w3.heap[w.heap.size]? = some (.cells #[.int .u8 0, .int .u64 0, .int .i64 0, .int .u64 0, .string ⟨#[]⟩, .bool false] 115 (0, 0)) ∧ w3.heap[w1.heap.size]? = some (.cells #[.int .u8 0, .int .u64 0, .int .i64 0, .int .u64 0, .string ⟨#[]⟩, .bool false] 115 (0, 0)) from fun w3 hb3 => ⟨hbdz.trans (hb3.mono (Below.size hbdz)), (hb3.block p (by have := lt_of_heap EP; simp; omega)).trans ((heap_alloc_old w1 _ (lt_of_heap EP)).trans EP), (hb3.block _ (by have := lt_of_heap E1; simp; omega)).trans ((heap_alloc_old w1 _ (lt_of_heap E1)).trans E1), (hb3.block w1.heap.size (by simp)).trans (heap_alloc_new w1 _)⟩)
  have Hs1 := Lib.hid hs1
  have hpw : ¬ p = w1.heap.size := by omega
  have hpw2 : p < w1.heap.size := by omega
  clear hw1 c0 E1 EP HF hs1
  go_region_with (first
    | (go_at_call 150; (with_reducible refine HFy.out.mono ?_); rintro e w3 ⟨hb3, fk, fu, fi, fq, ft, fb, hpl, rfl⟩; obtain ⟨hw3, hsz3, rP, rR⟩ := Hy.out w3 hb3; have q0 : w3.cell? ⟨p, 0, none⟩ = some (.slice A bs.length c) := (cell_of_row w3 _ 0 _ _ (0, 0) rP).trans rfl; have q1 : w3.cell? ⟨p, 1, none⟩ = some (.int .i64 at_) := (cell_of_row w3 _ 1 _ _ (0, 0) rP).trans rfl; have RP := Lib.hid rP; have RR := Lib.hid rR; clear rP rR)
    | (go_at_call 150; (with_reducible refine HFz.out.mono ?_); rintro e w3 ⟨hb3, fk, fu, fi, fq, ft, fb, hpl, rfl⟩; obtain ⟨hw3, rP, rR, rL⟩ := Hz.out w3 hb3; have q0 : w3.cell? ⟨p, 0, none⟩ = some (.slice A bs.length c) := (cell_of_row w3 _ 0 _ _ (0, 0) rP).trans rfl; have q1 : w3.cell? ⟨p, 1, none⟩ = some (.int .i64 at_) := (cell_of_row w3 _ 1 _ _ (0, 0) rP).trans rfl; have RP := Lib.hid rP; have RR := Lib.hid rR; have RL := Lib.hid rL; have x0 : w3.cell? ⟨w1.heap.size, 0, none⟩ = some (.int .u8 0) := (cell_of_row w3 _ 0 _ _ (0, 0) rL).trans rfl; have x1 : w3.cell? ⟨w1.heap.size, 1, none⟩ = some (.int .u64 0) := (cell_of_row w3 _ 1 _ _ (0, 0) rL).trans rfl; have x2 : w3.cell? ⟨w1.heap.size, 2, none⟩ = some (.int .i64 0) := (cell_of_row w3 _ 2 _ _ (0, 0) rL).trans rfl; have x3 : w3.cell? ⟨w1.heap.size, 3, none⟩ = some (.int .u64 0) := (cell_of_row w3 _ 3 _ _ (0, 0) rL).trans rfl; have x4 : w3.cell? ⟨w1.heap.size, 4, none⟩ = some (.string ⟨#[]⟩) := (cell_of_row w3 _ 4 _ _ (0, 0) rL).trans rfl; have x5 : w3.cell? ⟨w1.heap.size, 5, none⟩ = some (.bool false) := (cell_of_row w3 _ 5 _ _ (0, 0) rL).trans rfl; have xf : ∀ o, w3.frozen? ⟨w1.heap.size, o, none⟩ = false := fun o => frozen_of_row _ _ o _ _ rL; clear rP rR rL))
  all_goals
    clear HFz HFy Hy Hz
    have Hsum := Lib.hid (show (at_ : Int) + (n : Int) = ((at_ + n : Nat) : Int) by omega)
    have hpR : p ≠ w.heap.size := by omega
    have hsm : (at_ : Int) + (n : Int) ≤ 4294967296 := by omega
    first
    | (generalize hwv : w3.alloc _ = wv
       have hbv : Below w.heap.size w wv := by rw [← hwv]; exact hw3.alloc hw3.size _
       have rL : wv.heap[w3.heap.size]? = some (.cells #[.int .u8 (fk : Nat), .int .u64 (fu : Nat), .int .i64 fi, .int .u64 (fq : Nat), .string ft, .bool fb] 115 (0, 0)) := by rw [← hwv]; exact heap_alloc_new _ _
       have rPv := (show wv.heap[p]? = _ by rw [← hwv]; exact heap_alloc_old w3 _ (lt_of_heap RP.out)).trans RP.out
       have rRv := (show wv.heap[w.heap.size]? = _ by rw [← hwv]; exact heap_alloc_old w3 _ (lt_of_heap RR.out)).trans RR.out
       have hgp : ¬ p = w3.heap.size := by omega
       have hgR : ¬ w.heap.size = w3.heap.size := by have := Hs1.out; omega
       have cL := fun o => cell_of_row wv _ o _ _ (0, 0) rL
       have cP := fun o => cell_of_row wv _ o _ _ (0, 0) rPv
       have cR := fun o => cell_of_row wv _ o _ _ (0, 0) rRv
       have fP : ∀ o, wv.frozen? ⟨p, o, none⟩ = false := fun o => frozen_of_row _ _ o _ _ rPv
       have fR : ∀ o, wv.frozen? ⟨w.heap.size, o, none⟩ = false := fun o => frozen_of_row _ _ o _ _ rRv
       have RPv := Lib.hid rPv
       clear hwv rL rPv rRv
       go_wp2_with fail
       refine bodyPost_ret (v := .agg #[.int .u8 (fk : Nat), .int .u64 (fu : Nat), .int .i64 fi, .int .u64 (fq : Nat), .string ft, .bool fb]) (by simp [results, Tryz.results87, go_sem, cR]) rfl ?_
       refine ⟨?_, ⟨fk, fu, fi, fq, ft, fb, hpl, rfl⟩, ⟨?_, ?_, HE.out.ne, HE.out.cap, hn, HE.out.lim⟩⟩
       · iterate 6 refine Kp.setCell ?_ (Or.inr (Nat.le_refl _)) _
         iterate 2 refine Kp.setCell ?_ (Or.inl (by exact rfl)) _
         exact Kp.of_below hbv _
       · rw [← Hsum.out]
         exact (six_other hpR).trans (heap_setCell_same _ p 2 _ _ _ (heap_setCell_same _ p 1 _ _ _ RPv.out))
       · refine Bts.set (p := p) HE.out.bts HE.out.ne ?_
         iterate 6 refine Kp.setCell ?_ (Or.inr (Nat.le_refl _)) _
         iterate 2 refine Kp.setCell ?_ (Or.inl (by exact rfl)) _
         exact Kp.of_below hbv _
)
    | (generalize hwv : World.setCell _ _ _ = wv
       have hbv : Below w.heap.size w wv := by rw [← hwv]; exact below6 hw3 hz1
       have rL : wv.heap[w1.heap.size]? = some (.cells #[.int .u8 (fk : Nat), .int .u64 (fu : Nat), .int .i64 fi, .int .u64 (fq : Nat), .string ft, .bool fb] 115 (0, 0)) := by rw [← hwv]; exact six_rows RL.out
       have rPv := (show wv.heap[p]? = _ by rw [← hwv]; exact six_other hpw).trans RP.out
       have hgR : ¬ w.heap.size = w1.heap.size := by have := Hs1.out; omega
       have rRv := (show wv.heap[w.heap.size]? = _ by rw [← hwv]; exact six_other hgR).trans RR.out
       have cL := fun o => cell_of_row wv _ o _ _ (0, 0) rL
       have cP := fun o => cell_of_row wv _ o _ _ (0, 0) rPv
       have cR := fun o => cell_of_row wv _ o _ _ (0, 0) rRv
       have fP : ∀ o, wv.frozen? ⟨p, o, none⟩ = false := fun o => frozen_of_row _ _ o _ _ rPv
       have fR : ∀ o, wv.frozen? ⟨w.heap.size, o, none⟩ = false := fun o => frozen_of_row _ _ o _ _ rRv
       have RPv := Lib.hid rPv
       clear hwv rL rPv rRv
       go_wp2_with fail
       refine bodyPost_ret (v := .agg #[.int .u8 (fk : Nat), .int .u64 (fu : Nat), .int .i64 fi, .int .u64 (fq : Nat), .string ft, .bool fb]) (by simp [results, Tryz.results87, go_sem, cR]) rfl ?_
       refine ⟨?_, ⟨fk, fu, fi, fq, ft, fb, hpl, rfl⟩, ⟨?_, ?_, HE.out.ne, HE.out.cap, hn, HE.out.lim⟩⟩
       · iterate 6 refine Kp.setCell ?_ (Or.inr (Nat.le_refl _)) _
         iterate 2 refine Kp.setCell ?_ (Or.inl (by exact rfl)) _
         exact Kp.of_below hbv _
       · rw [← Hsum.out]
         exact (six_other hpR).trans (heap_setCell_same _ p 2 _ _ _ (heap_setCell_same _ p 1 _ _ _ RPv.out))
       · refine Bts.set (p := p) HE.out.bts HE.out.ne ?_
         iterate 6 refine Kp.setCell ?_ (Or.inr (Nat.le_refl _)) _
         iterate 2 refine Kp.setCell ?_ (Or.inl (by exact rfl)) _
         exact Kp.of_below hbv _
)

set_option maxHeartbeats 4000000 in
set_option maxRecDepth 100000 in
theorem epart_bad (code n : Nat) (p : Nat) (A : Option Addr) (c : Nat) (bs : List UInt8) (at_ : Nat) (k : Nat) (m : Int) (w : World) (hm : (Lit.int .i64 m).wf = true) (he : Ey w p A c bs at_ 0) (hR : partR k m (bs.drop at_) = (.bad code n)) (hn : at_ + n ≤ bs.length) (hc : 0 < code) :
    Calls Tryz.prog 87 #[.pointer (some ⟨p, 0, none⟩), .int .u8 k, .int .i64 m] w (PtPost p A c bs at_ (.bad code n) w) := by
  have HE := Lib.hid he
  have c0 := fun o => cell_of_row w _ o _ _ (0, 0) he.row
  have hlt := lt_of_heap he.row
  have hsl := fun w => slice_from A bs.length c at_ he.le w
  have HF := Lib.hid (fun w' (hb : Below w.heap.size w w') => first_at (cutA A at_ c) (c - at_) (bs.length - at_) (bs.drop at_) k m (.bad code n) w' (by
    have := (he.bts.below hb).cut at_ (bs.length - at_) c (by have := he.le; omega) he.cap
    rwa [List.take_of_length_le (by rw [List.length_drop]; omega)] at this) (he.lim.le (by rw [List.length_drop]; omega)) (by rw [List.length_drop]; have := he.cap; omega) hm (by rw [List.length_drop]) hR |>.mono fun _ _ h => h.bad)
  have hlb : (bs.length : Int) ≤ 4294967296 := by have := he.lim; unfold Lim at this; omega
  have hle := he.le
  have hcode : ((code : Int) != 0) = true := by simp; omega
  clear he hR
  go_enter Tryz.func87, Tryz.ntmps87
  go_wp2_with fail
  generalize hw1 : w.alloc _ = w1
  have hb1 : Below w.heap.size w w1 := by rw [← hw1]; exact below1 w _
  have hs1 : w1.heap.size = w.heap.size + 1 := by rw [← hw1]; simp
  have E1 : w1.heap[w.heap.size]? = some (.cells #[.int .u8 0, .int .u64 0, .int .i64 0, .int .u64 0, .string ⟨#[]⟩, .bool false] 115 (0, 0)) := by rw [← hw1]; exact heap_alloc_new _ _
  have EP : w1.heap[p]? = some (.cells #[.slice A bs.length c, .int .i64 at_, .int .i64 0] 77 (0, 0)) := (hb1.block _ hlt).trans HE.out.row
  have p0 : w1.cell? ⟨p, 0, none⟩ = some (.slice A bs.length c) := below_keep hb1 ((c0 0).trans rfl)
  have p1 : w1.cell? ⟨p, 1, none⟩ = some (.int .i64 at_) := below_keep hb1 ((c0 1).trans rfl)
  have hbd : Below w.heap.size w w1.drew := below_drew hb1
  have hz1 := hb1.size
  have hbdz : Below w.heap.size w (w1.alloc (.cells #[.int .u8 0, .int .u64 0, .int .i64 0, .int .u64 0, .string ⟨#[]⟩, .bool false] 115)).drew := below_drew (hb1.alloc hz1 _)
  have HFz := Lib.hid (HF.out _ hbdz)
  have HFy := Lib.hid (HF.out _ hbd)
  have Hy := Lib.hid (show ∀ w3, Below w1.drew.heap.size w1.drew w3 → Below w.heap.size w w3 ∧ w1.heap.size ≤ w3.heap.size ∧ w3.heap[p]? = some (.cells #[.slice A bs.length c, .int .i64 at_, .int .i64 0] 77 (0, 0)) ∧ w3.heap[w.heap.size]? = some (.cells #[.int .u8 0, .int .u64 0, .int .i64 0, .int .u64 0, .string ⟨#[]⟩, .bool false] 115 (0, 0)) from fun w3 hb3 => ⟨hbd.trans (hb3.mono (Below.size hbd)), hb3.size, (hb3.block p (lt_of_heap EP)).trans EP, (hb3.block _ (lt_of_heap E1)).trans E1⟩)
  have Hz := Lib.hid (show ∀ w3, Below (w1.alloc (.cells #[.int .u8 0, .int .u64 0, .int .i64 0, .int .u64 0, .string ⟨#[]⟩, .bool false] 115)).drew.heap.size (w1.alloc (.cells #[.int .u8 0, .int .u64 0, .int .i64 0, .int .u64 0, .string ⟨#[]⟩, .bool false] 115)).drew w3 → Below w.heap.size w w3 ∧ w3.heap[p]? = some (.cells #[.slice A bs.length c, .int .i64 at_, .int .i64 0] 77 (0, 0)) ∧ w3.heap[w.heap.size]? = some (.cells #[.int .u8 0, .int .u64 0, .int .i64 0, .int .u64 0, .string ⟨#[]⟩, .bool false] 115 (0, 0)) ∧ w3.heap[w1.heap.size]? = some (.cells #[.int .u8 0, .int .u64 0, .int .i64 0, .int .u64 0, .string ⟨#[]⟩, .bool false] 115 (0, 0)) from fun w3 hb3 => ⟨hbdz.trans (hb3.mono (Below.size hbdz)), (hb3.block p (by have := lt_of_heap EP; simp; omega)).trans ((heap_alloc_old w1 _ (lt_of_heap EP)).trans EP), (hb3.block _ (by have := lt_of_heap E1; simp; omega)).trans ((heap_alloc_old w1 _ (lt_of_heap E1)).trans E1), (hb3.block w1.heap.size (by simp)).trans (heap_alloc_new w1 _)⟩)
  have Hs1 := Lib.hid hs1
  have hpw : ¬ p = w1.heap.size := by omega
  have hpw2 : p < w1.heap.size := by omega
  clear hw1 c0 E1 EP HF hs1
  go_region_with (first
    | (go_at_call 150; (with_reducible refine HFy.out.mono ?_); rintro e w3 ⟨hb3, fk, fu, fi, fq, ft, fb, hpl, rfl⟩; obtain ⟨hw3, hsz3, rP, rR⟩ := Hy.out w3 hb3; have q0 : w3.cell? ⟨p, 0, none⟩ = some (.slice A bs.length c) := (cell_of_row w3 _ 0 _ _ (0, 0) rP).trans rfl; have q1 : w3.cell? ⟨p, 1, none⟩ = some (.int .i64 at_) := (cell_of_row w3 _ 1 _ _ (0, 0) rP).trans rfl; have RP := Lib.hid rP; have RR := Lib.hid rR; clear rP rR)
    | (go_at_call 150; (with_reducible refine HFz.out.mono ?_); rintro e w3 ⟨hb3, fk, fu, fi, fq, ft, fb, hpl, rfl⟩; obtain ⟨hw3, rP, rR, rL⟩ := Hz.out w3 hb3; have q0 : w3.cell? ⟨p, 0, none⟩ = some (.slice A bs.length c) := (cell_of_row w3 _ 0 _ _ (0, 0) rP).trans rfl; have q1 : w3.cell? ⟨p, 1, none⟩ = some (.int .i64 at_) := (cell_of_row w3 _ 1 _ _ (0, 0) rP).trans rfl; have RP := Lib.hid rP; have RR := Lib.hid rR; have RL := Lib.hid rL; have x0 : w3.cell? ⟨w1.heap.size, 0, none⟩ = some (.int .u8 0) := (cell_of_row w3 _ 0 _ _ (0, 0) rL).trans rfl; have x1 : w3.cell? ⟨w1.heap.size, 1, none⟩ = some (.int .u64 0) := (cell_of_row w3 _ 1 _ _ (0, 0) rL).trans rfl; have x2 : w3.cell? ⟨w1.heap.size, 2, none⟩ = some (.int .i64 0) := (cell_of_row w3 _ 2 _ _ (0, 0) rL).trans rfl; have x3 : w3.cell? ⟨w1.heap.size, 3, none⟩ = some (.int .u64 0) := (cell_of_row w3 _ 3 _ _ (0, 0) rL).trans rfl; have x4 : w3.cell? ⟨w1.heap.size, 4, none⟩ = some (.string ⟨#[]⟩) := (cell_of_row w3 _ 4 _ _ (0, 0) rL).trans rfl; have x5 : w3.cell? ⟨w1.heap.size, 5, none⟩ = some (.bool false) := (cell_of_row w3 _ 5 _ _ (0, 0) rL).trans rfl; have xf : ∀ o, w3.frozen? ⟨w1.heap.size, o, none⟩ = false := fun o => frozen_of_row _ _ o _ _ rL; clear rP rR rL))
  all_goals
    clear HFz HFy Hy Hz
    have Hsum := Lib.hid (show (at_ : Int) + (n : Int) = ((at_ + n : Nat) : Int) by omega)
    have hpR : p ≠ w.heap.size := by omega
    have hsm : (at_ : Int) + (n : Int) ≤ 4294967296 := by omega
    first
    | (generalize hwv : w3.alloc _ = wv
       have hbv : Below w.heap.size w wv := by rw [← hwv]; exact hw3.alloc hw3.size _
       have rL : wv.heap[w3.heap.size]? = some (.cells #[.int .u8 (fk : Nat), .int .u64 (fu : Nat), .int .i64 fi, .int .u64 (fq : Nat), .string ft, .bool fb] 115 (0, 0)) := by rw [← hwv]; exact heap_alloc_new _ _
       have rPv := (show wv.heap[p]? = _ by rw [← hwv]; exact heap_alloc_old w3 _ (lt_of_heap RP.out)).trans RP.out
       have rRv := (show wv.heap[w.heap.size]? = _ by rw [← hwv]; exact heap_alloc_old w3 _ (lt_of_heap RR.out)).trans RR.out
       have hgp : ¬ p = w3.heap.size := by omega
       have hgR : ¬ w.heap.size = w3.heap.size := by have := Hs1.out; omega
       have cL := fun o => cell_of_row wv _ o _ _ (0, 0) rL
       have cP := fun o => cell_of_row wv _ o _ _ (0, 0) rPv
       have cR := fun o => cell_of_row wv _ o _ _ (0, 0) rRv
       have fP : ∀ o, wv.frozen? ⟨p, o, none⟩ = false := fun o => frozen_of_row _ _ o _ _ rPv
       have fR : ∀ o, wv.frozen? ⟨w.heap.size, o, none⟩ = false := fun o => frozen_of_row _ _ o _ _ rRv
       have RPv := Lib.hid rPv
       clear hwv rL rPv rRv
       go_wp2_with fail
       refine bodyPost_ret (v := .agg #[.int .u8 0, .int .u64 0, .int .i64 0, .int .u64 0, .string ⟨#[]⟩, .bool false]) (by simp [results, Tryz.results87, go_sem, cR]) rfl ?_
       refine ⟨?_, rfl, ⟨?_, ?_, HE.out.ne, HE.out.cap, hn, HE.out.lim⟩⟩
       · iterate 6 refine Kp.setCell ?_ (Or.inr (Nat.le_refl _)) _
         iterate 2 refine Kp.setCell ?_ (Or.inl (by exact rfl)) _
         exact Kp.of_below hbv _
       · rw [← Hsum.out]
         exact (six_other hpR).trans (heap_setCell_same _ p 2 _ _ _ (heap_setCell_same _ p 1 _ _ _ RPv.out))
       · refine Bts.set (p := p) HE.out.bts HE.out.ne ?_
         iterate 6 refine Kp.setCell ?_ (Or.inr (Nat.le_refl _)) _
         iterate 2 refine Kp.setCell ?_ (Or.inl (by exact rfl)) _
         exact Kp.of_below hbv _
)
    | (generalize hwv : World.setCell _ _ _ = wv
       have hbv : Below w.heap.size w wv := by rw [← hwv]; exact below6 hw3 hz1
       have rL : wv.heap[w1.heap.size]? = some (.cells #[.int .u8 (fk : Nat), .int .u64 (fu : Nat), .int .i64 fi, .int .u64 (fq : Nat), .string ft, .bool fb] 115 (0, 0)) := by rw [← hwv]; exact six_rows RL.out
       have rPv := (show wv.heap[p]? = _ by rw [← hwv]; exact six_other hpw).trans RP.out
       have hgR : ¬ w.heap.size = w1.heap.size := by have := Hs1.out; omega
       have rRv := (show wv.heap[w.heap.size]? = _ by rw [← hwv]; exact six_other hgR).trans RR.out
       have cL := fun o => cell_of_row wv _ o _ _ (0, 0) rL
       have cP := fun o => cell_of_row wv _ o _ _ (0, 0) rPv
       have cR := fun o => cell_of_row wv _ o _ _ (0, 0) rRv
       have fP : ∀ o, wv.frozen? ⟨p, o, none⟩ = false := fun o => frozen_of_row _ _ o _ _ rPv
       have fR : ∀ o, wv.frozen? ⟨w.heap.size, o, none⟩ = false := fun o => frozen_of_row _ _ o _ _ rRv
       have RPv := Lib.hid rPv
       clear hwv rL rPv rRv
       go_wp2_with fail
       refine bodyPost_ret (v := .agg #[.int .u8 0, .int .u64 0, .int .i64 0, .int .u64 0, .string ⟨#[]⟩, .bool false]) (by simp [results, Tryz.results87, go_sem, cR]) rfl ?_
       refine ⟨?_, rfl, ⟨?_, ?_, HE.out.ne, HE.out.cap, hn, HE.out.lim⟩⟩
       · iterate 6 refine Kp.setCell ?_ (Or.inr (Nat.le_refl _)) _
         iterate 2 refine Kp.setCell ?_ (Or.inl (by exact rfl)) _
         exact Kp.of_below hbv _
       · rw [← Hsum.out]
         exact (six_other hpR).trans (heap_setCell_same _ p 2 _ _ _ (heap_setCell_same _ p 1 _ _ _ RPv.out))
       · refine Bts.set (p := p) HE.out.bts HE.out.ne ?_
         iterate 6 refine Kp.setCell ?_ (Or.inr (Nat.le_refl _)) _
         iterate 2 refine Kp.setCell ?_ (Or.inl (by exact rfl)) _
         exact Kp.of_below hbv _
)

theorem epart_any (p : Nat) (A : Option Addr) (c : Nat) (bs : List UInt8) (at_ : Nat) (k : Nat) (m : Int) (w : World) (hk : k < 256) (hm : (Lit.int .i64 m).wf = true) (he : Ey w p A c bs at_ 0) :
    Calls Tryz.prog 87 #[.pointer (some ⟨p, 0, none⟩), .int .u8 k, .int .i64 m] w (PtPost p A c bs at_ (partR k m (bs.drop at_)) w) := by
  have hle := he.le
  cases hR : partR k m (bs.drop at_) with
  | ok pt n =>
    have h1 := (partR_one hk hR).2.1
    rw [List.length_drop] at h1
    exact epart_ok pt n p A c bs at_ k m w hm he hR (by omega)
  | bad code n =>
    have h1 := partR_bad_le hR
    rw [List.length_drop] at h1
    exact epart_bad code n p A c bs at_ k m w hm he hR (by omega) (partR_bad_pos hR)

end Go.Proofs.YtaaeefndhmfceaaGreatDoor
