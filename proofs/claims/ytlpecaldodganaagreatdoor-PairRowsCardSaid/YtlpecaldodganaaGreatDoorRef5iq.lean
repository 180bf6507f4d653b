/- Contracts of the document's own answers for layer 5: what an act does: sums that are no numbers; Join. -/
import Derived.Test.YtlpecaldodganaaGreatDoorRef5cq
import Derived.Test.YtlpecaldodganaaGreatDoorRef5hq
namespace Go.Proofs.YtlpecaldodganaaGreatDoor
open Go.RowKit MM
set_option maxHeartbeats 4000000 in
set_option maxRecDepth 100000 in
theorem do5_15none (r : RC.Rc) (key : ByteArray) (n : Int) (x : Nat) (s : ByteArray) (m : RC.Rc) (must : Bool) (A L : Option Addr) (c cl : Nat) (w : World) (hA : Its w A r.list) (hs : Ieee.double.add r.real x = none) (q : RC.Rc) (xx : RU.Ans) (hq : q = { r with real := MF.plus r.real x }) (hxx : xx = RU.err 0) :
    Calls Tryz.prog 103 #[recV r A c, actV ⟨15, key, n, x, s, m, must⟩ L cl] w (D5Post q xx w) := by
  have HQ := Lib.hid hq
  have HX := Lib.hid hxx
  clear hq hxx
  have hr := fun W => MF.run_nb (P := Tryz.prog) .add 22 r.real x W (.inl rfl) hs
  have Hm := Lib.hid (show ∀ W, MF.bk (MF.key (MF.nb W r.real x)) = MF.plus r.real x from fun W => by rw [MF.bk_key (MF.w_nb W _ _)]; unfold MF.plus; rw [hs, MF.canon_eq _ true (MF.nan_nb W _ _)]; rfl)
  clear hs
  have HI := Lib.hid hA
  clear hA
  go_enter Tryz.func103, Tryz.ntmps103
  go_wp2_with (first
    | (go_at_call 132; refine (rplace1_any _ _ (MF.w_nb _ _ _)).mono ?_; rintro e w' ⟨rfl, rfl⟩)
    | (go_at_call 131; refine (rnumber1_any _ _ (MF.w_key (MF.w_nb _ _ _))).mono ?_; rintro e w' ⟨rfl, rfl⟩))
  generalize hz : MF.nb _ r.real x = z
  have hq : MF.bk (MF.key z) = MF.plus r.real x := by rw [← hz]; exact Hm.out _
  rw [← hq] at HQ
  clear hz hq Hm hr
  generalize hwz : World.drew _ = wz
  have HD := Lib.hid (show D5 w q A c xx none 0 wz by rw [← hwz, HQ.out, HX.out]; exact (D5.start { r with real := MF.bk (MF.key z) } A c _ (RU.err 0) none 0 w).look (below_drew (Below.refl _ _)))
  have HA := Lib.hid (show ∀ wf, Kp (S23 w) wz wf → Its wf A q.list by rw [HQ.out]; exact HD.out.old HI.out)
  have HB := Lib.hid (show ∀ wf, Kp (S23 w) wz wf → Its wf none xx.rc.list by rw [HX.out]; exact D5.noL (w := w) (W := wz) none)
  clear hwz
  have HF := Lib.hid (D5.fin HD.out HA.out HB.out)
  have c0 := fun o => cell_of_row wz _ o _ _ (0, 0) HD.out.r0
  have c2 := fun o => cell_of_row wz _ o _ _ (0, 0) HD.out.r2
  have c3 := fun o => cell_of_row wz _ o _ _ (0, 0) HD.out.r3
  have c4 := fun o => cell_of_row wz _ o _ _ (0, 0) HD.out.r4
  have f2 : ∀ o, wz.frozen? ⟨w.heap.size + 1 + 1, o, none⟩ = false := fun o => frozen_of_row _ _ o _ _ HD.out.r2
  have f3 : ∀ o, wz.frozen? ⟨w.heap.size + 1 + 1 + 1, o, none⟩ = false := fun o => frozen_of_row _ _ o _ _ HD.out.r3
  have Q2 := Lib.hid HD.out.r2
  have Q3 := Lib.hid HD.out.r3
  clear HD HA HB
  go_region_with (fail)
  all_goals
    go_wp2_with fail
    generalize hwf : World.drew _ = wf
    have X2 : wf.heap[w.heap.size + 1 + 1]? = some (.cells (recC q.kind q.num q.low q.high q.real q.cap q.text (.slice A q.list.length c)) 25 (0, 0)) := by
      rw [← hwf, heap_drew]
      exact (ans_other (by omega)).trans (rec_stores Q2.out)
    have X3 : wf.heap[w.heap.size + 1 + 1 + 1]? = some (.cells (ansC xx.code xx.num xx.rc none 0) 49 (0, 0)) := by
      rw [← hwf, heap_drew]
      exact ans_all ((rec_stores_other (by omega)).trans Q3.out)
    have hk : Kp (S23 w) wz wf := by
      rw [← hwf]
      exact (kp10 (kp8g (Kp.refl _ _) (Or.inl (Or.inl rfl))) (Or.inl (Or.inr rfl))).drew
    have HP := Lib.hid (HF.out wf hk)
    have q2 := fun o => cell_of_row wf _ o _ _ (0, 0) X2
    have q3 := fun o => cell_of_row wf _ o _ _ (0, 0) X3
    clear hwf X2 X3 hk c0 c2 c3 c4 f2 f3
    exact bodyPost_ret (v := .tuple #[recV q A c, ansV xx.code xx.num xx.rc none 0]) (by simp [results, Tryz.results103, go_sem, q2, q3]) rfl HP.out
set_option maxHeartbeats 4000000 in
set_option maxRecDepth 100000 in
theorem do5_16none (r : RC.Rc) (key : ByteArray) (n : Int) (x : Nat) (s : ByteArray) (m : RC.Rc) (must : Bool) (A L : Option Addr) (c cl : Nat) (w : World) (hA : Its w A r.list) (hs : Ieee.double.mul r.real x = none) (q : RC.Rc) (xx : RU.Ans) (hq : q = { r with real := MF.times r.real x }) (hxx : xx = RU.err 0) :
    Calls Tryz.prog 103 #[recV r A c, actV ⟨16, key, n, x, s, m, must⟩ L cl] w (D5Post q xx w) := by
  have HQ := Lib.hid hq
  have HX := Lib.hid hxx
  clear hq hxx
  have hr := fun W => MF.run_nb (P := Tryz.prog) .mul 22 r.real x W (.inr rfl) hs
  have Hm := Lib.hid (show ∀ W, MF.bk (MF.key (MF.nb W r.real x)) = MF.times r.real x from fun W => by rw [MF.bk_key (MF.w_nb W _ _)]; unfold MF.times; rw [hs, MF.canon_eq _ true (MF.nan_nb W _ _)]; rfl)
  clear hs
  have HI := Lib.hid hA
  clear hA
  go_enter Tryz.func103, Tryz.ntmps103
  go_wp2_with (first
    | (go_at_call 132; refine (rplace1_any _ _ (MF.w_nb _ _ _)).mono ?_; rintro e w' ⟨rfl, rfl⟩)
    | (go_at_call 131; refine (rnumber1_any _ _ (MF.w_key (MF.w_nb _ _ _))).mono ?_; rintro e w' ⟨rfl, rfl⟩))
  generalize hz : MF.nb _ r.real x = z
  have hq : MF.bk (MF.key z) = MF.times r.real x := by rw [← hz]; exact Hm.out _
  rw [← hq] at HQ
  clear hz hq Hm hr
  generalize hwz : World.drew _ = wz
  have HD := Lib.hid (show D5 w q A c xx none 0 wz by rw [← hwz, HQ.out, HX.out]; exact (D5.start { r with real := MF.bk (MF.key z) } A c _ (RU.err 0) none 0 w).look (below_drew (Below.refl _ _)))
  have HA := Lib.hid (show ∀ wf, Kp (S23 w) wz wf → Its wf A q.list by rw [HQ.out]; exact HD.out.old HI.out)
  have HB := Lib.hid (show ∀ wf, Kp (S23 w) wz wf → Its wf none xx.rc.list by rw [HX.out]; exact D5.noL (w := w) (W := wz) none)
  clear hwz
  have HF := Lib.hid (D5.fin HD.out HA.out HB.out)
  have c0 := fun o => cell_of_row wz _ o _ _ (0, 0) HD.out.r0
  have c2 := fun o => cell_of_row wz _ o _ _ (0, 0) HD.out.r2
  have c3 := fun o => cell_of_row wz _ o _ _ (0, 0) HD.out.r3
  have c4 := fun o => cell_of_row wz _ o _ _ (0, 0) HD.out.r4
  have f2 : ∀ o, wz.frozen? ⟨w.heap.size + 1 + 1, o, none⟩ = false := fun o => frozen_of_row _ _ o _ _ HD.out.r2
  have f3 : ∀ o, wz.frozen? ⟨w.heap.size + 1 + 1 + 1, o, none⟩ = false := fun o => frozen_of_row _ _ o _ _ HD.out.r3
  have Q2 := Lib.hid HD.out.r2
  have Q3 := Lib.hid HD.out.r3
  clear HD HA HB
  go_region_with (fail)
  all_goals
    go_wp2_with fail
    generalize hwf : World.drew _ = wf
    have X2 : wf.heap[w.heap.size + 1 + 1]? = some (.cells (recC q.kind q.num q.low q.high q.real q.cap q.text (.slice A q.list.length c)) 25 (0, 0)) := by
      rw [← hwf, heap_drew]
      exact (ans_other (by omega)).trans (rec_stores Q2.out)
    have X3 : wf.heap[w.heap.size + 1 + 1 + 1]? = some (.cells (ansC xx.code xx.num xx.rc none 0) 49 (0, 0)) := by
      rw [← hwf, heap_drew]
      exact ans_all ((rec_stores_other (by omega)).trans Q3.out)
    have hk : Kp (S23 w) wz wf := by
      rw [← hwf]
      exact (kp10 (kp8g (Kp.refl _ _) (Or.inl (Or.inl rfl))) (Or.inl (Or.inr rfl))).drew
    have HP := Lib.hid (HF.out wf hk)
    have q2 := fun o => cell_of_row wf _ o _ _ (0, 0) X2
    have q3 := fun o => cell_of_row wf _ o _ _ (0, 0) X3
    clear hwf X2 X3 hk c0 c2 c3 c4 f2 f3
    exact bodyPost_ret (v := .tuple #[recV q A c, ansV xx.code xx.num xx.rc none 0]) (by simp [results, Tryz.results103, go_sem, q2, q3]) rfl HP.out
set_option maxHeartbeats 4000000 in
set_option maxRecDepth 100000 in
theorem do5_18no (r : RC.Rc) (key : ByteArray) (n : Int) (x : Nat) (s : ByteArray) (m : RC.Rc) (must : Bool) (A L : Option Addr) (c cl : Nat) (w : World) (hA : Its w A r.list) (hn : Lim r.list.length) (hov : RU.hasN r.list s = false) (hlen : r.cap ≤ (r.list.length : Int)) (q : RC.Rc) (xx : RU.Ans) (hq : q = r) (hxx : xx = RU.err 8) :
    Calls Tryz.prog 103 #[recV r A c, actV ⟨18, key, n, x, s, m, must⟩ L cl] w (D5Post q xx w) := by
  have HQ := Lib.hid hq
  have HX := Lib.hid hxx
  clear hq hxx
  have HI := Lib.hid hA
  clear hA
  go_enter Tryz.func103, Tryz.ntmps103
  go_wp2_with (first
    | (go_at_call 133; refine (has5_any r.list s A c _ (HI.out.below (below5 w _ _ _ _ _)) hn).mono ?_; rintro e w' ⟨rfl, rfl⟩))
  generalize hwz : World.alloc _ _ = wz
  have HD := Lib.hid (show D5 w q A c xx none 0 wz by rw [← hwz, HQ.out, HX.out]; exact D5.start r A c _ (RU.err 8) none 0 w)
  have HA := Lib.hid (show ∀ wf, Kp (S23 w) wz wf → Its wf A q.list by rw [HQ.out]; exact HD.out.old HI.out)
  have HB := Lib.hid (show ∀ wf, Kp (S23 w) wz wf → Its wf none xx.rc.list by rw [HX.out]; exact D5.noL (w := w) (W := wz) none)
  clear hwz
  have HF := Lib.hid (D5.fin HD.out HA.out HB.out)
  have c0 := fun o => cell_of_row wz _ o _ _ (0, 0) HD.out.r0
  have c2 := fun o => cell_of_row wz _ o _ _ (0, 0) HD.out.r2
  have c3 := fun o => cell_of_row wz _ o _ _ (0, 0) HD.out.r3
  have c4 := fun o => cell_of_row wz _ o _ _ (0, 0) HD.out.r4
  have f2 : ∀ o, wz.frozen? ⟨w.heap.size + 1 + 1, o, none⟩ = false := fun o => frozen_of_row _ _ o _ _ HD.out.r2
  have f3 : ∀ o, wz.frozen? ⟨w.heap.size + 1 + 1 + 1, o, none⟩ = false := fun o => frozen_of_row _ _ o _ _ HD.out.r3
  have Q2 := Lib.hid HD.out.r2
  have Q3 := Lib.hid HD.out.r3
  clear HD HA HB
  go_region_with (fail)
  all_goals
    go_wp2_with fail
    generalize hwf : World.drew _ = wf
    have X2 : wf.heap[w.heap.size + 1 + 1]? = some (.cells (recC q.kind q.num q.low q.high q.real q.cap q.text (.slice A q.list.length c)) 25 (0, 0)) := by
      rw [← hwf, heap_drew]
      exact (ans_other (by omega)).trans (rec_stores Q2.out)
    have X3 : wf.heap[w.heap.size + 1 + 1 + 1]? = some (.cells (ansC xx.code xx.num xx.rc none 0) 49 (0, 0)) := by
      rw [← hwf, heap_drew]
      exact ans_all ((rec_stores_other (by omega)).trans Q3.out)
    have hk : Kp (S23 w) wz wf := by
      rw [← hwf]
      exact (kp10 (kp8g (Kp.refl _ _) (Or.inl (Or.inl rfl))) (Or.inl (Or.inr rfl))).drew
    have HP := Lib.hid (HF.out wf hk)
    have q2 := fun o => cell_of_row wf _ o _ _ (0, 0) X2
    have q3 := fun o => cell_of_row wf _ o _ _ (0, 0) X3
    clear hwf X2 X3 hk c0 c2 c3 c4 f2 f3
    exact bodyPost_ret (v := .tuple #[recV q A c, ansV xx.code xx.num xx.rc none 0]) (by simp [results, Tryz.results103, go_sem, q2, q3]) rfl HP.out
set_option maxHeartbeats 4000000 in
set_option maxRecDepth 100000 in
theorem do5_18has (r : RC.Rc) (key : ByteArray) (n : Int) (x : Nat) (s : ByteArray) (m : RC.Rc) (must : Bool) (A L : Option Addr) (c cl : Nat) (w : World) (hA : Its w A r.list) (hn : r.list.length ≤ 1000) (hov : RU.hasN r.list s = true) (q : RC.Rc) (xx : RU.Ans) (hq : q = { r with list := (RU.laidG (fun y => RC.strLt y.name s) (fun y => RC.strEq y.name s) ⟨0, s⟩ r.list false) }) (hxx : xx = RU.err 0) :
    Calls Tryz.prog 103 #[recV r A c, actV ⟨18, key, n, x, s, m, must⟩ L cl] w (D5Post q xx w) := by
  have HQ := Lib.hid hq
  have HX := Lib.hid hxx
  clear hq hxx
  have HI := Lib.hid hA
  clear hA
  go_enter Tryz.func103, Tryz.ntmps103
  go_wp2_with (first
    | (go_at_call 133; refine (has5_any r.list s A c _ (HI.out.below (below5 w _ _ _ _ _)) (show r.list.length < 4294967296 by omega)).mono ?_; rintro e w' ⟨rfl, rfl⟩)
    | (go_at_call 134
       refine (laid_names r.list ⟨0, s⟩ A c _ (HI.out.below (below5 w _ _ _ _ _)) hn).mono ?_
       rintro e w2 ⟨A2, k2, rfl, ho, hnw, hb⟩
       have HS := Lib.hid ((D5.start r A c _ (RU.err 0) none 0 w).look hb)
       simp only [World.size_alloc] at hnw
       have HO := Lib.hid ho
       have HN := Lib.hid (show ∀ k, ob A2 = some k → w.heap.size + 5 ≤ k from fun k e => hnw k e)
       have d0 := fun o => cell_of_row w2 _ o _ _ (0, 0) HS.out.r0
       have g0 : ∀ o, w2.frozen? ⟨w.heap.size, o, none⟩ = false := fun o => frozen_of_row _ _ o _ _ HS.out.r0
       clear ho hnw hb))
  generalize hwz : World.setCell _ _ _ = wz
  have HD := Lib.hid (show D5 w q A2 k2 xx none 0 wz by rw [← hwz, HQ.out, HX.out]; exact D5.set0 HS.out (by rfl))
  have HA := Lib.hid (show ∀ wf, Kp (S23 w) wz wf → Its wf A2 q.list by rw [HQ.out]; exact D5.new (by rw [← hwz]; exact (Its.own HO.out).kp (Kp.setCell (S := fun k => k = w.heap.size) (Kp.refl _ _) (Or.inl rfl) _) (fun ad e x => by subst e; have := HN.out ad.block rfl; omega)) HN.out)
  have HB := Lib.hid (show ∀ wf, Kp (S23 w) wz wf → Its wf none xx.rc.list by rw [HX.out]; exact D5.noL (w := w) (W := wz) none)
  clear hwz d0 g0
  have HF := Lib.hid (D5.fin HD.out HA.out HB.out)
  have c0 := fun o => cell_of_row wz _ o _ _ (0, 0) HD.out.r0
  have c2 := fun o => cell_of_row wz _ o _ _ (0, 0) HD.out.r2
  have c3 := fun o => cell_of_row wz _ o _ _ (0, 0) HD.out.r3
  have c4 := fun o => cell_of_row wz _ o _ _ (0, 0) HD.out.r4
  have f2 : ∀ o, wz.frozen? ⟨w.heap.size + 1 + 1, o, none⟩ = false := fun o => frozen_of_row _ _ o _ _ HD.out.r2
  have f3 : ∀ o, wz.frozen? ⟨w.heap.size + 1 + 1 + 1, o, none⟩ = false := fun o => frozen_of_row _ _ o _ _ HD.out.r3
  have Q2 := Lib.hid HD.out.r2
  have Q3 := Lib.hid HD.out.r3
  clear HD HA HB
  go_region_with (fail)
  all_goals
    go_wp2_with fail
    generalize hwf : World.drew _ = wf
    have X2 : wf.heap[w.heap.size + 1 + 1]? = some (.cells (recC q.kind q.num q.low q.high q.real q.cap q.text (.slice A2 q.list.length k2)) 25 (0, 0)) := by
      rw [← hwf, heap_drew]
      exact (ans_other (by omega)).trans (rec_stores Q2.out)
    have X3 : wf.heap[w.heap.size + 1 + 1 + 1]? = some (.cells (ansC xx.code xx.num xx.rc none 0) 49 (0, 0)) := by
      rw [← hwf, heap_drew]
      exact ans_all ((rec_stores_other (by omega)).trans Q3.out)
    have hk : Kp (S23 w) wz wf := by
      rw [← hwf]
      exact (kp10 (kp8g (Kp.refl _ _) (Or.inl (Or.inl rfl))) (Or.inl (Or.inr rfl))).drew
    have HP := Lib.hid (HF.out wf hk)
    have q2 := fun o => cell_of_row wf _ o _ _ (0, 0) X2
    have q3 := fun o => cell_of_row wf _ o _ _ (0, 0) X3
    clear hwf X2 X3 hk c0 c2 c3 c4 f2 f3
    exact bodyPost_ret (v := .tuple #[recV q A2 k2, ansV xx.code xx.num xx.rc none 0]) (by simp [results, Tryz.results103, go_sem, q2, q3]) rfl HP.out
set_option maxHeartbeats 4000000 in
set_option maxRecDepth 100000 in
theorem do5_18ok (r : RC.Rc) (key : ByteArray) (n : Int) (x : Nat) (s : ByteArray) (m : RC.Rc) (must : Bool) (A L : Option Addr) (c cl : Nat) (w : World) (hA : Its w A r.list) (hn : r.list.length ≤ 1000) (hov : RU.hasN r.list s = false) (hlen : ¬ r.cap ≤ (r.list.length : Int)) (q : RC.Rc) (xx : RU.Ans) (hq : q = { r with list := (RU.laidG (fun y => RC.strLt y.name s) (fun y => RC.strEq y.name s) ⟨0, s⟩ r.list false) }) (hxx : xx = RU.err 0) :
    Calls Tryz.prog 103 #[recV r A c, actV ⟨18, key, n, x, s, m, must⟩ L cl] w (D5Post q xx w) := by
  have HQ := Lib.hid hq
  have HX := Lib.hid hxx
  clear hq hxx
  have HI := Lib.hid hA
  clear hA
  go_enter Tryz.func103, Tryz.ntmps103
  go_wp2_with (first
    | (go_at_call 133; refine (has5_any r.list s A c _ (HI.out.below (below5 w _ _ _ _ _)) (show r.list.length < 4294967296 by omega)).mono ?_; rintro e w' ⟨rfl, rfl⟩)
    | (go_at_call 134
       refine (laid_names r.list ⟨0, s⟩ A c _ (HI.out.below (below5 w _ _ _ _ _)) hn).mono ?_
       rintro e w2 ⟨A2, k2, rfl, ho, hnw, hb⟩
       have HS := Lib.hid ((D5.start r A c _ (RU.err 0) none 0 w).look hb)
       simp only [World.size_alloc] at hnw
       have HO := Lib.hid ho
       have HN := Lib.hid (show ∀ k, ob A2 = some k → w.heap.size + 5 ≤ k from fun k e => hnw k e)
       have d0 := fun o => cell_of_row w2 _ o _ _ (0, 0) HS.out.r0
       have g0 : ∀ o, w2.frozen? ⟨w.heap.size, o, none⟩ = false := fun o => frozen_of_row _ _ o _ _ HS.out.r0
       clear ho hnw hb))
  generalize hwz : World.setCell _ _ _ = wz
  have HD := Lib.hid (show D5 w q A2 k2 xx none 0 wz by rw [← hwz, HQ.out, HX.out]; exact D5.set0 HS.out (by rfl))
  have HA := Lib.hid (show ∀ wf, Kp (S23 w) wz wf → Its wf A2 q.list by rw [HQ.out]; exact D5.new (by rw [← hwz]; exact (Its.own HO.out).kp (Kp.setCell (S := fun k => k = w.heap.size) (Kp.refl _ _) (Or.inl rfl) _) (fun ad e x => by subst e; have := HN.out ad.block rfl; omega)) HN.out)
  have HB := Lib.hid (show ∀ wf, Kp (S23 w) wz wf → Its wf none xx.rc.list by rw [HX.out]; exact D5.noL (w := w) (W := wz) none)
  clear hwz d0 g0
  have HF := Lib.hid (D5.fin HD.out HA.out HB.out)
  have c0 := fun o => cell_of_row wz _ o _ _ (0, 0) HD.out.r0
  have c2 := fun o => cell_of_row wz _ o _ _ (0, 0) HD.out.r2
  have c3 := fun o => cell_of_row wz _ o _ _ (0, 0) HD.out.r3
  have c4 := fun o => cell_of_row wz _ o _ _ (0, 0) HD.out.r4
  have f2 : ∀ o, wz.frozen? ⟨w.heap.size + 1 + 1, o, none⟩ = false := fun o => frozen_of_row _ _ o _ _ HD.out.r2
  have f3 : ∀ o, wz.frozen? ⟨w.heap.size + 1 + 1 + 1, o, none⟩ = false := fun o => frozen_of_row _ _ o _ _ HD.out.r3
  have Q2 := Lib.hid HD.out.r2
  have Q3 := Lib.hid HD.out.r3
  clear HD HA HB
  go_region_with (fail)
  all_goals
    go_wp2_with fail
    generalize hwf : World.drew _ = wf
    have X2 : wf.heap[w.heap.size + 1 + 1]? = some (.cells (recC q.kind q.num q.low q.high q.real q.cap q.text (.slice A2 q.list.length k2)) 25 (0, 0)) := by
      rw [← hwf, heap_drew]
      exact (ans_other (by omega)).trans (rec_stores Q2.out)
    have X3 : wf.heap[w.heap.size + 1 + 1 + 1]? = some (.cells (ansC xx.code xx.num xx.rc none 0) 49 (0, 0)) := by
      rw [← hwf, heap_drew]
      exact ans_all ((rec_stores_other (by omega)).trans Q3.out)
    have hk : Kp (S23 w) wz wf := by
      rw [← hwf]
      exact (kp10 (kp8g (Kp.refl _ _) (Or.inl (Or.inl rfl))) (Or.inl (Or.inr rfl))).drew
    have HP := Lib.hid (HF.out wf hk)
    have q2 := fun o => cell_of_row wf _ o _ _ (0, 0) X2
    have q3 := fun o => cell_of_row wf _ o _ _ (0, 0) X3
    clear hwf X2 X3 hk c0 c2 c3 c4 f2 f3
    exact bodyPost_ret (v := .tuple #[recV q A2 k2, ansV xx.code xx.num xx.rc none 0]) (by simp [results, Tryz.results103, go_sem, q2, q3]) rfl HP.out
end Go.Proofs.YtlpecaldodganaaGreatDoor
