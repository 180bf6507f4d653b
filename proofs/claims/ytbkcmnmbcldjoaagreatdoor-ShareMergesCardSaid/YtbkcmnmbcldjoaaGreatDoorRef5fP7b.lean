/- Contracts of the document's own answers for layer 5: what an act does, where no list is made. -/
import Derived.Test.YtbkcmnmbcldjoaaGreatDoorR5AP7b
namespace Go.Proofs.YtbkcmnmbcldjoaaGreatDoor
open Go.RowKit MM
set_option maxHeartbeats 4000000 in
set_option maxRecDepth 100000 in
theorem do5_5 (r : RC.Rc) (key : ByteArray) (n : Int) (x : Nat) (s : ByteArray) (m : RC.Rc) (must : Bool) (A L : Option Addr) (c cl : Nat) (w : World) (hA : Its w A r.list) :
    Calls Tryz.prog 87 #[recV r A c, actV ⟨5, key, n, x, s, m, must⟩ L cl] w (D5Post { r with text := s } (RU.err 0) w) := by
  have HI := Lib.hid hA
  clear hA
  go_enter Tryz.func87, Tryz.ntmps87
  go_wp2_with fail
  generalize hwz : World.alloc _ _ = wz
  have HD := Lib.hid (show D5 w { r with text := s } A c (RU.err 0) none 0 wz by rw [← hwz]; exact D5.start { r with text := s } A c _ (RU.err 0) none 0 w)
  have HA := Lib.hid (HD.out.old HI.out)
  have HB := Lib.hid (show ∀ wf, Kp (S23 w) wz wf → Its wf none (RU.err 0).rc.list from D5.noL (w := w) (W := wz) none)
  clear hwz
  have HF := Lib.hid (D5.fin HD.out HA.out HB.out)
  generalize ({ r with text := s } : RC.Rc) = q at *
  generalize RU.err 0 = xx at *
  have c0 := fun o => cell_of_row wz _ o _ _ (0, 0) HD.out.r0
  have c2 := fun o => cell_of_row wz _ o _ _ (0, 0) HD.out.r2
  have c3 := fun o => cell_of_row wz _ o _ _ (0, 0) HD.out.r3
  have c4 := fun o => cell_of_row wz _ o _ _ (0, 0) HD.out.r4
  have f2 : ∀ o, wz.frozen? ⟨w.heap.size + 1 + 1, o, none⟩ = false := fun o => frozen_of_row _ _ o _ _ HD.out.r2
  have f3 : ∀ o, wz.frozen? ⟨w.heap.size + 1 + 1 + 1, o, none⟩ = false := fun o => frozen_of_row _ _ o _ _ HD.out.r3
  have Q2 := Lib.hid HD.out.r2
  have Q3 := Lib.hid HD.out.r3
  clear HD HA HB
  go_region_with (fail)
  all_goals
    go_wp2_with fail
    generalize hwf : World.drew _ = wf
    have X2 : wf.heap[w.heap.size + 1 + 1]? = some (.cells (recC q.kind q.num q.low q.high q.real q.cap q.text (.slice A q.list.length c)) 25 (0, 0)) := by
      rw [← hwf, heap_drew]
      exact (ans_other (by omega)).trans (rec_stores Q2.out)
    have X3 : wf.heap[w.heap.size + 1 + 1 + 1]? = some (.cells (ansC xx.code xx.num xx.rc none 0) 82 (0, 0)) := by
      rw [← hwf, heap_drew]
      exact ans_all ((rec_stores_other (by omega)).trans Q3.out)
    have hk : Kp (S23 w) wz wf := by
      rw [← hwf]
      exact (kp10 (kp8g (Kp.refl _ _) (Or.inl (Or.inl rfl))) (Or.inl (Or.inr rfl))).drew
    have HP := Lib.hid (HF.out wf hk)
    have q2 := fun o => cell_of_row wf _ o _ _ (0, 0) X2
    have q3 := fun o => cell_of_row wf _ o _ _ (0, 0) X3
    clear hwf X2 X3 hk c0 c2 c3 c4 f2 f3
    exact bodyPost_ret (v := .tuple #[recV q A c, ansV xx.code xx.num xx.rc none 0]) (by simp [results, Tryz.results87, go_sem, q2, q3]) rfl HP.out
set_option maxHeartbeats 4000000 in
set_option maxRecDepth 100000 in
theorem do5_7 (r : RC.Rc) (key : ByteArray) (n : Int) (x : Nat) (s : ByteArray) (m : RC.Rc) (must : Bool) (A L : Option Addr) (c cl : Nat) (w : World) (hA : Its w A r.list) :
    Calls Tryz.prog 87 #[recV r A c, actV ⟨7, key, n, x, s, m, must⟩ L cl] w (D5Post { r with num := RU.w64 (r.num + n) } (RU.err 0) w) := by
  have HI := Lib.hid hA
  clear hA
  go_enter Tryz.func87, Tryz.ntmps87
  go_wp2_with fail
  generalize hwz : World.alloc _ _ = wz
  have HD := Lib.hid (show D5 w { r with num := RU.w64 (r.num + n) } A c (RU.err 0) none 0 wz by rw [← hwz]; exact D5.start { r with num := RU.w64 (r.num + n) } A c _ (RU.err 0) none 0 w)
  have HA := Lib.hid (HD.out.old HI.out)
  have HB := Lib.hid (show ∀ wf, Kp (S23 w) wz wf → Its wf none (RU.err 0).rc.list from D5.noL (w := w) (W := wz) none)
  clear hwz
  have HF := Lib.hid (D5.fin HD.out HA.out HB.out)
  generalize ({ r with num := RU.w64 (r.num + n) } : RC.Rc) = q at *
  generalize RU.err 0 = xx at *
  have c0 := fun o => cell_of_row wz _ o _ _ (0, 0) HD.out.r0
  have c2 := fun o => cell_of_row wz _ o _ _ (0, 0) HD.out.r2
  have c3 := fun o => cell_of_row wz _ o _ _ (0, 0) HD.out.r3
  have c4 := fun o => cell_of_row wz _ o _ _ (0, 0) HD.out.r4
  have f2 : ∀ o, wz.frozen? ⟨w.heap.size + 1 + 1, o, none⟩ = false := fun o => frozen_of_row _ _ o _ _ HD.out.r2
  have f3 : ∀ o, wz.frozen? ⟨w.heap.size + 1 + 1 + 1, o, none⟩ = false := fun o => frozen_of_row _ _ o _ _ HD.out.r3
  have Q2 := Lib.hid HD.out.r2
  have Q3 := Lib.hid HD.out.r3
  clear HD HA HB
  go_region_with (fail)
  all_goals
    go_wp2_with fail
    generalize hwf : World.drew _ = wf
    have X2 : wf.heap[w.heap.size + 1 + 1]? = some (.cells (recC q.kind q.num q.low q.high q.real q.cap q.text (.slice A q.list.length c)) 25 (0, 0)) := by
      rw [← hwf, heap_drew]
      exact (ans_other (by omega)).trans (rec_stores Q2.out)
    have X3 : wf.heap[w.heap.size + 1 + 1 + 1]? = some (.cells (ansC xx.code xx.num xx.rc none 0) 82 (0, 0)) := by
      rw [← hwf, heap_drew]
      exact ans_all ((rec_stores_other (by omega)).trans Q3.out)
    have hk : Kp (S23 w) wz wf := by
      rw [← hwf]
      exact (kp10 (kp8g (Kp.refl _ _) (Or.inl (Or.inl rfl))) (Or.inl (Or.inr rfl))).drew
    have HP := Lib.hid (HF.out wf hk)
    have q2 := fun o => cell_of_row wf _ o _ _ (0, 0) X2
    have q3 := fun o => cell_of_row wf _ o _ _ (0, 0) X3
    clear hwf X2 X3 hk c0 c2 c3 c4 f2 f3
    exact bodyPost_ret (v := .tuple #[recV q A c, ansV xx.code xx.num xx.rc none 0]) (by simp [results, Tryz.results87, go_sem, q2, q3]) rfl HP.out
set_option maxHeartbeats 4000000 in
set_option maxRecDepth 100000 in
theorem do5_9no (r : RC.Rc) (key : ByteArray) (n : Int) (x : Nat) (s : ByteArray) (m : RC.Rc) (must : Bool) (A L : Option Addr) (c cl : Nat) (w : World) (hA : Its w A r.list) (hlt : r.num < n) :
    Calls Tryz.prog 87 #[recV r A c, actV ⟨9, key, n, x, s, m, must⟩ L cl] w (D5Post r (RU.err 11) w) := by
  have HI := Lib.hid hA
  clear hA
  go_enter Tryz.func87, Tryz.ntmps87
  go_wp2_with fail
  generalize hwz : World.alloc _ _ = wz
  have HD := Lib.hid (show D5 w r A c (RU.err 11) none 0 wz by rw [← hwz]; exact D5.start r A c _ (RU.err 11) none 0 w)
  have HA := Lib.hid (HD.out.old HI.out)
  have HB := Lib.hid (show ∀ wf, Kp (S23 w) wz wf → Its wf none (RU.err 11).rc.list from D5.noL (w := w) (W := wz) none)
  clear hwz
  have HF := Lib.hid (D5.fin HD.out HA.out HB.out)
  generalize RU.err 11 = xx at *
  have c0 := fun o => cell_of_row wz _ o _ _ (0, 0) HD.out.r0
  have c2 := fun o => cell_of_row wz _ o _ _ (0, 0) HD.out.r2
  have c3 := fun o => cell_of_row wz _ o _ _ (0, 0) HD.out.r3
  have c4 := fun o => cell_of_row wz _ o _ _ (0, 0) HD.out.r4
  have f2 : ∀ o, wz.frozen? ⟨w.heap.size + 1 + 1, o, none⟩ = false := fun o => frozen_of_row _ _ o _ _ HD.out.r2
  have f3 : ∀ o, wz.frozen? ⟨w.heap.size + 1 + 1 + 1, o, none⟩ = false := fun o => frozen_of_row _ _ o _ _ HD.out.r3
  have Q2 := Lib.hid HD.out.r2
  have Q3 := Lib.hid HD.out.r3
  clear HD HA HB
  go_region_with (fail)
  all_goals
    go_wp2_with fail
    generalize hwf : World.drew _ = wf
    have X2 : wf.heap[w.heap.size + 1 + 1]? = some (.cells (recC r.kind r.num r.low r.high r.real r.cap r.text (.slice A r.list.length c)) 25 (0, 0)) := by
      rw [← hwf, heap_drew]
      exact (ans_other (by omega)).trans (rec_stores Q2.out)
    have X3 : wf.heap[w.heap.size + 1 + 1 + 1]? = some (.cells (ansC xx.code xx.num xx.rc none 0) 82 (0, 0)) := by
      rw [← hwf, heap_drew]
      exact ans_all ((rec_stores_other (by omega)).trans Q3.out)
    have hk : Kp (S23 w) wz wf := by
      rw [← hwf]
      exact (kp10 (kp8g (Kp.refl _ _) (Or.inl (Or.inl rfl))) (Or.inl (Or.inr rfl))).drew
    have HP := Lib.hid (HF.out wf hk)
    have q2 := fun o => cell_of_row wf _ o _ _ (0, 0) X2
    have q3 := fun o => cell_of_row wf _ o _ _ (0, 0) X3
    clear hwf X2 X3 hk c0 c2 c3 c4 f2 f3
    exact bodyPost_ret (v := .tuple #[recV r A c, ansV xx.code xx.num xx.rc none 0]) (by simp [results, Tryz.results87, go_sem, q2, q3]) rfl HP.out
set_option maxHeartbeats 4000000 in
set_option maxRecDepth 100000 in
theorem do5_9ok (r : RC.Rc) (key : ByteArray) (n : Int) (x : Nat) (s : ByteArray) (m : RC.Rc) (must : Bool) (A L : Option Addr) (c cl : Nat) (w : World) (hA : Its w A r.list) (hlt : ¬ r.num < n) :
    Calls Tryz.prog 87 #[recV r A c, actV ⟨9, key, n, x, s, m, must⟩ L cl] w (D5Post r (RU.err 0) w) := by
  have HI := Lib.hid hA
  clear hA
  go_enter Tryz.func87, Tryz.ntmps87
  go_wp2_with fail
  generalize hwz : World.alloc _ _ = wz
  have HD := Lib.hid (show D5 w r A c (RU.err 0) none 0 wz by rw [← hwz]; exact D5.start r A c _ (RU.err 0) none 0 w)
  have HA := Lib.hid (HD.out.old HI.out)
  have HB := Lib.hid (show ∀ wf, Kp (S23 w) wz wf → Its wf none (RU.err 0).rc.list from D5.noL (w := w) (W := wz) none)
  clear hwz
  have HF := Lib.hid (D5.fin HD.out HA.out HB.out)
  generalize RU.err 0 = xx at *
  have c0 := fun o => cell_of_row wz _ o _ _ (0, 0) HD.out.r0
  have c2 := fun o => cell_of_row wz _ o _ _ (0, 0) HD.out.r2
  have c3 := fun o => cell_of_row wz _ o _ _ (0, 0) HD.out.r3
  have c4 := fun o => cell_of_row wz _ o _ _ (0, 0) HD.out.r4
  have f2 : ∀ o, wz.frozen? ⟨w.heap.size + 1 + 1, o, none⟩ = false := fun o => frozen_of_row _ _ o _ _ HD.out.r2
  have f3 : ∀ o, wz.frozen? ⟨w.heap.size + 1 + 1 + 1, o, none⟩ = false := fun o => frozen_of_row _ _ o _ _ HD.out.r3
  have Q2 := Lib.hid HD.out.r2
  have Q3 := Lib.hid HD.out.r3
  clear HD HA HB
  go_region_with (fail)
  all_goals
    go_wp2_with fail
    generalize hwf : World.drew _ = wf
    have X2 : wf.heap[w.heap.size + 1 + 1]? = some (.cells (recC r.kind r.num r.low r.high r.real r.cap r.text (.slice A r.list.length c)) 25 (0, 0)) := by
      rw [← hwf, heap_drew]
      exact (ans_other (by omega)).trans (rec_stores Q2.out)
    have X3 : wf.heap[w.heap.size + 1 + 1 + 1]? = some (.cells (ansC xx.code xx.num xx.rc none 0) 82 (0, 0)) := by
      rw [← hwf, heap_drew]
      exact ans_all ((rec_stores_other (by omega)).trans Q3.out)
    have hk : Kp (S23 w) wz wf := by
      rw [← hwf]
      exact (kp10 (kp8g (Kp.refl _ _) (Or.inl (Or.inl rfl))) (Or.inl (Or.inr rfl))).drew
    have HP := Lib.hid (HF.out wf hk)
    have q2 := fun o => cell_of_row wf _ o _ _ (0, 0) X2
    have q3 := fun o => cell_of_row wf _ o _ _ (0, 0) X3
    clear hwf X2 X3 hk c0 c2 c3 c4 f2 f3
    exact bodyPost_ret (v := .tuple #[recV r A c, ansV xx.code xx.num xx.rc none 0]) (by simp [results, Tryz.results87, go_sem, q2, q3]) rfl HP.out
set_option maxHeartbeats 4000000 in
set_option maxRecDepth 100000 in
theorem do5_10no (r : RC.Rc) (key : ByteArray) (n : Int) (x : Nat) (s : ByteArray) (m : RC.Rc) (must : Bool) (A L : Option Addr) (c cl : Nat) (w : World) (hA : Its w A r.list) (hlt : r.high < wrap64 (r.num + n)) :
    Calls Tryz.prog 87 #[recV r A c, actV ⟨10, key, n, x, s, m, must⟩ L cl] w (D5Post r (RU.err 9) w) := by
  have HI := Lib.hid hA
  clear hA
  go_enter Tryz.func87, Tryz.ntmps87
  go_wp2_with fail
  generalize hwz : World.alloc _ _ = wz
  have HD := Lib.hid (show D5 w r A c (RU.err 9) none 0 wz by rw [← hwz]; exact D5.start r A c _ (RU.err 9) none 0 w)
  have HA := Lib.hid (HD.out.old HI.out)
  have HB := Lib.hid (show ∀ wf, Kp (S23 w) wz wf → Its wf none (RU.err 9).rc.list from D5.noL (w := w) (W := wz) none)
  clear hwz
  have HF := Lib.hid (D5.fin HD.out HA.out HB.out)
  generalize RU.err 9 = xx at *
  have c0 := fun o => cell_of_row wz _ o _ _ (0, 0) HD.out.r0
  have c2 := fun o => cell_of_row wz _ o _ _ (0, 0) HD.out.r2
  have c3 := fun o => cell_of_row wz _ o _ _ (0, 0) HD.out.r3
  have c4 := fun o => cell_of_row wz _ o _ _ (0, 0) HD.out.r4
  have f2 : ∀ o, wz.frozen? ⟨w.heap.size + 1 + 1, o, none⟩ = false := fun o => frozen_of_row _ _ o _ _ HD.out.r2
  have f3 : ∀ o, wz.frozen? ⟨w.heap.size + 1 + 1 + 1, o, none⟩ = false := fun o => frozen_of_row _ _ o _ _ HD.out.r3
  have Q2 := Lib.hid HD.out.r2
  have Q3 := Lib.hid HD.out.r3
  clear HD HA HB
  go_region_with (fail)
  all_goals
    go_wp2_with fail
    generalize hwf : World.drew _ = wf
    have X2 : wf.heap[w.heap.size + 1 + 1]? = some (.cells (recC r.kind r.num r.low r.high r.real r.cap r.text (.slice A r.list.length c)) 25 (0, 0)) := by
      rw [← hwf, heap_drew]
      exact (ans_other (by omega)).trans (rec_stores Q2.out)
    have X3 : wf.heap[w.heap.size + 1 + 1 + 1]? = some (.cells (ansC xx.code xx.num xx.rc none 0) 82 (0, 0)) := by
      rw [← hwf, heap_drew]
      exact ans_all ((rec_stores_other (by omega)).trans Q3.out)
    have hk : Kp (S23 w) wz wf := by
      rw [← hwf]
      exact (kp10 (kp8g (Kp.refl _ _) (Or.inl (Or.inl rfl))) (Or.inl (Or.inr rfl))).drew
    have HP := Lib.hid (HF.out wf hk)
    have q2 := fun o => cell_of_row wf _ o _ _ (0, 0) X2
    have q3 := fun o => cell_of_row wf _ o _ _ (0, 0) X3
    clear hwf X2 X3 hk c0 c2 c3 c4 f2 f3
    exact bodyPost_ret (v := .tuple #[recV r A c, ansV xx.code xx.num xx.rc none 0]) (by simp [results, Tryz.results87, go_sem, q2, q3]) rfl HP.out
set_option maxHeartbeats 4000000 in
set_option maxRecDepth 100000 in
theorem do5_10ok (r : RC.Rc) (key : ByteArray) (n : Int) (x : Nat) (s : ByteArray) (m : RC.Rc) (must : Bool) (A L : Option Addr) (c cl : Nat) (w : World) (hA : Its w A r.list) (hlt : ¬ r.high < wrap64 (r.num + n)) :
    Calls Tryz.prog 87 #[recV r A c, actV ⟨10, key, n, x, s, m, must⟩ L cl] w (D5Post { r with num := RU.w64 (r.num + n) } (RU.err 0) w) := by
  have HI := Lib.hid hA
  clear hA
  go_enter Tryz.func87, Tryz.ntmps87
  go_wp2_with fail
  generalize hwz : World.alloc _ _ = wz
  have HD := Lib.hid (show D5 w { r with num := RU.w64 (r.num + n) } A c (RU.err 0) none 0 wz by rw [← hwz]; exact D5.start { r with num := RU.w64 (r.num + n) } A c _ (RU.err 0) none 0 w)
  have HA := Lib.hid (HD.out.old HI.out)
  have HB := Lib.hid (show ∀ wf, Kp (S23 w) wz wf → Its wf none (RU.err 0).rc.list from D5.noL (w := w) (W := wz) none)
  clear hwz
  have HF := Lib.hid (D5.fin HD.out HA.out HB.out)
  generalize ({ r with num := RU.w64 (r.num + n) } : RC.Rc) = q at *
  generalize RU.err 0 = xx at *
  have c0 := fun o => cell_of_row wz _ o _ _ (0, 0) HD.out.r0
  have c2 := fun o => cell_of_row wz _ o _ _ (0, 0) HD.out.r2
  have c3 := fun o => cell_of_row wz _ o _ _ (0, 0) HD.out.r3
  have c4 := fun o => cell_of_row wz _ o _ _ (0, 0) HD.out.r4
  have f2 : ∀ o, wz.frozen? ⟨w.heap.size + 1 + 1, o, none⟩ = false := fun o => frozen_of_row _ _ o _ _ HD.out.r2
  have f3 : ∀ o, wz.frozen? ⟨w.heap.size + 1 + 1 + 1, o, none⟩ = false := fun o => frozen_of_row _ _ o _ _ HD.out.r3
  have Q2 := Lib.hid HD.out.r2
  have Q3 := Lib.hid HD.out.r3
  clear HD HA HB
  go_region_with (fail)
  all_goals
    go_wp2_with fail
    generalize hwf : World.drew _ = wf
    have X2 : wf.heap[w.heap.size + 1 + 1]? = some (.cells (recC q.kind q.num q.low q.high q.real q.cap q.text (.slice A q.list.length c)) 25 (0, 0)) := by
      rw [← hwf, heap_drew]
      exact (ans_other (by omega)).trans (rec_stores Q2.out)
    have X3 : wf.heap[w.heap.size + 1 + 1 + 1]? = some (.cells (ansC xx.code xx.num xx.rc none 0) 82 (0, 0)) := by
      rw [← hwf, heap_drew]
      exact ans_all ((rec_stores_other (by omega)).trans Q3.out)
    have hk : Kp (S23 w) wz wf := by
      rw [← hwf]
      exact (kp10 (kp8g (Kp.refl _ _) (Or.inl (Or.inl rfl))) (Or.inl (Or.inr rfl))).drew
    have HP := Lib.hid (HF.out wf hk)
    have q2 := fun o => cell_of_row wf _ o _ _ (0, 0) X2
    have q3 := fun o => cell_of_row wf _ o _ _ (0, 0) X3
    clear hwf X2 X3 hk c0 c2 c3 c4 f2 f3
    exact bodyPost_ret (v := .tuple #[recV q A c, ansV xx.code xx.num xx.rc none 0]) (by simp [results, Tryz.results87, go_sem, q2, q3]) rfl HP.out
set_option maxHeartbeats 4000000 in
set_option maxRecDepth 100000 in
theorem do5_11no (r : RC.Rc) (key : ByteArray) (n : Int) (x : Nat) (s : ByteArray) (m : RC.Rc) (must : Bool) (A L : Option Addr) (c cl : Nat) (w : World) (hA : Its w A r.list) (hlt : wrap64 (r.num - n) < r.low) :
    Calls Tryz.prog 87 #[recV r A c, actV ⟨11, key, n, x, s, m, must⟩ L cl] w (D5Post r (RU.err 10) w) := by
  have HI := Lib.hid hA
  clear hA
  go_enter Tryz.func87, Tryz.ntmps87
  go_wp2_with fail
  generalize hwz : World.alloc _ _ = wz
  have HD := Lib.hid (show D5 w r A c (RU.err 10) none 0 wz by rw [← hwz]; exact D5.start r A c _ (RU.err 10) none 0 w)
  have HA := Lib.hid (HD.out.old HI.out)
  have HB := Lib.hid (show ∀ wf, Kp (S23 w) wz wf → Its wf none (RU.err 10).rc.list from D5.noL (w := w) (W := wz) none)
  clear hwz
  have HF := Lib.hid (D5.fin HD.out HA.out HB.out)
  generalize RU.err 10 = xx at *
  have c0 := fun o => cell_of_row wz _ o _ _ (0, 0) HD.out.r0
  have c2 := fun o => cell_of_row wz _ o _ _ (0, 0) HD.out.r2
  have c3 := fun o => cell_of_row wz _ o _ _ (0, 0) HD.out.r3
  have c4 := fun o => cell_of_row wz _ o _ _ (0, 0) HD.out.r4
  have f2 : ∀ o, wz.frozen? ⟨w.heap.size + 1 + 1, o, none⟩ = false := fun o => frozen_of_row _ _ o _ _ HD.out.r2
  have f3 : ∀ o, wz.frozen? ⟨w.heap.size + 1 + 1 + 1, o, none⟩ = false := fun o => frozen_of_row _ _ o _ _ HD.out.r3
  have Q2 := Lib.hid HD.out.r2
  have Q3 := Lib.hid HD.out.r3
  clear HD HA HB
  go_region_with (fail)
  all_goals
    go_wp2_with fail
    generalize hwf : World.drew _ = wf
    have X2 : wf.heap[w.heap.size + 1 + 1]? = some (.cells (recC r.kind r.num r.low r.high r.real r.cap r.text (.slice A r.list.length c)) 25 (0, 0)) := by
      rw [← hwf, heap_drew]
      exact (ans_other (by omega)).trans (rec_stores Q2.out)
    have X3 : wf.heap[w.heap.size + 1 + 1 + 1]? = some (.cells (ansC xx.code xx.num xx.rc none 0) 82 (0, 0)) := by
      rw [← hwf, heap_drew]
      exact ans_all ((rec_stores_other (by omega)).trans Q3.out)
    have hk : Kp (S23 w) wz wf := by
      rw [← hwf]
      exact (kp10 (kp8g (Kp.refl _ _) (Or.inl (Or.inl rfl))) (Or.inl (Or.inr rfl))).drew
    have HP := Lib.hid (HF.out wf hk)
    have q2 := fun o => cell_of_row wf _ o _ _ (0, 0) X2
    have q3 := fun o => cell_of_row wf _ o _ _ (0, 0) X3
    clear hwf X2 X3 hk c0 c2 c3 c4 f2 f3
    exact bodyPost_ret (v := .tuple #[recV r A c, ansV xx.code xx.num xx.rc none 0]) (by simp [results, Tryz.results87, go_sem, q2, q3]) rfl HP.out
set_option maxHeartbeats 4000000 in
set_option maxRecDepth 100000 in
theorem do5_11ok (r : RC.Rc) (key : ByteArray) (n : Int) (x : Nat) (s : ByteArray) (m : RC.Rc) (must : Bool) (A L : Option Addr) (c cl : Nat) (w : World) (hA : Its w A r.list) (hlt : ¬ wrap64 (r.num - n) < r.low) :
    Calls Tryz.prog 87 #[recV r A c, actV ⟨11, key, n, x, s, m, must⟩ L cl] w (D5Post { r with num := RU.w64 (r.num - n) } (RU.err 0) w) := by
  have HI := Lib.hid hA
  clear hA
  go_enter Tryz.func87, Tryz.ntmps87
  go_wp2_with fail
  generalize hwz : World.alloc _ _ = wz
  have HD := Lib.hid (show D5 w { r with num := RU.w64 (r.num - n) } A c (RU.err 0) none 0 wz by rw [← hwz]; exact D5.start { r with num := RU.w64 (r.num - n) } A c _ (RU.err 0) none 0 w)
  have HA := Lib.hid (HD.out.old HI.out)
  have HB := Lib.hid (show ∀ wf, Kp (S23 w) wz wf → Its wf none (RU.err 0).rc.list from D5.noL (w := w) (W := wz) none)
  clear hwz
  have HF := Lib.hid (D5.fin HD.out HA.out HB.out)
  generalize ({ r with num := RU.w64 (r.num - n) } : RC.Rc) = q at *
  generalize RU.err 0 = xx at *
  have c0 := fun o => cell_of_row wz _ o _ _ (0, 0) HD.out.r0
  have c2 := fun o => cell_of_row wz _ o _ _ (0, 0) HD.out.r2
  have c3 := fun o => cell_of_row wz _ o _ _ (0, 0) HD.out.r3
  have c4 := fun o => cell_of_row wz _ o _ _ (0, 0) HD.out.r4
  have f2 : ∀ o, wz.frozen? ⟨w.heap.size + 1 + 1, o, none⟩ = false := fun o => frozen_of_row _ _ o _ _ HD.out.r2
  have f3 : ∀ o, wz.frozen? ⟨w.heap.size + 1 + 1 + 1, o, none⟩ = false := fun o => frozen_of_row _ _ o _ _ HD.out.r3
  have Q2 := Lib.hid HD.out.r2
  have Q3 := Lib.hid HD.out.r3
  clear HD HA HB
  go_region_with (fail)
  all_goals
    go_wp2_with fail
    generalize hwf : World.drew _ = wf
    have X2 : wf.heap[w.heap.size + 1 + 1]? = some (.cells (recC q.kind q.num q.low q.high q.real q.cap q.text (.slice A q.list.length c)) 25 (0, 0)) := by
      rw [← hwf, heap_drew]
      exact (ans_other (by omega)).trans (rec_stores Q2.out)
    have X3 : wf.heap[w.heap.size + 1 + 1 + 1]? = some (.cells (ansC xx.code xx.num xx.rc none 0) 82 (0, 0)) := by
      rw [← hwf, heap_drew]
      exact ans_all ((rec_stores_other (by omega)).trans Q3.out)
    have hk : Kp (S23 w) wz wf := by
      rw [← hwf]
      exact (kp10 (kp8g (Kp.refl _ _) (Or.inl (Or.inl rfl))) (Or.inl (Or.inr rfl))).drew
    have HP := Lib.hid (HF.out wf hk)
    have q2 := fun o => cell_of_row wf _ o _ _ (0, 0) X2
    have q3 := fun o => cell_of_row wf _ o _ _ (0, 0) X3
    clear hwf X2 X3 hk c0 c2 c3 c4 f2 f3
    exact bodyPost_ret (v := .tuple #[recV q A c, ansV xx.code xx.num xx.rc none 0]) (by simp [results, Tryz.results87, go_sem, q2, q3]) rfl HP.out
set_option maxHeartbeats 4000000 in
set_option maxRecDepth 100000 in
theorem do5_12no (r : RC.Rc) (key : ByteArray) (n : Int) (x : Nat) (s : ByteArray) (m : RC.Rc) (must : Bool) (A L : Option Addr) (c cl : Nat) (w : World) (hA : Its w A r.list) (hlt : r.num < n) :
    Calls Tryz.prog 87 #[recV r A c, actV ⟨12, key, n, x, s, m, must⟩ L cl] w (D5Post r (RU.err 11) w) := by
  have HI := Lib.hid hA
  clear hA
  go_enter Tryz.func87, Tryz.ntmps87
  go_wp2_with fail
  generalize hwz : World.alloc _ _ = wz
  have HD := Lib.hid (show D5 w r A c (RU.err 11) none 0 wz by rw [← hwz]; exact D5.start r A c _ (RU.err 11) none 0 w)
  have HA := Lib.hid (HD.out.old HI.out)
  have HB := Lib.hid (show ∀ wf, Kp (S23 w) wz wf → Its wf none (RU.err 11).rc.list from D5.noL (w := w) (W := wz) none)
  clear hwz
  have HF := Lib.hid (D5.fin HD.out HA.out HB.out)
  generalize RU.err 11 = xx at *
  have c0 := fun o => cell_of_row wz _ o _ _ (0, 0) HD.out.r0
  have c2 := fun o => cell_of_row wz _ o _ _ (0, 0) HD.out.r2
  have c3 := fun o => cell_of_row wz _ o _ _ (0, 0) HD.out.r3
  have c4 := fun o => cell_of_row wz _ o _ _ (0, 0) HD.out.r4
  have f2 : ∀ o, wz.frozen? ⟨w.heap.size + 1 + 1, o, none⟩ = false := fun o => frozen_of_row _ _ o _ _ HD.out.r2
  have f3 : ∀ o, wz.frozen? ⟨w.heap.size + 1 + 1 + 1, o, none⟩ = false := fun o => frozen_of_row _ _ o _ _ HD.out.r3
  have Q2 := Lib.hid HD.out.r2
  have Q3 := Lib.hid HD.out.r3
  clear HD HA HB
  go_region_with (fail)
  all_goals
    go_wp2_with fail
    generalize hwf : World.drew _ = wf
    have X2 : wf.heap[w.heap.size + 1 + 1]? = some (.cells (recC r.kind r.num r.low r.high r.real r.cap r.text (.slice A r.list.length c)) 25 (0, 0)) := by
      rw [← hwf, heap_drew]
      exact (ans_other (by omega)).trans (rec_stores Q2.out)
    have X3 : wf.heap[w.heap.size + 1 + 1 + 1]? = some (.cells (ansC xx.code xx.num xx.rc none 0) 82 (0, 0)) := by
      rw [← hwf, heap_drew]
      exact ans_all ((rec_stores_other (by omega)).trans Q3.out)
    have hk : Kp (S23 w) wz wf := by
      rw [← hwf]
      exact (kp10 (kp8g (Kp.refl _ _) (Or.inl (Or.inl rfl))) (Or.inl (Or.inr rfl))).drew
    have HP := Lib.hid (HF.out wf hk)
    have q2 := fun o => cell_of_row wf _ o _ _ (0, 0) X2
    have q3 := fun o => cell_of_row wf _ o _ _ (0, 0) X3
    clear hwf X2 X3 hk c0 c2 c3 c4 f2 f3
    exact bodyPost_ret (v := .tuple #[recV r A c, ansV xx.code xx.num xx.rc none 0]) (by simp [results, Tryz.results87, go_sem, q2, q3]) rfl HP.out
set_option maxHeartbeats 4000000 in
set_option maxRecDepth 100000 in
theorem do5_12ok (r : RC.Rc) (key : ByteArray) (n : Int) (x : Nat) (s : ByteArray) (m : RC.Rc) (must : Bool) (A L : Option Addr) (c cl : Nat) (w : World) (hA : Its w A r.list) (hlt : ¬ r.num < n) :
    Calls Tryz.prog 87 #[recV r A c, actV ⟨12, key, n, x, s, m, must⟩ L cl] w (D5Post r (RU.err 0) w) := by
  have HI := Lib.hid hA
  clear hA
  go_enter Tryz.func87, Tryz.ntmps87
  go_wp2_with fail
  generalize hwz : World.alloc _ _ = wz
  have HD := Lib.hid (show D5 w r A c (RU.err 0) none 0 wz by rw [← hwz]; exact D5.start r A c _ (RU.err 0) none 0 w)
  have HA := Lib.hid (HD.out.old HI.out)
  have HB := Lib.hid (show ∀ wf, Kp (S23 w) wz wf → Its wf none (RU.err 0).rc.list from D5.noL (w := w) (W := wz) none)
  clear hwz
  have HF := Lib.hid (D5.fin HD.out HA.out HB.out)
  generalize RU.err 0 = xx at *
  have c0 := fun o => cell_of_row wz _ o _ _ (0, 0) HD.out.r0
  have c2 := fun o => cell_of_row wz _ o _ _ (0, 0) HD.out.r2
  have c3 := fun o => cell_of_row wz _ o _ _ (0, 0) HD.out.r3
  have c4 := fun o => cell_of_row wz _ o _ _ (0, 0) HD.out.r4
  have f2 : ∀ o, wz.frozen? ⟨w.heap.size + 1 + 1, o, none⟩ = false := fun o => frozen_of_row _ _ o _ _ HD.out.r2
  have f3 : ∀ o, wz.frozen? ⟨w.heap.size + 1 + 1 + 1, o, none⟩ = false := fun o => frozen_of_row _ _ o _ _ HD.out.r3
  have Q2 := Lib.hid HD.out.r2
  have Q3 := Lib.hid HD.out.r3
  clear HD HA HB
  go_region_with (fail)
  all_goals
    go_wp2_with fail
    generalize hwf : World.drew _ = wf
    have X2 : wf.heap[w.heap.size + 1 + 1]? = some (.cells (recC r.kind r.num r.low r.high r.real r.cap r.text (.slice A r.list.length c)) 25 (0, 0)) := by
      rw [← hwf, heap_drew]
      exact (ans_other (by omega)).trans (rec_stores Q2.out)
    have X3 : wf.heap[w.heap.size + 1 + 1 + 1]? = some (.cells (ansC xx.code xx.num xx.rc none 0) 82 (0, 0)) := by
      rw [← hwf, heap_drew]
      exact ans_all ((rec_stores_other (by omega)).trans Q3.out)
    have hk : Kp (S23 w) wz wf := by
      rw [← hwf]
      exact (kp10 (kp8g (Kp.refl _ _) (Or.inl (Or.inl rfl))) (Or.inl (Or.inr rfl))).drew
    have HP := Lib.hid (HF.out wf hk)
    have q2 := fun o => cell_of_row wf _ o _ _ (0, 0) X2
    have q3 := fun o => cell_of_row wf _ o _ _ (0, 0) X3
    clear hwf X2 X3 hk c0 c2 c3 c4 f2 f3
    exact bodyPost_ret (v := .tuple #[recV r A c, ansV xx.code xx.num xx.rc none 0]) (by simp [results, Tryz.results87, go_sem, q2, q3]) rfl HP.out
set_option maxHeartbeats 4000000 in
set_option maxRecDepth 100000 in
theorem do5_17 (r : RC.Rc) (key : ByteArray) (n : Int) (x : Nat) (s : ByteArray) (m : RC.Rc) (must : Bool) (A L : Option Addr) (c cl : Nat) (w : World) (hA : Its w A r.list) :
    Calls Tryz.prog 87 #[recV r A c, actV ⟨17, key, n, x, s, m, must⟩ L cl] w (D5Post { r with real := x } (RU.err 0) w) := by
  have HI := Lib.hid hA
  clear hA
  go_enter Tryz.func87, Tryz.ntmps87
  go_wp2_with fail
  generalize hwz : World.alloc _ _ = wz
  have HD := Lib.hid (show D5 w { r with real := x } A c (RU.err 0) none 0 wz by rw [← hwz]; exact D5.start { r with real := x } A c _ (RU.err 0) none 0 w)
  have HA := Lib.hid (HD.out.old HI.out)
  have HB := Lib.hid (show ∀ wf, Kp (S23 w) wz wf → Its wf none (RU.err 0).rc.list from D5.noL (w := w) (W := wz) none)
  clear hwz
  have HF := Lib.hid (D5.fin HD.out HA.out HB.out)
  generalize ({ r with real := x } : RC.Rc) = q at *
  generalize RU.err 0 = xx at *
  have c0 := fun o => cell_of_row wz _ o _ _ (0, 0) HD.out.r0
  have c2 := fun o => cell_of_row wz _ o _ _ (0, 0) HD.out.r2
  have c3 := fun o => cell_of_row wz _ o _ _ (0, 0) HD.out.r3
  have c4 := fun o => cell_of_row wz _ o _ _ (0, 0) HD.out.r4
  have f2 : ∀ o, wz.frozen? ⟨w.heap.size + 1 + 1, o, none⟩ = false := fun o => frozen_of_row _ _ o _ _ HD.out.r2
  have f3 : ∀ o, wz.frozen? ⟨w.heap.size + 1 + 1 + 1, o, none⟩ = false := fun o => frozen_of_row _ _ o _ _ HD.out.r3
  have Q2 := Lib.hid HD.out.r2
  have Q3 := Lib.hid HD.out.r3
  clear HD HA HB
  go_region_with (fail)
  all_goals
    go_wp2_with fail
    generalize hwf : World.drew _ = wf
    have X2 : wf.heap[w.heap.size + 1 + 1]? = some (.cells (recC q.kind q.num q.low q.high q.real q.cap q.text (.slice A q.list.length c)) 25 (0, 0)) := by
      rw [← hwf, heap_drew]
      exact (ans_other (by omega)).trans (rec_stores Q2.out)
    have X3 : wf.heap[w.heap.size + 1 + 1 + 1]? = some (.cells (ansC xx.code xx.num xx.rc none 0) 82 (0, 0)) := by
      rw [← hwf, heap_drew]
      exact ans_all ((rec_stores_other (by omega)).trans Q3.out)
    have hk : Kp (S23 w) wz wf := by
      rw [← hwf]
      exact (kp10 (kp8g (Kp.refl _ _) (Or.inl (Or.inl rfl))) (Or.inl (Or.inr rfl))).drew
    have HP := Lib.hid (HF.out wf hk)
    have q2 := fun o => cell_of_row wf _ o _ _ (0, 0) X2
    have q3 := fun o => cell_of_row wf _ o _ _ (0, 0) X3
    clear hwf X2 X3 hk c0 c2 c3 c4 f2 f3
    exact bodyPost_ret (v := .tuple #[recV q A c, ansV xx.code xx.num xx.rc none 0]) (by simp [results, Tryz.results87, go_sem, q2, q3]) rfl HP.out
end Go.Proofs.YtbkcmnmbcldjoaaGreatDoor
