/- Contracts of the document's own answers for layer 5: what an act does, where others are called that only read. -/
import Derived.Test.YtlpecaldodganaaGreatDoorR5Aq
namespace Go.Proofs.YtlpecaldodganaaGreatDoor
open Go.RowKit MM
theorem below5 (w : World) (o1 o2 o3 o4 o5 : Obj) : Below w.heap.size w (((((w.alloc o1).alloc o2).alloc o3).alloc o4).alloc o5) := (below4 w o1 o2 o3 o4).alloc (by simp only [World.size_alloc]; omega) _
set_option maxHeartbeats 1000000 in
set_option maxRecDepth 100000 in
theorem rplace1_any (x : Nat) (w : World) (hx : MF.W64 x) :
    Calls Tryz.prog 132 #[.float .f64 x] w fun e w' => e = .returned (.int .u64 (MF.key x : Nat)) ∧ w = w' := by
  cases hn : MF.nan x
  · have Hk := Lib.hid (MF.key_num hx hn)
    rcases MF.parts hx with ⟨h1, h2, h3⟩ | ⟨h1, h2, h3⟩
    · have He := Lib.hid (show MF.key x = 9223372036854775808 + x by rw [Hk.out, h1]; simp; omega)
      have hge : decide ((9223372036854775808 : Int) ≤ (x : Int)) = false := by simp; omega
      have H3 := Lib.hid h3
      clear Hk h1 h2 h3
      go_enter Tryz.func132, Tryz.ntmps132
      go_wp2_with (first | (go_at_call 120; refine (rnone_any x _ _ hn).mono ?_; rintro e w' ⟨rfl, rfl⟩))
      go_ret
      exact ⟨ret_int (by rw [IntKind.wrap_u64, He.out]; have := H3.out; omega), rfl⟩
    · have He := Lib.hid (show MF.key x = 9223372036854775807 - (x - 9223372036854775808) by rw [Hk.out, h1]; simp; omega)
      have hge : decide ((9223372036854775808 : Int) ≤ (x : Int)) = true := by simp; omega
      have H3 := Lib.hid h3
      clear Hk h1 h2 h3
      go_enter Tryz.func132, Tryz.ntmps132
      go_wp2_with (first | (go_at_call 120; refine (rnone_any x _ _ hn).mono ?_; rintro e w' ⟨rfl, rfl⟩))
      go_ret
      exact ⟨ret_int (by rw [IntKind.wrap_u64, IntKind.wrap_u64, He.out]; have := H3.out; unfold MF.W64 at hx; omega), rfl⟩
  · have Hk := Lib.hid (MF.key_nan hn)
    go_enter Tryz.func132, Tryz.ntmps132
    go_wp2_with (first | (go_at_call 120; refine (rnone_any x _ _ hn).mono ?_; rintro e w' ⟨rfl, rfl⟩))
    go_ret
    exact ⟨ret_nat (m := 18444492273895866369) rfl Hk.out, rfl⟩
set_option maxHeartbeats 1000000 in
set_option maxRecDepth 100000 in
theorem rnumber1_any (k : Nat) (w : World) (hk : MF.W64 k) :
    Calls Tryz.prog 131 #[.int .u64 k] w fun e w' => e = .returned (.float .f64 (MF.bk k)) ∧ w = w' := by
  by_cases h : k < 9223372036854775808
  · have He := Lib.hid (show MF.bk k = 18446744073709551615 - k by unfold MF.bk; rw [if_pos h])
    have hge : decide ((9223372036854775808 : Int) ≤ (k : Int)) = false := by simp; omega
    have H := Lib.hid h
    clear h
    go_enter Tryz.func131, Tryz.ntmps131
    go_wp2_with fail
    go_ret
    exact ⟨ret_flo (by rw [IntKind.wrap_u64, IntKind.wrap_u64, He.out]; have := H.out; omega), rfl⟩
  · have He := Lib.hid (show MF.bk k = k - 9223372036854775808 by unfold MF.bk; rw [if_neg h])
    have hge : decide ((9223372036854775808 : Int) ≤ (k : Int)) = true := by simp; omega
    have H := Lib.hid h
    clear h
    go_enter Tryz.func131, Tryz.ntmps131
    go_wp2_with fail
    go_ret
    exact ⟨ret_flo (by rw [IntKind.wrap_u64, He.out]; have := H.out; unfold MF.W64 at hk; omega), rfl⟩
set_option maxHeartbeats 4000000 in
set_option maxRecDepth 100000 in
theorem do5_8no (r : RC.Rc) (key : ByteArray) (n : Int) (x : Nat) (s : ByteArray) (m : RC.Rc) (must : Bool) (A L : Option Addr) (c cl : Nat) (w : World) (hA : Its w A r.list) (hov : RU.overN r.num n = true) :
    Calls Tryz.prog 103 #[recV r A c, actV ⟨8, key, n, x, s, m, must⟩ L cl] w (D5Post r (RU.err 9) w) := by
  have HI := Lib.hid hA
  clear hA
  go_enter Tryz.func103, Tryz.ntmps103
  go_wp2_with (first
    | (go_at_call 130; refine (over_any _ _ _).mono ?_; rintro e w' ⟨rfl, rfl⟩))
  generalize hwz : World.alloc _ _ = wz
  have HD := Lib.hid (show D5 w r A c (RU.err 9) none 0 wz by rw [← hwz]; exact D5.start r A c _ (RU.err 9) none 0 w)
  have HA := Lib.hid (HD.out.old HI.out)
  have HB := Lib.hid (show ∀ wf, Kp (S23 w) wz wf → Its wf none (RU.err 9).rc.list from D5.noL (w := w) (W := wz) none)
  clear hwz
  have HF := Lib.hid (D5.fin HD.out HA.out HB.out)
  generalize RU.err 9 = xx at *
  have c0 := fun o => cell_of_row wz _ o _ _ (0, 0) HD.out.r0
  have c2 := fun o => cell_of_row wz _ o _ _ (0, 0) HD.out.r2
  have c3 := fun o => cell_of_row wz _ o _ _ (0, 0) HD.out.r3
  have c4 := fun o => cell_of_row wz _ o _ _ (0, 0) HD.out.r4
  have f2 : ∀ o, wz.frozen? ⟨w.heap.size + 1 + 1, o, none⟩ = false := fun o => frozen_of_row _ _ o _ _ HD.out.r2
  have f3 : ∀ o, wz.frozen? ⟨w.heap.size + 1 + 1 + 1, o, none⟩ = false := fun o => frozen_of_row _ _ o _ _ HD.out.r3
  have Q2 := Lib.hid HD.out.r2
  have Q3 := Lib.hid HD.out.r3
  clear HD HA HB
  go_region_with (fail)
  all_goals
    go_wp2_with fail
    generalize hwf : World.drew _ = wf
    have X2 : wf.heap[w.heap.size + 1 + 1]? = some (.cells (recC r.kind r.num r.low r.high r.real r.cap r.text (.slice A r.list.length c)) 25 (0, 0)) := by
      rw [← hwf, heap_drew]
      exact (ans_other (by omega)).trans (rec_stores Q2.out)
    have X3 : wf.heap[w.heap.size + 1 + 1 + 1]? = some (.cells (ansC xx.code xx.num xx.rc none 0) 49 (0, 0)) := by
      rw [← hwf, heap_drew]
      exact ans_all ((rec_stores_other (by omega)).trans Q3.out)
    have hk : Kp (S23 w) wz wf := by
      rw [← hwf]
      exact (kp10 (kp8g (Kp.refl _ _) (Or.inl (Or.inl rfl))) (Or.inl (Or.inr rfl))).drew
    have HP := Lib.hid (HF.out wf hk)
    have q2 := fun o => cell_of_row wf _ o _ _ (0, 0) X2
    have q3 := fun o => cell_of_row wf _ o _ _ (0, 0) X3
    clear hwf X2 X3 hk c0 c2 c3 c4 f2 f3
    exact bodyPost_ret (v := .tuple #[recV r A c, ansV xx.code xx.num xx.rc none 0]) (by simp [results, Tryz.results103, go_sem, q2, q3]) rfl HP.out
set_option maxHeartbeats 4000000 in
set_option maxRecDepth 100000 in
theorem do5_8ok (r : RC.Rc) (key : ByteArray) (n : Int) (x : Nat) (s : ByteArray) (m : RC.Rc) (must : Bool) (A L : Option Addr) (c cl : Nat) (w : World) (hA : Its w A r.list) (hov : RU.overN r.num n = false) :
    Calls Tryz.prog 103 #[recV r A c, actV ⟨8, key, n, x, s, m, must⟩ L cl] w (D5Post { r with num := RU.w64 (r.num + n) } (RU.err 0) w) := by
  have HI := Lib.hid hA
  clear hA
  go_enter Tryz.func103, Tryz.ntmps103
  go_wp2_with (first
    | (go_at_call 130; refine (over_any _ _ _).mono ?_; rintro e w' ⟨rfl, rfl⟩))
  generalize hwz : World.alloc _ _ = wz
  have HD := Lib.hid (show D5 w { r with num := RU.w64 (r.num + n) } A c (RU.err 0) none 0 wz by rw [← hwz]; exact D5.start { r with num := RU.w64 (r.num + n) } A c _ (RU.err 0) none 0 w)
  have HA := Lib.hid (HD.out.old HI.out)
  have HB := Lib.hid (show ∀ wf, Kp (S23 w) wz wf → Its wf none (RU.err 0).rc.list from D5.noL (w := w) (W := wz) none)
  clear hwz
  have HF := Lib.hid (D5.fin HD.out HA.out HB.out)
  generalize ({ r with num := RU.w64 (r.num + n) } : RC.Rc) = q at *
  generalize RU.err 0 = xx at *
  have c0 := fun o => cell_of_row wz _ o _ _ (0, 0) HD.out.r0
  have c2 := fun o => cell_of_row wz _ o _ _ (0, 0) HD.out.r2
  have c3 := fun o => cell_of_row wz _ o _ _ (0, 0) HD.out.r3
  have c4 := fun o => cell_of_row wz _ o _ _ (0, 0) HD.out.r4
  have f2 : ∀ o, wz.frozen? ⟨w.heap.size + 1 + 1, o, none⟩ = false := fun o => frozen_of_row _ _ o _ _ HD.out.r2
  have f3 : ∀ o, wz.frozen? ⟨w.heap.size + 1 + 1 + 1, o, none⟩ = false := fun o => frozen_of_row _ _ o _ _ HD.out.r3
  have Q2 := Lib.hid HD.out.r2
  have Q3 := Lib.hid HD.out.r3
  clear HD HA HB
  go_region_with (fail)
  all_goals
    go_wp2_with fail
    generalize hwf : World.drew _ = wf
    have X2 : wf.heap[w.heap.size + 1 + 1]? = some (.cells (recC q.kind q.num q.low q.high q.real q.cap q.text (.slice A q.list.length c)) 25 (0, 0)) := by
      rw [← hwf, heap_drew]
      exact (ans_other (by omega)).trans (rec_stores Q2.out)
    have X3 : wf.heap[w.heap.size + 1 + 1 + 1]? = some (.cells (ansC xx.code xx.num xx.rc none 0) 49 (0, 0)) := by
      rw [← hwf, heap_drew]
      exact ans_all ((rec_stores_other (by omega)).trans Q3.out)
    have hk : Kp (S23 w) wz wf := by
      rw [← hwf]
      exact (kp10 (kp8g (Kp.refl _ _) (Or.inl (Or.inl rfl))) (Or.inl (Or.inr rfl))).drew
    have HP := Lib.hid (HF.out wf hk)
    have q2 := fun o => cell_of_row wf _ o _ _ (0, 0) X2
    have q3 := fun o => cell_of_row wf _ o _ _ (0, 0) X3
    clear hwf X2 X3 hk c0 c2 c3 c4 f2 f3
    exact bodyPost_ret (v := .tuple #[recV q A c, ansV xx.code xx.num xx.rc none 0]) (by simp [results, Tryz.results103, go_sem, q2, q3]) rfl HP.out
set_option maxHeartbeats 4000000 in
set_option maxRecDepth 100000 in
theorem do5_13 (r : RC.Rc) (key : ByteArray) (n : Int) (x : Nat) (s : ByteArray) (m : RC.Rc) (must : Bool) (A L : Option Addr) (c cl : Nat) (w : World) (hA : Its w A r.list) (hw : MF.W64 r.real) (hx : MF.W64 x) (hp : MF.proper r.real = true) (hq : MF.proper x = true) :
    Calls Tryz.prog 103 #[recV r A c, actV ⟨13, key, n, x, s, m, must⟩ L cl] w (D5Post { r with real := MF.mx r.real x } (RU.err 0) w) := by
  have Hm : MF.rmx r.real x = MF.mx r.real x := by unfold MF.rmx MF.mx; rw [RC.proper_eq hp, RC.proper_eq hq]
  rw [← Hm]
  clear Hm
  have HI := Lib.hid hA
  clear hA
  go_enter Tryz.func103, Tryz.ntmps103
  go_wp2_with (first
    | (go_at_call 74; refine (rmax_any _ _ _ hw hx).mono ?_; rintro e w' ⟨rfl, rfl⟩))
  generalize hwz : World.alloc _ _ = wz
  have HD := Lib.hid (show D5 w { r with real := MF.rmx r.real x } A c (RU.err 0) none 0 wz by rw [← hwz]; exact D5.start { r with real := MF.rmx r.real x } A c _ (RU.err 0) none 0 w)
  have HA := Lib.hid (HD.out.old HI.out)
  have HB := Lib.hid (show ∀ wf, Kp (S23 w) wz wf → Its wf none (RU.err 0).rc.list from D5.noL (w := w) (W := wz) none)
  clear hwz
  have HF := Lib.hid (D5.fin HD.out HA.out HB.out)
  generalize ({ r with real := MF.rmx r.real x } : RC.Rc) = q at *
  generalize RU.err 0 = xx at *
  have c0 := fun o => cell_of_row wz _ o _ _ (0, 0) HD.out.r0
  have c2 := fun o => cell_of_row wz _ o _ _ (0, 0) HD.out.r2
  have c3 := fun o => cell_of_row wz _ o _ _ (0, 0) HD.out.r3
  have c4 := fun o => cell_of_row wz _ o _ _ (0, 0) HD.out.r4
  have f2 : ∀ o, wz.frozen? ⟨w.heap.size + 1 + 1, o, none⟩ = false := fun o => frozen_of_row _ _ o _ _ HD.out.r2
  have f3 : ∀ o, wz.frozen? ⟨w.heap.size + 1 + 1 + 1, o, none⟩ = false := fun o => frozen_of_row _ _ o _ _ HD.out.r3
  have Q2 := Lib.hid HD.out.r2
  have Q3 := Lib.hid HD.out.r3
  clear HD HA HB
  go_region_with (fail)
  all_goals
    go_wp2_with fail
    generalize hwf : World.drew _ = wf
    have X2 : wf.heap[w.heap.size + 1 + 1]? = some (.cells (recC q.kind q.num q.low q.high q.real q.cap q.text (.slice A q.list.length c)) 25 (0, 0)) := by
      rw [← hwf, heap_drew]
      exact (ans_other (by omega)).trans (rec_stores Q2.out)
    have X3 : wf.heap[w.heap.size + 1 + 1 + 1]? = some (.cells (ansC xx.code xx.num xx.rc none 0) 49 (0, 0)) := by
      rw [← hwf, heap_drew]
      exact ans_all ((rec_stores_other (by omega)).trans Q3.out)
    have hk : Kp (S23 w) wz wf := by
      rw [← hwf]
      exact (kp10 (kp8g (Kp.refl _ _) (Or.inl (Or.inl rfl))) (Or.inl (Or.inr rfl))).drew
    have HP := Lib.hid (HF.out wf hk)
    have q2 := fun o => cell_of_row wf _ o _ _ (0, 0) X2
    have q3 := fun o => cell_of_row wf _ o _ _ (0, 0) X3
    clear hwf X2 X3 hk c0 c2 c3 c4 f2 f3
    exact bodyPost_ret (v := .tuple #[recV q A c, ansV xx.code xx.num xx.rc none 0]) (by simp [results, Tryz.results103, go_sem, q2, q3]) rfl HP.out
set_option maxHeartbeats 4000000 in
set_option maxRecDepth 100000 in
theorem do5_14 (r : RC.Rc) (key : ByteArray) (n : Int) (x : Nat) (s : ByteArray) (m : RC.Rc) (must : Bool) (A L : Option Addr) (c cl : Nat) (w : World) (hA : Its w A r.list) (hw : MF.W64 r.real) (hx : MF.W64 x) (hp : MF.proper r.real = true) (hq : MF.proper x = true) :
    Calls Tryz.prog 103 #[recV r A c, actV ⟨14, key, n, x, s, m, must⟩ L cl] w (D5Post { r with real := MF.mn r.real x } (RU.err 0) w) := by
  have Hm : MF.rmn r.real x = MF.mn r.real x := by unfold MF.rmn MF.mn; rw [RC.proper_eq hp, RC.proper_eq hq]
  rw [← Hm]
  clear Hm
  have HI := Lib.hid hA
  clear hA
  go_enter Tryz.func103, Tryz.ntmps103
  go_wp2_with (first
    | (go_at_call 75; refine (rmin_any _ _ _ hw hx).mono ?_; rintro e w' ⟨rfl, rfl⟩))
  generalize hwz : World.alloc _ _ = wz
  have HD := Lib.hid (show D5 w { r with real := MF.rmn r.real x } A c (RU.err 0) none 0 wz by rw [← hwz]; exact D5.start { r with real := MF.rmn r.real x } A c _ (RU.err 0) none 0 w)
  have HA := Lib.hid (HD.out.old HI.out)
  have HB := Lib.hid (show ∀ wf, Kp (S23 w) wz wf → Its wf none (RU.err 0).rc.list from D5.noL (w := w) (W := wz) none)
  clear hwz
  have HF := Lib.hid (D5.fin HD.out HA.out HB.out)
  generalize ({ r with real := MF.rmn r.real x } : RC.Rc) = q at *
  generalize RU.err 0 = xx at *
  have c0 := fun o => cell_of_row wz _ o _ _ (0, 0) HD.out.r0
  have c2 := fun o => cell_of_row wz _ o _ _ (0, 0) HD.out.r2
  have c3 := fun o => cell_of_row wz _ o _ _ (0, 0) HD.out.r3
  have c4 := fun o => cell_of_row wz _ o _ _ (0, 0) HD.out.r4
  have f2 : ∀ o, wz.frozen? ⟨w.heap.size + 1 + 1, o, none⟩ = false := fun o => frozen_of_row _ _ o _ _ HD.out.r2
  have f3 : ∀ o, wz.frozen? ⟨w.heap.size + 1 + 1 + 1, o, none⟩ = false := fun o => frozen_of_row _ _ o _ _ HD.out.r3
  have Q2 := Lib.hid HD.out.r2
  have Q3 := Lib.hid HD.out.r3
  clear HD HA HB
  go_region_with (fail)
  all_goals
    go_wp2_with fail
    generalize hwf : World.drew _ = wf
    have X2 : wf.heap[w.heap.size + 1 + 1]? = some (.cells (recC q.kind q.num q.low q.high q.real q.cap q.text (.slice A q.list.length c)) 25 (0, 0)) := by
      rw [← hwf, heap_drew]
      exact (ans_other (by omega)).trans (rec_stores Q2.out)
    have X3 : wf.heap[w.heap.size + 1 + 1 + 1]? = some (.cells (ansC xx.code xx.num xx.rc none 0) 49 (0, 0)) := by
      rw [← hwf, heap_drew]
      exact ans_all ((rec_stores_other (by omega)).trans Q3.out)
    have hk : Kp (S23 w) wz wf := by
      rw [← hwf]
      exact (kp10 (kp8g (Kp.refl _ _) (Or.inl (Or.inl rfl))) (Or.inl (Or.inr rfl))).drew
    have HP := Lib.hid (HF.out wf hk)
    have q2 := fun o => cell_of_row wf _ o _ _ (0, 0) X2
    have q3 := fun o => cell_of_row wf _ o _ _ (0, 0) X3
    clear hwf X2 X3 hk c0 c2 c3 c4 f2 f3
    exact bodyPost_ret (v := .tuple #[recV q A c, ansV xx.code xx.num xx.rc none 0]) (by simp [results, Tryz.results103, go_sem, q2, q3]) rfl HP.out
set_option maxHeartbeats 4000000 in
set_option maxRecDepth 100000 in
theorem do5_15some (r : RC.Rc) (key : ByteArray) (n : Int) (x : Nat) (s : ByteArray) (m : RC.Rc) (must : Bool) (A L : Option Addr) (c cl : Nat) (w : World) (hA : Its w A r.list) (z : Nat) (hz : MF.W64 z) (hs : Ieee.double.add r.real x = some z) :
    Calls Tryz.prog 103 #[recV r A c, actV ⟨15, key, n, x, s, m, must⟩ L cl] w (D5Post { r with real := MF.plus r.real x } (RU.err 0) w) := by
  have hr := fun w => run_float_arith (P := Tryz.prog) w .add 22 .f64 r.real x z hs
  have Hm : MF.bk (MF.key z) = MF.plus r.real x := by rw [MF.bk_key hz]; unfold MF.plus; rw [hs]; rfl
  rw [← Hm]
  have hkz : MF.W64 (MF.key z) := MF.w_key hz
  clear hs Hm
  have HI := Lib.hid hA
  clear hA
  go_enter Tryz.func103, Tryz.ntmps103
  go_wp2_with (first
    | (go_at_call 132; refine (rplace1_any _ _ hz).mono ?_; rintro e w' ⟨rfl, rfl⟩)
    | (go_at_call 131; refine (rnumber1_any _ _ hkz).mono ?_; rintro e w' ⟨rfl, rfl⟩))
  generalize hwz : World.alloc _ _ = wz
  have HD := Lib.hid (show D5 w { r with real := MF.bk (MF.key z) } A c (RU.err 0) none 0 wz by rw [← hwz]; exact D5.start { r with real := MF.bk (MF.key z) } A c _ (RU.err 0) none 0 w)
  have HA := Lib.hid (HD.out.old HI.out)
  have HB := Lib.hid (show ∀ wf, Kp (S23 w) wz wf → Its wf none (RU.err 0).rc.list from D5.noL (w := w) (W := wz) none)
  clear hwz
  have HF := Lib.hid (D5.fin HD.out HA.out HB.out)
  generalize ({ r with real := MF.bk (MF.key z) } : RC.Rc) = q at *
  generalize RU.err 0 = xx at *
  have c0 := fun o => cell_of_row wz _ o _ _ (0, 0) HD.out.r0
  have c2 := fun o => cell_of_row wz _ o _ _ (0, 0) HD.out.r2
  have c3 := fun o => cell_of_row wz _ o _ _ (0, 0) HD.out.r3
  have c4 := fun o => cell_of_row wz _ o _ _ (0, 0) HD.out.r4
  have f2 : ∀ o, wz.frozen? ⟨w.heap.size + 1 + 1, o, none⟩ = false := fun o => frozen_of_row _ _ o _ _ HD.out.r2
  have f3 : ∀ o, wz.frozen? ⟨w.heap.size + 1 + 1 + 1, o, none⟩ = false := fun o => frozen_of_row _ _ o _ _ HD.out.r3
  have Q2 := Lib.hid HD.out.r2
  have Q3 := Lib.hid HD.out.r3
  clear HD HA HB
  go_region_with (fail)
  all_goals
    go_wp2_with fail
    generalize hwf : World.drew _ = wf
    have X2 : wf.heap[w.heap.size + 1 + 1]? = some (.cells (recC q.kind q.num q.low q.high q.real q.cap q.text (.slice A q.list.length c)) 25 (0, 0)) := by
      rw [← hwf, heap_drew]
      exact (ans_other (by omega)).trans (rec_stores Q2.out)
    have X3 : wf.heap[w.heap.size + 1 + 1 + 1]? = some (.cells (ansC xx.code xx.num xx.rc none 0) 49 (0, 0)) := by
      rw [← hwf, heap_drew]
      exact ans_all ((rec_stores_other (by omega)).trans Q3.out)
    have hk : Kp (S23 w) wz wf := by
      rw [← hwf]
      exact (kp10 (kp8g (Kp.refl _ _) (Or.inl (Or.inl rfl))) (Or.inl (Or.inr rfl))).drew
    have HP := Lib.hid (HF.out wf hk)
    have q2 := fun o => cell_of_row wf _ o _ _ (0, 0) X2
    have q3 := fun o => cell_of_row wf _ o _ _ (0, 0) X3
    clear hwf X2 X3 hk c0 c2 c3 c4 f2 f3
    exact bodyPost_ret (v := .tuple #[recV q A c, ansV xx.code xx.num xx.rc none 0]) (by simp [results, Tryz.results103, go_sem, q2, q3]) rfl HP.out
set_option maxHeartbeats 4000000 in
set_option maxRecDepth 100000 in
theorem do5_16some (r : RC.Rc) (key : ByteArray) (n : Int) (x : Nat) (s : ByteArray) (m : RC.Rc) (must : Bool) (A L : Option Addr) (c cl : Nat) (w : World) (hA : Its w A r.list) (z : Nat) (hz : MF.W64 z) (hs : Ieee.double.mul r.real x = some z) :
    Calls Tryz.prog 103 #[recV r A c, actV ⟨16, key, n, x, s, m, must⟩ L cl] w (D5Post { r with real := MF.times r.real x } (RU.err 0) w) := by
  have hr := fun w => run_float_arith (P := Tryz.prog) w .mul 22 .f64 r.real x z hs
  have Hm : MF.bk (MF.key z) = MF.times r.real x := by rw [MF.bk_key hz]; unfold MF.times; rw [hs]; rfl
  rw [← Hm]
  have hkz : MF.W64 (MF.key z) := MF.w_key hz
  clear hs Hm
  have HI := Lib.hid hA
  clear hA
  go_enter Tryz.func103, Tryz.ntmps103
  go_wp2_with (first
    | (go_at_call 132; refine (rplace1_any _ _ hz).mono ?_; rintro e w' ⟨rfl, rfl⟩)
    | (go_at_call 131; refine (rnumber1_any _ _ hkz).mono ?_; rintro e w' ⟨rfl, rfl⟩))
  generalize hwz : World.alloc _ _ = wz
  have HD := Lib.hid (show D5 w { r with real := MF.bk (MF.key z) } A c (RU.err 0) none 0 wz by rw [← hwz]; exact D5.start { r with real := MF.bk (MF.key z) } A c _ (RU.err 0) none 0 w)
  have HA := Lib.hid (HD.out.old HI.out)
  have HB := Lib.hid (show ∀ wf, Kp (S23 w) wz wf → Its wf none (RU.err 0).rc.list from D5.noL (w := w) (W := wz) none)
  clear hwz
  have HF := Lib.hid (D5.fin HD.out HA.out HB.out)
  generalize ({ r with real := MF.bk (MF.key z) } : RC.Rc) = q at *
  generalize RU.err 0 = xx at *
  have c0 := fun o => cell_of_row wz _ o _ _ (0, 0) HD.out.r0
  have c2 := fun o => cell_of_row wz _ o _ _ (0, 0) HD.out.r2
  have c3 := fun o => cell_of_row wz _ o _ _ (0, 0) HD.out.r3
  have c4 := fun o => cell_of_row wz _ o _ _ (0, 0) HD.out.r4
  have f2 : ∀ o, wz.frozen? ⟨w.heap.size + 1 + 1, o, none⟩ = false := fun o => frozen_of_row _ _ o _ _ HD.out.r2
  have f3 : ∀ o, wz.frozen? ⟨w.heap.size + 1 + 1 + 1, o, none⟩ = false := fun o => frozen_of_row _ _ o _ _ HD.out.r3
  have Q2 := Lib.hid HD.out.r2
  have Q3 := Lib.hid HD.out.r3
  clear HD HA HB
  go_region_with (fail)
  all_goals
    go_wp2_with fail
    generalize hwf : World.drew _ = wf
    have X2 : wf.heap[w.heap.size + 1 + 1]? = some (.cells (recC q.kind q.num q.low q.high q.real q.cap q.text (.slice A q.list.length c)) 25 (0, 0)) := by
      rw [← hwf, heap_drew]
      exact (ans_other (by omega)).trans (rec_stores Q2.out)
    have X3 : wf.heap[w.heap.size + 1 + 1 + 1]? = some (.cells (ansC xx.code xx.num xx.rc none 0) 49 (0, 0)) := by
      rw [← hwf, heap_drew]
      exact ans_all ((rec_stores_other (by omega)).trans Q3.out)
    have hk : Kp (S23 w) wz wf := by
      rw [← hwf]
      exact (kp10 (kp8g (Kp.refl _ _) (Or.inl (Or.inl rfl))) (Or.inl (Or.inr rfl))).drew
    have HP := Lib.hid (HF.out wf hk)
    have q2 := fun o => cell_of_row wf _ o _ _ (0, 0) X2
    have q3 := fun o => cell_of_row wf _ o _ _ (0, 0) X3
    clear hwf X2 X3 hk c0 c2 c3 c4 f2 f3
    exact bodyPost_ret (v := .tuple #[recV q A c, ansV xx.code xx.num xx.rc none 0]) (by simp [results, Tryz.results103, go_sem, q2, q3]) rfl HP.out
set_option maxHeartbeats 4000000 in
set_option maxRecDepth 100000 in
theorem do5_20no (r : RC.Rc) (key : ByteArray) (n : Int) (x : Nat) (s : ByteArray) (m : RC.Rc) (must : Bool) (A L : Option Addr) (c cl : Nat) (w : World) (hA : Its w A r.list) (hn : Lim r.list.length) (hov : RU.hasN r.list s = false) :
    Calls Tryz.prog 103 #[recV r A c, actV ⟨20, key, n, x, s, m, must⟩ L cl] w (D5Post r (RU.err 11) w) := by
  have HI := Lib.hid hA
  clear hA
  go_enter Tryz.func103, Tryz.ntmps103
  go_wp2_with (first
    | (go_at_call 133; refine (has5_any r.list s A c _ (HI.out.below (below5 w _ _ _ _ _)) hn).mono ?_; rintro e w' ⟨rfl, rfl⟩))
  generalize hwz : World.alloc _ _ = wz
  have HD := Lib.hid (show D5 w r A c (RU.err 11) none 0 wz by rw [← hwz]; exact D5.start r A c _ (RU.err 11) none 0 w)
  have HA := Lib.hid (HD.out.old HI.out)
  have HB := Lib.hid (show ∀ wf, Kp (S23 w) wz wf → Its wf none (RU.err 11).rc.list from D5.noL (w := w) (W := wz) none)
  clear hwz
  have HF := Lib.hid (D5.fin HD.out HA.out HB.out)
  generalize RU.err 11 = xx at *
  have c0 := fun o => cell_of_row wz _ o _ _ (0, 0) HD.out.r0
  have c2 := fun o => cell_of_row wz _ o _ _ (0, 0) HD.out.r2
  have c3 := fun o => cell_of_row wz _ o _ _ (0, 0) HD.out.r3
  have c4 := fun o => cell_of_row wz _ o _ _ (0, 0) HD.out.r4
  have f2 : ∀ o, wz.frozen? ⟨w.heap.size + 1 + 1, o, none⟩ = false := fun o => frozen_of_row _ _ o _ _ HD.out.r2
  have f3 : ∀ o, wz.frozen? ⟨w.heap.size + 1 + 1 + 1, o, none⟩ = false := fun o => frozen_of_row _ _ o _ _ HD.out.r3
  have Q2 := Lib.hid HD.out.r2
  have Q3 := Lib.hid HD.out.r3
  clear HD HA HB
  go_region_with (fail)
  all_goals
    go_wp2_with fail
    generalize hwf : World.drew _ = wf
    have X2 : wf.heap[w.heap.size + 1 + 1]? = some (.cells (recC r.kind r.num r.low r.high r.real r.cap r.text (.slice A r.list.length c)) 25 (0, 0)) := by
      rw [← hwf, heap_drew]
      exact (ans_other (by omega)).trans (rec_stores Q2.out)
    have X3 : wf.heap[w.heap.size + 1 + 1 + 1]? = some (.cells (ansC xx.code xx.num xx.rc none 0) 49 (0, 0)) := by
      rw [← hwf, heap_drew]
      exact ans_all ((rec_stores_other (by omega)).trans Q3.out)
    have hk : Kp (S23 w) wz wf := by
      rw [← hwf]
      exact (kp10 (kp8g (Kp.refl _ _) (Or.inl (Or.inl rfl))) (Or.inl (Or.inr rfl))).drew
    have HP := Lib.hid (HF.out wf hk)
    have q2 := fun o => cell_of_row wf _ o _ _ (0, 0) X2
    have q3 := fun o => cell_of_row wf _ o _ _ (0, 0) X3
    clear hwf X2 X3 hk c0 c2 c3 c4 f2 f3
    exact bodyPost_ret (v := .tuple #[recV r A c, ansV xx.code xx.num xx.rc none 0]) (by simp [results, Tryz.results103, go_sem, q2, q3]) rfl HP.out
set_option maxHeartbeats 4000000 in
set_option maxRecDepth 100000 in
theorem do5_20ok (r : RC.Rc) (key : ByteArray) (n : Int) (x : Nat) (s : ByteArray) (m : RC.Rc) (must : Bool) (A L : Option Addr) (c cl : Nat) (w : World) (hA : Its w A r.list) (hn : Lim r.list.length) (hov : RU.hasN r.list s = true) :
    Calls Tryz.prog 103 #[recV r A c, actV ⟨20, key, n, x, s, m, must⟩ L cl] w (D5Post r (RU.err 0) w) := by
  have HI := Lib.hid hA
  clear hA
  go_enter Tryz.func103, Tryz.ntmps103
  go_wp2_with (first
    | (go_at_call 133; refine (has5_any r.list s A c _ (HI.out.below (below5 w _ _ _ _ _)) hn).mono ?_; rintro e w' ⟨rfl, rfl⟩))
  generalize hwz : World.alloc _ _ = wz
  have HD := Lib.hid (show D5 w r A c (RU.err 0) none 0 wz by rw [← hwz]; exact D5.start r A c _ (RU.err 0) none 0 w)
  have HA := Lib.hid (HD.out.old HI.out)
  have HB := Lib.hid (show ∀ wf, Kp (S23 w) wz wf → Its wf none (RU.err 0).rc.list from D5.noL (w := w) (W := wz) none)
  clear hwz
  have HF := Lib.hid (D5.fin HD.out HA.out HB.out)
  generalize RU.err 0 = xx at *
  have c0 := fun o => cell_of_row wz _ o _ _ (0, 0) HD.out.r0
  have c2 := fun o => cell_of_row wz _ o _ _ (0, 0) HD.out.r2
  have c3 := fun o => cell_of_row wz _ o _ _ (0, 0) HD.out.r3
  have c4 := fun o => cell_of_row wz _ o _ _ (0, 0) HD.out.r4
  have f2 : ∀ o, wz.frozen? ⟨w.heap.size + 1 + 1, o, none⟩ = false := fun o => frozen_of_row _ _ o _ _ HD.out.r2
  have f3 : ∀ o, wz.frozen? ⟨w.heap.size + 1 + 1 + 1, o, none⟩ = false := fun o => frozen_of_row _ _ o _ _ HD.out.r3
  have Q2 := Lib.hid HD.out.r2
  have Q3 := Lib.hid HD.out.r3
  clear HD HA HB
  go_region_with (fail)
  all_goals
    go_wp2_with fail
    generalize hwf : World.drew _ = wf
    have X2 : wf.heap[w.heap.size + 1 + 1]? = some (.cells (recC r.kind r.num r.low r.high r.real r.cap r.text (.slice A r.list.length c)) 25 (0, 0)) := by
      rw [← hwf, heap_drew]
      exact (ans_other (by omega)).trans (rec_stores Q2.out)
    have X3 : wf.heap[w.heap.size + 1 + 1 + 1]? = some (.cells (ansC xx.code xx.num xx.rc none 0) 49 (0, 0)) := by
      rw [← hwf, heap_drew]
      exact ans_all ((rec_stores_other (by omega)).trans Q3.out)
    have hk : Kp (S23 w) wz wf := by
      rw [← hwf]
      exact (kp10 (kp8g (Kp.refl _ _) (Or.inl (Or.inl rfl))) (Or.inl (Or.inr rfl))).drew
    have HP := Lib.hid (HF.out wf hk)
    have q2 := fun o => cell_of_row wf _ o _ _ (0, 0) X2
    have q3 := fun o => cell_of_row wf _ o _ _ (0, 0) X3
    clear hwf X2 X3 hk c0 c2 c3 c4 f2 f3
    exact bodyPost_ret (v := .tuple #[recV r A c, ansV xx.code xx.num xx.rc none 0]) (by simp [results, Tryz.results103, go_sem, q2, q3]) rfl HP.out
end Go.Proofs.YtlpecaldodganaaGreatDoor
