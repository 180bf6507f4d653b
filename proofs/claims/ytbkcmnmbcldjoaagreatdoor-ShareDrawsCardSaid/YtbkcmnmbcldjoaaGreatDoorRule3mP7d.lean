/- Contracts of package rule: what acts do to floating numbers. -/
import Derived.Test.YtbkcmnmbcldjoaaGreatDoorRuMP7d
namespace Go.Proofs.YtbkcmnmbcldjoaaGreatDoor
open Go.RowKit MM
theorem func_keep3 {w : World} {b : Nat} {v : Value} (hb : w.cell? ⟨b, 0, none⟩ = some v) (o1 o2 o3 : Obj) : (((w.alloc o1).alloc o2).alloc o3).cell? ⟨b, 0, none⟩ = some v :=
  below_keep (below1 _ o3) (below_keep (below1 _ o2) (below_keep (below1 w o1) hb))
set_option maxHeartbeats 1000000 in
set_option maxRecDepth 100000 in
theorem onRealMax_any (b : Nat) (r : RC.Rc) (a : AC.Ac) (A L : Option Addr) (c cl : Nat) (w : World) (hb : w.cell? ⟨b, 0, none⟩ = some (.func (.func 46) #[] #[])) (hx : MF.W64 r.real) (hy : MF.W64 a.x) :
    Calls Tryz.prog 149 #[recV r A c, actV a L cl, .pointer (some ⟨b, 0, none⟩)] w (CgPost { r with real := MF.mx r.real a.x } 0 A c w) := by
  have hb3 := fun o1 o2 o3 => func_keep3 hb o1 o2 o3
  clear hb
  go_enter Tryz.func149, Tryz.ntmps149
  go_wp2_with fail
  refine (max_any r.real a.x _ hx hy).mono ?_
  rintro e w' ⟨rfl, rfl⟩
  go_wp2_with fail
  exact bodyPost_ret (v := .tuple #[recV { r with real := MF.mx r.real a.x } A c, .int .i64 0]) (by simp [results, Tryz.results149, go_sem]) rfl ⟨rfl, below3 w _ _ _⟩
set_option maxHeartbeats 1000000 in
set_option maxRecDepth 100000 in
theorem onRealMin_any (b : Nat) (r : RC.Rc) (a : AC.Ac) (A L : Option Addr) (c cl : Nat) (w : World) (hb : w.cell? ⟨b, 0, none⟩ = some (.func (.func 47) #[] #[])) (hx : MF.W64 r.real) (hy : MF.W64 a.x) :
    Calls Tryz.prog 149 #[recV r A c, actV a L cl, .pointer (some ⟨b, 0, none⟩)] w (CgPost { r with real := MF.mn r.real a.x } 0 A c w) := by
  have hb3 := fun o1 o2 o3 => func_keep3 hb o1 o2 o3
  clear hb
  go_enter Tryz.func149, Tryz.ntmps149
  go_wp2_with fail
  refine (min_any r.real a.x _ hx hy).mono ?_
  rintro e w' ⟨rfl, rfl⟩
  go_wp2_with fail
  exact bodyPost_ret (v := .tuple #[recV { r with real := MF.mn r.real a.x } A c, .int .i64 0]) (by simp [results, Tryz.results149, go_sem]) rfl ⟨rfl, below3 w _ _ _⟩
set_option maxHeartbeats 1000000 in
set_option maxRecDepth 100000 in
theorem onRealPlus_any (b : Nat) (r : RC.Rc) (a : AC.Ac) (A L : Option Addr) (c cl : Nat) (w : World) (hb : w.cell? ⟨b, 0, none⟩ = some (.func (.func 129) #[] #[])) :
    Calls Tryz.prog 149 #[recV r A c, actV a L cl, .pointer (some ⟨b, 0, none⟩)] w (CgPost { r with real := MF.plus r.real a.x } 0 A c w) := by
  have hb3 := fun o1 o2 o3 => func_keep3 hb o1 o2 o3
  clear hb
  go_enter Tryz.func149, Tryz.ntmps149
  go_wp2_with fail
  refine (plus_any r.real a.x _).mono ?_
  rintro e w' ⟨rfl, kk, rfl⟩
  generalize hwd : World.drewN _ kk = wd
  have e0 : wd.heap[w.heap.size]? = some (.cells (recC r.kind r.num r.low r.high r.real r.cap r.text (.slice A r.list.length c)) 25 (0, 0)) := by rw [← hwd]; exact (heap_alloc_old _ _ (by simp only [World.size_alloc]; omega)).trans (heap_alloc2_old w _ _)
  have e2 : wd.heap[w.heap.size + 1 + 1]? = some (.cells (recC 0 0 0 0 0 0 ⟨#[]⟩ (.slice none 0 0)) 25 (0, 0)) := by rw [← hwd]; exact heap_new _ _ _ (by simp)
  have HB := Lib.hid (show Below w.heap.size w wd by rw [← hwd]; exact below_drewN (below3 w _ _ _) _)
  have c0 := fun o => cell_of_row wd _ o _ _ (0, 0) e0
  have f0 : ∀ o, wd.frozen? ⟨w.heap.size, o, none⟩ = false := fun o => frozen_of_row _ _ o _ _ e0
  have c2 := fun o => cell_of_row wd _ o _ _ (0, 0) e2
  have f2 : ∀ o, wd.frozen? ⟨w.heap.size + 1 + 1, o, none⟩ = false := fun o => frozen_of_row _ _ o _ _ e2
  clear hwd e0 e2 hb3
  go_wp2_with fail
  refine bodyPost_ret (v := .tuple #[recV { r with real := MF.plus r.real a.x } A c, .int .i64 0]) (by simp [results, Tryz.results149, go_sem, c2]) rfl ⟨rfl, ?_⟩
  exact below8c (Below.setCell HB.out (by exact Nat.le_refl _) _) (by omega)
set_option maxHeartbeats 1000000 in
set_option maxRecDepth 100000 in
theorem onRealTimes_any (b : Nat) (r : RC.Rc) (a : AC.Ac) (A L : Option Addr) (c cl : Nat) (w : World) (hb : w.cell? ⟨b, 0, none⟩ = some (.func (.func 130) #[] #[])) :
    Calls Tryz.prog 149 #[recV r A c, actV a L cl, .pointer (some ⟨b, 0, none⟩)] w (CgPost { r with real := MF.times r.real a.x } 0 A c w) := by
  have hb3 := fun o1 o2 o3 => func_keep3 hb o1 o2 o3
  clear hb
  go_enter Tryz.func149, Tryz.ntmps149
  go_wp2_with fail
  refine (times_any r.real a.x _).mono ?_
  rintro e w' ⟨rfl, kk, rfl⟩
  generalize hwd : World.drewN _ kk = wd
  have e0 : wd.heap[w.heap.size]? = some (.cells (recC r.kind r.num r.low r.high r.real r.cap r.text (.slice A r.list.length c)) 25 (0, 0)) := by rw [← hwd]; exact (heap_alloc_old _ _ (by simp only [World.size_alloc]; omega)).trans (heap_alloc2_old w _ _)
  have e2 : wd.heap[w.heap.size + 1 + 1]? = some (.cells (recC 0 0 0 0 0 0 ⟨#[]⟩ (.slice none 0 0)) 25 (0, 0)) := by rw [← hwd]; exact heap_new _ _ _ (by simp)
  have HB := Lib.hid (show Below w.heap.size w wd by rw [← hwd]; exact below_drewN (below3 w _ _ _) _)
  have c0 := fun o => cell_of_row wd _ o _ _ (0, 0) e0
  have f0 : ∀ o, wd.frozen? ⟨w.heap.size, o, none⟩ = false := fun o => frozen_of_row _ _ o _ _ e0
  have c2 := fun o => cell_of_row wd _ o _ _ (0, 0) e2
  have f2 : ∀ o, wd.frozen? ⟨w.heap.size + 1 + 1, o, none⟩ = false := fun o => frozen_of_row _ _ o _ _ e2
  clear hwd e0 e2 hb3
  go_wp2_with fail
  refine bodyPost_ret (v := .tuple #[recV { r with real := MF.times r.real a.x } A c, .int .i64 0]) (by simp [results, Tryz.results149, go_sem, c2]) rfl ⟨rfl, ?_⟩
  exact below8c (Below.setCell HB.out (by exact Nat.le_refl _) _) (by omega)
set_option maxHeartbeats 1000000 in
set_option maxRecDepth 100000 in
theorem onRealFix_any (b : Nat) (r : RC.Rc) (a : AC.Ac) (A L : Option Addr) (c cl : Nat) (w : World) (hb : w.cell? ⟨b, 0, none⟩ = some (.func (.func 131) #[] #[])) :
    Calls Tryz.prog 149 #[recV r A c, actV a L cl, .pointer (some ⟨b, 0, none⟩)] w (CgPost { r with real := a.x } 0 A c w) := by
  have hb3 := fun o1 o2 o3 => func_keep3 hb o1 o2 o3
  clear hb
  go_enter Tryz.func149, Tryz.ntmps149
  go_wp2_with fail
  refine (ruleLatter_any r.real a.x _).mono ?_
  rintro e w' ⟨rfl, rfl⟩
  go_wp2_with fail
  exact bodyPost_ret (v := .tuple #[recV { r with real := a.x } A c, .int .i64 0]) (by simp [results, Tryz.results149, go_sem]) rfl ⟨rfl, below3 w _ _ _⟩
set_option maxHeartbeats 1000000 in
set_option maxRecDepth 100000 in
theorem changeRealMax_any (b d : Nat) (r : RC.Rc) (a : AC.Ac) (A L : Option Addr) (c cl : Nat) (w : World) (hb : w.cell? ⟨b, 0, none⟩ = some (.func (.func 149) #[] #[.pointer (some ⟨d, 0, none⟩)])) (h2 : w.cell? ⟨d, 0, none⟩ = some (.func (.func 46) #[] #[])) (hx : MF.W64 r.real) (hy : MF.W64 a.x) :
    Calls Tryz.prog 147 #[recV r A c, actV a L cl, .pointer (some ⟨b, 0, none⟩)] w (DoPost { r with real := MF.mx r.real a.x } A c 0 w) := by
  have hb4 := fun o1 o2 o3 o4 => func_keep hb o1 o2 o3 o4
  have H2 := Lib.hid (fun o1 o2 o3 o4 => func_keep h2 o1 o2 o3 o4)
  clear h2
  clear hb
  go_enter Tryz.func147, Tryz.ntmps147
  go_wp2_with fail
  refine (onRealMax_any d r a A L c cl _ (H2.out _ _ _ _) hx hy).mono ?_
  rintro e w1 ⟨rfl, hb1⟩
  have hs := hb1.size
  simp only [World.size_alloc] at hs
  have e0 := (hb1.block w.heap.size (by simp only [World.size_alloc]; omega)).trans ((heap_alloc_old _ _ (by simp only [World.size_alloc]; omega)).trans ((heap_alloc_old _ _ (by simp only [World.size_alloc]; omega)).trans (heap_alloc2_old w _ _)))
  have e2 := (hb1.block (w.heap.size + 1 + 1) (by simp only [World.size_alloc]; omega)).trans ((heap_alloc_old _ _ (by simp only [World.size_alloc]; omega)).trans (heap_new _ _ _ (by simp)))
  have e3 := (hb1.block (w.heap.size + 1 + 1 + 1) (by simp only [World.size_alloc]; omega)).trans (heap_new _ _ _ (by simp))
  have c0 := fun o => cell_of_row w1 _ o _ _ (0, 0) e0
  have c2 := fun o => cell_of_row w1 _ o _ _ (0, 0) e2
  have c3 := fun o => cell_of_row w1 _ o _ _ (0, 0) e3
  have f2 : ∀ o, w1.frozen? ⟨w.heap.size + 1 + 1, o, none⟩ = false := fun o => frozen_of_row _ _ o _ _ e2
  have f3 : ∀ o, w1.frozen? ⟨w.heap.size + 1 + 1 + 1, o, none⟩ = false := fun o => frozen_of_row _ _ o _ _ e3
  have HB := Lib.hid (show Below w.heap.size w w1 from (below4 w _ _ _ _).trans (hb1.mono (by simp only [World.size_alloc]; omega)))
  have R2 := Lib.hid e2
  have R3 := Lib.hid e3
  have z0 : w.heap.size < w1.heap.size := by omega
  have z2 : w.heap.size + 1 + 1 < w1.heap.size := by omega
  have z3 : w.heap.size + 1 + 1 + 1 < w1.heap.size := by omega
  clear hb1 e0 e2 e3 hs
  go_wp2_with fail
  generalize hwf : World.alloc _ _ = wf
  have X2 : wf.heap[w.heap.size + 1 + 1]? = some (.cells (recC (r.kind) (r.num) (r.low) (r.high) (MF.mx r.real a.x) (r.cap) (r.text) (.slice A r.list.length c)) 25 (0, 0)) := by
    rw [← hwf]
    exact (heap_alloc_old _ _ (by simp; omega)).trans ((ans_other (by omega)).trans (rec_stores R2.out))
  have X3 : wf.heap[w.heap.size + 1 + 1 + 1]? = some (.cells (ansC 0 0 RC.zero none 0) 82 (0, 0)) := by
    rw [← hwf]
    exact (heap_alloc_old _ _ (by simp; omega)).trans (ans_all ((rec_stores_other (by omega)).trans R3.out))
  have HBf := Lib.hid (show Below w.heap.size w wf by
    rw [← hwf]
    exact (below10 (below8c HB.out (by omega)) (by omega)).alloc (by have := HB.out.size; simp; omega) _)
  have k2 := fun o => cell_of_row wf _ o _ _ (0, 0) X2
  have k3 := fun o => cell_of_row wf _ o _ _ (0, 0) X3
  clear hwf X2 X3 c0 c2 c3 f2 f3 hb4
  exact bodyPost_ret (v := .tuple #[recV { r with real := MF.mx r.real a.x } A c, ansV 0 0 RC.zero none 0]) (by simp [results, Tryz.results147, go_sem, k2, k3]) rfl ⟨rfl, HBf.out⟩
set_option maxHeartbeats 1000000 in
set_option maxRecDepth 100000 in
theorem changeRealMin_any (b d : Nat) (r : RC.Rc) (a : AC.Ac) (A L : Option Addr) (c cl : Nat) (w : World) (hb : w.cell? ⟨b, 0, none⟩ = some (.func (.func 149) #[] #[.pointer (some ⟨d, 0, none⟩)])) (h2 : w.cell? ⟨d, 0, none⟩ = some (.func (.func 47) #[] #[])) (hx : MF.W64 r.real) (hy : MF.W64 a.x) :
    Calls Tryz.prog 147 #[recV r A c, actV a L cl, .pointer (some ⟨b, 0, none⟩)] w (DoPost { r with real := MF.mn r.real a.x } A c 0 w) := by
  have hb4 := fun o1 o2 o3 o4 => func_keep hb o1 o2 o3 o4
  have H2 := Lib.hid (fun o1 o2 o3 o4 => func_keep h2 o1 o2 o3 o4)
  clear h2
  clear hb
  go_enter Tryz.func147, Tryz.ntmps147
  go_wp2_with fail
  refine (onRealMin_any d r a A L c cl _ (H2.out _ _ _ _) hx hy).mono ?_
  rintro e w1 ⟨rfl, hb1⟩
  have hs := hb1.size
  simp only [World.size_alloc] at hs
  have e0 := (hb1.block w.heap.size (by simp only [World.size_alloc]; omega)).trans ((heap_alloc_old _ _ (by simp only [World.size_alloc]; omega)).trans ((heap_alloc_old _ _ (by simp only [World.size_alloc]; omega)).trans (heap_alloc2_old w _ _)))
  have e2 := (hb1.block (w.heap.size + 1 + 1) (by simp only [World.size_alloc]; omega)).trans ((heap_alloc_old _ _ (by simp only [World.size_alloc]; omega)).trans (heap_new _ _ _ (by simp)))
  have e3 := (hb1.block (w.heap.size + 1 + 1 + 1) (by simp only [World.size_alloc]; omega)).trans (heap_new _ _ _ (by simp))
  have c0 := fun o => cell_of_row w1 _ o _ _ (0, 0) e0
  have c2 := fun o => cell_of_row w1 _ o _ _ (0, 0) e2
  have c3 := fun o => cell_of_row w1 _ o _ _ (0, 0) e3
  have f2 : ∀ o, w1.frozen? ⟨w.heap.size + 1 + 1, o, none⟩ = false := fun o => frozen_of_row _ _ o _ _ e2
  have f3 : ∀ o, w1.frozen? ⟨w.heap.size + 1 + 1 + 1, o, none⟩ = false := fun o => frozen_of_row _ _ o _ _ e3
  have HB := Lib.hid (show Below w.heap.size w w1 from (below4 w _ _ _ _).trans (hb1.mono (by simp only [World.size_alloc]; omega)))
  have R2 := Lib.hid e2
  have R3 := Lib.hid e3
  have z0 : w.heap.size < w1.heap.size := by omega
  have z2 : w.heap.size + 1 + 1 < w1.heap.size := by omega
  have z3 : w.heap.size + 1 + 1 + 1 < w1.heap.size := by omega
  clear hb1 e0 e2 e3 hs
  go_wp2_with fail
  generalize hwf : World.alloc _ _ = wf
  have X2 : wf.heap[w.heap.size + 1 + 1]? = some (.cells (recC (r.kind) (r.num) (r.low) (r.high) (MF.mn r.real a.x) (r.cap) (r.text) (.slice A r.list.length c)) 25 (0, 0)) := by
    rw [← hwf]
    exact (heap_alloc_old _ _ (by simp; omega)).trans ((ans_other (by omega)).trans (rec_stores R2.out))
  have X3 : wf.heap[w.heap.size + 1 + 1 + 1]? = some (.cells (ansC 0 0 RC.zero none 0) 82 (0, 0)) := by
    rw [← hwf]
    exact (heap_alloc_old _ _ (by simp; omega)).trans (ans_all ((rec_stores_other (by omega)).trans R3.out))
  have HBf := Lib.hid (show Below w.heap.size w wf by
    rw [← hwf]
    exact (below10 (below8c HB.out (by omega)) (by omega)).alloc (by have := HB.out.size; simp; omega) _)
  have k2 := fun o => cell_of_row wf _ o _ _ (0, 0) X2
  have k3 := fun o => cell_of_row wf _ o _ _ (0, 0) X3
  clear hwf X2 X3 c0 c2 c3 f2 f3 hb4
  exact bodyPost_ret (v := .tuple #[recV { r with real := MF.mn r.real a.x } A c, ansV 0 0 RC.zero none 0]) (by simp [results, Tryz.results147, go_sem, k2, k3]) rfl ⟨rfl, HBf.out⟩
set_option maxHeartbeats 1000000 in
set_option maxRecDepth 100000 in
theorem changeRealPlus_any (b d : Nat) (r : RC.Rc) (a : AC.Ac) (A L : Option Addr) (c cl : Nat) (w : World) (hb : w.cell? ⟨b, 0, none⟩ = some (.func (.func 149) #[] #[.pointer (some ⟨d, 0, none⟩)])) (h2 : w.cell? ⟨d, 0, none⟩ = some (.func (.func 129) #[] #[])) :
    Calls Tryz.prog 147 #[recV r A c, actV a L cl, .pointer (some ⟨b, 0, none⟩)] w (DoPost { r with real := MF.plus r.real a.x } A c 0 w) := by
  have hb4 := fun o1 o2 o3 o4 => func_keep hb o1 o2 o3 o4
  have H2 := Lib.hid (fun o1 o2 o3 o4 => func_keep h2 o1 o2 o3 o4)
  clear h2
  clear hb
  go_enter Tryz.func147, Tryz.ntmps147
  go_wp2_with fail
  refine (onRealPlus_any d r a A L c cl _ (H2.out _ _ _ _)).mono ?_
  rintro e w1 ⟨rfl, hb1⟩
  have hs := hb1.size
  simp only [World.size_alloc] at hs
  have e0 := (hb1.block w.heap.size (by simp only [World.size_alloc]; omega)).trans ((heap_alloc_old _ _ (by simp only [World.size_alloc]; omega)).trans ((heap_alloc_old _ _ (by simp only [World.size_alloc]; omega)).trans (heap_alloc2_old w _ _)))
  have e2 := (hb1.block (w.heap.size + 1 + 1) (by simp only [World.size_alloc]; omega)).trans ((heap_alloc_old _ _ (by simp only [World.size_alloc]; omega)).trans (heap_new _ _ _ (by simp)))
  have e3 := (hb1.block (w.heap.size + 1 + 1 + 1) (by simp only [World.size_alloc]; omega)).trans (heap_new _ _ _ (by simp))
  have c0 := fun o => cell_of_row w1 _ o _ _ (0, 0) e0
  have c2 := fun o => cell_of_row w1 _ o _ _ (0, 0) e2
  have c3 := fun o => cell_of_row w1 _ o _ _ (0, 0) e3
  have f2 : ∀ o, w1.frozen? ⟨w.heap.size + 1 + 1, o, none⟩ = false := fun o => frozen_of_row _ _ o _ _ e2
  have f3 : ∀ o, w1.frozen? ⟨w.heap.size + 1 + 1 + 1, o, none⟩ = false := fun o => frozen_of_row _ _ o _ _ e3
  have HB := Lib.hid (show Below w.heap.size w w1 from (below4 w _ _ _ _).trans (hb1.mono (by simp only [World.size_alloc]; omega)))
  have R2 := Lib.hid e2
  have R3 := Lib.hid e3
  have z0 : w.heap.size < w1.heap.size := by omega
  have z2 : w.heap.size + 1 + 1 < w1.heap.size := by omega
  have z3 : w.heap.size + 1 + 1 + 1 < w1.heap.size := by omega
  clear hb1 e0 e2 e3 hs
  go_wp2_with fail
  generalize hwf : World.alloc _ _ = wf
  have X2 : wf.heap[w.heap.size + 1 + 1]? = some (.cells (recC (r.kind) (r.num) (r.low) (r.high) (MF.plus r.real a.x) (r.cap) (r.text) (.slice A r.list.length c)) 25 (0, 0)) := by
    rw [← hwf]
    exact (heap_alloc_old _ _ (by simp; omega)).trans ((ans_other (by omega)).trans (rec_stores R2.out))
  have X3 : wf.heap[w.heap.size + 1 + 1 + 1]? = some (.cells (ansC 0 0 RC.zero none 0) 82 (0, 0)) := by
    rw [← hwf]
    exact (heap_alloc_old _ _ (by simp; omega)).trans (ans_all ((rec_stores_other (by omega)).trans R3.out))
  have HBf := Lib.hid (show Below w.heap.size w wf by
    rw [← hwf]
    exact (below10 (below8c HB.out (by omega)) (by omega)).alloc (by have := HB.out.size; simp; omega) _)
  have k2 := fun o => cell_of_row wf _ o _ _ (0, 0) X2
  have k3 := fun o => cell_of_row wf _ o _ _ (0, 0) X3
  clear hwf X2 X3 c0 c2 c3 f2 f3 hb4
  exact bodyPost_ret (v := .tuple #[recV { r with real := MF.plus r.real a.x } A c, ansV 0 0 RC.zero none 0]) (by simp [results, Tryz.results147, go_sem, k2, k3]) rfl ⟨rfl, HBf.out⟩
set_option maxHeartbeats 1000000 in
set_option maxRecDepth 100000 in
theorem changeRealTimes_any (b d : Nat) (r : RC.Rc) (a : AC.Ac) (A L : Option Addr) (c cl : Nat) (w : World) (hb : w.cell? ⟨b, 0, none⟩ = some (.func (.func 149) #[] #[.pointer (some ⟨d, 0, none⟩)])) (h2 : w.cell? ⟨d, 0, none⟩ = some (.func (.func 130) #[] #[])) :
    Calls Tryz.prog 147 #[recV r A c, actV a L cl, .pointer (some ⟨b, 0, none⟩)] w (DoPost { r with real := MF.times r.real a.x } A c 0 w) := by
  have hb4 := fun o1 o2 o3 o4 => func_keep hb o1 o2 o3 o4
  have H2 := Lib.hid (fun o1 o2 o3 o4 => func_keep h2 o1 o2 o3 o4)
  clear h2
  clear hb
  go_enter Tryz.func147, Tryz.ntmps147
  go_wp2_with fail
  refine (onRealTimes_any d r a A L c cl _ (H2.out _ _ _ _)).mono ?_
  rintro e w1 ⟨rfl, hb1⟩
  have hs := hb1.size
  simp only [World.size_alloc] at hs
  have e0 := (hb1.block w.heap.size (by simp only [World.size_alloc]; omega)).trans ((heap_alloc_old _ _ (by simp only [World.size_alloc]; omega)).trans ((heap_alloc_old _ _ (by simp only [World.size_alloc]; omega)).trans (heap_alloc2_old w _ _)))
  have e2 := (hb1.block (w.heap.size + 1 + 1) (by simp only [World.size_alloc]; omega)).trans ((heap_alloc_old _ _ (by simp only [World.size_alloc]; omega)).trans (heap_new _ _ _ (by simp)))
  have e3 := (hb1.block (w.heap.size + 1 + 1 + 1) (by simp only [World.size_alloc]; omega)).trans (heap_new _ _ _ (by simp))
  have c0 := fun o => cell_of_row w1 _ o _ _ (0, 0) e0
  have c2 := fun o => cell_of_row w1 _ o _ _ (0, 0) e2
  have c3 := fun o => cell_of_row w1 _ o _ _ (0, 0) e3
  have f2 : ∀ o, w1.frozen? ⟨w.heap.size + 1 + 1, o, none⟩ = false := fun o => frozen_of_row _ _ o _ _ e2
  have f3 : ∀ o, w1.frozen? ⟨w.heap.size + 1 + 1 + 1, o, none⟩ = false := fun o => frozen_of_row _ _ o _ _ e3
  have HB := Lib.hid (show Below w.heap.size w w1 from (below4 w _ _ _ _).trans (hb1.mono (by simp only [World.size_alloc]; omega)))
  have R2 := Lib.hid e2
  have R3 := Lib.hid e3
  have z0 : w.heap.size < w1.heap.size := by omega
  have z2 : w.heap.size + 1 + 1 < w1.heap.size := by omega
  have z3 : w.heap.size + 1 + 1 + 1 < w1.heap.size := by omega
  clear hb1 e0 e2 e3 hs
  go_wp2_with fail
  generalize hwf : World.alloc _ _ = wf
  have X2 : wf.heap[w.heap.size + 1 + 1]? = some (.cells (recC (r.kind) (r.num) (r.low) (r.high) (MF.times r.real a.x) (r.cap) (r.text) (.slice A r.list.length c)) 25 (0, 0)) := by
    rw [← hwf]
    exact (heap_alloc_old _ _ (by simp; omega)).trans ((ans_other (by omega)).trans (rec_stores R2.out))
  have X3 : wf.heap[w.heap.size + 1 + 1 + 1]? = some (.cells (ansC 0 0 RC.zero none 0) 82 (0, 0)) := by
    rw [← hwf]
    exact (heap_alloc_old _ _ (by simp; omega)).trans (ans_all ((rec_stores_other (by omega)).trans R3.out))
  have HBf := Lib.hid (show Below w.heap.size w wf by
    rw [← hwf]
    exact (below10 (below8c HB.out (by omega)) (by omega)).alloc (by have := HB.out.size; simp; omega) _)
  have k2 := fun o => cell_of_row wf _ o _ _ (0, 0) X2
  have k3 := fun o => cell_of_row wf _ o _ _ (0, 0) X3
  clear hwf X2 X3 c0 c2 c3 f2 f3 hb4
  exact bodyPost_ret (v := .tuple #[recV { r with real := MF.times r.real a.x } A c, ansV 0 0 RC.zero none 0]) (by simp [results, Tryz.results147, go_sem, k2, k3]) rfl ⟨rfl, HBf.out⟩
set_option maxHeartbeats 1000000 in
set_option maxRecDepth 100000 in
theorem changeRealFix_any (b d : Nat) (r : RC.Rc) (a : AC.Ac) (A L : Option Addr) (c cl : Nat) (w : World) (hb : w.cell? ⟨b, 0, none⟩ = some (.func (.func 149) #[] #[.pointer (some ⟨d, 0, none⟩)])) (h2 : w.cell? ⟨d, 0, none⟩ = some (.func (.func 131) #[] #[])) :
    Calls Tryz.prog 147 #[recV r A c, actV a L cl, .pointer (some ⟨b, 0, none⟩)] w (DoPost { r with real := a.x } A c 0 w) := by
  have hb4 := fun o1 o2 o3 o4 => func_keep hb o1 o2 o3 o4
  have H2 := Lib.hid (fun o1 o2 o3 o4 => func_keep h2 o1 o2 o3 o4)
  clear h2
  clear hb
  go_enter Tryz.func147, Tryz.ntmps147
  go_wp2_with fail
  refine (onRealFix_any d r a A L c cl _ (H2.out _ _ _ _)).mono ?_
  rintro e w1 ⟨rfl, hb1⟩
  have hs := hb1.size
  simp only [World.size_alloc] at hs
  have e0 := (hb1.block w.heap.size (by simp only [World.size_alloc]; omega)).trans ((heap_alloc_old _ _ (by simp only [World.size_alloc]; omega)).trans ((heap_alloc_old _ _ (by simp only [World.size_alloc]; omega)).trans (heap_alloc2_old w _ _)))
  have e2 := (hb1.block (w.heap.size + 1 + 1) (by simp only [World.size_alloc]; omega)).trans ((heap_alloc_old _ _ (by simp only [World.size_alloc]; omega)).trans (heap_new _ _ _ (by simp)))
  have e3 := (hb1.block (w.heap.size + 1 + 1 + 1) (by simp only [World.size_alloc]; omega)).trans (heap_new _ _ _ (by simp))
  have c0 := fun o => cell_of_row w1 _ o _ _ (0, 0) e0
  have c2 := fun o => cell_of_row w1 _ o _ _ (0, 0) e2
  have c3 := fun o => cell_of_row w1 _ o _ _ (0, 0) e3
  have f2 : ∀ o, w1.frozen? ⟨w.heap.size + 1 + 1, o, none⟩ = false := fun o => frozen_of_row _ _ o _ _ e2
  have f3 : ∀ o, w1.frozen? ⟨w.heap.size + 1 + 1 + 1, o, none⟩ = false := fun o => frozen_of_row _ _ o _ _ e3
  have HB := Lib.hid (show Below w.heap.size w w1 from (below4 w _ _ _ _).trans (hb1.mono (by simp only [World.size_alloc]; omega)))
  have R2 := Lib.hid e2
  have R3 := Lib.hid e3
  have z0 : w.heap.size < w1.heap.size := by omega
  have z2 : w.heap.size + 1 + 1 < w1.heap.size := by omega
  have z3 : w.heap.size + 1 + 1 + 1 < w1.heap.size := by omega
  clear hb1 e0 e2 e3 hs
  go_wp2_with fail
  generalize hwf : World.alloc _ _ = wf
  have X2 : wf.heap[w.heap.size + 1 + 1]? = some (.cells (recC (r.kind) (r.num) (r.low) (r.high) (a.x) (r.cap) (r.text) (.slice A r.list.length c)) 25 (0, 0)) := by
    rw [← hwf]
    exact (heap_alloc_old _ _ (by simp; omega)).trans ((ans_other (by omega)).trans (rec_stores R2.out))
  have X3 : wf.heap[w.heap.size + 1 + 1 + 1]? = some (.cells (ansC 0 0 RC.zero none 0) 82 (0, 0)) := by
    rw [← hwf]
    exact (heap_alloc_old _ _ (by simp; omega)).trans (ans_all ((rec_stores_other (by omega)).trans R3.out))
  have HBf := Lib.hid (show Below w.heap.size w wf by
    rw [← hwf]
    exact (below10 (below8c HB.out (by omega)) (by omega)).alloc (by have := HB.out.size; simp; omega) _)
  have k2 := fun o => cell_of_row wf _ o _ _ (0, 0) X2
  have k3 := fun o => cell_of_row wf _ o _ _ (0, 0) X3
  clear hwf X2 X3 c0 c2 c3 f2 f3 hb4
  exact bodyPost_ret (v := .tuple #[recV { r with real := a.x } A c, ansV 0 0 RC.zero none 0]) (by simp [results, Tryz.results147, go_sem, k2, k3]) rfl ⟨rfl, HBf.out⟩
end Go.Proofs.YtbkcmnmbcldjoaaGreatDoor
