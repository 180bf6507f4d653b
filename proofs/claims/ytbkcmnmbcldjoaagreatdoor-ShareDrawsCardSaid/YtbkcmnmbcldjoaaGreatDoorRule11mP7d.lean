/- Contracts of package rule: has a record a name? Records that are made, and dropped. -/
import Derived.Test.YtbkcmnmbcldjoaaGreatDoorRuMP7d
import Derived.Test.YtbkcmnmbcldjoaaGreatDoorRuNP7d
import Derived.Test.YtbkcmnmbcldjoaaGreatDoorRuPP7d
namespace Go.Proofs.YtbkcmnmbcldjoaaGreatDoor
open Go.RowKit MM
set_option maxHeartbeats 2000000 in
set_option maxRecDepth 100000 in
theorem ruleHas_any (r : RC.Rc) (a : AC.Ac) (A L : Option Addr) (c cl : Nat) (w : World) (hI : Its w A r.list) (hn : Lim r.list.length) (hs : ∀ y ∈ r.list, MF.W64 y.score) :
    Calls Tryz.prog 134 #[recV r A c, actV a L cl] w fun e w' => e = .returned (.bool (RU.at_ r.list ⟨0, a.s⟩)) ∧ Below w.heap.size w w' := by
  have HF := Lib.hid (fun u (h : Its u A r.list) => find_any r.list 0 a.s A c u h hn hs w0)
  have HI := Lib.hid hI
  clear hI hn hs
  unfold FdPost at HF
  generalize RU.find r.list ⟨0, a.s⟩ = p at *
  generalize RU.at_ r.list ⟨0, a.s⟩ = t at *
  go_enter Tryz.func134, Tryz.ntmps134
  go_wp2_with fail
  refine (HF.out _ (HI.out.below (below2 w _ _))).mono ?_
  rintro e w1 ⟨rfl, hb1⟩
  go_wp2_with fail
  go_ret
  exact ⟨rfl, (below2 w _ _).trans (hb1.mono (by simp only [World.size_alloc]; omega))⟩
set_option maxHeartbeats 1000000 in
set_option maxRecDepth 100000 in
theorem testHas_yes (b : Nat) (r : RC.Rc) (a : AC.Ac) (A L : Option Addr) (c cl : Nat) (w : World) (hb : w.cell? ⟨b, 0, none⟩ = some (.func (.func 134) #[] #[])) (hI : Its w A r.list) (hn : Lim r.list.length) (hs : ∀ y ∈ r.list, MF.W64 y.score) (h : RU.at_ r.list ⟨0, a.s⟩ = true) :
    Calls Tryz.prog 148 #[recV r A c, actV a L cl, .pointer (some ⟨b, 0, none⟩)] w (DoPost r A c 0 w) := by
  have hb4 := fun o1 o2 o3 o4 => func_keep hb o1 o2 o3 o4
  have HT := Lib.hid (fun u (h : Its u A r.list) => ruleHas_any r a A L c cl u h hn hs)
  rw [h] at HT
  have HI := Lib.hid hI
  clear hI hn hs
  clear h
  clear hb
  go_enter Tryz.func148, Tryz.ntmps148
  go_wp2_with fail
  refine (HT.out _ (HI.out.below (below4 w _ _ _ _))).mono ?_
  rintro e w1 ⟨rfl, hb1⟩
  have hs := hb1.size
  simp only [World.size_alloc] at hs
  have e0 := (hb1.block w.heap.size (by simp only [World.size_alloc]; omega)).trans ((heap_alloc_old _ _ (by simp only [World.size_alloc]; omega)).trans ((heap_alloc_old _ _ (by simp only [World.size_alloc]; omega)).trans (heap_alloc2_old w _ _)))
  have e2 := (hb1.block (w.heap.size + 1 + 1) (by simp only [World.size_alloc]; omega)).trans ((heap_alloc_old _ _ (by simp only [World.size_alloc]; omega)).trans (heap_new _ _ _ (by simp)))
  have e3 := (hb1.block (w.heap.size + 1 + 1 + 1) (by simp only [World.size_alloc]; omega)).trans (heap_new _ _ _ (by simp))
  have c0 := fun o => cell_of_row w1 _ o _ _ (0, 0) e0
  have c2 := fun o => cell_of_row w1 _ o _ _ (0, 0) e2
  have c3 := fun o => cell_of_row w1 _ o _ _ (0, 0) e3
  have f2 : ∀ o, w1.frozen? ⟨w.heap.size + 1 + 1, o, none⟩ = false := fun o => frozen_of_row _ _ o _ _ e2
  have f3 : ∀ o, w1.frozen? ⟨w.heap.size + 1 + 1 + 1, o, none⟩ = false := fun o => frozen_of_row _ _ o _ _ e3
  have HB := Lib.hid (show Below w.heap.size w w1 from (below4 w _ _ _ _).trans (hb1.mono (by simp only [World.size_alloc]; omega)))
  have R2 := Lib.hid e2
  have R3 := Lib.hid e3
  have z0 : w.heap.size < w1.heap.size := by omega
  have z2 : w.heap.size + 1 + 1 < w1.heap.size := by omega
  have z3 : w.heap.size + 1 + 1 + 1 < w1.heap.size := by omega
  clear hb1 e0 e2 e3 hs
  go_wp2_with fail
  generalize hwf : World.setCell _ _ _ = wf
  have X2 : wf.heap[w.heap.size + 1 + 1]? = some (.cells (recC (r.kind) (r.num) (r.low) (r.high) (r.real) (r.cap) (r.text) (.slice A r.list.length c)) 25 (0, 0)) := by
    rw [← hwf]
    exact (ans_other (by omega)).trans (rec_stores R2.out)
  have X3 : wf.heap[w.heap.size + 1 + 1 + 1]? = some (.cells (ansC 0 0 RC.zero none 0) 82 (0, 0)) := by
    rw [← hwf]
    exact ans_all ((rec_stores_other (by omega)).trans R3.out)
  have HBf := Lib.hid (show Below w.heap.size w wf by
    rw [← hwf]
    exact below10 (below8c HB.out (by omega)) (by omega))
  have k2 := fun o => cell_of_row wf _ o _ _ (0, 0) X2
  have k3 := fun o => cell_of_row wf _ o _ _ (0, 0) X3
  clear hwf X2 X3 c0 c2 c3 f2 f3 hb4
  exact bodyPost_ret (v := .tuple #[recV r A c, ansV 0 0 RC.zero none 0]) (by simp [results, Tryz.results148, go_sem, k2, k3]) rfl ⟨rfl, HBf.out⟩
set_option maxHeartbeats 1000000 in
set_option maxRecDepth 100000 in
theorem testHas_no (b : Nat) (r : RC.Rc) (a : AC.Ac) (A L : Option Addr) (c cl : Nat) (w : World) (hb : w.cell? ⟨b, 0, none⟩ = some (.func (.func 134) #[] #[])) (hI : Its w A r.list) (hn : Lim r.list.length) (hs : ∀ y ∈ r.list, MF.W64 y.score) (h : RU.at_ r.list ⟨0, a.s⟩ = false) :
    Calls Tryz.prog 148 #[recV r A c, actV a L cl, .pointer (some ⟨b, 0, none⟩)] w (DoPost r A c 11 w) := by
  have hb4 := fun o1 o2 o3 o4 => func_keep hb o1 o2 o3 o4
  have HT := Lib.hid (fun u (h : Its u A r.list) => ruleHas_any r a A L c cl u h hn hs)
  rw [h] at HT
  have HI := Lib.hid hI
  clear hI hn hs
  clear h
  clear hb
  go_enter Tryz.func148, Tryz.ntmps148
  go_wp2_with fail
  refine (HT.out _ (HI.out.below (below4 w _ _ _ _))).mono ?_
  rintro e w1 ⟨rfl, hb1⟩
  have hs := hb1.size
  simp only [World.size_alloc] at hs
  have e0 := (hb1.block w.heap.size (by simp only [World.size_alloc]; omega)).trans ((heap_alloc_old _ _ (by simp only [World.size_alloc]; omega)).trans ((heap_alloc_old _ _ (by simp only [World.size_alloc]; omega)).trans (heap_alloc2_old w _ _)))
  have e2 := (hb1.block (w.heap.size + 1 + 1) (by simp only [World.size_alloc]; omega)).trans ((heap_alloc_old _ _ (by simp only [World.size_alloc]; omega)).trans (heap_new _ _ _ (by simp)))
  have e3 := (hb1.block (w.heap.size + 1 + 1 + 1) (by simp only [World.size_alloc]; omega)).trans (heap_new _ _ _ (by simp))
  have c0 := fun o => cell_of_row w1 _ o _ _ (0, 0) e0
  have c2 := fun o => cell_of_row w1 _ o _ _ (0, 0) e2
  have c3 := fun o => cell_of_row w1 _ o _ _ (0, 0) e3
  have f2 : ∀ o, w1.frozen? ⟨w.heap.size + 1 + 1, o, none⟩ = false := fun o => frozen_of_row _ _ o _ _ e2
  have f3 : ∀ o, w1.frozen? ⟨w.heap.size + 1 + 1 + 1, o, none⟩ = false := fun o => frozen_of_row _ _ o _ _ e3
  have HB := Lib.hid (show Below w.heap.size w w1 from (below4 w _ _ _ _).trans (hb1.mono (by simp only [World.size_alloc]; omega)))
  have R2 := Lib.hid e2
  have R3 := Lib.hid e3
  have z0 : w.heap.size < w1.heap.size := by omega
  have z2 : w.heap.size + 1 + 1 < w1.heap.size := by omega
  have z3 : w.heap.size + 1 + 1 + 1 < w1.heap.size := by omega
  clear hb1 e0 e2 e3 hs
  go_wp2_with fail
  generalize hwf : World.setCell _ _ _ = wf
  have X2 : wf.heap[w.heap.size + 1 + 1]? = some (.cells (recC (r.kind) (r.num) (r.low) (r.high) (r.real) (r.cap) (r.text) (.slice A r.list.length c)) 25 (0, 0)) := by
    rw [← hwf]
    exact (ans_other (by omega)).trans (rec_stores R2.out)
  have X3 : wf.heap[w.heap.size + 1 + 1 + 1]? = some (.cells (ansC 11 0 RC.zero none 0) 82 (0, 0)) := by
    rw [← hwf]
    exact ans_all ((rec_stores_other (by omega)).trans R3.out)
  have HBf := Lib.hid (show Below w.heap.size w wf by
    rw [← hwf]
    exact below10 (below8c HB.out (by omega)) (by omega))
  have k2 := fun o => cell_of_row wf _ o _ _ (0, 0) X2
  have k3 := fun o => cell_of_row wf _ o _ _ (0, 0) X3
  clear hwf X2 X3 c0 c2 c3 f2 f3 hb4
  exact bodyPost_ret (v := .tuple #[recV r A c, ansV 11 0 RC.zero none 0]) (by simp [results, Tryz.results148, go_sem, k2, k3]) rfl ⟨rfl, HBf.out⟩
set_option maxHeartbeats 1000000 in
set_option maxRecDepth 100000 in
theorem changeDrop_any (b : Nat) (r : RC.Rc) (a : AC.Ac) (A L : Option Addr) (c cl : Nat) (w : World) (hb : w.cell? ⟨b, 0, none⟩ = some (.func (.func 117) #[] #[])) :
    Calls Tryz.prog 147 #[recV r A c, actV a L cl, .pointer (some ⟨b, 0, none⟩)] w (DoPost RC.zero none 0 0 w) := by
  have hb4 := fun o1 o2 o3 o4 => func_keep hb o1 o2 o3 o4
  clear hb
  go_enter Tryz.func147, Tryz.ntmps147
  go_wp2_with fail
  refine (ruleDrop_any r a A L c cl _).mono ?_
  rintro e w1 ⟨rfl, hb1⟩
  have hs := hb1.size
  simp only [World.size_alloc] at hs
  have e0 := (hb1.block w.heap.size (by simp only [World.size_alloc]; omega)).trans ((heap_alloc_old _ _ (by simp only [World.size_alloc]; omega)).trans ((heap_alloc_old _ _ (by simp only [World.size_alloc]; omega)).trans (heap_alloc2_old w _ _)))
  have e2 := (hb1.block (w.heap.size + 1 + 1) (by simp only [World.size_alloc]; omega)).trans ((heap_alloc_old _ _ (by simp only [World.size_alloc]; omega)).trans (heap_new _ _ _ (by simp)))
  have e3 := (hb1.block (w.heap.size + 1 + 1 + 1) (by simp only [World.size_alloc]; omega)).trans (heap_new _ _ _ (by simp))
  have c0 := fun o => cell_of_row w1 _ o _ _ (0, 0) e0
  have c2 := fun o => cell_of_row w1 _ o _ _ (0, 0) e2
  have c3 := fun o => cell_of_row w1 _ o _ _ (0, 0) e3
  have f2 : ∀ o, w1.frozen? ⟨w.heap.size + 1 + 1, o, none⟩ = false := fun o => frozen_of_row _ _ o _ _ e2
  have f3 : ∀ o, w1.frozen? ⟨w.heap.size + 1 + 1 + 1, o, none⟩ = false := fun o => frozen_of_row _ _ o _ _ e3
  have HB := Lib.hid (show Below w.heap.size w w1 from (below4 w _ _ _ _).trans (hb1.mono (by simp only [World.size_alloc]; omega)))
  have R2 := Lib.hid e2
  have R3 := Lib.hid e3
  have z0 : w.heap.size < w1.heap.size := by omega
  have z2 : w.heap.size + 1 + 1 < w1.heap.size := by omega
  have z3 : w.heap.size + 1 + 1 + 1 < w1.heap.size := by omega
  clear hb1 e0 e2 e3 hs
  go_wp2_with fail
  generalize hwf : World.alloc _ _ = wf
  have X2 : wf.heap[w.heap.size + 1 + 1]? = some (.cells (recC 0 0 0 0 0 0 ⟨#[]⟩ (.slice none 0 0)) 25 (0, 0)) := by
    rw [← hwf]
    exact (heap_alloc_old _ _ (by simp; omega)).trans ((ans_other (by omega)).trans (rec_stores R2.out))
  have X3 : wf.heap[w.heap.size + 1 + 1 + 1]? = some (.cells (ansC 0 0 RC.zero none 0) 82 (0, 0)) := by
    rw [← hwf]
    exact (heap_alloc_old _ _ (by simp; omega)).trans (ans_all ((rec_stores_other (by omega)).trans R3.out))
  have HBf := Lib.hid (show Below w.heap.size w wf by
    rw [← hwf]
    exact (below10 (below8c HB.out (by omega)) (by omega)).alloc (by have := HB.out.size; simp; omega) _)
  have k2 := fun o => cell_of_row wf _ o _ _ (0, 0) X2
  have k3 := fun o => cell_of_row wf _ o _ _ (0, 0) X3
  clear hwf X2 X3 c0 c2 c3 f2 f3 hb4
  exact bodyPost_ret (v := .tuple #[recV RC.zero none 0, ansV 0 0 RC.zero none 0]) (by simp [results, Tryz.results147, go_sem, k2, k3, RC.zero]) rfl ⟨rfl, HBf.out⟩
/-- What a doing answers that makes a list: the record with a list of its own; the answer. -/
def GdPost (q : RC.Rc) (code : Nat) (w : World) (e : Ending) (w' : World) : Prop :=
  ∃ A' c', e = .returned (.tuple #[recV q A' c', ansV code 0 RC.zero none 0]) ∧ w'.ownsRow 0 91 2 (.slice A' q.list.length c') q.list.length (itCells q.list) ∧ (∀ k, ob A' = some k → w.heap.size ≤ k) ∧ Below w.heap.size w w'
set_option maxHeartbeats 1000000 in
set_option maxRecDepth 100000 in
theorem changeCreate_any (b : Nat) (r : RC.Rc) (a : AC.Ac) (A L : Option Addr) (c cl : Nat) (w : World) (hb : w.cell? ⟨b, 0, none⟩ = some (.func (.func 116) #[] #[])) (hI : Its w L a.make.list) (hn : Lim a.make.list.length) :
    Calls Tryz.prog 147 #[recV r A c, actV a L cl, .pointer (some ⟨b, 0, none⟩)] w (GdPost a.make 0 w) := by
  have hb4 := fun o1 o2 o3 o4 => func_keep hb o1 o2 o3 o4
  have HC := Lib.hid (fun u (h : Its u L a.make.list) => ruleCreate_any r a A L c cl u h hn)
  have HI := Lib.hid hI
  clear hb hI hn
  go_enter Tryz.func147, Tryz.ntmps147
  go_wp2_with fail
  refine (HC.out _ (HI.out.below (below4 w _ _ _ _))).mono ?_
  rintro e w1 ⟨A', c', rfl, ho1, hn1, hb1⟩
  have hs := hb1.size
  simp only [World.size_alloc] at hs hn1
  have HO := Lib.hid ho1
  have HN := Lib.hid hn1
  clear ho1 hn1
  have e0 := (hb1.block w.heap.size (by simp only [World.size_alloc]; omega)).trans ((heap_alloc_old _ _ (by simp only [World.size_alloc]; omega)).trans ((heap_alloc_old _ _ (by simp only [World.size_alloc]; omega)).trans (heap_alloc2_old w _ _)))
  have e2 := (hb1.block (w.heap.size + 1 + 1) (by simp only [World.size_alloc]; omega)).trans ((heap_alloc_old _ _ (by simp only [World.size_alloc]; omega)).trans (heap_new _ _ _ (by simp)))
  have e3 := (hb1.block (w.heap.size + 1 + 1 + 1) (by simp only [World.size_alloc]; omega)).trans (heap_new _ _ _ (by simp))
  have c0 := fun o => cell_of_row w1 _ o _ _ (0, 0) e0
  have c2 := fun o => cell_of_row w1 _ o _ _ (0, 0) e2
  have c3 := fun o => cell_of_row w1 _ o _ _ (0, 0) e3
  have f2 : ∀ o, w1.frozen? ⟨w.heap.size + 1 + 1, o, none⟩ = false := fun o => frozen_of_row _ _ o _ _ e2
  have f3 : ∀ o, w1.frozen? ⟨w.heap.size + 1 + 1 + 1, o, none⟩ = false := fun o => frozen_of_row _ _ o _ _ e3
  have HB := Lib.hid (show Below w.heap.size w w1 from (below4 w _ _ _ _).trans (hb1.mono (by simp only [World.size_alloc]; omega)))
  have R2 := Lib.hid e2
  have R3 := Lib.hid e3
  have z0 : w.heap.size < w1.heap.size := by omega
  have z2 : w.heap.size + 1 + 1 < w1.heap.size := by omega
  have z3 : w.heap.size + 1 + 1 + 1 < w1.heap.size := by omega
  clear hb1 e0 e2 e3 hs
  go_wp2_with fail
  generalize hwf : World.alloc _ _ = wf
  have X2 : wf.heap[w.heap.size + 1 + 1]? = some (.cells (recC a.make.kind a.make.num a.make.low a.make.high a.make.real a.make.cap a.make.text (.slice A' a.make.list.length c')) 25 (0, 0)) := by
    rw [← hwf]
    exact (heap_alloc_old _ _ (by simp; omega)).trans ((ans_other (by omega)).trans (rec_stores R2.out))
  have X3 : wf.heap[w.heap.size + 1 + 1 + 1]? = some (.cells (ansC 0 0 RC.zero none 0) 82 (0, 0)) := by
    rw [← hwf]
    exact (heap_alloc_old _ _ (by simp; omega)).trans (ans_all ((rec_stores_other (by omega)).trans R3.out))
  have HBf := Lib.hid (show Below w.heap.size w wf by
    rw [← hwf]
    exact (below10 (below8c HB.out (by omega)) (by omega)).alloc (by have := HB.out.size; simp; omega) _)
  have hk : Kp (fun k => k = w.heap.size + 1 + 1 ∨ k = w.heap.size + 1 + 1 + 1) w1 wf := by
    rw [← hwf]
    exact (kp10 (kp8g (Kp.refl _ w1) (Or.inl (Or.inl rfl))) (Or.inl (Or.inr rfl))).alloc _
  have HOf := Lib.hid (hk.own HO.out (fun k e x => by rw [ownBlock_slice] at e; have := HN.out k e; rcases x with x | x <;> omega))
  have HNf := Lib.hid (show ∀ k, ob A' = some k → w.heap.size ≤ k from fun k e => by have := HN.out k e; omega)
  clear hk
  have k2 := fun o => cell_of_row wf _ o _ _ (0, 0) X2
  have k3 := fun o => cell_of_row wf _ o _ _ (0, 0) X3
  clear hwf X2 X3 c0 c2 c3 f2 f3 hb4
  exact bodyPost_ret (v := .tuple #[recV a.make A' c', ansV 0 0 RC.zero none 0]) (by simp [results, Tryz.results147, go_sem, k2, k3]) rfl ⟨A', c', rfl, HOf.out, HNf.out, HBf.out⟩
end Go.Proofs.YtbkcmnmbcldjoaaGreatDoor
