/- Contracts of package rule: of which kind a record is; no record; whether an act is refused by kinds. -/
import Derived.Test.YtbkcmnmbcldjoaaGreatDoorRuMP7d
import Derived.Test.YtbkcmnmbcldjoaaGreatDoorRecNP7d
import Derived.Deep.RegionWith
namespace Go.Proofs.YtbkcmnmbcldjoaaGreatDoor
open Go.RowKit MM
def noneE (k : Int) : Nat := if k = 1 ∨ k = 3 then 0 else 6
set_option maxHeartbeats 1000000 in
set_option maxRecDepth 100000 in
theorem refusalByNone_any (k : Int) (w : World) :
    Calls Tryz.prog 113 #[.int .i64 k] w fun e w' => e = .returned (.int .i64 (noneE k : Nat)) ∧ w = w' := by
  by_cases h1 : k = 1
  · subst h1
    go_enter Tryz.func113, Tryz.ntmps113
    go_wp2_with fail
    go_ret
    exact ⟨rfl, rfl⟩
  by_cases h3 : k = 3
  · subst h3
    go_enter Tryz.func113, Tryz.ntmps113
    go_wp2_with fail
    go_ret
    exact ⟨rfl, rfl⟩
  have q1 : (k == 1) = false := by simpa using h1
  have q3 : (k == 3) = false := by simpa using h3
  have H := Lib.hid (show noneE k = 6 by unfold noneE; rw [if_neg (by omega)])
  clear h1 h3
  go_enter Tryz.func113, Tryz.ntmps113
  go_wp2_with fail
  go_ret
  exact ⟨by rw [H.out]; rfl, rfl⟩
set_option maxHeartbeats 1000000 in
set_option maxRecDepth 100000 in
theorem tellKind_any (r : RC.Rc) (a : AC.Ac) (A L : Option Addr) (c cl : Nat) (w : World) :
    Calls Tryz.prog 118 #[recV r A c, actV a L cl] w fun e w' => e = .returned (.tuple #[recV r A c, ansV 0 r.kind RC.zero none 0]) ∧ Below w.heap.size w w' := by
  go_enter Tryz.func118, Tryz.ntmps118
  go_wp2_with fail
  generalize hwz : World.alloc _ _ = wz
  have e0 : wz.heap[w.heap.size]? = some (.cells (recC r.kind r.num r.low r.high r.real r.cap r.text (.slice A r.list.length c)) 25 (0, 0)) := by rw [← hwz]; exact (heap_alloc_old _ _ (by simp only [World.size_alloc]; omega)).trans ((heap_alloc_old _ _ (by simp only [World.size_alloc]; omega)).trans (heap_alloc2_old w _ _))
  have e2 : wz.heap[w.heap.size + 1 + 1]? = some (.cells (recC 0 0 0 0 0 0 ⟨#[]⟩ (.slice none 0 0)) 25 (0, 0)) := by rw [← hwz]; exact (heap_alloc_old _ _ (by simp only [World.size_alloc]; omega)).trans (heap_new _ _ _ (by simp))
  have e3 : wz.heap[w.heap.size + 1 + 1 + 1]? = some (.cells (ansC 0 0 RC.zero none 0) 82 (0, 0)) := by rw [← hwz]; exact heap_new _ _ _ (by simp)
  have HB := Lib.hid (show Below w.heap.size w wz by rw [← hwz]; exact below4 w _ _ _ _)
  have c0 := fun o => cell_of_row wz _ o _ _ (0, 0) e0
  have c2 := fun o => cell_of_row wz _ o _ _ (0, 0) e2
  have c3 := fun o => cell_of_row wz _ o _ _ (0, 0) e3
  have f2 : ∀ o, wz.frozen? ⟨w.heap.size + 1 + 1, o, none⟩ = false := fun o => frozen_of_row _ _ o _ _ e2
  have f3 : ∀ o, wz.frozen? ⟨w.heap.size + 1 + 1 + 1, o, none⟩ = false := fun o => frozen_of_row _ _ o _ _ e3
  have R2 := Lib.hid e2
  have R3 := Lib.hid e3
  clear hwz e0 e2 e3
  go_region_with (fail)
  all_goals
    go_wp2_with fail
    generalize hwf : World.drew _ = wf
    have X2 : wf.heap[w.heap.size + 1 + 1]? = some (.cells (recC r.kind r.num r.low r.high r.real r.cap r.text (.slice A r.list.length c)) 25 (0, 0)) := by
      rw [← hwf]
      rw [heap_drew]
      exact (ans_other (by omega)).trans (rec_stores R2.out)
    have X3 : wf.heap[w.heap.size + 1 + 1 + 1]? = some (.cells (ansC 0 r.kind RC.zero none 0) 82 (0, 0)) := by
      rw [← hwf]
      rw [heap_drew]
      exact ans_all ((rec_stores_other (by omega)).trans R3.out)
    have HBf := Lib.hid (show Below w.heap.size w wf by
      rw [← hwf]
      exact below_drew (below10 (below8c HB.out (by omega)) (by omega)))
    have k2 := fun o => cell_of_row wf _ o _ _ (0, 0) X2
    have k3 := fun o => cell_of_row wf _ o _ _ (0, 0) X3
    clear hwf X2 X3 c0 c2 c3 f2 f3
    exact bodyPost_ret (v := .tuple #[recV r A c, ansV 0 r.kind RC.zero none 0]) (by simp [results, Tryz.results118, go_sem, k2, k3]) rfl ⟨rfl, HBf.out⟩
end Go.Proofs.YtbkcmnmbcldjoaaGreatDoor
namespace Go.Proofs.YtbkcmnmbcldjoaaGreatDoor
open Go.RowKit MM
/-- What tells a record answers: what is there, and a clone of q. -/
def LkPost (p q : RC.Rc) (A : Option Addr) (c : Nat) (w : World) (e : Ending) (w' : World) : Prop :=
  ∃ A' c', e = .returned (.tuple #[recV p A c, ansV 0 0 q A' c']) ∧ w'.ownsRow 0 91 2 (.slice A' q.list.length c') q.list.length (itCells q.list) ∧ (∀ k, ob A' = some k → w.heap.size ≤ k) ∧ Below w.heap.size w w'
theorem kp10 {S : Nat → Prop} {w0 w : World} {g : Nat} {d0 d1 d2 d3 d4 d5 d6 d7 d8 d9 : Value} (h : Kp S w0 w) (hg : S g ∨ w0.heap.size ≤ g) : Kp S w0 ((((((((((w.setCell ⟨g, 0, none⟩ d0).setCell ⟨g, 1, none⟩ d1).setCell ⟨g, 2, none⟩ d2).setCell ⟨g, 3, none⟩ d3).setCell ⟨g, 4, none⟩ d4).setCell ⟨g, 5, none⟩ d5).setCell ⟨g, 6, none⟩ d6).setCell ⟨g, 7, none⟩ d7).setCell ⟨g, 8, none⟩ d8).setCell ⟨g, 9, none⟩ d9) := by
  iterate 10 refine Kp.setCell ?_ hg _
  exact h
theorem kp8g {S : Nat → Prop} {w0 w : World} {g : Nat} {c0 c1 c2 c3 c4 c5 c6 c7 : Value} (h : Kp S w0 w) (hg : S g ∨ w0.heap.size ≤ g) : Kp S w0 ((((((((w.setCell ⟨g, 0, none⟩ c0).setCell ⟨g, 1, none⟩ c1).setCell ⟨g, 2, none⟩ c2).setCell ⟨g, 3, none⟩ c3).setCell ⟨g, 4, none⟩ c4).setCell ⟨g, 5, none⟩ c5).setCell ⟨g, 6, none⟩ c6).setCell ⟨g, 7, none⟩ c7) := by
  iterate 8 refine Kp.setCell ?_ hg _
  exact h
set_option maxHeartbeats 2000000 in
set_option maxRecDepth 100000 in
theorem look_any (r : RC.Rc) (a : AC.Ac) (A L : Option Addr) (c cl : Nat) (w : World) (hI : Its w A r.list) (hn : Lim r.list.length) :
    Calls Tryz.prog 119 #[recV r A c, actV a L cl] w (LkPost r r A c w) := by
  have HC := Lib.hid (fun w' hI => recClone_any r A c w' hI hn)
  have HI := Lib.hid hI
  clear hI hn
  go_enter Tryz.func119, Tryz.ntmps119
  go_wp2_with fail
  generalize hwz : World.alloc _ _ = wz
  have e0 : wz.heap[w.heap.size]? = some (.cells (recC r.kind r.num r.low r.high r.real r.cap r.text (.slice A r.list.length c)) 25 (0, 0)) := by rw [← hwz]; exact (heap_alloc_old _ _ (by simp only [World.size_alloc]; omega)).trans ((heap_alloc_old _ _ (by simp only [World.size_alloc]; omega)).trans (heap_alloc2_old w _ _))
  have e2 : wz.heap[w.heap.size + 1 + 1]? = some (.cells (recC 0 0 0 0 0 0 ⟨#[]⟩ (.slice none 0 0)) 25 (0, 0)) := by rw [← hwz]; exact (heap_alloc_old _ _ (by simp only [World.size_alloc]; omega)).trans (heap_new _ _ _ (by simp))
  have e3 : wz.heap[w.heap.size + 1 + 1 + 1]? = some (.cells (ansC 0 0 RC.zero none 0) 82 (0, 0)) := by rw [← hwz]; exact heap_new _ _ _ (by simp)
  have HB := Lib.hid (show Below w.heap.size w wz by rw [← hwz]; exact below4 w _ _ _ _)
  have hId : Its wz.drew A r.list := HI.out.below (below_drew HB.out)
  have c0 := fun o => cell_of_row wz _ o _ _ (0, 0) e0
  have R0 := Lib.hid e0
  have R2 := Lib.hid e2
  have R3 := Lib.hid e3
  clear hwz e0 e2 e3
  go_region_with (go_at_call 76; refine (HC.out _ hId).mono ?_; rintro e w1 ⟨A', c', rfl, ho, hn, hb⟩; have hB1 : Below wz.heap.size wz w1 := (below_drew (Below.refl _ wz)).trans hb; have r0 := (hB1.block _ (lt_of_heap R0.out)).trans R0.out; have r2 := (hB1.block _ (lt_of_heap R2.out)).trans R2.out; have r3 := (hB1.block _ (lt_of_heap R3.out)).trans R3.out; have k0 := fun o => cell_of_row w1 _ o _ _ (0, 0) r0; have k2 := fun o => cell_of_row w1 _ o _ _ (0, 0) r2; have k3 := fun o => cell_of_row w1 _ o _ _ (0, 0) r3; have g2 : ∀ o, w1.frozen? ⟨w.heap.size + 1 + 1, o, none⟩ = false := fun o => frozen_of_row _ _ o _ _ r2; have g3 : ∀ o, w1.frozen? ⟨w.heap.size + 1 + 1 + 1, o, none⟩ = false := fun o => frozen_of_row _ _ o _ _ r3; have Q2 := Lib.hid r2; have Q3 := Lib.hid r3; clear r0 r2 r3)
  all_goals
    go_wp2_with fail
    generalize hwf : World.setCell _ _ _ = wf
    have X2 : wf.heap[w.heap.size + 1 + 1]? = some (.cells (recC r.kind r.num r.low r.high r.real r.cap r.text (.slice A r.list.length c)) 25 (0, 0)) := by
      rw [← hwf]
      exact (ans_other (by omega)).trans (rec_stores Q2.out)
    have X3 : wf.heap[w.heap.size + 1 + 1 + 1]? = some (.cells (ansC 0 0 r A' c') 82 (0, 0)) := by
      rw [← hwf]
      exact ans_all ((rec_stores_other (by omega)).trans Q3.out)
    have hk : Kp (fun k => k = w.heap.size + 1 + 1 ∨ k = w.heap.size + 1 + 1 + 1) w1 wf := by
      rw [← hwf]
      exact kp10 (kp8g (Kp.refl _ w1) (Or.inl (Or.inl rfl))) (Or.inl (Or.inr rfl))
    have hz := lt_of_heap R3.out
    have hn' : ∀ k, ob A' = some k → wz.heap.size ≤ k := hn
    have HO := Lib.hid (hk.own ho (fun k e x => by rw [ownBlock_slice] at e; have := hn' k e; rcases x with x | x <;> omega))
    have HBw := Lib.hid (HB.out.trans (hB1.mono HB.out.size))
    have HBf := Lib.hid (HBw.out.trans (hk.below HBw.out.size (fun i hi x => by rcases x with x | x <;> omega)))
    have HN := Lib.hid (show ∀ k, ob A' = some k → w.heap.size ≤ k from fun k e => by have := hn' k e; omega)
    have q2 := fun o => cell_of_row wf _ o _ _ (0, 0) X2
    have q3 := fun o => cell_of_row wf _ o _ _ (0, 0) X3
    clear hwf X2 X3 hk k0 k2 k3 g2 g3
    exact bodyPost_ret (v := .tuple #[recV r A c, ansV 0 0 r A' c']) (by simp [results, Tryz.results119, go_sem, q2, q3]) rfl ⟨A', c', rfl, HO.out, HN.out, HBf.out⟩
set_option maxHeartbeats 2000000 in
set_option maxRecDepth 100000 in
theorem swap_any (r : RC.Rc) (a : AC.Ac) (A L : Option Addr) (c cl : Nat) (w : World) (hI : Its w A r.list) (hn : Lim r.list.length) :
    Calls Tryz.prog 121 #[recV r A c, actV a L cl] w (LkPost { r with text := a.s } r A c w) := by
  have HC := Lib.hid (fun w' hI => recClone_any r A c w' hI hn)
  have HI := Lib.hid hI
  clear hI hn
  go_enter Tryz.func121, Tryz.ntmps121
  go_wp2_with fail
  refine (HC.out _ (HI.out.below (below4 w _ _ _ _))).mono ?_
  rintro e w1 ⟨A', c', rfl, ho, hn, hb⟩
  have hs := hb.size
  simp only [World.size_alloc] at hs hn
  have e0 := (hb.block w.heap.size (by simp only [World.size_alloc]; omega)).trans ((heap_alloc_old _ _ (by simp only [World.size_alloc]; omega)).trans ((heap_alloc_old _ _ (by simp only [World.size_alloc]; omega)).trans (heap_alloc2_old w _ _)))
  have e1 := (hb.block (w.heap.size + 1) (by simp only [World.size_alloc]; omega)).trans ((heap_alloc_old _ _ (by simp only [World.size_alloc]; omega)).trans ((heap_alloc_old _ _ (by simp only [World.size_alloc]; omega)).trans (heap_alloc2_new w _ _)))
  have e2 := (hb.block (w.heap.size + 1 + 1) (by simp only [World.size_alloc]; omega)).trans ((heap_alloc_old _ _ (by simp only [World.size_alloc]; omega)).trans (heap_new _ _ _ (by simp)))
  have e3 := (hb.block (w.heap.size + 1 + 1 + 1) (by simp only [World.size_alloc]; omega)).trans (heap_new _ _ _ (by simp))
  have HB := Lib.hid (show Below w.heap.size w w1 from (below4 w _ _ _ _).trans (hb.mono (by simp only [World.size_alloc]; omega)))
  have z0 : w.heap.size < w1.heap.size := by omega
  have z1 : w.heap.size + 1 < w1.heap.size := by omega
  have z2 : w.heap.size + 1 + 1 < w1.heap.size := by omega
  have z3 : w.heap.size + 1 + 1 + 1 < w1.heap.size := by omega
  have c0 := fun o => cell_of_row w1 _ o _ _ (0, 0) e0
  have c1 := fun o => cell_of_row w1 _ o _ _ (0, 0) e1
  have f0 : ∀ o, w1.frozen? ⟨w.heap.size, o, none⟩ = false := fun o => frozen_of_row _ _ o _ _ e0
  have R0 := Lib.hid e0
  have R2 := Lib.hid e2
  have R3 := Lib.hid e3
  have HO := Lib.hid ho
  have HN := Lib.hid hn
  clear e0 e1 e2 e3 hb ho hn hs
  go_wp2_with fail
  generalize hwz : World.alloc _ _ = wz
  have y0 : wz.heap[w.heap.size]? = some (.cells (recC r.kind r.num r.low r.high r.real r.cap a.s (.slice A r.list.length c)) 25 (0, 0)) := by
    rw [← hwz]
    exact (heap_alloc_old _ _ (by simp [World.setCell]; omega)).trans (heap_setCell_same _ _ _ _ _ _ R0.out)
  have yw : wz.heap[w1.heap.size]? = some (.cells (recC r.kind r.num r.low r.high r.real r.cap r.text (.slice A' r.list.length c')) 25 (0, 0)) := by
    rw [← hwz]
    exact heap_new _ _ _ (by simp [World.setCell])
  have y2 : wz.heap[w.heap.size + 1 + 1]? = _ := (show wz.heap[w.heap.size + 1 + 1]? = w1.heap[w.heap.size + 1 + 1]? by
    rw [← hwz]
    exact (heap_alloc_old _ _ (by simp [World.setCell]; omega)).trans (heap_setCell_other _ _ _ _ (by show w.heap.size + 1 + 1 ≠ w.heap.size; omega))).trans R2.out
  have y3 : wz.heap[w.heap.size + 1 + 1 + 1]? = _ := (show wz.heap[w.heap.size + 1 + 1 + 1]? = w1.heap[w.heap.size + 1 + 1 + 1]? by
    rw [← hwz]
    exact (heap_alloc_old _ _ (by simp [World.setCell]; omega)).trans (heap_setCell_other _ _ _ _ (by show w.heap.size + 1 + 1 + 1 ≠ w.heap.size; omega))).trans R3.out
  have HK := Lib.hid (show Kp (fun k => k = w.heap.size) w1 wz by rw [← hwz]; exact (Kp.setCell (S := fun k => k = w.heap.size) (Kp.refl _ w1) (Or.inl rfl) _).alloc _)
  have c0' := fun o => cell_of_row wz _ o _ _ (0, 0) y0
  have cw := fun o => cell_of_row wz _ o _ _ (0, 0) yw
  have c2 := fun o => cell_of_row wz _ o _ _ (0, 0) y2
  have c3 := fun o => cell_of_row wz _ o _ _ (0, 0) y3
  have f2 : ∀ o, wz.frozen? ⟨w.heap.size + 1 + 1, o, none⟩ = false := fun o => frozen_of_row _ _ o _ _ y2
  have f3 : ∀ o, wz.frozen? ⟨w.heap.size + 1 + 1 + 1, o, none⟩ = false := fun o => frozen_of_row _ _ o _ _ y3
  have Q2 := Lib.hid y2
  have Q3 := Lib.hid y3
  clear hwz y0 yw y2 y3 c0 c1 f0 R0 R2 R3
  go_region_with (fail)
  all_goals
    go_wp2_with fail
    generalize hwf : World.drew _ = wf
    have X2 : wf.heap[w.heap.size + 1 + 1]? = some (.cells (recC r.kind r.num r.low r.high r.real r.cap a.s (.slice A r.list.length c)) 25 (0, 0)) := by
      rw [← hwf]
      rw [heap_drew]
      exact (ans_other (by omega)).trans (rec_stores Q2.out)
    have X3 : wf.heap[w.heap.size + 1 + 1 + 1]? = some (.cells (ansC 0 0 r A' c') 82 (0, 0)) := by
      rw [← hwf]
      rw [heap_drew]
      exact ans_all ((rec_stores_other (by omega)).trans Q3.out)
    have hk : Kp (fun k => k = w.heap.size ∨ k = w.heap.size + 1 + 1 ∨ k = w.heap.size + 1 + 1 + 1) w1 wf := by
      have hk0 : Kp (fun k => k = w.heap.size ∨ k = w.heap.size + 1 + 1 ∨ k = w.heap.size + 1 + 1 + 1) w1 wz := HK.out.mono (fun i _ x => Or.inl x)
      rw [← hwf]
      exact (kp10 (kp8g hk0 (Or.inl (Or.inr (Or.inl rfl)))) (Or.inl (Or.inr (Or.inr rfl)))).drew
    have HOf := Lib.hid (hk.own HO.out (fun k e x => by rw [ownBlock_slice] at e; have := HN.out k e; rcases x with x | x | x <;> omega))
    have HBf := Lib.hid (HB.out.trans (hk.below HB.out.size (fun i hi x => by rcases x with x | x | x <;> omega)))
    have HNf := Lib.hid (show ∀ k, ob A' = some k → w.heap.size ≤ k from fun k e => by have := HN.out k e; omega)
    have q2 := fun o => cell_of_row wf _ o _ _ (0, 0) X2
    have q3 := fun o => cell_of_row wf _ o _ _ (0, 0) X3
    clear hwf X2 X3 hk c0' cw c2 c3 f2 f3
    exact bodyPost_ret (v := .tuple #[recV { r with text := a.s } A c, ansV 0 0 r A' c']) (by simp [results, Tryz.results121, go_sem, q2, q3]) rfl ⟨A', c', rfl, HOf.out, HNf.out, HBf.out⟩
end Go.Proofs.YtbkcmnmbcldjoaaGreatDoor
namespace Go.Proofs.YtbkcmnmbcldjoaaGreatDoor
open Go.RowKit MM
def kindE (kind k : Int) : Nat := if k = 1 then 7 else if (rowAt k).on ≠ 0 ∧ (rowAt k).on ≠ kind then 5 else 0
set_option maxHeartbeats 1000000 in
set_option maxRecDepth 100000 in
theorem refusalByKind_any (kind k : Int) (w : World) (hR : RowsAt w) :
    Calls Tryz.prog 114 #[.int .i64 kind, .int .i64 k] w (EPost (kindE kind k) w) := by
  have HO := Lib.hid (actOn_any k w hR)
  clear hR
  by_cases h1 : k = 1
  · subst h1
    clear HO
    go_enter Tryz.func114, Tryz.ntmps114
    go_wp2_with fail
    go_ret
    exact EPost.mk (m := 7) rfl rfl (Below.refl _ _)
  have q1 : (k == 1) = false := by simpa using h1
  have HK := Lib.hid (show kindE kind k = if (rowAt k).on ≠ 0 ∧ (rowAt k).on ≠ kind then 5 else 0 by unfold kindE; rw [if_neg h1])
  clear h1
  generalize (rowAt k).on = o at *
  by_cases h2 : o = 0
  · have q2 : (o != 0) = false := by simpa using h2
    have H := Lib.hid (HK.out.trans (if_neg (fun x => x.1 h2)))
    clear h2 HK
    go_enter Tryz.func114, Tryz.ntmps114
    go_wp2_with fail
    refine HO.out.mono ?_
    rintro e w1 ⟨rfl, hb⟩
    go_wp2_with fail
    go_ret
    exact EPost.mk H.out rfl hb
  have q2 : (o != 0) = true := by simpa using h2
  by_cases h3 : o = kind
  · have q3 : (o != kind) = false := by simpa using h3
    have H := Lib.hid (HK.out.trans (if_neg (fun x => x.2 h3)))
    clear h2 h3 HK
    go_enter Tryz.func114, Tryz.ntmps114
    go_wp2_with fail
    refine HO.out.mono ?_
    rintro e w1 ⟨rfl, hb⟩
    go_wp2_with fail
    go_ret
    exact EPost.mk H.out rfl hb
  · have q3 : (o != kind) = true := by simpa using h3
    have H := Lib.hid (HK.out.trans (if_pos ⟨h2, h3⟩))
    clear h2 h3 HK
    go_enter Tryz.func114, Tryz.ntmps114
    go_wp2_with fail
    refine HO.out.mono ?_
    rintro e w1 ⟨rfl, hb⟩
    go_wp2_with fail
    go_ret
    exact EPost.mk H.out rfl hb
/-- Why an act isn't done at all. -/
def refE (r : RC.Rc) (there : Bool) (a : AC.Ac) : Nat :=
  if AC.chk a ≠ 0 then AC.chk a else if there then (if RC.chk r ≠ 0 then RC.chk r else kindE r.kind a.kind) else noneE a.kind
set_option maxHeartbeats 1000000 in
set_option maxRecDepth 100000 in
theorem refusal_any (r : RC.Rc) (there : Bool) (a : AC.Ac) (A L : Option Addr) (c cl : Nat) (w : World) (hr : r.ok) (ha : a.ok) (hR : RowsAt w) (hA : Its w A r.list) (hL : Its w L a.make.list) (n1 : Lim r.list.length) (n2 : Lim a.make.list.length) (n3 : Lim a.key.size) (n4 : Lim a.s.size) :
    Calls Tryz.prog 84 #[recV r A c, .bool there, actV a L cl] w (EPost (refE r there a) w) := by
  have HC := Lib.hid (fun u (b : Below w.heap.size w u) => actCheck_any a L cl u ha (hR.below b) (hL.below b) n2 n3 n4)
  have HD := Lib.hid (fun u (b : Below w.heap.size w u) => recCheck_any r A c u hr (hA.below b) n1)
  have HK := Lib.hid (fun u (b : Below w.heap.size w u) => refusalByKind_any r.kind a.kind u (hR.below b))
  have HE := Lib.hid (show refE r there a = if AC.chk a ≠ 0 then AC.chk a else if there then (if RC.chk r ≠ 0 then RC.chk r else kindE r.kind a.kind) else noneE a.kind from rfl)
  clear hr ha hR hA hL n1 n2 n3 n4
  generalize refE r there a = E at *
  generalize AC.chk a = E1 at *
  generalize RC.chk r = E2 at *
  go_enter Tryz.func84, Tryz.ntmps84
  go_wp2_with fail
  refine (HC.out _ (below2 w _ _)).mono ?_
  rintro e w1 ⟨rfl, hb1⟩
  have e0 := (hb1.block w.heap.size (by simp only [World.size_alloc]; omega)).trans (heap_alloc2_old w _ _)
  have e1 := (hb1.block (w.heap.size + 1) (by simp only [World.size_alloc]; omega)).trans (heap_alloc2_new w _ _)
  have c0 := fun o => cell_of_row w1 _ o _ _ (0, 0) e0
  have c1 := fun o => cell_of_row w1 _ o _ _ (0, 0) e1
  have HB1 := Lib.hid (show Below w.heap.size w w1 from (below2 w _ _).trans (hb1.mono (by simp only [World.size_alloc]; omega)))
  have R0 := Lib.hid e0
  have R1 := Lib.hid e1
  clear hb1 e0 e1
  rcases Nat.eq_zero_or_pos E1 with h | h
  case inr =>
    have q : ((E1 : Int) != 0) = true := by simp; omega
    have H := Lib.hid (HE.out.trans (if_pos (by omega)))
    clear h HE
    go_wp2_with fail
    go_ret
    exact EPost.mk H.out rfl HB1.out
  subst h
  cases there
  · have H := Lib.hid (show E = noneE a.kind by rw [HE.out]; rfl)
    clear HE
    go_wp2_with fail
    refine (refusalByNone_any a.kind _).mono ?_
    rintro e w' ⟨rfl, rfl⟩
    go_wp2_with fail
    go_ret
    exact EPost.mk H.out rfl HB1.out
  go_wp2_with fail
  refine (HD.out _ HB1.out).mono ?_
  rintro e w2 ⟨rfl, hb2⟩
  have HB2 := Lib.hid (HB1.out.trans (hb2.mono HB1.out.size))
  have c0' := fun o => cell_of_row w2 _ o _ _ (0, 0) ((hb2.block _ (lt_of_heap R0.out)).trans R0.out)
  have c1' := fun o => cell_of_row w2 _ o _ _ (0, 0) ((hb2.block _ (lt_of_heap R1.out)).trans R1.out)
  clear hb2 c0 c1
  rcases Nat.eq_zero_or_pos E2 with h | h
  case inr =>
    have q : ((E2 : Int) != 0) = true := by simp; omega
    have H := Lib.hid (show E = E2 by rw [HE.out]; show (if E2 ≠ 0 then E2 else _) = E2; rw [if_pos (by omega)])
    clear h HE
    go_wp2_with fail
    go_ret
    exact EPost.mk H.out rfl HB2.out
  subst h
  have H := Lib.hid (show E = kindE r.kind a.kind by rw [HE.out]; rfl)
  clear HE
  go_wp2_with fail
  refine (HK.out _ HB2.out).mono ?_
  rintro e w3 ⟨rfl, hb3⟩
  go_wp2_with fail
  go_ret
  exact EPost.mk H.out rfl (HB2.out.trans (hb3.mono HB2.out.size))
end Go.Proofs.YtbkcmnmbcldjoaaGreatDoor
namespace Go.Proofs.YtbkcmnmbcldjoaaGreatDoor
open Go.RowKit MM
def ownR (r : RC.Rc) (there : Bool) : RC.Rc := if there then r else RC.zero
def OwnPost (q : RC.Rc) (w : World) (e : Ending) (w' : World) : Prop :=
  ∃ A' c', e = .returned (recV q A' c') ∧ w'.ownsRow 0 91 2 (.slice A' q.list.length c') q.list.length (itCells q.list) ∧ (∀ k, ob A' = some k → w.heap.size ≤ k) ∧ Below w.heap.size w w'
set_option maxHeartbeats 1000000 in
set_option maxRecDepth 100000 in
theorem ruleOwn_any (r : RC.Rc) (there : Bool) (A : Option Addr) (c : Nat) (w : World) (hI : Its w A r.list) (hn : Lim r.list.length) :
    Calls Tryz.prog 81 #[recV r A c, .bool there] w (OwnPost (ownR r there) w) := by
  have HC := Lib.hid (fun w' hI => recClone_any r A c w' hI hn)
  have HI := Lib.hid hI
  clear hI hn
  cases there
  · go_enter Tryz.func81, Tryz.ntmps81
    go_wp2_with fail
    exact bodyPost_ret (v := recV RC.zero none 0) (by simp [results, Tryz.results81, go_sem, RC.zero]) rfl ⟨none, 0, rfl, World.ownsRow_nil _ _ _ _, (fun k e => by cases e), below2 w _ _⟩
  · go_enter Tryz.func81, Tryz.ntmps81
    go_wp2_with fail
    refine (HC.out _ (HI.out.below (below2 w _ _))).mono ?_
    rintro e w1 ⟨A', c', rfl, ho, hn, hb⟩
    have hs := hb.size
    simp only [World.size_alloc] at hs hn
    have hr := (hb.block (w.heap.size + 1) (by simp only [World.size_alloc]; omega)).trans (heap_alloc2_new w _ _)
    have cR := fun o => cell_of_row w1 _ o _ _ (0, 0) hr
    have fR : ∀ o, w1.frozen? ⟨w.heap.size + 1, o, none⟩ = false := fun o => frozen_of_row _ _ o _ _ hr
    have HO := Lib.hid ho
    have HN := Lib.hid hn
    have HB := Lib.hid hb
    clear ho hn hb hr
    go_wp2_with fail
    refine bodyPost_ret (v := recV r A' c') (by simp [results, Tryz.results81, go_sem, cR]) rfl ?_
    generalize hwf : World.setCell _ _ _ = wf
    have hk : Kp (fun k => k = w.heap.size + 1) w1 wf := by rw [← hwf]; exact kp8c (Kp.refl _ _)
    clear hwf
    refine ⟨A', c', rfl, hk.own HO.out (fun k e x => by rw [ownBlock_slice] at e; have := HN.out k e; have x' : k = w.heap.size + 1 := x; omega), fun k e => by have := HN.out k e; omega, ?_⟩
    exact ((below2 w _ _).trans (HB.out.mono (by simp only [World.size_alloc]; omega))).trans (hk.below (by omega) (fun i hi x => by have x' : i = w.heap.size + 1 := x; omega))
end Go.Proofs.YtbkcmnmbcldjoaaGreatDoor
