/- Contracts of package rule: what acts do, kind by kind (first part). -/
import Derived.Test.YtbkcmnmbcldjoaaGreatDoorRcMP7d
import Derived.Test.YtbkcmnmbcldjoaaGreatDoorAct4mP7d
import Derived.Test.YtbkcmnmbcldjoaaGreatDoorRecNP7d
namespace Go.Proofs.YtbkcmnmbcldjoaaGreatDoor
open Go.RowKit MM
/-- What a changing answers, where the list stays where it was. -/
def CgPost (q : RC.Rc) (code : Nat) (A : Option Addr) (c : Nat) (w : World) (e : Ending) (w' : World) : Prop :=
  e = .returned (.tuple #[recV q A c, .int .i64 (code : Nat)]) ∧ Below w.heap.size w w'
theorem CgPost.mk {q q' : RC.Rc} {code : Nat} {z : Int} {A : Option Addr} {c : Nat} {w w' : World} {v : Value} (hv : v = recV q' A c) (hq : q = q') (hz : z = (code : Int)) (hb : Below w.heap.size w w') : CgPost q code A c w (.returned (.tuple #[v, .int .i64 z])) w' := by
  subst hv hq hz; exact ⟨rfl, hb⟩
theorem below3 (w : World) (o o' o'' : Obj) : Below w.heap.size w (((w.alloc o).alloc o').alloc o'') := ((((Below.refl _ w).alloc (Nat.le_refl _) _).alloc (by simp) _).alloc (by simp only [World.size_alloc]; omega) _)
theorem kp8c {w0 w : World} {g : Nat} {c0 c1 c2 c3 c4 c5 c6 c7 : Value} (h : Kp (fun k => k = g) w0 w) : Kp (fun k => k = g) w0 ((((((((w.setCell ⟨g, 0, none⟩ c0).setCell ⟨g, 1, none⟩ c1).setCell ⟨g, 2, none⟩ c2).setCell ⟨g, 3, none⟩ c3).setCell ⟨g, 4, none⟩ c4).setCell ⟨g, 5, none⟩ c5).setCell ⟨g, 6, none⟩ c6).setCell ⟨g, 7, none⟩ c7) := by
  iterate 8 refine Kp.setCell ?_ (Or.inl (by exact rfl)) _
  exact h
set_option maxHeartbeats 1000000 in
set_option maxRecDepth 100000 in
theorem rulePut_any (r : RC.Rc) (a : AC.Ac) (A L : Option Addr) (c cl : Nat) (w : World) :
    Calls Tryz.prog 120 #[recV r A c, actV a L cl] w (CgPost { r with text := a.s } 0 A c w) := by
  go_enter Tryz.func120, Tryz.ntmps120
  go_wp2_with fail
  exact bodyPost_ret (v := .tuple #[recV { r with text := a.s } A c, .int .i64 0]) (by simp [results, Tryz.results120, go_sem]) rfl ⟨rfl, below3 w _ _ _⟩
set_option maxHeartbeats 1000000 in
set_option maxRecDepth 100000 in
theorem ruleAdd_any (r : RC.Rc) (a : AC.Ac) (A L : Option Addr) (c cl : Nat) (w : World) :
    Calls Tryz.prog 122 #[recV r A c, actV a L cl] w (CgPost { r with num := RU.w64 (r.num + a.n) } 0 A c w) := by
  go_enter Tryz.func122, Tryz.ntmps122
  go_wp2_with fail
  exact bodyPost_ret (v := .tuple #[recV { r with num := RU.w64 (r.num + a.n) } A c, .int .i64 0]) (by simp [results, Tryz.results122, go_sem, RU.w64]) rfl ⟨rfl, below3 w _ _ _⟩
set_option maxHeartbeats 1000000 in
set_option maxRecDepth 100000 in
theorem ruleDrop_any (r : RC.Rc) (a : AC.Ac) (A L : Option Addr) (c cl : Nat) (w : World) :
    Calls Tryz.prog 117 #[recV r A c, actV a L cl] w (CgPost RC.zero 0 none 0 w) := by
  go_enter Tryz.func117, Tryz.ntmps117
  go_wp2_with fail
  exact bodyPost_ret (v := .tuple #[recV RC.zero none 0, .int .i64 0]) (by simp [results, Tryz.results117, go_sem, RC.zero]) rfl ⟨rfl, below3 w _ _ _⟩
set_option maxHeartbeats 1000000 in
set_option maxRecDepth 100000 in
theorem rulePlus_over (r : RC.Rc) (a : AC.Ac) (A L : Option Addr) (c cl : Nat) (w : World) (h : RU.plusOver r a.n = true) :
    Calls Tryz.prog 123 #[recV r A c, actV a L cl] w (CgPost r 9 A c w) := by
  have h1 : (decide (wrap64 (r.num + a.n) < r.num) == decide (a.n < 0)) = false := by have h : (decide (wrap64 (r.num + a.n) < r.num) != decide (a.n < 0)) = true := h; simpa [bne] using h
  clear h
  go_enter Tryz.func123, Tryz.ntmps123
  go_wp2_with fail
  exact bodyPost_ret (v := .tuple #[recV r A c, .int .i64 9]) (by simp [results, Tryz.results123, go_sem]) rfl ⟨rfl, below3 w _ _ _⟩
set_option maxHeartbeats 1000000 in
set_option maxRecDepth 100000 in
theorem rulePlus_fits (r : RC.Rc) (a : AC.Ac) (A L : Option Addr) (c cl : Nat) (w : World) (h : RU.plusOver r a.n = false) :
    Calls Tryz.prog 123 #[recV r A c, actV a L cl] w (CgPost { r with num := RU.w64 (r.num + a.n) } 0 A c w) := by
  have h1 : (decide (wrap64 (r.num + a.n) < r.num) == decide (a.n < 0)) = true := by have h : (decide (wrap64 (r.num + a.n) < r.num) != decide (a.n < 0)) = false := h; simpa [bne] using h
  clear h
  go_enter Tryz.func123, Tryz.ntmps123
  go_wp2_with fail
  exact bodyPost_ret (v := .tuple #[recV { r with num := RU.w64 (r.num + a.n) } A c, .int .i64 0]) (by simp [results, Tryz.results123, go_sem, RU.w64]) rfl ⟨rfl, below3 w _ _ _⟩
set_option maxHeartbeats 1000000 in
set_option maxRecDepth 100000 in
theorem ruleIn_over (r : RC.Rc) (a : AC.Ac) (A L : Option Addr) (c cl : Nat) (w : World) (h : r.high < RU.w64 (r.num + a.n)) :
    Calls Tryz.prog 126 #[recV r A c, actV a L cl] w (CgPost r 9 A c w) := by
  have h1 : r.high < wrap64 (r.num + a.n) := h
  clear h
  go_enter Tryz.func126, Tryz.ntmps126
  go_wp2_with fail
  exact bodyPost_ret (v := .tuple #[recV r A c, .int .i64 9]) (by simp [results, Tryz.results126, go_sem]) rfl ⟨rfl, below3 w _ _ _⟩
set_option maxHeartbeats 1000000 in
set_option maxRecDepth 100000 in
theorem ruleIn_fits (r : RC.Rc) (a : AC.Ac) (A L : Option Addr) (c cl : Nat) (w : World) (h : ¬ r.high < RU.w64 (r.num + a.n)) :
    Calls Tryz.prog 126 #[recV r A c, actV a L cl] w (CgPost { r with num := RU.w64 (r.num + a.n) } 0 A c w) := by
  have h1 : ¬ r.high < wrap64 (r.num + a.n) := h
  clear h
  go_enter Tryz.func126, Tryz.ntmps126
  go_wp2_with fail
  exact bodyPost_ret (v := .tuple #[recV { r with num := RU.w64 (r.num + a.n) } A c, .int .i64 0]) (by simp [results, Tryz.results126, go_sem, RU.w64]) rfl ⟨rfl, below3 w _ _ _⟩
set_option maxHeartbeats 1000000 in
set_option maxRecDepth 100000 in
theorem ruleOut_over (r : RC.Rc) (a : AC.Ac) (A L : Option Addr) (c cl : Nat) (w : World) (h : RU.w64 (r.num - a.n) < r.low) :
    Calls Tryz.prog 127 #[recV r A c, actV a L cl] w (CgPost r 10 A c w) := by
  have h1 : wrap64 (r.num - a.n) < r.low := h
  clear h
  go_enter Tryz.func127, Tryz.ntmps127
  go_wp2_with fail
  exact bodyPost_ret (v := .tuple #[recV r A c, .int .i64 10]) (by simp [results, Tryz.results127, go_sem]) rfl ⟨rfl, below3 w _ _ _⟩
set_option maxHeartbeats 1000000 in
set_option maxRecDepth 100000 in
theorem ruleOut_fits (r : RC.Rc) (a : AC.Ac) (A L : Option Addr) (c cl : Nat) (w : World) (h : ¬ RU.w64 (r.num - a.n) < r.low) :
    Calls Tryz.prog 127 #[recV r A c, actV a L cl] w (CgPost { r with num := RU.w64 (r.num - a.n) } 0 A c w) := by
  have h1 : ¬ wrap64 (r.num - a.n) < r.low := h
  clear h
  go_enter Tryz.func127, Tryz.ntmps127
  go_wp2_with fail
  exact bodyPost_ret (v := .tuple #[recV { r with num := RU.w64 (r.num - a.n) } A c, .int .i64 0]) (by simp [results, Tryz.results127, go_sem, RU.w64]) rfl ⟨rfl, below3 w _ _ _⟩
set_option maxHeartbeats 1000000 in
set_option maxRecDepth 100000 in
theorem ruleReaches_any (r : RC.Rc) (a : AC.Ac) (A L : Option Addr) (c cl : Nat) (w : World) :
    Calls Tryz.prog 125 #[recV r A c, actV a L cl] w fun e w' => e = .returned (.bool (decide (a.n ≤ r.num))) ∧ Below w.heap.size w w' := by
  go_enter Tryz.func125, Tryz.ntmps125
  go_wp2_with fail
  go_ret
  exact ⟨rfl, below2 w _ _⟩
set_option maxHeartbeats 1000000 in
set_option maxRecDepth 100000 in
theorem ruleLatter_any (x y : Nat) (w : World) :
    Calls Tryz.prog 131 #[.float .f64 x, .float .f64 y] w fun e w' => e = .returned (.float .f64 y) ∧ w = w' := by
  go_enter Tryz.func131, Tryz.ntmps131
  go_wp2_with fail
  go_ret
  exact ⟨rfl, rfl⟩
set_option maxHeartbeats 1000000 in
set_option maxRecDepth 100000 in
theorem ruleCreate_any (r : RC.Rc) (a : AC.Ac) (A L : Option Addr) (c cl : Nat) (w : World) (hI : Its w L a.make.list) (hn : Lim a.make.list.length) :
    Calls Tryz.prog 116 #[recV r A c, actV a L cl] w fun e w' => ∃ A' c', e = .returned (.tuple #[recV a.make A' c', .int .i64 0]) ∧ w'.ownsRow 0 91 2 (.slice A' a.make.list.length c') a.make.list.length (itCells a.make.list) ∧ (∀ k, ob A' = some k → w.heap.size ≤ k) ∧ Below w.heap.size w w' := by
  have HC := Lib.hid (fun w' hI => recClone_any a.make L cl w' hI hn)
  have HI := Lib.hid hI
  clear hI hn
  go_enter Tryz.func116, Tryz.ntmps116
  go_wp2_with fail
  refine (HC.out _ (HI.out.below (below3 w _ _ _))).mono ?_
  rintro e w1 ⟨A', c', rfl, ho, hn, hb⟩
  have hs := hb.size
  simp only [World.size_alloc] at hs
  have hr := (hb.block (w.heap.size + 1 + 1) (by simp only [World.size_alloc]; omega)).trans (heap_new _ _ _ (by simp))
  have cR := fun o => cell_of_row w1 _ o _ _ (0, 0) hr
  have fR : ∀ o, w1.frozen? ⟨w.heap.size + 1 + 1, o, none⟩ = false := fun o => frozen_of_row _ _ o _ _ hr
  have HO := Lib.hid ho
  have HN := Lib.hid hn
  have HB := Lib.hid hb
  clear ho hn hb hr
  go_wp2_with fail
  refine bodyPost_ret (v := .tuple #[recV a.make A' c', .int .i64 0]) (by simp [results, Tryz.results116, go_sem, cR]) rfl ?_
  generalize hwf : World.setCell _ _ _ = wf
  have hk : Kp (fun k => k = w.heap.size + 1 + 1) w1 wf := by rw [← hwf]; exact kp8c (Kp.refl _ _)
  clear hwf
  have hN := HN.out
  simp only [World.size_alloc] at hN
  refine ⟨A', c', rfl, hk.own HO.out (fun k e x => by rw [ownBlock_slice] at e; have := hN k e; have x' : k = w.heap.size + 1 + 1 := x; omega), fun k e => by have := hN k e; omega, ?_⟩
  exact ((below3 w _ _ _).trans (HB.out.mono (by simp only [World.size_alloc]; omega))).trans (hk.below (by omega) (fun i hi x => by have x' : i = w.heap.size + 1 + 1 := x; omega))
end Go.Proofs.YtbkcmnmbcldjoaaGreatDoor
namespace Go.Proofs.YtbkcmnmbcldjoaaGreatDoor
open Go.RowKit MM
abbrev ansC (code : Int) (num : Int) (q : RC.Rc) (A : Option Addr) (c : Nat) : Array Value := #[.int .i64 code, .int .i64 num, .int .i64 q.kind, .int .i64 q.num, .int .i64 q.low, .int .i64 q.high, .float .f64 q.real, .int .i64 q.cap, .string q.text, .slice A q.list.length c]
abbrev ansV (code : Int) (num : Int) (q : RC.Rc) (A : Option Addr) (c : Nat) : Value := .agg (ansC code num q A c)
/-- A function that was kept in a cell. -/
theorem func_keep {w : World} {b : Nat} {v : Value} (hb : w.cell? ⟨b, 0, none⟩ = some v) (o1 o2 o3 o4 : Obj) : ((((w.alloc o1).alloc o2).alloc o3).alloc o4).cell? ⟨b, 0, none⟩ = some v :=
  below_keep (below1 _ o4) (below_keep (below1 _ o3) (below_keep (below1 _ o2) (below_keep (below1 w o1) hb)))
theorem below4 (w : World) (o1 o2 o3 o4 : Obj) : Below w.heap.size w ((((w.alloc o1).alloc o2).alloc o3).alloc o4) := (below3 w o1 o2 o3).alloc (by simp only [World.size_alloc]; omega) _
section
variable {w : World} {g : Nat} {x0 x1 x2 x3 x4 x5 x6 x7 x8 x9 d0 d1 d2 d3 d4 d5 d6 d7 d8 d9 : Value} {t : TypeId}
theorem ans_all (hq : w.heap[g]? = some (.cells #[x0, x1, x2, x3, x4, x5, x6, x7, x8, x9] t (0, 0))) : ((((((((((w.setCell ⟨g, 0, none⟩ d0).setCell ⟨g, 1, none⟩ d1).setCell ⟨g, 2, none⟩ d2).setCell ⟨g, 3, none⟩ d3).setCell ⟨g, 4, none⟩ d4).setCell ⟨g, 5, none⟩ d5).setCell ⟨g, 6, none⟩ d6).setCell ⟨g, 7, none⟩ d7).setCell ⟨g, 8, none⟩ d8).setCell ⟨g, 9, none⟩ d9).heap[g]? = some (.cells #[d0, d1, d2, d3, d4, d5, d6, d7, d8, d9] t (0, 0)) := by
  have h0 : (w.setCell ⟨g, 0, none⟩ d0).heap[g]? = some (.cells #[d0, x1, x2, x3, x4, x5, x6, x7, x8, x9] t (0, 0)) := heap_setCell_same _ _ _ _ _ _ hq
  have h1 : ((w.setCell ⟨g, 0, none⟩ d0).setCell ⟨g, 1, none⟩ d1).heap[g]? = some (.cells #[d0, d1, x2, x3, x4, x5, x6, x7, x8, x9] t (0, 0)) := heap_setCell_same _ _ _ _ _ _ h0
  have h2 : (((w.setCell ⟨g, 0, none⟩ d0).setCell ⟨g, 1, none⟩ d1).setCell ⟨g, 2, none⟩ d2).heap[g]? = some (.cells #[d0, d1, d2, x3, x4, x5, x6, x7, x8, x9] t (0, 0)) := heap_setCell_same _ _ _ _ _ _ h1
  have h3 : ((((w.setCell ⟨g, 0, none⟩ d0).setCell ⟨g, 1, none⟩ d1).setCell ⟨g, 2, none⟩ d2).setCell ⟨g, 3, none⟩ d3).heap[g]? = some (.cells #[d0, d1, d2, d3, x4, x5, x6, x7, x8, x9] t (0, 0)) := heap_setCell_same _ _ _ _ _ _ h2
  have h4 : (((((w.setCell ⟨g, 0, none⟩ d0).setCell ⟨g, 1, none⟩ d1).setCell ⟨g, 2, none⟩ d2).setCell ⟨g, 3, none⟩ d3).setCell ⟨g, 4, none⟩ d4).heap[g]? = some (.cells #[d0, d1, d2, d3, d4, x5, x6, x7, x8, x9] t (0, 0)) := heap_setCell_same _ _ _ _ _ _ h3
  have h5 : ((((((w.setCell ⟨g, 0, none⟩ d0).setCell ⟨g, 1, none⟩ d1).setCell ⟨g, 2, none⟩ d2).setCell ⟨g, 3, none⟩ d3).setCell ⟨g, 4, none⟩ d4).setCell ⟨g, 5, none⟩ d5).heap[g]? = some (.cells #[d0, d1, d2, d3, d4, d5, x6, x7, x8, x9] t (0, 0)) := heap_setCell_same _ _ _ _ _ _ h4
  have h6 : (((((((w.setCell ⟨g, 0, none⟩ d0).setCell ⟨g, 1, none⟩ d1).setCell ⟨g, 2, none⟩ d2).setCell ⟨g, 3, none⟩ d3).setCell ⟨g, 4, none⟩ d4).setCell ⟨g, 5, none⟩ d5).setCell ⟨g, 6, none⟩ d6).heap[g]? = some (.cells #[d0, d1, d2, d3, d4, d5, d6, x7, x8, x9] t (0, 0)) := heap_setCell_same _ _ _ _ _ _ h5
  have h7 : ((((((((w.setCell ⟨g, 0, none⟩ d0).setCell ⟨g, 1, none⟩ d1).setCell ⟨g, 2, none⟩ d2).setCell ⟨g, 3, none⟩ d3).setCell ⟨g, 4, none⟩ d4).setCell ⟨g, 5, none⟩ d5).setCell ⟨g, 6, none⟩ d6).setCell ⟨g, 7, none⟩ d7).heap[g]? = some (.cells #[d0, d1, d2, d3, d4, d5, d6, d7, x8, x9] t (0, 0)) := heap_setCell_same _ _ _ _ _ _ h6
  have h8 : (((((((((w.setCell ⟨g, 0, none⟩ d0).setCell ⟨g, 1, none⟩ d1).setCell ⟨g, 2, none⟩ d2).setCell ⟨g, 3, none⟩ d3).setCell ⟨g, 4, none⟩ d4).setCell ⟨g, 5, none⟩ d5).setCell ⟨g, 6, none⟩ d6).setCell ⟨g, 7, none⟩ d7).setCell ⟨g, 8, none⟩ d8).heap[g]? = some (.cells #[d0, d1, d2, d3, d4, d5, d6, d7, d8, x9] t (0, 0)) := heap_setCell_same _ _ _ _ _ _ h7
  have h9 : ((((((((((w.setCell ⟨g, 0, none⟩ d0).setCell ⟨g, 1, none⟩ d1).setCell ⟨g, 2, none⟩ d2).setCell ⟨g, 3, none⟩ d3).setCell ⟨g, 4, none⟩ d4).setCell ⟨g, 5, none⟩ d5).setCell ⟨g, 6, none⟩ d6).setCell ⟨g, 7, none⟩ d7).setCell ⟨g, 8, none⟩ d8).setCell ⟨g, 9, none⟩ d9).heap[g]? = some (.cells #[d0, d1, d2, d3, d4, d5, d6, d7, d8, d9] t (0, 0)) := heap_setCell_same _ _ _ _ _ _ h8
  exact h9
theorem ans_other {k : Nat} (h : k ≠ g) : ((((((((((w.setCell ⟨g, 0, none⟩ d0).setCell ⟨g, 1, none⟩ d1).setCell ⟨g, 2, none⟩ d2).setCell ⟨g, 3, none⟩ d3).setCell ⟨g, 4, none⟩ d4).setCell ⟨g, 5, none⟩ d5).setCell ⟨g, 6, none⟩ d6).setCell ⟨g, 7, none⟩ d7).setCell ⟨g, 8, none⟩ d8).setCell ⟨g, 9, none⟩ d9).heap[k]? = w.heap[k]? := by
  iterate 10 refine (heap_setCell_other _ _ _ _ h).trans ?_
  rfl
theorem below10 {B : Nat} {w0 : World} (h : Below B w0 w) (hg : B ≤ g) : Below B w0 ((((((((((w.setCell ⟨g, 0, none⟩ d0).setCell ⟨g, 1, none⟩ d1).setCell ⟨g, 2, none⟩ d2).setCell ⟨g, 3, none⟩ d3).setCell ⟨g, 4, none⟩ d4).setCell ⟨g, 5, none⟩ d5).setCell ⟨g, 6, none⟩ d6).setCell ⟨g, 7, none⟩ d7).setCell ⟨g, 8, none⟩ d8).setCell ⟨g, 9, none⟩ d9) := by
  iterate 10 refine Below.setCell ?_ hg _
  exact h
end
theorem below8c {B : Nat} {w0 w : World} {g : Nat} {c0 c1 c2 c3 c4 c5 c6 c7 : Value} (h : Below B w0 w) (hg : B ≤ g) : Below B w0 ((((((((w.setCell ⟨g, 0, none⟩ c0).setCell ⟨g, 1, none⟩ c1).setCell ⟨g, 2, none⟩ c2).setCell ⟨g, 3, none⟩ c3).setCell ⟨g, 4, none⟩ c4).setCell ⟨g, 5, none⟩ c5).setCell ⟨g, 6, none⟩ c6).setCell ⟨g, 7, none⟩ c7) := by
  iterate 8 refine Below.setCell ?_ hg _
  exact h
/-- What a doing answers: the record, whose list is A's; the answer. -/
def DoPost (q : RC.Rc) (A : Option Addr) (c : Nat) (code : Nat) (w : World) (e : Ending) (w' : World) : Prop :=
  e = .returned (.tuple #[recV q A c, ansV code 0 RC.zero none 0]) ∧ Below w.heap.size w w'
set_option maxHeartbeats 1000000 in
set_option maxRecDepth 100000 in
theorem changePut_any (b : Nat) (r : RC.Rc) (a : AC.Ac) (A L : Option Addr) (c cl : Nat) (w : World) (hb : w.cell? ⟨b, 0, none⟩ = some (.func (.func 120) #[] #[])) :
    Calls Tryz.prog 147 #[recV r A c, actV a L cl, .pointer (some ⟨b, 0, none⟩)] w (DoPost { r with text := a.s } A c 0 w) := by
  have hb4 := fun o1 o2 o3 o4 => func_keep hb o1 o2 o3 o4
  clear hb
  go_enter Tryz.func147, Tryz.ntmps147
  go_wp2_with fail
  refine (rulePut_any r a A L c cl _).mono ?_
  rintro e w1 ⟨rfl, hb1⟩
  have hs := hb1.size
  simp only [World.size_alloc] at hs
  have e0 := (hb1.block w.heap.size (by simp only [World.size_alloc]; omega)).trans ((heap_alloc_old _ _ (by simp only [World.size_alloc]; omega)).trans ((heap_alloc_old _ _ (by simp only [World.size_alloc]; omega)).trans (heap_alloc2_old w _ _)))
  have e2 := (hb1.block (w.heap.size + 1 + 1) (by simp only [World.size_alloc]; omega)).trans ((heap_alloc_old _ _ (by simp only [World.size_alloc]; omega)).trans (heap_new _ _ _ (by simp)))
  have e3 := (hb1.block (w.heap.size + 1 + 1 + 1) (by simp only [World.size_alloc]; omega)).trans (heap_new _ _ _ (by simp))
  have c0 := fun o => cell_of_row w1 _ o _ _ (0, 0) e0
  have c2 := fun o => cell_of_row w1 _ o _ _ (0, 0) e2
  have c3 := fun o => cell_of_row w1 _ o _ _ (0, 0) e3
  have f2 : ∀ o, w1.frozen? ⟨w.heap.size + 1 + 1, o, none⟩ = false := fun o => frozen_of_row _ _ o _ _ e2
  have f3 : ∀ o, w1.frozen? ⟨w.heap.size + 1 + 1 + 1, o, none⟩ = false := fun o => frozen_of_row _ _ o _ _ e3
  have HB := Lib.hid (show Below w.heap.size w w1 from (below4 w _ _ _ _).trans (hb1.mono (by simp only [World.size_alloc]; omega)))
  have R2 := Lib.hid e2
  have R3 := Lib.hid e3
  have z0 : w.heap.size < w1.heap.size := by omega
  have z2 : w.heap.size + 1 + 1 < w1.heap.size := by omega
  have z3 : w.heap.size + 1 + 1 + 1 < w1.heap.size := by omega
  clear hb1 e0 e2 e3 hs
  go_wp2_with fail
  generalize hwf : World.alloc _ _ = wf
  have X2 : wf.heap[w.heap.size + 1 + 1]? = some (.cells (recC (r.kind) (r.num) (r.low) (r.high) (r.real) (r.cap) (a.s) (.slice A r.list.length c)) 25 (0, 0)) := by
    rw [← hwf]
    exact (heap_alloc_old _ _ (by simp; omega)).trans ((ans_other (by omega)).trans (rec_stores R2.out))
  have X3 : wf.heap[w.heap.size + 1 + 1 + 1]? = some (.cells (ansC 0 0 RC.zero none 0) 82 (0, 0)) := by
    rw [← hwf]
    exact (heap_alloc_old _ _ (by simp; omega)).trans (ans_all ((rec_stores_other (by omega)).trans R3.out))
  have HBf := Lib.hid (show Below w.heap.size w wf by
    rw [← hwf]
    exact (below10 (below8c HB.out (by omega)) (by omega)).alloc (by have := HB.out.size; simp; omega) _)
  have k2 := fun o => cell_of_row wf _ o _ _ (0, 0) X2
  have k3 := fun o => cell_of_row wf _ o _ _ (0, 0) X3
  clear hwf X2 X3 c0 c2 c3 f2 f3 hb4
  exact bodyPost_ret (v := .tuple #[recV { r with text := a.s } A c, ansV 0 0 RC.zero none 0]) (by simp [results, Tryz.results147, go_sem, k2, k3]) rfl ⟨rfl, HBf.out⟩
set_option maxHeartbeats 1000000 in
set_option maxRecDepth 100000 in
theorem changeAdd_any (b : Nat) (r : RC.Rc) (a : AC.Ac) (A L : Option Addr) (c cl : Nat) (w : World) (hb : w.cell? ⟨b, 0, none⟩ = some (.func (.func 122) #[] #[])) :
    Calls Tryz.prog 147 #[recV r A c, actV a L cl, .pointer (some ⟨b, 0, none⟩)] w (DoPost { r with num := RU.w64 (r.num + a.n) } A c 0 w) := by
  have hb4 := fun o1 o2 o3 o4 => func_keep hb o1 o2 o3 o4
  clear hb
  go_enter Tryz.func147, Tryz.ntmps147
  go_wp2_with fail
  refine (ruleAdd_any r a A L c cl _).mono ?_
  rintro e w1 ⟨rfl, hb1⟩
  have hs := hb1.size
  simp only [World.size_alloc] at hs
  have e0 := (hb1.block w.heap.size (by simp only [World.size_alloc]; omega)).trans ((heap_alloc_old _ _ (by simp only [World.size_alloc]; omega)).trans ((heap_alloc_old _ _ (by simp only [World.size_alloc]; omega)).trans (heap_alloc2_old w _ _)))
  have e2 := (hb1.block (w.heap.size + 1 + 1) (by simp only [World.size_alloc]; omega)).trans ((heap_alloc_old _ _ (by simp only [World.size_alloc]; omega)).trans (heap_new _ _ _ (by simp)))
  have e3 := (hb1.block (w.heap.size + 1 + 1 + 1) (by simp only [World.size_alloc]; omega)).trans (heap_new _ _ _ (by simp))
  have c0 := fun o => cell_of_row w1 _ o _ _ (0, 0) e0
  have c2 := fun o => cell_of_row w1 _ o _ _ (0, 0) e2
  have c3 := fun o => cell_of_row w1 _ o _ _ (0, 0) e3
  have f2 : ∀ o, w1.frozen? ⟨w.heap.size + 1 + 1, o, none⟩ = false := fun o => frozen_of_row _ _ o _ _ e2
  have f3 : ∀ o, w1.frozen? ⟨w.heap.size + 1 + 1 + 1, o, none⟩ = false := fun o => frozen_of_row _ _ o _ _ e3
  have HB := Lib.hid (show Below w.heap.size w w1 from (below4 w _ _ _ _).trans (hb1.mono (by simp only [World.size_alloc]; omega)))
  have R2 := Lib.hid e2
  have R3 := Lib.hid e3
  have z0 : w.heap.size < w1.heap.size := by omega
  have z2 : w.heap.size + 1 + 1 < w1.heap.size := by omega
  have z3 : w.heap.size + 1 + 1 + 1 < w1.heap.size := by omega
  clear hb1 e0 e2 e3 hs
  go_wp2_with fail
  generalize hwf : World.alloc _ _ = wf
  have X2 : wf.heap[w.heap.size + 1 + 1]? = some (.cells (recC (r.kind) (RU.w64 (r.num + a.n)) (r.low) (r.high) (r.real) (r.cap) (r.text) (.slice A r.list.length c)) 25 (0, 0)) := by
    rw [← hwf]
    exact (heap_alloc_old _ _ (by simp; omega)).trans ((ans_other (by omega)).trans (rec_stores R2.out))
  have X3 : wf.heap[w.heap.size + 1 + 1 + 1]? = some (.cells (ansC 0 0 RC.zero none 0) 82 (0, 0)) := by
    rw [← hwf]
    exact (heap_alloc_old _ _ (by simp; omega)).trans (ans_all ((rec_stores_other (by omega)).trans R3.out))
  have HBf := Lib.hid (show Below w.heap.size w wf by
    rw [← hwf]
    exact (below10 (below8c HB.out (by omega)) (by omega)).alloc (by have := HB.out.size; simp; omega) _)
  have k2 := fun o => cell_of_row wf _ o _ _ (0, 0) X2
  have k3 := fun o => cell_of_row wf _ o _ _ (0, 0) X3
  clear hwf X2 X3 c0 c2 c3 f2 f3 hb4
  exact bodyPost_ret (v := .tuple #[recV { r with num := RU.w64 (r.num + a.n) } A c, ansV 0 0 RC.zero none 0]) (by simp [results, Tryz.results147, go_sem, k2, k3]) rfl ⟨rfl, HBf.out⟩
set_option maxHeartbeats 1000000 in
set_option maxRecDepth 100000 in
theorem changePlus_over (b : Nat) (r : RC.Rc) (a : AC.Ac) (A L : Option Addr) (c cl : Nat) (w : World) (hb : w.cell? ⟨b, 0, none⟩ = some (.func (.func 123) #[] #[])) (h : RU.plusOver r a.n = true) :
    Calls Tryz.prog 147 #[recV r A c, actV a L cl, .pointer (some ⟨b, 0, none⟩)] w (DoPost r A c 9 w) := by
  have hb4 := fun o1 o2 o3 o4 => func_keep hb o1 o2 o3 o4
  have Hh := Lib.hid h
  clear h
  clear hb
  go_enter Tryz.func147, Tryz.ntmps147
  go_wp2_with fail
  refine (rulePlus_over r a A L c cl _ Hh.out).mono ?_
  rintro e w1 ⟨rfl, hb1⟩
  have hs := hb1.size
  simp only [World.size_alloc] at hs
  have e0 := (hb1.block w.heap.size (by simp only [World.size_alloc]; omega)).trans ((heap_alloc_old _ _ (by simp only [World.size_alloc]; omega)).trans ((heap_alloc_old _ _ (by simp only [World.size_alloc]; omega)).trans (heap_alloc2_old w _ _)))
  have e2 := (hb1.block (w.heap.size + 1 + 1) (by simp only [World.size_alloc]; omega)).trans ((heap_alloc_old _ _ (by simp only [World.size_alloc]; omega)).trans (heap_new _ _ _ (by simp)))
  have e3 := (hb1.block (w.heap.size + 1 + 1 + 1) (by simp only [World.size_alloc]; omega)).trans (heap_new _ _ _ (by simp))
  have c0 := fun o => cell_of_row w1 _ o _ _ (0, 0) e0
  have c2 := fun o => cell_of_row w1 _ o _ _ (0, 0) e2
  have c3 := fun o => cell_of_row w1 _ o _ _ (0, 0) e3
  have f2 : ∀ o, w1.frozen? ⟨w.heap.size + 1 + 1, o, none⟩ = false := fun o => frozen_of_row _ _ o _ _ e2
  have f3 : ∀ o, w1.frozen? ⟨w.heap.size + 1 + 1 + 1, o, none⟩ = false := fun o => frozen_of_row _ _ o _ _ e3
  have HB := Lib.hid (show Below w.heap.size w w1 from (below4 w _ _ _ _).trans (hb1.mono (by simp only [World.size_alloc]; omega)))
  have R2 := Lib.hid e2
  have R3 := Lib.hid e3
  have z0 : w.heap.size < w1.heap.size := by omega
  have z2 : w.heap.size + 1 + 1 < w1.heap.size := by omega
  have z3 : w.heap.size + 1 + 1 + 1 < w1.heap.size := by omega
  clear hb1 e0 e2 e3 hs
  go_wp2_with fail
  generalize hwf : World.alloc _ _ = wf
  have X2 : wf.heap[w.heap.size + 1 + 1]? = some (.cells (recC (r.kind) (r.num) (r.low) (r.high) (r.real) (r.cap) (r.text) (.slice A r.list.length c)) 25 (0, 0)) := by
    rw [← hwf]
    exact (heap_alloc_old _ _ (by simp; omega)).trans ((ans_other (by omega)).trans (rec_stores R2.out))
  have X3 : wf.heap[w.heap.size + 1 + 1 + 1]? = some (.cells (ansC 9 0 RC.zero none 0) 82 (0, 0)) := by
    rw [← hwf]
    exact (heap_alloc_old _ _ (by simp; omega)).trans (ans_all ((rec_stores_other (by omega)).trans R3.out))
  have HBf := Lib.hid (show Below w.heap.size w wf by
    rw [← hwf]
    exact (below10 (below8c HB.out (by omega)) (by omega)).alloc (by have := HB.out.size; simp; omega) _)
  have k2 := fun o => cell_of_row wf _ o _ _ (0, 0) X2
  have k3 := fun o => cell_of_row wf _ o _ _ (0, 0) X3
  clear hwf X2 X3 c0 c2 c3 f2 f3 hb4
  exact bodyPost_ret (v := .tuple #[recV r A c, ansV 9 0 RC.zero none 0]) (by simp [results, Tryz.results147, go_sem, k2, k3]) rfl ⟨rfl, HBf.out⟩
set_option maxHeartbeats 1000000 in
set_option maxRecDepth 100000 in
theorem changePlus_fits (b : Nat) (r : RC.Rc) (a : AC.Ac) (A L : Option Addr) (c cl : Nat) (w : World) (hb : w.cell? ⟨b, 0, none⟩ = some (.func (.func 123) #[] #[])) (h : RU.plusOver r a.n = false) :
    Calls Tryz.prog 147 #[recV r A c, actV a L cl, .pointer (some ⟨b, 0, none⟩)] w (DoPost { r with num := RU.w64 (r.num + a.n) } A c 0 w) := by
  have hb4 := fun o1 o2 o3 o4 => func_keep hb o1 o2 o3 o4
  have Hh := Lib.hid h
  clear h
  clear hb
  go_enter Tryz.func147, Tryz.ntmps147
  go_wp2_with fail
  refine (rulePlus_fits r a A L c cl _ Hh.out).mono ?_
  rintro e w1 ⟨rfl, hb1⟩
  have hs := hb1.size
  simp only [World.size_alloc] at hs
  have e0 := (hb1.block w.heap.size (by simp only [World.size_alloc]; omega)).trans ((heap_alloc_old _ _ (by simp only [World.size_alloc]; omega)).trans ((heap_alloc_old _ _ (by simp only [World.size_alloc]; omega)).trans (heap_alloc2_old w _ _)))
  have e2 := (hb1.block (w.heap.size + 1 + 1) (by simp only [World.size_alloc]; omega)).trans ((heap_alloc_old _ _ (by simp only [World.size_alloc]; omega)).trans (heap_new _ _ _ (by simp)))
  have e3 := (hb1.block (w.heap.size + 1 + 1 + 1) (by simp only [World.size_alloc]; omega)).trans (heap_new _ _ _ (by simp))
  have c0 := fun o => cell_of_row w1 _ o _ _ (0, 0) e0
  have c2 := fun o => cell_of_row w1 _ o _ _ (0, 0) e2
  have c3 := fun o => cell_of_row w1 _ o _ _ (0, 0) e3
  have f2 : ∀ o, w1.frozen? ⟨w.heap.size + 1 + 1, o, none⟩ = false := fun o => frozen_of_row _ _ o _ _ e2
  have f3 : ∀ o, w1.frozen? ⟨w.heap.size + 1 + 1 + 1, o, none⟩ = false := fun o => frozen_of_row _ _ o _ _ e3
  have HB := Lib.hid (show Below w.heap.size w w1 from (below4 w _ _ _ _).trans (hb1.mono (by simp only [World.size_alloc]; omega)))
  have R2 := Lib.hid e2
  have R3 := Lib.hid e3
  have z0 : w.heap.size < w1.heap.size := by omega
  have z2 : w.heap.size + 1 + 1 < w1.heap.size := by omega
  have z3 : w.heap.size + 1 + 1 + 1 < w1.heap.size := by omega
  clear hb1 e0 e2 e3 hs
  go_wp2_with fail
  generalize hwf : World.alloc _ _ = wf
  have X2 : wf.heap[w.heap.size + 1 + 1]? = some (.cells (recC (r.kind) (RU.w64 (r.num + a.n)) (r.low) (r.high) (r.real) (r.cap) (r.text) (.slice A r.list.length c)) 25 (0, 0)) := by
    rw [← hwf]
    exact (heap_alloc_old _ _ (by simp; omega)).trans ((ans_other (by omega)).trans (rec_stores R2.out))
  have X3 : wf.heap[w.heap.size + 1 + 1 + 1]? = some (.cells (ansC 0 0 RC.zero none 0) 82 (0, 0)) := by
    rw [← hwf]
    exact (heap_alloc_old _ _ (by simp; omega)).trans (ans_all ((rec_stores_other (by omega)).trans R3.out))
  have HBf := Lib.hid (show Below w.heap.size w wf by
    rw [← hwf]
    exact (below10 (below8c HB.out (by omega)) (by omega)).alloc (by have := HB.out.size; simp; omega) _)
  have k2 := fun o => cell_of_row wf _ o _ _ (0, 0) X2
  have k3 := fun o => cell_of_row wf _ o _ _ (0, 0) X3
  clear hwf X2 X3 c0 c2 c3 f2 f3 hb4
  exact bodyPost_ret (v := .tuple #[recV { r with num := RU.w64 (r.num + a.n) } A c, ansV 0 0 RC.zero none 0]) (by simp [results, Tryz.results147, go_sem, k2, k3]) rfl ⟨rfl, HBf.out⟩
set_option maxHeartbeats 1000000 in
set_option maxRecDepth 100000 in
theorem changeIn_over (b : Nat) (r : RC.Rc) (a : AC.Ac) (A L : Option Addr) (c cl : Nat) (w : World) (hb : w.cell? ⟨b, 0, none⟩ = some (.func (.func 126) #[] #[])) (h : r.high < RU.w64 (r.num + a.n)) :
    Calls Tryz.prog 147 #[recV r A c, actV a L cl, .pointer (some ⟨b, 0, none⟩)] w (DoPost r A c 9 w) := by
  have hb4 := fun o1 o2 o3 o4 => func_keep hb o1 o2 o3 o4
  have Hh := Lib.hid h
  clear h
  clear hb
  go_enter Tryz.func147, Tryz.ntmps147
  go_wp2_with fail
  refine (ruleIn_over r a A L c cl _ Hh.out).mono ?_
  rintro e w1 ⟨rfl, hb1⟩
  have hs := hb1.size
  simp only [World.size_alloc] at hs
  have e0 := (hb1.block w.heap.size (by simp only [World.size_alloc]; omega)).trans ((heap_alloc_old _ _ (by simp only [World.size_alloc]; omega)).trans ((heap_alloc_old _ _ (by simp only [World.size_alloc]; omega)).trans (heap_alloc2_old w _ _)))
  have e2 := (hb1.block (w.heap.size + 1 + 1) (by simp only [World.size_alloc]; omega)).trans ((heap_alloc_old _ _ (by simp only [World.size_alloc]; omega)).trans (heap_new _ _ _ (by simp)))
  have e3 := (hb1.block (w.heap.size + 1 + 1 + 1) (by simp only [World.size_alloc]; omega)).trans (heap_new _ _ _ (by simp))
  have c0 := fun o => cell_of_row w1 _ o _ _ (0, 0) e0
  have c2 := fun o => cell_of_row w1 _ o _ _ (0, 0) e2
  have c3 := fun o => cell_of_row w1 _ o _ _ (0, 0) e3
  have f2 : ∀ o, w1.frozen? ⟨w.heap.size + 1 + 1, o, none⟩ = false := fun o => frozen_of_row _ _ o _ _ e2
  have f3 : ∀ o, w1.frozen? ⟨w.heap.size + 1 + 1 + 1, o, none⟩ = false := fun o => frozen_of_row _ _ o _ _ e3
  have HB := Lib.hid (show Below w.heap.size w w1 from (below4 w _ _ _ _).trans (hb1.mono (by simp only [World.size_alloc]; omega)))
  have R2 := Lib.hid e2
  have R3 := Lib.hid e3
  have z0 : w.heap.size < w1.heap.size := by omega
  have z2 : w.heap.size + 1 + 1 < w1.heap.size := by omega
  have z3 : w.heap.size + 1 + 1 + 1 < w1.heap.size := by omega
  clear hb1 e0 e2 e3 hs
  go_wp2_with fail
  generalize hwf : World.alloc _ _ = wf
  have X2 : wf.heap[w.heap.size + 1 + 1]? = some (.cells (recC (r.kind) (r.num) (r.low) (r.high) (r.real) (r.cap) (r.text) (.slice A r.list.length c)) 25 (0, 0)) := by
    rw [← hwf]
    exact (heap_alloc_old _ _ (by simp; omega)).trans ((ans_other (by omega)).trans (rec_stores R2.out))
  have X3 : wf.heap[w.heap.size + 1 + 1 + 1]? = some (.cells (ansC 9 0 RC.zero none 0) 82 (0, 0)) := by
    rw [← hwf]
    exact (heap_alloc_old _ _ (by simp; omega)).trans (ans_all ((rec_stores_other (by omega)).trans R3.out))
  have HBf := Lib.hid (show Below w.heap.size w wf by
    rw [← hwf]
    exact (below10 (below8c HB.out (by omega)) (by omega)).alloc (by have := HB.out.size; simp; omega) _)
  have k2 := fun o => cell_of_row wf _ o _ _ (0, 0) X2
  have k3 := fun o => cell_of_row wf _ o _ _ (0, 0) X3
  clear hwf X2 X3 c0 c2 c3 f2 f3 hb4
  exact bodyPost_ret (v := .tuple #[recV r A c, ansV 9 0 RC.zero none 0]) (by simp [results, Tryz.results147, go_sem, k2, k3]) rfl ⟨rfl, HBf.out⟩
set_option maxHeartbeats 1000000 in
set_option maxRecDepth 100000 in
theorem changeIn_fits (b : Nat) (r : RC.Rc) (a : AC.Ac) (A L : Option Addr) (c cl : Nat) (w : World) (hb : w.cell? ⟨b, 0, none⟩ = some (.func (.func 126) #[] #[])) (h : ¬ r.high < RU.w64 (r.num + a.n)) :
    Calls Tryz.prog 147 #[recV r A c, actV a L cl, .pointer (some ⟨b, 0, none⟩)] w (DoPost { r with num := RU.w64 (r.num + a.n) } A c 0 w) := by
  have hb4 := fun o1 o2 o3 o4 => func_keep hb o1 o2 o3 o4
  have Hh := Lib.hid h
  clear h
  clear hb
  go_enter Tryz.func147, Tryz.ntmps147
  go_wp2_with fail
  refine (ruleIn_fits r a A L c cl _ (Int.not_lt.2 Hh.out)).mono ?_
  rintro e w1 ⟨rfl, hb1⟩
  have hs := hb1.size
  simp only [World.size_alloc] at hs
  have e0 := (hb1.block w.heap.size (by simp only [World.size_alloc]; omega)).trans ((heap_alloc_old _ _ (by simp only [World.size_alloc]; omega)).trans ((heap_alloc_old _ _ (by simp only [World.size_alloc]; omega)).trans (heap_alloc2_old w _ _)))
  have e2 := (hb1.block (w.heap.size + 1 + 1) (by simp only [World.size_alloc]; omega)).trans ((heap_alloc_old _ _ (by simp only [World.size_alloc]; omega)).trans (heap_new _ _ _ (by simp)))
  have e3 := (hb1.block (w.heap.size + 1 + 1 + 1) (by simp only [World.size_alloc]; omega)).trans (heap_new _ _ _ (by simp))
  have c0 := fun o => cell_of_row w1 _ o _ _ (0, 0) e0
  have c2 := fun o => cell_of_row w1 _ o _ _ (0, 0) e2
  have c3 := fun o => cell_of_row w1 _ o _ _ (0, 0) e3
  have f2 : ∀ o, w1.frozen? ⟨w.heap.size + 1 + 1, o, none⟩ = false := fun o => frozen_of_row _ _ o _ _ e2
  have f3 : ∀ o, w1.frozen? ⟨w.heap.size + 1 + 1 + 1, o, none⟩ = false := fun o => frozen_of_row _ _ o _ _ e3
  have HB := Lib.hid (show Below w.heap.size w w1 from (below4 w _ _ _ _).trans (hb1.mono (by simp only [World.size_alloc]; omega)))
  have R2 := Lib.hid e2
  have R3 := Lib.hid e3
  have z0 : w.heap.size < w1.heap.size := by omega
  have z2 : w.heap.size + 1 + 1 < w1.heap.size := by omega
  have z3 : w.heap.size + 1 + 1 + 1 < w1.heap.size := by omega
  clear hb1 e0 e2 e3 hs
  go_wp2_with fail
  generalize hwf : World.alloc _ _ = wf
  have X2 : wf.heap[w.heap.size + 1 + 1]? = some (.cells (recC (r.kind) (RU.w64 (r.num + a.n)) (r.low) (r.high) (r.real) (r.cap) (r.text) (.slice A r.list.length c)) 25 (0, 0)) := by
    rw [← hwf]
    exact (heap_alloc_old _ _ (by simp; omega)).trans ((ans_other (by omega)).trans (rec_stores R2.out))
  have X3 : wf.heap[w.heap.size + 1 + 1 + 1]? = some (.cells (ansC 0 0 RC.zero none 0) 82 (0, 0)) := by
    rw [← hwf]
    exact (heap_alloc_old _ _ (by simp; omega)).trans (ans_all ((rec_stores_other (by omega)).trans R3.out))
  have HBf := Lib.hid (show Below w.heap.size w wf by
    rw [← hwf]
    exact (below10 (below8c HB.out (by omega)) (by omega)).alloc (by have := HB.out.size; simp; omega) _)
  have k2 := fun o => cell_of_row wf _ o _ _ (0, 0) X2
  have k3 := fun o => cell_of_row wf _ o _ _ (0, 0) X3
  clear hwf X2 X3 c0 c2 c3 f2 f3 hb4
  exact bodyPost_ret (v := .tuple #[recV { r with num := RU.w64 (r.num + a.n) } A c, ansV 0 0 RC.zero none 0]) (by simp [results, Tryz.results147, go_sem, k2, k3]) rfl ⟨rfl, HBf.out⟩
set_option maxHeartbeats 1000000 in
set_option maxRecDepth 100000 in
theorem changeOut_over (b : Nat) (r : RC.Rc) (a : AC.Ac) (A L : Option Addr) (c cl : Nat) (w : World) (hb : w.cell? ⟨b, 0, none⟩ = some (.func (.func 127) #[] #[])) (h : RU.w64 (r.num - a.n) < r.low) :
    Calls Tryz.prog 147 #[recV r A c, actV a L cl, .pointer (some ⟨b, 0, none⟩)] w (DoPost r A c 10 w) := by
  have hb4 := fun o1 o2 o3 o4 => func_keep hb o1 o2 o3 o4
  have Hh := Lib.hid h
  clear h
  clear hb
  go_enter Tryz.func147, Tryz.ntmps147
  go_wp2_with fail
  refine (ruleOut_over r a A L c cl _ Hh.out).mono ?_
  rintro e w1 ⟨rfl, hb1⟩
  have hs := hb1.size
  simp only [World.size_alloc] at hs
  have e0 := (hb1.block w.heap.size (by simp only [World.size_alloc]; omega)).trans ((heap_alloc_old _ _ (by simp only [World.size_alloc]; omega)).trans ((heap_alloc_old _ _ (by simp only [World.size_alloc]; omega)).trans (heap_alloc2_old w _ _)))
  have e2 := (hb1.block (w.heap.size + 1 + 1) (by simp only [World.size_alloc]; omega)).trans ((heap_alloc_old _ _ (by simp only [World.size_alloc]; omega)).trans (heap_new _ _ _ (by simp)))
  have e3 := (hb1.block (w.heap.size + 1 + 1 + 1) (by simp only [World.size_alloc]; omega)).trans (heap_new _ _ _ (by simp))
  have c0 := fun o => cell_of_row w1 _ o _ _ (0, 0) e0
  have c2 := fun o => cell_of_row w1 _ o _ _ (0, 0) e2
  have c3 := fun o => cell_of_row w1 _ o _ _ (0, 0) e3
  have f2 : ∀ o, w1.frozen? ⟨w.heap.size + 1 + 1, o, none⟩ = false := fun o => frozen_of_row _ _ o _ _ e2
  have f3 : ∀ o, w1.frozen? ⟨w.heap.size + 1 + 1 + 1, o, none⟩ = false := fun o => frozen_of_row _ _ o _ _ e3
  have HB := Lib.hid (show Below w.heap.size w w1 from (below4 w _ _ _ _).trans (hb1.mono (by simp only [World.size_alloc]; omega)))
  have R2 := Lib.hid e2
  have R3 := Lib.hid e3
  have z0 : w.heap.size < w1.heap.size := by omega
  have z2 : w.heap.size + 1 + 1 < w1.heap.size := by omega
  have z3 : w.heap.size + 1 + 1 + 1 < w1.heap.size := by omega
  clear hb1 e0 e2 e3 hs
  go_wp2_with fail
  generalize hwf : World.alloc _ _ = wf
  have X2 : wf.heap[w.heap.size + 1 + 1]? = some (.cells (recC (r.kind) (r.num) (r.low) (r.high) (r.real) (r.cap) (r.text) (.slice A r.list.length c)) 25 (0, 0)) := by
    rw [← hwf]
    exact (heap_alloc_old _ _ (by simp; omega)).trans ((ans_other (by omega)).trans (rec_stores R2.out))
  have X3 : wf.heap[w.heap.size + 1 + 1 + 1]? = some (.cells (ansC 10 0 RC.zero none 0) 82 (0, 0)) := by
    rw [← hwf]
    exact (heap_alloc_old _ _ (by simp; omega)).trans (ans_all ((rec_stores_other (by omega)).trans R3.out))
  have HBf := Lib.hid (show Below w.heap.size w wf by
    rw [← hwf]
    exact (below10 (below8c HB.out (by omega)) (by omega)).alloc (by have := HB.out.size; simp; omega) _)
  have k2 := fun o => cell_of_row wf _ o _ _ (0, 0) X2
  have k3 := fun o => cell_of_row wf _ o _ _ (0, 0) X3
  clear hwf X2 X3 c0 c2 c3 f2 f3 hb4
  exact bodyPost_ret (v := .tuple #[recV r A c, ansV 10 0 RC.zero none 0]) (by simp [results, Tryz.results147, go_sem, k2, k3]) rfl ⟨rfl, HBf.out⟩
set_option maxHeartbeats 1000000 in
set_option maxRecDepth 100000 in
theorem changeOut_fits (b : Nat) (r : RC.Rc) (a : AC.Ac) (A L : Option Addr) (c cl : Nat) (w : World) (hb : w.cell? ⟨b, 0, none⟩ = some (.func (.func 127) #[] #[])) (h : ¬ RU.w64 (r.num - a.n) < r.low) :
    Calls Tryz.prog 147 #[recV r A c, actV a L cl, .pointer (some ⟨b, 0, none⟩)] w (DoPost { r with num := RU.w64 (r.num - a.n) } A c 0 w) := by
  have hb4 := fun o1 o2 o3 o4 => func_keep hb o1 o2 o3 o4
  have Hh := Lib.hid h
  clear h
  clear hb
  go_enter Tryz.func147, Tryz.ntmps147
  go_wp2_with fail
  refine (ruleOut_fits r a A L c cl _ (Int.not_lt.2 Hh.out)).mono ?_
  rintro e w1 ⟨rfl, hb1⟩
  have hs := hb1.size
  simp only [World.size_alloc] at hs
  have e0 := (hb1.block w.heap.size (by simp only [World.size_alloc]; omega)).trans ((heap_alloc_old _ _ (by simp only [World.size_alloc]; omega)).trans ((heap_alloc_old _ _ (by simp only [World.size_alloc]; omega)).trans (heap_alloc2_old w _ _)))
  have e2 := (hb1.block (w.heap.size + 1 + 1) (by simp only [World.size_alloc]; omega)).trans ((heap_alloc_old _ _ (by simp only [World.size_alloc]; omega)).trans (heap_new _ _ _ (by simp)))
  have e3 := (hb1.block (w.heap.size + 1 + 1 + 1) (by simp only [World.size_alloc]; omega)).trans (heap_new _ _ _ (by simp))
  have c0 := fun o => cell_of_row w1 _ o _ _ (0, 0) e0
  have c2 := fun o => cell_of_row w1 _ o _ _ (0, 0) e2
  have c3 := fun o => cell_of_row w1 _ o _ _ (0, 0) e3
  have f2 : ∀ o, w1.frozen? ⟨w.heap.size + 1 + 1, o, none⟩ = false := fun o => frozen_of_row _ _ o _ _ e2
  have f3 : ∀ o, w1.frozen? ⟨w.heap.size + 1 + 1 + 1, o, none⟩ = false := fun o => frozen_of_row _ _ o _ _ e3
  have HB := Lib.hid (show Below w.heap.size w w1 from (below4 w _ _ _ _).trans (hb1.mono (by simp only [World.size_alloc]; omega)))
  have R2 := Lib.hid e2
  have R3 := Lib.hid e3
  have z0 : w.heap.size < w1.heap.size := by omega
  have z2 : w.heap.size + 1 + 1 < w1.heap.size := by omega
  have z3 : w.heap.size + 1 + 1 + 1 < w1.heap.size := by omega
  clear hb1 e0 e2 e3 hs
  go_wp2_with fail
  generalize hwf : World.alloc _ _ = wf
  have X2 : wf.heap[w.heap.size + 1 + 1]? = some (.cells (recC (r.kind) (RU.w64 (r.num - a.n)) (r.low) (r.high) (r.real) (r.cap) (r.text) (.slice A r.list.length c)) 25 (0, 0)) := by
    rw [← hwf]
    exact (heap_alloc_old _ _ (by simp; omega)).trans ((ans_other (by omega)).trans (rec_stores R2.out))
  have X3 : wf.heap[w.heap.size + 1 + 1 + 1]? = some (.cells (ansC 0 0 RC.zero none 0) 82 (0, 0)) := by
    rw [← hwf]
    exact (heap_alloc_old _ _ (by simp; omega)).trans (ans_all ((rec_stores_other (by omega)).trans R3.out))
  have HBf := Lib.hid (show Below w.heap.size w wf by
    rw [← hwf]
    exact (below10 (below8c HB.out (by omega)) (by omega)).alloc (by have := HB.out.size; simp; omega) _)
  have k2 := fun o => cell_of_row wf _ o _ _ (0, 0) X2
  have k3 := fun o => cell_of_row wf _ o _ _ (0, 0) X3
  clear hwf X2 X3 c0 c2 c3 f2 f3 hb4
  exact bodyPost_ret (v := .tuple #[recV { r with num := RU.w64 (r.num - a.n) } A c, ansV 0 0 RC.zero none 0]) (by simp [results, Tryz.results147, go_sem, k2, k3]) rfl ⟨rfl, HBf.out⟩
set_option maxHeartbeats 1000000 in
set_option maxRecDepth 100000 in
theorem testReach_yes (b : Nat) (r : RC.Rc) (a : AC.Ac) (A L : Option Addr) (c cl : Nat) (w : World) (hb : w.cell? ⟨b, 0, none⟩ = some (.func (.func 125) #[] #[])) (h : a.n ≤ r.num) :
    Calls Tryz.prog 148 #[recV r A c, actV a L cl, .pointer (some ⟨b, 0, none⟩)] w (DoPost r A c 0 w) := by
  have hb4 := fun o1 o2 o3 o4 => func_keep hb o1 o2 o3 o4
  have hd : decide (a.n ≤ r.num) = true := by simpa using h
  clear h
  clear hb
  go_enter Tryz.func148, Tryz.ntmps148
  go_wp2_with fail
  refine (ruleReaches_any r a A L c cl _).mono ?_
  rw [hd]
  clear hd
  rintro e w1 ⟨rfl, hb1⟩
  have hs := hb1.size
  simp only [World.size_alloc] at hs
  have e0 := (hb1.block w.heap.size (by simp only [World.size_alloc]; omega)).trans ((heap_alloc_old _ _ (by simp only [World.size_alloc]; omega)).trans ((heap_alloc_old _ _ (by simp only [World.size_alloc]; omega)).trans (heap_alloc2_old w _ _)))
  have e2 := (hb1.block (w.heap.size + 1 + 1) (by simp only [World.size_alloc]; omega)).trans ((heap_alloc_old _ _ (by simp only [World.size_alloc]; omega)).trans (heap_new _ _ _ (by simp)))
  have e3 := (hb1.block (w.heap.size + 1 + 1 + 1) (by simp only [World.size_alloc]; omega)).trans (heap_new _ _ _ (by simp))
  have c0 := fun o => cell_of_row w1 _ o _ _ (0, 0) e0
  have c2 := fun o => cell_of_row w1 _ o _ _ (0, 0) e2
  have c3 := fun o => cell_of_row w1 _ o _ _ (0, 0) e3
  have f2 : ∀ o, w1.frozen? ⟨w.heap.size + 1 + 1, o, none⟩ = false := fun o => frozen_of_row _ _ o _ _ e2
  have f3 : ∀ o, w1.frozen? ⟨w.heap.size + 1 + 1 + 1, o, none⟩ = false := fun o => frozen_of_row _ _ o _ _ e3
  have HB := Lib.hid (show Below w.heap.size w w1 from (below4 w _ _ _ _).trans (hb1.mono (by simp only [World.size_alloc]; omega)))
  have R2 := Lib.hid e2
  have R3 := Lib.hid e3
  have z0 : w.heap.size < w1.heap.size := by omega
  have z2 : w.heap.size + 1 + 1 < w1.heap.size := by omega
  have z3 : w.heap.size + 1 + 1 + 1 < w1.heap.size := by omega
  clear hb1 e0 e2 e3 hs
  go_wp2_with fail
  generalize hwf : World.setCell _ _ _ = wf
  have X2 : wf.heap[w.heap.size + 1 + 1]? = some (.cells (recC (r.kind) (r.num) (r.low) (r.high) (r.real) (r.cap) (r.text) (.slice A r.list.length c)) 25 (0, 0)) := by
    rw [← hwf]
    exact (ans_other (by omega)).trans (rec_stores R2.out)
  have X3 : wf.heap[w.heap.size + 1 + 1 + 1]? = some (.cells (ansC 0 0 RC.zero none 0) 82 (0, 0)) := by
    rw [← hwf]
    exact ans_all ((rec_stores_other (by omega)).trans R3.out)
  have HBf := Lib.hid (show Below w.heap.size w wf by
    rw [← hwf]
    exact below10 (below8c HB.out (by omega)) (by omega))
  have k2 := fun o => cell_of_row wf _ o _ _ (0, 0) X2
  have k3 := fun o => cell_of_row wf _ o _ _ (0, 0) X3
  clear hwf X2 X3 c0 c2 c3 f2 f3 hb4
  exact bodyPost_ret (v := .tuple #[recV r A c, ansV 0 0 RC.zero none 0]) (by simp [results, Tryz.results148, go_sem, k2, k3]) rfl ⟨rfl, HBf.out⟩
set_option maxHeartbeats 1000000 in
set_option maxRecDepth 100000 in
theorem testReach_no (b : Nat) (r : RC.Rc) (a : AC.Ac) (A L : Option Addr) (c cl : Nat) (w : World) (hb : w.cell? ⟨b, 0, none⟩ = some (.func (.func 125) #[] #[])) (h : ¬ a.n ≤ r.num) :
    Calls Tryz.prog 148 #[recV r A c, actV a L cl, .pointer (some ⟨b, 0, none⟩)] w (DoPost r A c 11 w) := by
  have hb4 := fun o1 o2 o3 o4 => func_keep hb o1 o2 o3 o4
  have hd : decide (a.n ≤ r.num) = false := by simpa using h
  clear h
  clear hb
  go_enter Tryz.func148, Tryz.ntmps148
  go_wp2_with fail
  refine (ruleReaches_any r a A L c cl _).mono ?_
  rw [hd]
  clear hd
  rintro e w1 ⟨rfl, hb1⟩
  have hs := hb1.size
  simp only [World.size_alloc] at hs
  have e0 := (hb1.block w.heap.size (by simp only [World.size_alloc]; omega)).trans ((heap_alloc_old _ _ (by simp only [World.size_alloc]; omega)).trans ((heap_alloc_old _ _ (by simp only [World.size_alloc]; omega)).trans (heap_alloc2_old w _ _)))
  have e2 := (hb1.block (w.heap.size + 1 + 1) (by simp only [World.size_alloc]; omega)).trans ((heap_alloc_old _ _ (by simp only [World.size_alloc]; omega)).trans (heap_new _ _ _ (by simp)))
  have e3 := (hb1.block (w.heap.size + 1 + 1 + 1) (by simp only [World.size_alloc]; omega)).trans (heap_new _ _ _ (by simp))
  have c0 := fun o => cell_of_row w1 _ o _ _ (0, 0) e0
  have c2 := fun o => cell_of_row w1 _ o _ _ (0, 0) e2
  have c3 := fun o => cell_of_row w1 _ o _ _ (0, 0) e3
  have f2 : ∀ o, w1.frozen? ⟨w.heap.size + 1 + 1, o, none⟩ = false := fun o => frozen_of_row _ _ o _ _ e2
  have f3 : ∀ o, w1.frozen? ⟨w.heap.size + 1 + 1 + 1, o, none⟩ = false := fun o => frozen_of_row _ _ o _ _ e3
  have HB := Lib.hid (show Below w.heap.size w w1 from (below4 w _ _ _ _).trans (hb1.mono (by simp only [World.size_alloc]; omega)))
  have R2 := Lib.hid e2
  have R3 := Lib.hid e3
  have z0 : w.heap.size < w1.heap.size := by omega
  have z2 : w.heap.size + 1 + 1 < w1.heap.size := by omega
  have z3 : w.heap.size + 1 + 1 + 1 < w1.heap.size := by omega
  clear hb1 e0 e2 e3 hs
  go_wp2_with fail
  generalize hwf : World.setCell _ _ _ = wf
  have X2 : wf.heap[w.heap.size + 1 + 1]? = some (.cells (recC (r.kind) (r.num) (r.low) (r.high) (r.real) (r.cap) (r.text) (.slice A r.list.length c)) 25 (0, 0)) := by
    rw [← hwf]
    exact (ans_other (by omega)).trans (rec_stores R2.out)
  have X3 : wf.heap[w.heap.size + 1 + 1 + 1]? = some (.cells (ansC 11 0 RC.zero none 0) 82 (0, 0)) := by
    rw [← hwf]
    exact ans_all ((rec_stores_other (by omega)).trans R3.out)
  have HBf := Lib.hid (show Below w.heap.size w wf by
    rw [← hwf]
    exact below10 (below8c HB.out (by omega)) (by omega))
  have k2 := fun o => cell_of_row wf _ o _ _ (0, 0) X2
  have k3 := fun o => cell_of_row wf _ o _ _ (0, 0) X3
  clear hwf X2 X3 c0 c2 c3 f2 f3 hb4
  exact bodyPost_ret (v := .tuple #[recV r A c, ansV 11 0 RC.zero none 0]) (by simp [results, Tryz.results148, go_sem, k2, k3]) rfl ⟨rfl, HBf.out⟩
end Go.Proofs.YtbkcmnmbcldjoaaGreatDoor
