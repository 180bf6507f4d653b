/- The walk of PairRows. -/
import Derived.Test.YtlpecaldodganaaGreatDoorPlMq
import Derived.Test.YtlpecaldodganaaGreatDoorSp6q
import Derived.Test.YtlpecaldodganaaGreatDoorLaw6q
namespace Go.Proofs.YtlpecaldodganaaGreatDoor
open Go.RowKit MM
set_option linter.unusedVariables false
set_option linter.unusedSimpArgs false
theorem may6_rows {r : RC.Rc} {t : Bool} {l : List AC.Ac} (h : RU.may6 r t l = true) : (∀ a ∈ l, AC.chk a = 0) ∧ (t = true → RC.chk r = 0) := by
  unfold RU.may6 at h
  simp only [Bool.and_eq_true, Bool.or_eq_true, Bool.not_eq_true', beq_iff_eq] at h
  exact ⟨fun a ha => by simpa using List.all_eq_true.1 h.1 a ha, fun e => by rcases h.2 with h2 | h2; (rw [h2] at e; cases e); exact h2⟩
theorem sameAns_refl7 (x : RU.Ans) : RU.sameAns x x = true := by unfold RU.sameAns; simp [RC.same_refl']
theorem same5_true {y z : An} {u : World} (hx : y.x = z.x) (h1 : y.x.rc.ok) (h2 : z.x.rc.ok) (i1 : Its u y.A y.x.rc.list) (i2 : Its u z.A z.x.rc.list) (n1 : Lim y.x.rc.list.length) (n2 : Lim z.x.rc.list.length) :
    Calls Tryz.prog 24 #[ansV y.x.code y.x.num y.x.rc y.A y.c, ansV z.x.code z.x.num z.x.rc z.A z.c] u fun e w' => e = .returned (.bool true) ∧ Below u.heap.size u w' := by
  refine (rsame5_any y.x z.x y.A z.A y.c z.c u h1 h2 i1 i2 n1 n2).mono ?_
  rintro e w' ⟨rfl, hb⟩
  exact ⟨by rw [hx, sameAns_refl7], hb⟩
/-- Answers in a row, read. -/
theorem ans_rows6 {w : World} {B : Option Addr} {n cb : Nat} {ys : List An} (h : w.ownsRow 0 49 10 (.slice B n cb) n (anCells ys)) (hn : 0 < n) : ∃ g off, B = some ⟨g, off, none⟩ ∧ ∀ i y, ys[i]? = some y → ∀ j v, (ansC y.x.code y.x.num y.x.rc y.A y.c)[j]? = some v → w.cell? ⟨g, off + i * 10 + j, none⟩ = some v := by
  obtain ⟨g, hA, hg, hc⟩ := own_cell14 h hn
  exact ⟨g, 0, hA, fun i y hy j v hv => by rw [Nat.zero_add]; exact hc _ v (anCells_at ys i y hy j v (by rw [An.cells, Array.getElem?_toList]; exact hv))⟩
theorem grown_keep6 {B : Nat} {w wa w4 : World} {A : Option Addr} (hb : Below B w wa) (hB : ∀ k, ob A = some k → B ≤ k) (hg : wa.grownBy w4 (ob A)) (hz : B ≤ w.heap.size := by omega) : Below B w w4 :=
  hb.trans ((Kp.grown (S := fun k => ob A = some k) (Kp.refl _ _) hg (fun k e => .inl e)).below (by have := hb.size; omega) (fun i hi x => by have := hB i x; omega))
theorem grown_new6 {B : Nat} {wa : World} {A A4 : Option Addr} (hB : ∀ k, ob A = some k → B ≤ k) (hat : ob A4 = ob A ∨ ob A4 = some wa.heap.size) (hz : B ≤ wa.heap.size) : ∀ k, ob A4 = some k → B ≤ k := fun k e => by
  rcases hat with h | h
  · exact hB k (h ▸ e)
  · rw [h] at e; injection e with e; omega
set_option maxHeartbeats 16000000 in
set_option maxRecDepth 100000 in
theorem pairRowsL_any (r : RC.Rc) (A : Option Addr) (c : Nat) (t : Bool) (L : Option Addr) (cl : Nat) (l : List Al) (M : Option Addr) (cm : Nat) (m : List Al) (w : World) (hr : RecIn w r A c) (hl : ActsIn w L l) (hm : ActsIn w M m) (hR : RowsAt w) :
    Calls Tryz.prog 6 #[recV r A c, .bool t, .agg #[.slice L l.length cl, .slice M m.length cm]] w fun e w' => e = .returned (.bool true) ∧ Below w.heap.size w w' := by
  obtain ⟨i0, hi0, hz0, hz1, hz2⟩ := info_parts act_info6
  have HR := Lib.hid hR
  have HI := Lib.hid hr
  have HL := Lib.hid hl
  have HM := Lib.hid hm
  have hLn := hl.len
  have hMn := hm.len
  unfold maxLen at hLn hMn
  clear hR hr hl hm
  go_enter Tryz.func6, Tryz.ntmps6
  go_wp2_with fail
  refine (speaks6_any _ (HR.out.below (below2 w _ _))).mono ?_
  rintro e w1 ⟨rfl, hb1⟩
  have hs1 := hb1.size
  simp only [World.size_alloc] at hs1
  have E0 := Lib.hid (show w1.heap[w.heap.size]? = some (.cells (recC r.kind r.num r.low r.high r.real r.cap r.text (.slice A r.list.length c)) 25 (0, 0)) from (hb1.block w.heap.size (by simp only [World.size_alloc]; omega)).trans (heap_alloc2_old w _ _))
  have e1 := (show w1.heap[w.heap.size + 1]? = _ from (hb1.block (w.heap.size + 1) (by simp only [World.size_alloc]; omega)).trans (heap_alloc2_new w _ _))
  have HB1 := Lib.hid (show Below w.heap.size w w1 from (below2 w _ _).trans (hb1.mono (by simp only [World.size_alloc]; omega)))
  clear hb1
  have y0 := cell_of_row w1 _ 0 _ _ (0, 0) e1
  have y1 := cell_of_row w1 _ 1 _ _ (0, 0) e1
  go_upto_region 3 with fail
  refine wp_region_held_drew (S := fun W => Below w1.heap.size w1 W) (by kernel_rfl) (below_drew (Below.refl _ _)) (fun hHeld => ?_)
  refine wpAnyH_take (i := 0) (oi := ⟨_, _, _, _, _, _⟩) (v := ?_) rfl (by kernel_rfl) (by kernel_rfl) (by kernel_rfl) (fun _ _ _ h => h) (Or.inl ⟨by kernel_rfl, ?_⟩) hHeld ?_
  rotate_left 1
  · intro W hW; first | (go_simp; done) | (go_simp; with_reducible rfl)
  try simp only [Act.put, List.setIfInBounds_toArray, List.set_cons_zero, List.set_cons_succ]
  refine wpAnyH_take (i := 1) (oi := ⟨_, _, _, _, _, _⟩) (v := ?_) rfl (by kernel_rfl) (by kernel_rfl) (by kernel_rfl) (fun _ _ _ h => h) (Or.inl ⟨by kernel_rfl, ?_⟩) hHeld ?_
  rotate_left 1
  · intro W hW; have k0 := below_keep hW y0; first | (go_simp; done) | (go_simp; with_reducible rfl)
  try simp only [Act.put, List.setIfInBounds_toArray, List.set_cons_zero, List.set_cons_succ]
  refine wpAnyH_take (i := 2) (oi := ⟨_, _, _, _, _, _⟩) (v := ?_) rfl (by kernel_rfl) (by kernel_rfl) (by kernel_rfl) (fun _ _ _ h => h) (Or.inl ⟨by kernel_rfl, ?_⟩) hHeld ?_
  rotate_left 1
  · intro W hW; first | (go_simp; done) | (go_simp; with_reducible rfl)
  try simp only [Act.put, List.setIfInBounds_toArray, List.set_cons_zero, List.set_cons_succ]
  refine wpAnyH_take (i := 3) (oi := ⟨_, _, _, _, _, _⟩) (v := ?_) rfl (by kernel_rfl) (by kernel_rfl) (by kernel_rfl) (fun _ _ _ h => h) (Or.inl ⟨by kernel_rfl, ?_⟩) hHeld ?_
  rotate_left 1
  · intro W hW; have k0 := below_keep hW y1; first | (go_simp; done) | (go_simp; with_reducible rfl)
  try simp only [Act.put, List.setIfInBounds_toArray, List.set_cons_zero, List.set_cons_succ]
  refine wpAnyH_take (i := 4) (oi := ⟨_, _, _, _, _, _⟩) (v := ?_) rfl (by kernel_rfl) (by kernel_rfl) (by kernel_rfl) (fun _ _ _ h => h) (Or.inl ⟨by kernel_rfl, ?_⟩) hHeld ?_
  rotate_left 1
  · intro W hW; first | (go_simp; done) | (go_simp; with_reducible rfl)
  try simp only [Act.put, List.setIfInBounds_toArray, List.set_cons_zero, List.set_cons_succ]
  refine wpAnyH_take (i := 5) (oi := ⟨_, _, _, _, _, _⟩) (v := ?_) rfl (by kernel_rfl) (by kernel_rfl) (by kernel_rfl) (fun _ _ _ h => h) (Or.inl ⟨by kernel_rfl, ?_⟩) hHeld ?_
  rotate_left 1
  · intro W hW; first | (go_simp; done) | (go_simp; with_reducible rfl)
  try simp only [Act.put, List.setIfInBounds_toArray, List.set_cons_zero, List.set_cons_succ]
  refine wpAnyH_done (by kernel_rfl) ?_ _
  go_upto_region 4 with fail
  generalize World.drew w1 = wq at *
  have HBq := Lib.hid (HB1.out.trans (hHeld.mono HB1.out.size))
  have Eq0 := Lib.hid ((hHeld.block _ (lt_of_heap E0.out)).trans E0.out)
  clear y0 y1 e1 hHeld E0 HB1
  have HSl := Lib.hid (fun u (h : Below wq.heap.size wq u) => acts_src (c := cl) Tryz.underlying31 (HL.out.keep (HBq.out.trans (h.mono HBq.out.size))))
  have HSm := Lib.hid (fun u (h : Below wq.heap.size wq u) => acts_src (c := cm) Tryz.underlying31 (HM.out.keep (HBq.out.trans (h.mono HBq.out.size))))
  have p0 := cell_of_row wq _ 0 _ _ (0, 0) Eq0.out
  have p1 := cell_of_row wq _ 1 _ _ (0, 0) Eq0.out
  have p2 := cell_of_row wq _ 2 _ _ (0, 0) Eq0.out
  have p3 := cell_of_row wq _ 3 _ _ (0, 0) Eq0.out
  have p4 := cell_of_row wq _ 4 _ _ (0, 0) Eq0.out
  have p5 := cell_of_row wq _ 5 _ _ (0, 0) Eq0.out
  have p6 := cell_of_row wq _ 6 _ _ (0, 0) Eq0.out
  have p7 := cell_of_row wq _ 7 _ _ (0, 0) Eq0.out
  by_cases n1 : (10 : Int) < (l.length : Int)
  · skip
    refine wp_region_held_drew (S := fun W => Below wq.heap.size wq W) (by kernel_rfl) (below_drew (Below.refl _ _)) (fun hHeld => ?_)
    refine wpAnyH_take (i := 0) (oi := ⟨_, _, _, _, _, _⟩) (v := ?_) rfl (by kernel_rfl) (by kernel_rfl) (by kernel_rfl) (fun _ _ _ h => h) (Or.inl ⟨by kernel_rfl, ?_⟩) hHeld ?_
    rotate_left 1
    · intro W hW; first | (go_simp; done) | (go_simp; with_reducible rfl)
    try simp only [Act.put, List.setIfInBounds_toArray, List.set_cons_zero, List.set_cons_succ]
    refine wpAnyH_take (i := 1) (oi := ⟨_, _, _, _, _, _⟩) (v := ?_) rfl (by kernel_rfl) (by kernel_rfl) (by kernel_rfl) (fun _ _ _ h => h) (Or.inl ⟨by kernel_rfl, ?_⟩) hHeld ?_
    rotate_left 1
    · intro W hW; first | (go_simp; done) | (go_simp; with_reducible rfl)
    try simp only [Act.put, List.setIfInBounds_toArray, List.set_cons_zero, List.set_cons_succ]
    refine wpAnyH_take (i := 2) (oi := ⟨_, _, _, _, _, _⟩) (v := ?_) rfl (by kernel_rfl) (by kernel_rfl) (by kernel_rfl) (fun _ _ _ h => h) (Or.inl ⟨by kernel_rfl, ?_⟩) hHeld ?_
    rotate_left 1
    · intro W hW; first | (go_simp; done) | (go_simp; with_reducible rfl)
    try simp only [Act.put, List.setIfInBounds_toArray, List.set_cons_zero, List.set_cons_succ]
    refine wpAnyH_take (i := 3) (oi := ⟨_, _, _, _, _, _⟩) (v := ?_) rfl (by kernel_rfl) (by kernel_rfl) (by kernel_rfl) (fun _ _ _ h => h) (Or.inl ⟨by kernel_rfl, ?_⟩) hHeld ?_
    rotate_left 1
    · intro W hW; first | (go_simp; done) | (go_simp; with_reducible rfl)
    try simp only [Act.put, List.setIfInBounds_toArray, List.set_cons_zero, List.set_cons_succ]
    refine wpAnyH_take (i := 4) (oi := ⟨_, _, _, _, _, _⟩) (v := undef) rfl (by kernel_rfl) (by kernel_rfl) (by kernel_rfl) (fun _ _ _ h => h) (Or.inr ⟨by kernel_rfl, rfl⟩) hHeld ?_
    try simp only [Act.put, List.setIfInBounds_toArray, List.set_cons_zero, List.set_cons_succ]
    refine wpAnyH_take (i := 5) (oi := ⟨_, _, _, _, _, _⟩) (v := undef) rfl (by kernel_rfl) (by kernel_rfl) (by kernel_rfl) (fun _ _ _ h => h) (Or.inr ⟨by kernel_rfl, rfl⟩) hHeld ?_
    try simp only [Act.put, List.setIfInBounds_toArray, List.set_cons_zero, List.set_cons_succ]
    refine wpAnyH_take (i := 6) (oi := ⟨_, _, _, _, _, _⟩) (v := undef) rfl (by kernel_rfl) (by kernel_rfl) (by kernel_rfl) (fun _ _ _ h => h) (Or.inr ⟨by kernel_rfl, rfl⟩) hHeld ?_
    try simp only [Act.put, List.setIfInBounds_toArray, List.set_cons_zero, List.set_cons_succ]
    refine wpAnyH_take (i := 7) (oi := ⟨_, _, _, _, _, _⟩) (v := ?_) rfl (by kernel_rfl) (by kernel_rfl) (by kernel_rfl) (fun _ _ _ h => h) (Or.inl ⟨by kernel_rfl, ?_⟩) hHeld ?_
    rotate_left 1
    · intro W hW; first | (go_simp; done) | (go_simp; with_reducible rfl)
    try simp only [Act.put, List.setIfInBounds_toArray, List.set_cons_zero, List.set_cons_succ]
    refine wpAnyH_take (i := 8) (oi := ⟨_, _, _, _, _, _⟩) (v := ?_) rfl (by kernel_rfl) (by kernel_rfl) (by kernel_rfl) (fun _ _ _ h => h) (Or.inl ⟨by kernel_rfl, ?_⟩) hHeld ?_
    rotate_left 1
    · intro W hW; first | (go_simp; done) | (go_simp; with_reducible rfl)
    try simp only [Act.put, List.setIfInBounds_toArray, List.set_cons_zero, List.set_cons_succ]
    refine wpAnyH_take (i := 9) (oi := ⟨_, _, _, _, _, _⟩) (v := undef) rfl (by kernel_rfl) (by kernel_rfl) (by kernel_rfl) (fun _ _ _ h => h) (Or.inr ⟨by kernel_rfl, rfl⟩) hHeld ?_
    try simp only [Act.put, List.setIfInBounds_toArray, List.set_cons_zero, List.set_cons_succ]
    refine wpAnyH_take (i := 10) (oi := ⟨_, _, _, _, _, _⟩) (v := undef) rfl (by kernel_rfl) (by kernel_rfl) (by kernel_rfl) (fun _ _ _ h => h) (Or.inr ⟨by kernel_rfl, rfl⟩) hHeld ?_
    try simp only [Act.put, List.setIfInBounds_toArray, List.set_cons_zero, List.set_cons_succ]
    refine wpAnyH_take (i := 11) (oi := ⟨_, _, _, _, _, _⟩) (v := undef) rfl (by kernel_rfl) (by kernel_rfl) (by kernel_rfl) (fun _ _ _ h => h) (Or.inr ⟨by kernel_rfl, rfl⟩) hHeld ?_
    try simp only [Act.put, List.setIfInBounds_toArray, List.set_cons_zero, List.set_cons_succ]
    refine wpAnyH_take (i := 12) (oi := ⟨_, _, _, _, _, _⟩) (v := undef) rfl (by kernel_rfl) (by kernel_rfl) (by kernel_rfl) (fun _ _ _ h => h) (Or.inr ⟨by kernel_rfl, rfl⟩) hHeld ?_
    try simp only [Act.put, List.setIfInBounds_toArray, List.set_cons_zero, List.set_cons_succ]
    refine wpAnyH_take (i := 13) (oi := ⟨_, _, _, _, _, _⟩) (v := undef) rfl (by kernel_rfl) (by kernel_rfl) (by kernel_rfl) (fun _ _ _ h => h) (Or.inr ⟨by kernel_rfl, rfl⟩) hHeld ?_
    try simp only [Act.put, List.setIfInBounds_toArray, List.set_cons_zero, List.set_cons_succ]
    refine wpAnyH_take (i := 14) (oi := ⟨_, _, _, _, _, _⟩) (v := undef) rfl (by kernel_rfl) (by kernel_rfl) (by kernel_rfl) (fun _ _ _ h => h) (Or.inr ⟨by kernel_rfl, rfl⟩) hHeld ?_
    try simp only [Act.put, List.setIfInBounds_toArray, List.set_cons_zero, List.set_cons_succ]
    refine wpAnyH_take (i := 15) (oi := ⟨_, _, _, _, _, _⟩) (v := undef) rfl (by kernel_rfl) (by kernel_rfl) (by kernel_rfl) (fun _ _ _ h => h) (Or.inr ⟨by kernel_rfl, rfl⟩) hHeld ?_
    try simp only [Act.put, List.setIfInBounds_toArray, List.set_cons_zero, List.set_cons_succ]
    refine wpAnyH_take (i := 16) (oi := ⟨_, _, _, _, _, _⟩) (v := ?_) rfl (by kernel_rfl) (by kernel_rfl) (by kernel_rfl) (fun _ _ _ h => h) (Or.inl ⟨by kernel_rfl, ?_⟩) hHeld ?_
    rotate_left 1
    · intro W hW; first | (go_simp; done) | (go_simp; with_reducible rfl)
    try simp only [Act.put, List.setIfInBounds_toArray, List.set_cons_zero, List.set_cons_succ]
    refine wpAnyH_take (i := 17) (oi := ⟨_, _, _, _, _, _⟩) (v := ?_) rfl (by kernel_rfl) (by kernel_rfl) (by kernel_rfl) (fun _ _ _ h => h) (Or.inl ⟨by kernel_rfl, ?_⟩) hHeld ?_
    rotate_left 1
    · intro W hW; first | (go_simp; done) | (go_simp; with_reducible rfl)
    try simp only [Act.put, List.setIfInBounds_toArray, List.set_cons_zero, List.set_cons_succ]
    refine wpAnyH_take (i := 18) (oi := ⟨_, _, _, _, _, _⟩) (v := undef) rfl (by kernel_rfl) (by kernel_rfl) (by kernel_rfl) (fun _ _ _ h => h) (Or.inr ⟨by kernel_rfl, rfl⟩) hHeld ?_
    try simp only [Act.put, List.setIfInBounds_toArray, List.set_cons_zero, List.set_cons_succ]
    refine wpAnyH_take (i := 19) (oi := ⟨_, _, _, _, _, _⟩) (v := undef) rfl (by kernel_rfl) (by kernel_rfl) (by kernel_rfl) (fun _ _ _ h => h) (Or.inr ⟨by kernel_rfl, rfl⟩) hHeld ?_
    try simp only [Act.put, List.setIfInBounds_toArray, List.set_cons_zero, List.set_cons_succ]
    refine wpAnyH_take (i := 20) (oi := ⟨_, _, _, _, _, _⟩) (v := undef) rfl (by kernel_rfl) (by kernel_rfl) (by kernel_rfl) (fun _ _ _ h => h) (Or.inr ⟨by kernel_rfl, rfl⟩) hHeld ?_
    try simp only [Act.put, List.setIfInBounds_toArray, List.set_cons_zero, List.set_cons_succ]
    refine wpAnyH_take (i := 21) (oi := ⟨_, _, _, _, _, _⟩) (v := undef) rfl (by kernel_rfl) (by kernel_rfl) (by kernel_rfl) (fun _ _ _ h => h) (Or.inr ⟨by kernel_rfl, rfl⟩) hHeld ?_
    try simp only [Act.put, List.setIfInBounds_toArray, List.set_cons_zero, List.set_cons_succ]
    refine wpAnyH_take (i := 22) (oi := ⟨_, _, _, _, _, _⟩) (v := undef) rfl (by kernel_rfl) (by kernel_rfl) (by kernel_rfl) (fun _ _ _ h => h) (Or.inr ⟨by kernel_rfl, rfl⟩) hHeld ?_
    try simp only [Act.put, List.setIfInBounds_toArray, List.set_cons_zero, List.set_cons_succ]
    refine wpAnyH_take (i := 23) (oi := ⟨_, _, _, _, _, _⟩) (v := ?_) rfl (by kernel_rfl) (by kernel_rfl) (by kernel_rfl) (fun _ _ _ h => h) (Or.inl ⟨by kernel_rfl, ?_⟩) hHeld ?_
    rotate_left 1
    · intro W hW; first | (go_simp; done) | (go_simp; with_reducible rfl)
    try simp only [Act.put, List.setIfInBounds_toArray, List.set_cons_zero, List.set_cons_succ]
    refine wpAnyH_take (i := 24) (oi := ⟨_, _, _, _, _, _⟩) (v := ?_) rfl (by kernel_rfl) (by kernel_rfl) (by kernel_rfl) (fun _ _ _ h => h) (Or.inl ⟨by kernel_rfl, ?_⟩) hHeld ?_
    rotate_left 1
    · intro W hW; first | (go_simp; done) | (go_simp; with_reducible rfl)
    try simp only [Act.put, List.setIfInBounds_toArray, List.set_cons_zero, List.set_cons_succ]
    refine wpAnyH_take (i := 25) (oi := ⟨_, _, _, _, _, _⟩) (v := undef) rfl (by kernel_rfl) (by kernel_rfl) (by kernel_rfl) (fun _ _ _ h => h) (Or.inr ⟨by kernel_rfl, rfl⟩) hHeld ?_
    try simp only [Act.put, List.setIfInBounds_toArray, List.set_cons_zero, List.set_cons_succ]
    refine wpAnyH_take (i := 26) (oi := ⟨_, _, _, _, _, _⟩) (v := undef) rfl (by kernel_rfl) (by kernel_rfl) (by kernel_rfl) (fun _ _ _ h => h) (Or.inr ⟨by kernel_rfl, rfl⟩) hHeld ?_
    try simp only [Act.put, List.setIfInBounds_toArray, List.set_cons_zero, List.set_cons_succ]
    refine wpAnyH_take (i := 27) (oi := ⟨_, _, _, _, _, _⟩) (v := undef) rfl (by kernel_rfl) (by kernel_rfl) (by kernel_rfl) (fun _ _ _ h => h) (Or.inr ⟨by kernel_rfl, rfl⟩) hHeld ?_
    try simp only [Act.put, List.setIfInBounds_toArray, List.set_cons_zero, List.set_cons_succ]
    refine wpAnyH_take (i := 28) (oi := ⟨_, _, _, _, _, _⟩) (v := undef) rfl (by kernel_rfl) (by kernel_rfl) (by kernel_rfl) (fun _ _ _ h => h) (Or.inr ⟨by kernel_rfl, rfl⟩) hHeld ?_
    try simp only [Act.put, List.setIfInBounds_toArray, List.set_cons_zero, List.set_cons_succ]
    refine wpAnyH_take (i := 29) (oi := ⟨_, _, _, _, _, _⟩) (v := undef) rfl (by kernel_rfl) (by kernel_rfl) (by kernel_rfl) (fun _ _ _ h => h) (Or.inr ⟨by kernel_rfl, rfl⟩) hHeld ?_
    try simp only [Act.put, List.setIfInBounds_toArray, List.set_cons_zero, List.set_cons_succ]
    refine wpAnyH_take (i := 30) (oi := ⟨_, _, _, _, _, _⟩) (v := ?_) rfl (by kernel_rfl) (by kernel_rfl) (by kernel_rfl) (fun _ _ _ h => h) (Or.inl ⟨by kernel_rfl, ?_⟩) hHeld ?_
    rotate_left 1
    · intro W hW; first | (go_simp; done) | (go_simp; with_reducible rfl)
    try simp only [Act.put, List.setIfInBounds_toArray, List.set_cons_zero, List.set_cons_succ]
    refine wpAnyH_done (by kernel_rfl) ?_ _
    go_wp2_with fail
    go_ret
    exact ⟨rfl, HBq.out.trans (hHeld.mono HBq.out.size)⟩
  by_cases n2 : (10 : Int) < (m.length : Int)
  · skip
    refine wp_region_held_drew (S := fun W => Below wq.heap.size wq W) (by kernel_rfl) (below_drew (Below.refl _ _)) (fun hHeld => ?_)
    refine wpAnyH_take (i := 0) (oi := ⟨_, _, _, _, _, _⟩) (v := ?_) rfl (by kernel_rfl) (by kernel_rfl) (by kernel_rfl) (fun _ _ _ h => h) (Or.inl ⟨by kernel_rfl, ?_⟩) hHeld ?_
    rotate_left 1
    · intro W hW; first | (go_simp; done) | (go_simp; with_reducible rfl)
    try simp only [Act.put, List.setIfInBounds_toArray, List.set_cons_zero, List.set_cons_succ]
    refine wpAnyH_take (i := 1) (oi := ⟨_, _, _, _, _, _⟩) (v := ?_) rfl (by kernel_rfl) (by kernel_rfl) (by kernel_rfl) (fun _ _ _ h => h) (Or.inl ⟨by kernel_rfl, ?_⟩) hHeld ?_
    rotate_left 1
    · intro W hW; first | (go_simp; done) | (go_simp; with_reducible rfl)
    try simp only [Act.put, List.setIfInBounds_toArray, List.set_cons_zero, List.set_cons_succ]
    refine wpAnyH_take (i := 2) (oi := ⟨_, _, _, _, _, _⟩) (v := ?_) rfl (by kernel_rfl) (by kernel_rfl) (by kernel_rfl) (fun _ _ _ h => h) (Or.inl ⟨by kernel_rfl, ?_⟩) hHeld ?_
    rotate_left 1
    · intro W hW; first | (go_simp; done) | (go_simp; with_reducible rfl)
    try simp only [Act.put, List.setIfInBounds_toArray, List.set_cons_zero, List.set_cons_succ]
    refine wpAnyH_take (i := 3) (oi := ⟨_, _, _, _, _, _⟩) (v := ?_) rfl (by kernel_rfl) (by kernel_rfl) (by kernel_rfl) (fun _ _ _ h => h) (Or.inl ⟨by kernel_rfl, ?_⟩) hHeld ?_
    rotate_left 1
    · intro W hW; first | (go_simp; done) | (go_simp; with_reducible rfl)
    try simp only [Act.put, List.setIfInBounds_toArray, List.set_cons_zero, List.set_cons_succ]
    refine wpAnyH_take (i := 4) (oi := ⟨_, _, _, _, _, _⟩) (v := ?_) rfl (by kernel_rfl) (by kernel_rfl) (by kernel_rfl) (fun _ _ _ h => h) (Or.inl ⟨by kernel_rfl, ?_⟩) hHeld ?_
    rotate_left 1
    · intro W hW; first | (go_simp; done) | (go_simp; with_reducible rfl)
    try simp only [Act.put, List.setIfInBounds_toArray, List.set_cons_zero, List.set_cons_succ]
    refine wpAnyH_take (i := 5) (oi := ⟨_, _, _, _, _, _⟩) (v := ?_) rfl (by kernel_rfl) (by kernel_rfl) (by kernel_rfl) (fun _ _ _ h => h) (Or.inl ⟨by kernel_rfl, ?_⟩) hHeld ?_
    rotate_left 1
    · intro W hW; first | (go_simp; done) | (go_simp; with_reducible rfl)
    try simp only [Act.put, List.setIfInBounds_toArray, List.set_cons_zero, List.set_cons_succ]
    refine wpAnyH_take (i := 6) (oi := ⟨_, _, _, _, _, _⟩) (v := ?_) rfl (by kernel_rfl) (by kernel_rfl) (by kernel_rfl) (fun _ _ _ h => h) (Or.inl ⟨by kernel_rfl, ?_⟩) hHeld ?_
    rotate_left 1
    · intro W hW; first | (go_simp; done) | (go_simp; with_reducible rfl)
    try simp only [Act.put, List.setIfInBounds_toArray, List.set_cons_zero, List.set_cons_succ]
    refine wpAnyH_take (i := 7) (oi := ⟨_, _, _, _, _, _⟩) (v := ?_) rfl (by kernel_rfl) (by kernel_rfl) (by kernel_rfl) (fun _ _ _ h => h) (Or.inl ⟨by kernel_rfl, ?_⟩) hHeld ?_
    rotate_left 1
    · intro W hW; first | (go_simp; done) | (go_simp; with_reducible rfl)
    try simp only [Act.put, List.setIfInBounds_toArray, List.set_cons_zero, List.set_cons_succ]
    refine wpAnyH_take (i := 8) (oi := ⟨_, _, _, _, _, _⟩) (v := ?_) rfl (by kernel_rfl) (by kernel_rfl) (by kernel_rfl) (fun _ _ _ h => h) (Or.inl ⟨by kernel_rfl, ?_⟩) hHeld ?_
    rotate_left 1
    · intro W hW; first | (go_simp; done) | (go_simp; with_reducible rfl)
    try simp only [Act.put, List.setIfInBounds_toArray, List.set_cons_zero, List.set_cons_succ]
    refine wpAnyH_take (i := 9) (oi := ⟨_, _, _, _, _, _⟩) (v := undef) rfl (by kernel_rfl) (by kernel_rfl) (by kernel_rfl) (fun _ _ _ h => h) (Or.inr ⟨by kernel_rfl, rfl⟩) hHeld ?_
    try simp only [Act.put, List.setIfInBounds_toArray, List.set_cons_zero, List.set_cons_succ]
    refine wpAnyH_take (i := 10) (oi := ⟨_, _, _, _, _, _⟩) (v := undef) rfl (by kernel_rfl) (by kernel_rfl) (by kernel_rfl) (fun _ _ _ h => h) (Or.inr ⟨by kernel_rfl, rfl⟩) hHeld ?_
    try simp only [Act.put, List.setIfInBounds_toArray, List.set_cons_zero, List.set_cons_succ]
    refine wpAnyH_take (i := 11) (oi := ⟨_, _, _, _, _, _⟩) (v := undef) rfl (by kernel_rfl) (by kernel_rfl) (by kernel_rfl) (fun _ _ _ h => h) (Or.inr ⟨by kernel_rfl, rfl⟩) hHeld ?_
    try simp only [Act.put, List.setIfInBounds_toArray, List.set_cons_zero, List.set_cons_succ]
    refine wpAnyH_take (i := 12) (oi := ⟨_, _, _, _, _, _⟩) (v := undef) rfl (by kernel_rfl) (by kernel_rfl) (by kernel_rfl) (fun _ _ _ h => h) (Or.inr ⟨by kernel_rfl, rfl⟩) hHeld ?_
    try simp only [Act.put, List.setIfInBounds_toArray, List.set_cons_zero, List.set_cons_succ]
    refine wpAnyH_take (i := 13) (oi := ⟨_, _, _, _, _, _⟩) (v := undef) rfl (by kernel_rfl) (by kernel_rfl) (by kernel_rfl) (fun _ _ _ h => h) (Or.inr ⟨by kernel_rfl, rfl⟩) hHeld ?_
    try simp only [Act.put, List.setIfInBounds_toArray, List.set_cons_zero, List.set_cons_succ]
    refine wpAnyH_take (i := 14) (oi := ⟨_, _, _, _, _, _⟩) (v := undef) rfl (by kernel_rfl) (by kernel_rfl) (by kernel_rfl) (fun _ _ _ h => h) (Or.inr ⟨by kernel_rfl, rfl⟩) hHeld ?_
    try simp only [Act.put, List.setIfInBounds_toArray, List.set_cons_zero, List.set_cons_succ]
    refine wpAnyH_take (i := 15) (oi := ⟨_, _, _, _, _, _⟩) (v := undef) rfl (by kernel_rfl) (by kernel_rfl) (by kernel_rfl) (fun _ _ _ h => h) (Or.inr ⟨by kernel_rfl, rfl⟩) hHeld ?_
    try simp only [Act.put, List.setIfInBounds_toArray, List.set_cons_zero, List.set_cons_succ]
    refine wpAnyH_take (i := 16) (oi := ⟨_, _, _, _, _, _⟩) (v := ?_) rfl (by kernel_rfl) (by kernel_rfl) (by kernel_rfl) (fun _ _ _ h => h) (Or.inl ⟨by kernel_rfl, ?_⟩) hHeld ?_
    rotate_left 1
    · intro W hW; first | (go_simp; done) | (go_simp; with_reducible rfl)
    try simp only [Act.put, List.setIfInBounds_toArray, List.set_cons_zero, List.set_cons_succ]
    refine wpAnyH_take (i := 17) (oi := ⟨_, _, _, _, _, _⟩) (v := ?_) rfl (by kernel_rfl) (by kernel_rfl) (by kernel_rfl) (fun _ _ _ h => h) (Or.inl ⟨by kernel_rfl, ?_⟩) hHeld ?_
    rotate_left 1
    · intro W hW; first | (go_simp; done) | (go_simp; with_reducible rfl)
    try simp only [Act.put, List.setIfInBounds_toArray, List.set_cons_zero, List.set_cons_succ]
    refine wpAnyH_take (i := 18) (oi := ⟨_, _, _, _, _, _⟩) (v := undef) rfl (by kernel_rfl) (by kernel_rfl) (by kernel_rfl) (fun _ _ _ h => h) (Or.inr ⟨by kernel_rfl, rfl⟩) hHeld ?_
    try simp only [Act.put, List.setIfInBounds_toArray, List.set_cons_zero, List.set_cons_succ]
    refine wpAnyH_take (i := 19) (oi := ⟨_, _, _, _, _, _⟩) (v := undef) rfl (by kernel_rfl) (by kernel_rfl) (by kernel_rfl) (fun _ _ _ h => h) (Or.inr ⟨by kernel_rfl, rfl⟩) hHeld ?_
    try simp only [Act.put, List.setIfInBounds_toArray, List.set_cons_zero, List.set_cons_succ]
    refine wpAnyH_take (i := 20) (oi := ⟨_, _, _, _, _, _⟩) (v := undef) rfl (by kernel_rfl) (by kernel_rfl) (by kernel_rfl) (fun _ _ _ h => h) (Or.inr ⟨by kernel_rfl, rfl⟩) hHeld ?_
    try simp only [Act.put, List.setIfInBounds_toArray, List.set_cons_zero, List.set_cons_succ]
    refine wpAnyH_take (i := 21) (oi := ⟨_, _, _, _, _, _⟩) (v := undef) rfl (by kernel_rfl) (by kernel_rfl) (by kernel_rfl) (fun _ _ _ h => h) (Or.inr ⟨by kernel_rfl, rfl⟩) hHeld ?_
    try simp only [Act.put, List.setIfInBounds_toArray, List.set_cons_zero, List.set_cons_succ]
    refine wpAnyH_take (i := 22) (oi := ⟨_, _, _, _, _, _⟩) (v := undef) rfl (by kernel_rfl) (by kernel_rfl) (by kernel_rfl) (fun _ _ _ h => h) (Or.inr ⟨by kernel_rfl, rfl⟩) hHeld ?_
    try simp only [Act.put, List.setIfInBounds_toArray, List.set_cons_zero, List.set_cons_succ]
    refine wpAnyH_take (i := 23) (oi := ⟨_, _, _, _, _, _⟩) (v := ?_) rfl (by kernel_rfl) (by kernel_rfl) (by kernel_rfl) (fun _ _ _ h => h) (Or.inl ⟨by kernel_rfl, ?_⟩) hHeld ?_
    rotate_left 1
    · intro W hW; first | (go_simp; done) | (go_simp; with_reducible rfl)
    try simp only [Act.put, List.setIfInBounds_toArray, List.set_cons_zero, List.set_cons_succ]
    refine wpAnyH_take (i := 24) (oi := ⟨_, _, _, _, _, _⟩) (v := ?_) rfl (by kernel_rfl) (by kernel_rfl) (by kernel_rfl) (fun _ _ _ h => h) (Or.inl ⟨by kernel_rfl, ?_⟩) hHeld ?_
    rotate_left 1
    · intro W hW; first | (go_simp; done) | (go_simp; with_reducible rfl)
    try simp only [Act.put, List.setIfInBounds_toArray, List.set_cons_zero, List.set_cons_succ]
    refine wpAnyH_take (i := 25) (oi := ⟨_, _, _, _, _, _⟩) (v := undef) rfl (by kernel_rfl) (by kernel_rfl) (by kernel_rfl) (fun _ _ _ h => h) (Or.inr ⟨by kernel_rfl, rfl⟩) hHeld ?_
    try simp only [Act.put, List.setIfInBounds_toArray, List.set_cons_zero, List.set_cons_succ]
    refine wpAnyH_take (i := 26) (oi := ⟨_, _, _, _, _, _⟩) (v := undef) rfl (by kernel_rfl) (by kernel_rfl) (by kernel_rfl) (fun _ _ _ h => h) (Or.inr ⟨by kernel_rfl, rfl⟩) hHeld ?_
    try simp only [Act.put, List.setIfInBounds_toArray, List.set_cons_zero, List.set_cons_succ]
    refine wpAnyH_take (i := 27) (oi := ⟨_, _, _, _, _, _⟩) (v := undef) rfl (by kernel_rfl) (by kernel_rfl) (by kernel_rfl) (fun _ _ _ h => h) (Or.inr ⟨by kernel_rfl, rfl⟩) hHeld ?_
    try simp only [Act.put, List.setIfInBounds_toArray, List.set_cons_zero, List.set_cons_succ]
    refine wpAnyH_take (i := 28) (oi := ⟨_, _, _, _, _, _⟩) (v := undef) rfl (by kernel_rfl) (by kernel_rfl) (by kernel_rfl) (fun _ _ _ h => h) (Or.inr ⟨by kernel_rfl, rfl⟩) hHeld ?_
    try simp only [Act.put, List.setIfInBounds_toArray, List.set_cons_zero, List.set_cons_succ]
    refine wpAnyH_take (i := 29) (oi := ⟨_, _, _, _, _, _⟩) (v := undef) rfl (by kernel_rfl) (by kernel_rfl) (by kernel_rfl) (fun _ _ _ h => h) (Or.inr ⟨by kernel_rfl, rfl⟩) hHeld ?_
    try simp only [Act.put, List.setIfInBounds_toArray, List.set_cons_zero, List.set_cons_succ]
    refine wpAnyH_take (i := 30) (oi := ⟨_, _, _, _, _, _⟩) (v := ?_) rfl (by kernel_rfl) (by kernel_rfl) (by kernel_rfl) (fun _ _ _ h => h) (Or.inl ⟨by kernel_rfl, ?_⟩) hHeld ?_
    rotate_left 1
    · intro W hW; first | (go_simp; done) | (go_simp; with_reducible rfl)
    try simp only [Act.put, List.setIfInBounds_toArray, List.set_cons_zero, List.set_cons_succ]
    refine wpAnyH_done (by kernel_rfl) ?_ _
    go_wp2_with fail
    go_ret
    exact ⟨rfl, HBq.out.trans (hHeld.mono HBq.out.size)⟩
  have HAll := Lib.hid (show ∀ x ∈ l ++ m, ActIn wq x.r x.A x.c from fun x hx => by
    rcases List.mem_append.1 hx with hx | hx
    · exact (HL.out.all x hx).keep HBq.out
    · exact (HM.out.all x hx).keep HBq.out)
  have HBg := Lib.hid (fun u X cx N (hN : N = (l ++ m).length) (h : Below wq.heap.size wq u) (hX : ActsIn u X (l ++ m)) => show Calls Tryz.prog 14 #[recV r A c, .slice X N cx] u (fun e w' => e = .returned (.bool (big5 r (l ++ m))) ∧ Below u.heap.size u w') from by subst hN; exact big6_any r A X c cx (l ++ m) u ((HI.out.its.below HBq.out).below h) HI.out.len hX)
  cases hbig : big5 r (l ++ m)
  case true =>
    rw [hbig] at HBg
    refine wp_region_held_drew (S := fun W => Below wq.heap.size wq W) (by kernel_rfl) (below_drew (Below.refl _ _)) (fun hHeld => ?_)
    refine wpAnyH_take (i := 0) (oi := ⟨_, _, _, _, _, _⟩) (v := ?_) rfl (by kernel_rfl) (by kernel_rfl) (by kernel_rfl) (fun _ _ _ h => h) (Or.inl ⟨by kernel_rfl, ?_⟩) hHeld ?_
    rotate_left 1
    · intro W hW; first | (go_simp; done) | (go_simp; with_reducible rfl)
    try simp only [Act.put, List.setIfInBounds_toArray, List.set_cons_zero, List.set_cons_succ]
    refine wpAnyH_take (i := 1) (oi := ⟨_, _, _, _, _, _⟩) (v := ?_) rfl (by kernel_rfl) (by kernel_rfl) (by kernel_rfl) (fun _ _ _ h => h) (Or.inl ⟨by kernel_rfl, ?_⟩) hHeld ?_
    rotate_left 1
    · intro W hW; first | (go_simp; done) | (go_simp; with_reducible rfl)
    try simp only [Act.put, List.setIfInBounds_toArray, List.set_cons_zero, List.set_cons_succ]
    refine wpAnyH_take (i := 2) (oi := ⟨_, _, _, _, _, _⟩) (v := ?_) rfl (by kernel_rfl) (by kernel_rfl) (by kernel_rfl) (fun _ _ _ h => h) (Or.inl ⟨by kernel_rfl, ?_⟩) hHeld ?_
    rotate_left 1
    · intro W hW; first | (go_simp; done) | (go_simp; with_reducible rfl)
    try simp only [Act.put, List.setIfInBounds_toArray, List.set_cons_zero, List.set_cons_succ]
    refine wpAnyH_take (i := 3) (oi := ⟨_, _, _, _, _, _⟩) (v := ?_) rfl (by kernel_rfl) (by kernel_rfl) (by kernel_rfl) (fun _ _ _ h => h) (Or.inl ⟨by kernel_rfl, ?_⟩) hHeld ?_
    rotate_left 1
    · intro W hW; first | (go_simp; done) | (go_simp; with_reducible rfl)
    try simp only [Act.put, List.setIfInBounds_toArray, List.set_cons_zero, List.set_cons_succ]
    refine wpAnyH_take (i := 4) (oi := ⟨_, _, _, _, _, _⟩) (v := ?_) rfl (by kernel_rfl) (by kernel_rfl) (by kernel_rfl) (fun _ _ _ h => h) (Or.inl ⟨by kernel_rfl, ?_⟩) hHeld ?_
    rotate_left 1
    · intro W hW; first | (go_simp; done) | (go_simp; with_reducible rfl)
    try simp only [Act.put, List.setIfInBounds_toArray, List.set_cons_zero, List.set_cons_succ]
    refine wpAnyH_take (i := 5) (oi := ⟨_, _, _, _, _, _⟩) (v := ?_) rfl (by kernel_rfl) (by kernel_rfl) (by kernel_rfl) (fun _ _ _ h => h) (Or.inl ⟨by kernel_rfl, ?_⟩) hHeld ?_
    rotate_left 1
    · intro W hW; first | (go_simp; done) | (go_simp; with_reducible rfl)
    try simp only [Act.put, List.setIfInBounds_toArray, List.set_cons_zero, List.set_cons_succ]
    refine wpAnyH_take (i := 6) (oi := ⟨_, _, _, _, _, _⟩) (v := ?_) rfl (by kernel_rfl) (by kernel_rfl) (by kernel_rfl) (fun _ _ _ h => h) (Or.inl ⟨by kernel_rfl, ?_⟩) hHeld ?_
    rotate_left 1
    · intro W hW; first | (go_simp; done) | (go_simp; with_reducible rfl)
    try simp only [Act.put, List.setIfInBounds_toArray, List.set_cons_zero, List.set_cons_succ]
    refine wpAnyH_take (i := 7) (oi := ⟨_, _, _, _, _, _⟩) (v := ?_) rfl (by kernel_rfl) (by kernel_rfl) (by kernel_rfl) (fun _ _ _ h => h) (Or.inl ⟨by kernel_rfl, ?_⟩) hHeld ?_
    rotate_left 1
    · intro W hW; first | (go_simp; done) | (go_simp; with_reducible rfl)
    try simp only [Act.put, List.setIfInBounds_toArray, List.set_cons_zero, List.set_cons_succ]
    refine wpAnyH_take (i := 8) (oi := ⟨_, _, _, _, _, _⟩) (v := ?_) rfl (by kernel_rfl) (by kernel_rfl) (by kernel_rfl) (fun _ _ _ h => h) (Or.inl ⟨by kernel_rfl, ?_⟩) hHeld ?_
    rotate_left 1
    · intro W hW; first | (go_simp; done) | (go_simp; with_reducible rfl)
    try simp only [Act.put, List.setIfInBounds_toArray, List.set_cons_zero, List.set_cons_succ]
    refine wpAnyH_take (i := 9) (oi := ⟨_, _, _, _, _, _⟩) (v := ?_) rfl (by kernel_rfl) (by kernel_rfl) (by kernel_rfl) (fun _ _ _ h => h) (Or.inl ⟨by kernel_rfl, ?_⟩) hHeld ?_
    rotate_left 1
    · intro W hW; have k0 := below_keep hW p0; have k1 := below_keep hW p1; have k2 := below_keep hW p2; have k3 := below_keep hW p3; have k4 := below_keep hW p4; have k5 := below_keep hW p5; have k6 := below_keep hW p6; have k7 := below_keep hW p7; first | (go_simp; done) | (go_simp; with_reducible rfl)
    try simp only [Act.put, List.setIfInBounds_toArray, List.set_cons_zero, List.set_cons_succ]
    refine wpAnyH_take (i := 11) (oi := ⟨_, _, _, _, _, _⟩) (v := ?_) rfl (by kernel_rfl) (by kernel_rfl) (by kernel_rfl) (fun _ _ _ h => h) (Or.inl ⟨by kernel_rfl, ?_⟩) hHeld ?_
    rotate_left 1
    · intro W hW; first | (go_simp; done) | (go_simp; with_reducible rfl)
    try simp only [Act.put, List.setIfInBounds_toArray, List.set_cons_zero, List.set_cons_succ]
    refine wpAnyH_take (i := 13) (oi := ⟨_, _, _, _, _, _⟩) (v := ?_) rfl (by kernel_rfl) (by kernel_rfl) (by kernel_rfl) (fun _ _ _ h => h) (Or.inl ⟨by kernel_rfl, ?_⟩) hHeld ?_
    rotate_left 1
    · intro W hW; first | (go_simp; done) | (go_simp; with_reducible rfl)
    try simp only [Act.put, List.setIfInBounds_toArray, List.set_cons_zero, List.set_cons_succ]
    refine wpAnyH_ready (rs := [10]) (by kernel_rfl) (by simp) ?_
    refine AllReadyH.cons rfl (fun K hK => ?_) AllReadyH.nil
    go_simp
    refine hK.out _ _ ?_ (fun hHelda => ?_)
    · exact hHeld.trans ((below1 wq.drew _).mono hHeld.size)
    clear hK K
    try simp only [Act.put, List.setIfInBounds_toArray, List.set_cons_zero, List.set_cons_succ]
    have HO3 := Lib.hid (show (World.alloc wq.drew (.cells #[] 27)).ownsRow 0 27 14 (.slice (some ⟨wq.heap.size, 0, none⟩) 0 0) 0 [] from World.ownsRow_lit (base := 0) (e := 27) (size := 14) wq.drew #[] 0 (Nat.zero_le _) (by unfold maxLen; omega) rfl)
    have HN3 := Lib.hid (show ∀ k, ob (some (⟨wq.heap.size, 0, none⟩ : Addr)) = some k → wq.heap.size ≤ k from fun k e => by injection e with e; have e' : wq.heap.size = k := e; omega)
    refine wpAnyH_ready (rs := [12]) (by kernel_rfl) (by simp) ?_
    refine AllReadyH.cons rfl (fun K hK => ?_) AllReadyH.nil
    rw [if_pos (by kernel_rfl)]
    refine wp_append_at _ _ _ _ rfl 27 i0 _ 14 152 Tryz.underlying31 hi0 hz0 hz1 hz2 rfl (some ⟨wq.heap.size, 0, none⟩) 0 0 [] rfl HO3.out _ l.length _ rfl (HSl.out _ hHelda) (by unfold maxLen; omega) (by omega) ?_
    intro A4 c4 w4 ho4 hg4 hat4
    rw [Nat.zero_add] at ho4 ⊢
    rw [List.nil_append] at ho4
    have HB4 := Lib.hid (grown_keep6 hHelda HN3.out hg4)
    have HN4 := Lib.hid (grown_new6 HN3.out hat4 hHelda.size)
    have HO4 := Lib.hid ho4
    clear hg4 hat4 ho4 HO3 HN3
    refine hK.out _ _ ?_ (fun hHeldaa => ?_)
    · exact HB4.out
    clear hK K
    try simp only [Act.put, List.setIfInBounds_toArray, List.set_cons_zero, List.set_cons_succ]
    clear HB4
    refine wpAnyH_ready (rs := [14]) (by kernel_rfl) (by simp) ?_
    refine AllReadyH.cons rfl (fun K hK => ?_) AllReadyH.nil
    rw [if_pos (by kernel_rfl)]
    refine wp_append_at _ _ _ _ rfl 27 i0 _ 14 152 Tryz.underlying31 hi0 hz0 hz1 hz2 rfl A4 l.length c4 (acCells l) rfl HO4.out _ m.length _ rfl (HSm.out _ hHeldaa) (by unfold maxLen; omega) (by omega) ?_
    intro A5 c5 w5 ho5 hg5 hat5
    obtain ⟨N, hN⟩ : ∃ N, N = l.length + m.length := ⟨_, rfl⟩
    rw [← hN] at ho5 ⊢
    have HB5 := Lib.hid (grown_keep6 hHeldaa HN4.out hg5)
    have HNN := Lib.hid (show N = (l ++ m).length by rw [List.length_append]; exact hN)
    have HAX := Lib.hid (show ActsIn w5 A5 (l ++ m) from acts_own HNN.out (by rw [acCells_append]; exact ho5) (fun x hx => (HAll.out x hx).keep HB5.out) (by rw [List.length_append]; unfold maxLen; omega))
    clear hg5 hat5 ho5 HO4 HN4 hN
    refine hK.out _ _ ?_ (fun hHeldaaa => ?_)
    · exact HB5.out
    clear hK K
    try simp only [Act.put, List.setIfInBounds_toArray, List.set_cons_zero, List.set_cons_succ]
    clear HB5
    refine wpAnyH_ready (rs := [15]) (by kernel_rfl) (by simp) ?_
    refine AllReadyH.cons rfl (fun K hK => ?_) AllReadyH.nil
    go_simp
    refine (HBg.out _ A5 c5 N HNN.out hHeldaaa HAX.out).mono ?_
    rintro e wv ⟨rfl, hbv⟩
    clear HAX HNN
    go_wp2_with fail
    refine hK.out _ _ ?_ (fun hHeldaaaa => ?_)
    · exact hHeldaaa.trans (hbv.mono hHeldaaa.size)
    clear hK K
    try simp only [Act.put, List.setIfInBounds_toArray, List.set_cons_zero, List.set_cons_succ]
    clear hbv
    refine wpAnyH_take (i := 16) (oi := ⟨_, _, _, _, _, _⟩) (v := ?_) rfl (by kernel_rfl) (by kernel_rfl) (by kernel_rfl) (fun _ _ _ h => h) (Or.inl ⟨by kernel_rfl, ?_⟩) hHeldaaaa ?_
    rotate_left 1
    · intro W hW; first | (go_simp; done) | (go_simp; with_reducible rfl)
    try simp only [Act.put, List.setIfInBounds_toArray, List.set_cons_zero, List.set_cons_succ]
    refine wpAnyH_take (i := 17) (oi := ⟨_, _, _, _, _, _⟩) (v := ?_) rfl (by kernel_rfl) (by kernel_rfl) (by kernel_rfl) (fun _ _ _ h => h) (Or.inl ⟨by kernel_rfl, ?_⟩) hHeldaaaa ?_
    rotate_left 1
    · intro W hW; first | (go_simp; done) | (go_simp; with_reducible rfl)
    try simp only [Act.put, List.setIfInBounds_toArray, List.set_cons_zero, List.set_cons_succ]
    refine wpAnyH_take (i := 18) (oi := ⟨_, _, _, _, _, _⟩) (v := undef) rfl (by kernel_rfl) (by kernel_rfl) (by kernel_rfl) (fun _ _ _ h => h) (Or.inr ⟨by kernel_rfl, rfl⟩) hHeldaaaa ?_
    try simp only [Act.put, List.setIfInBounds_toArray, List.set_cons_zero, List.set_cons_succ]
    refine wpAnyH_take (i := 19) (oi := ⟨_, _, _, _, _, _⟩) (v := undef) rfl (by kernel_rfl) (by kernel_rfl) (by kernel_rfl) (fun _ _ _ h => h) (Or.inr ⟨by kernel_rfl, rfl⟩) hHeldaaaa ?_
    try simp only [Act.put, List.setIfInBounds_toArray, List.set_cons_zero, List.set_cons_succ]
    refine wpAnyH_take (i := 20) (oi := ⟨_, _, _, _, _, _⟩) (v := undef) rfl (by kernel_rfl) (by kernel_rfl) (by kernel_rfl) (fun _ _ _ h => h) (Or.inr ⟨by kernel_rfl, rfl⟩) hHeldaaaa ?_
    try simp only [Act.put, List.setIfInBounds_toArray, List.set_cons_zero, List.set_cons_succ]
    refine wpAnyH_take (i := 21) (oi := ⟨_, _, _, _, _, _⟩) (v := undef) rfl (by kernel_rfl) (by kernel_rfl) (by kernel_rfl) (fun _ _ _ h => h) (Or.inr ⟨by kernel_rfl, rfl⟩) hHeldaaaa ?_
    try simp only [Act.put, List.setIfInBounds_toArray, List.set_cons_zero, List.set_cons_succ]
    refine wpAnyH_take (i := 22) (oi := ⟨_, _, _, _, _, _⟩) (v := undef) rfl (by kernel_rfl) (by kernel_rfl) (by kernel_rfl) (fun _ _ _ h => h) (Or.inr ⟨by kernel_rfl, rfl⟩) hHeldaaaa ?_
    try simp only [Act.put, List.setIfInBounds_toArray, List.set_cons_zero, List.set_cons_succ]
    refine wpAnyH_take (i := 23) (oi := ⟨_, _, _, _, _, _⟩) (v := ?_) rfl (by kernel_rfl) (by kernel_rfl) (by kernel_rfl) (fun _ _ _ h => h) (Or.inl ⟨by kernel_rfl, ?_⟩) hHeldaaaa ?_
    rotate_left 1
    · intro W hW; first | (go_simp; done) | (go_simp; with_reducible rfl)
    try simp only [Act.put, List.setIfInBounds_toArray, List.set_cons_zero, List.set_cons_succ]
    refine wpAnyH_take (i := 24) (oi := ⟨_, _, _, _, _, _⟩) (v := ?_) rfl (by kernel_rfl) (by kernel_rfl) (by kernel_rfl) (fun _ _ _ h => h) (Or.inl ⟨by kernel_rfl, ?_⟩) hHeldaaaa ?_
    rotate_left 1
    · intro W hW; first | (go_simp; done) | (go_simp; with_reducible rfl)
    try simp only [Act.put, List.setIfInBounds_toArray, List.set_cons_zero, List.set_cons_succ]
    refine wpAnyH_take (i := 25) (oi := ⟨_, _, _, _, _, _⟩) (v := undef) rfl (by kernel_rfl) (by kernel_rfl) (by kernel_rfl) (fun _ _ _ h => h) (Or.inr ⟨by kernel_rfl, rfl⟩) hHeldaaaa ?_
    try simp only [Act.put, List.setIfInBounds_toArray, List.set_cons_zero, List.set_cons_succ]
    refine wpAnyH_take (i := 26) (oi := ⟨_, _, _, _, _, _⟩) (v := undef) rfl (by kernel_rfl) (by kernel_rfl) (by kernel_rfl) (fun _ _ _ h => h) (Or.inr ⟨by kernel_rfl, rfl⟩) hHeldaaaa ?_
    try simp only [Act.put, List.setIfInBounds_toArray, List.set_cons_zero, List.set_cons_succ]
    refine wpAnyH_take (i := 27) (oi := ⟨_, _, _, _, _, _⟩) (v := undef) rfl (by kernel_rfl) (by kernel_rfl) (by kernel_rfl) (fun _ _ _ h => h) (Or.inr ⟨by kernel_rfl, rfl⟩) hHeldaaaa ?_
    try simp only [Act.put, List.setIfInBounds_toArray, List.set_cons_zero, List.set_cons_succ]
    refine wpAnyH_take (i := 28) (oi := ⟨_, _, _, _, _, _⟩) (v := undef) rfl (by kernel_rfl) (by kernel_rfl) (by kernel_rfl) (fun _ _ _ h => h) (Or.inr ⟨by kernel_rfl, rfl⟩) hHeldaaaa ?_
    try simp only [Act.put, List.setIfInBounds_toArray, List.set_cons_zero, List.set_cons_succ]
    refine wpAnyH_take (i := 29) (oi := ⟨_, _, _, _, _, _⟩) (v := undef) rfl (by kernel_rfl) (by kernel_rfl) (by kernel_rfl) (fun _ _ _ h => h) (Or.inr ⟨by kernel_rfl, rfl⟩) hHeldaaaa ?_
    try simp only [Act.put, List.setIfInBounds_toArray, List.set_cons_zero, List.set_cons_succ]
    refine wpAnyH_take (i := 30) (oi := ⟨_, _, _, _, _, _⟩) (v := ?_) rfl (by kernel_rfl) (by kernel_rfl) (by kernel_rfl) (fun _ _ _ h => h) (Or.inl ⟨by kernel_rfl, ?_⟩) hHeldaaaa ?_
    rotate_left 1
    · intro W hW; first | (go_simp; done) | (go_simp; with_reducible rfl)
    try simp only [Act.put, List.setIfInBounds_toArray, List.set_cons_zero, List.set_cons_succ]
    refine wpAnyH_done (by kernel_rfl) ?_ _
    go_wp2_with fail
    go_ret
    exact ⟨rfl, HBq.out.trans (hHeldaaaa.mono HBq.out.size)⟩
  rw [hbig] at HBg
  have hb5 := big5_not hbig
  have HSm5 := Lib.hid (fun x (hx : x ∈ l ++ m) => small5 (hb5.2.2 x hx))
  have HMr := Lib.hid (show Lim r.list.length by have := (big_not hb5.1).1; unfold Lim; omega)
  have HMy1 := Lib.hid (fun u (h : Below wq.heap.size wq u) => may6_any r t l A L c cl u HI.out.ok ((HI.out.its.below HBq.out).below h) HMr.out ((HL.out.keep HBq.out).keep h) (by omega) (fun x hx => HSm5.out x (List.mem_append_left _ hx)))
  have HMy2 := Lib.hid (fun u (h : Below wq.heap.size wq u) => may6_any r t m A M c cm u HI.out.ok ((HI.out.its.below HBq.out).below h) HMr.out ((HM.out.keep HBq.out).keep h) (by omega) (fun x hx => HSm5.out x (List.mem_append_right _ hx)))
  have HC1 := Lib.hid (fun h => may6_rows (r := r) (t := t) (l := l.map (·.r)) h)
  have HC2 := Lib.hid (fun h => may6_rows (r := r) (t := t) (l := m.map (·.r)) h)
  clear hbig hb5
  generalize hm1 : RU.may6 r t (l.map (·.r)) = b1 at *
  cases b1
  case false =>
    refine wp_region_held_drew (S := fun W => Below wq.heap.size wq W) (by kernel_rfl) (below_drew (Below.refl _ _)) (fun hHeld => ?_)
    refine wpAnyH_take (i := 0) (oi := ⟨_, _, _, _, _, _⟩) (v := ?_) rfl (by kernel_rfl) (by kernel_rfl) (by kernel_rfl) (fun _ _ _ h => h) (Or.inl ⟨by kernel_rfl, ?_⟩) hHeld ?_
    rotate_left 1
    · intro W hW; first | (go_simp; done) | (go_simp; with_reducible rfl)
    try simp only [Act.put, List.setIfInBounds_toArray, List.set_cons_zero, List.set_cons_succ]
    refine wpAnyH_take (i := 1) (oi := ⟨_, _, _, _, _, _⟩) (v := ?_) rfl (by kernel_rfl) (by kernel_rfl) (by kernel_rfl) (fun _ _ _ h => h) (Or.inl ⟨by kernel_rfl, ?_⟩) hHeld ?_
    rotate_left 1
    · intro W hW; first | (go_simp; done) | (go_simp; with_reducible rfl)
    try simp only [Act.put, List.setIfInBounds_toArray, List.set_cons_zero, List.set_cons_succ]
    refine wpAnyH_take (i := 2) (oi := ⟨_, _, _, _, _, _⟩) (v := ?_) rfl (by kernel_rfl) (by kernel_rfl) (by kernel_rfl) (fun _ _ _ h => h) (Or.inl ⟨by kernel_rfl, ?_⟩) hHeld ?_
    rotate_left 1
    · intro W hW; first | (go_simp; done) | (go_simp; with_reducible rfl)
    try simp only [Act.put, List.setIfInBounds_toArray, List.set_cons_zero, List.set_cons_succ]
    refine wpAnyH_take (i := 3) (oi := ⟨_, _, _, _, _, _⟩) (v := ?_) rfl (by kernel_rfl) (by kernel_rfl) (by kernel_rfl) (fun _ _ _ h => h) (Or.inl ⟨by kernel_rfl, ?_⟩) hHeld ?_
    rotate_left 1
    · intro W hW; first | (go_simp; done) | (go_simp; with_reducible rfl)
    try simp only [Act.put, List.setIfInBounds_toArray, List.set_cons_zero, List.set_cons_succ]
    refine wpAnyH_take (i := 4) (oi := ⟨_, _, _, _, _, _⟩) (v := ?_) rfl (by kernel_rfl) (by kernel_rfl) (by kernel_rfl) (fun _ _ _ h => h) (Or.inl ⟨by kernel_rfl, ?_⟩) hHeld ?_
    rotate_left 1
    · intro W hW; first | (go_simp; done) | (go_simp; with_reducible rfl)
    try simp only [Act.put, List.setIfInBounds_toArray, List.set_cons_zero, List.set_cons_succ]
    refine wpAnyH_take (i := 5) (oi := ⟨_, _, _, _, _, _⟩) (v := ?_) rfl (by kernel_rfl) (by kernel_rfl) (by kernel_rfl) (fun _ _ _ h => h) (Or.inl ⟨by kernel_rfl, ?_⟩) hHeld ?_
    rotate_left 1
    · intro W hW; first | (go_simp; done) | (go_simp; with_reducible rfl)
    try simp only [Act.put, List.setIfInBounds_toArray, List.set_cons_zero, List.set_cons_succ]
    refine wpAnyH_take (i := 6) (oi := ⟨_, _, _, _, _, _⟩) (v := ?_) rfl (by kernel_rfl) (by kernel_rfl) (by kernel_rfl) (fun _ _ _ h => h) (Or.inl ⟨by kernel_rfl, ?_⟩) hHeld ?_
    rotate_left 1
    · intro W hW; first | (go_simp; done) | (go_simp; with_reducible rfl)
    try simp only [Act.put, List.setIfInBounds_toArray, List.set_cons_zero, List.set_cons_succ]
    refine wpAnyH_take (i := 7) (oi := ⟨_, _, _, _, _, _⟩) (v := ?_) rfl (by kernel_rfl) (by kernel_rfl) (by kernel_rfl) (fun _ _ _ h => h) (Or.inl ⟨by kernel_rfl, ?_⟩) hHeld ?_
    rotate_left 1
    · intro W hW; first | (go_simp; done) | (go_simp; with_reducible rfl)
    try simp only [Act.put, List.setIfInBounds_toArray, List.set_cons_zero, List.set_cons_succ]
    refine wpAnyH_take (i := 8) (oi := ⟨_, _, _, _, _, _⟩) (v := ?_) rfl (by kernel_rfl) (by kernel_rfl) (by kernel_rfl) (fun _ _ _ h => h) (Or.inl ⟨by kernel_rfl, ?_⟩) hHeld ?_
    rotate_left 1
    · intro W hW; first | (go_simp; done) | (go_simp; with_reducible rfl)
    try simp only [Act.put, List.setIfInBounds_toArray, List.set_cons_zero, List.set_cons_succ]
    refine wpAnyH_take (i := 9) (oi := ⟨_, _, _, _, _, _⟩) (v := ?_) rfl (by kernel_rfl) (by kernel_rfl) (by kernel_rfl) (fun _ _ _ h => h) (Or.inl ⟨by kernel_rfl, ?_⟩) hHeld ?_
    rotate_left 1
    · intro W hW; have k0 := below_keep hW p0; have k1 := below_keep hW p1; have k2 := below_keep hW p2; have k3 := below_keep hW p3; have k4 := below_keep hW p4; have k5 := below_keep hW p5; have k6 := below_keep hW p6; have k7 := below_keep hW p7; first | (go_simp; done) | (go_simp; with_reducible rfl)
    try simp only [Act.put, List.setIfInBounds_toArray, List.set_cons_zero, List.set_cons_succ]
    refine wpAnyH_take (i := 11) (oi := ⟨_, _, _, _, _, _⟩) (v := ?_) rfl (by kernel_rfl) (by kernel_rfl) (by kernel_rfl) (fun _ _ _ h => h) (Or.inl ⟨by kernel_rfl, ?_⟩) hHeld ?_
    rotate_left 1
    · intro W hW; first | (go_simp; done) | (go_simp; with_reducible rfl)
    try simp only [Act.put, List.setIfInBounds_toArray, List.set_cons_zero, List.set_cons_succ]
    refine wpAnyH_take (i := 13) (oi := ⟨_, _, _, _, _, _⟩) (v := ?_) rfl (by kernel_rfl) (by kernel_rfl) (by kernel_rfl) (fun _ _ _ h => h) (Or.inl ⟨by kernel_rfl, ?_⟩) hHeld ?_
    rotate_left 1
    · intro W hW; first | (go_simp; done) | (go_simp; with_reducible rfl)
    try simp only [Act.put, List.setIfInBounds_toArray, List.set_cons_zero, List.set_cons_succ]
    refine wpAnyH_ready (rs := [10]) (by kernel_rfl) (by simp) ?_
    refine AllReadyH.cons rfl (fun K hK => ?_) AllReadyH.nil
    go_simp
    refine hK.out _ _ ?_ (fun hHelda => ?_)
    · exact hHeld.trans ((below1 wq.drew _).mono hHeld.size)
    clear hK K
    try simp only [Act.put, List.setIfInBounds_toArray, List.set_cons_zero, List.set_cons_succ]
    have HO3 := Lib.hid (show (World.alloc wq.drew (.cells #[] 27)).ownsRow 0 27 14 (.slice (some ⟨wq.heap.size, 0, none⟩) 0 0) 0 [] from World.ownsRow_lit (base := 0) (e := 27) (size := 14) wq.drew #[] 0 (Nat.zero_le _) (by unfold maxLen; omega) rfl)
    have HN3 := Lib.hid (show ∀ k, ob (some (⟨wq.heap.size, 0, none⟩ : Addr)) = some k → wq.heap.size ≤ k from fun k e => by injection e with e; have e' : wq.heap.size = k := e; omega)
    refine wpAnyH_ready (rs := [12]) (by kernel_rfl) (by simp) ?_
    refine AllReadyH.cons rfl (fun K hK => ?_) AllReadyH.nil
    rw [if_pos (by kernel_rfl)]
    refine wp_append_at _ _ _ _ rfl 27 i0 _ 14 152 Tryz.underlying31 hi0 hz0 hz1 hz2 rfl (some ⟨wq.heap.size, 0, none⟩) 0 0 [] rfl HO3.out _ l.length _ rfl (HSl.out _ hHelda) (by unfold maxLen; omega) (by omega) ?_
    intro A4 c4 w4 ho4 hg4 hat4
    rw [Nat.zero_add] at ho4 ⊢
    rw [List.nil_append] at ho4
    have HB4 := Lib.hid (grown_keep6 hHelda HN3.out hg4)
    have HN4 := Lib.hid (grown_new6 HN3.out hat4 hHelda.size)
    have HO4 := Lib.hid ho4
    clear hg4 hat4 ho4 HO3 HN3
    refine hK.out _ _ ?_ (fun hHeldaa => ?_)
    · exact HB4.out
    clear hK K
    try simp only [Act.put, List.setIfInBounds_toArray, List.set_cons_zero, List.set_cons_succ]
    clear HB4
    refine wpAnyH_ready (rs := [14]) (by kernel_rfl) (by simp) ?_
    refine AllReadyH.cons rfl (fun K hK => ?_) AllReadyH.nil
    rw [if_pos (by kernel_rfl)]
    refine wp_append_at _ _ _ _ rfl 27 i0 _ 14 152 Tryz.underlying31 hi0 hz0 hz1 hz2 rfl A4 l.length c4 (acCells l) rfl HO4.out _ m.length _ rfl (HSm.out _ hHeldaa) (by unfold maxLen; omega) (by omega) ?_
    intro A5 c5 w5 ho5 hg5 hat5
    obtain ⟨N, hN⟩ : ∃ N, N = l.length + m.length := ⟨_, rfl⟩
    rw [← hN] at ho5 ⊢
    have HB5 := Lib.hid (grown_keep6 hHeldaa HN4.out hg5)
    have HNN := Lib.hid (show N = (l ++ m).length by rw [List.length_append]; exact hN)
    have HAX := Lib.hid (show ActsIn w5 A5 (l ++ m) from acts_own HNN.out (by rw [acCells_append]; exact ho5) (fun x hx => (HAll.out x hx).keep HB5.out) (by rw [List.length_append]; unfold maxLen; omega))
    clear hg5 hat5 ho5 HO4 HN4 hN
    refine hK.out _ _ ?_ (fun hHeldaaa => ?_)
    · exact HB5.out
    clear hK K
    try simp only [Act.put, List.setIfInBounds_toArray, List.set_cons_zero, List.set_cons_succ]
    clear HB5
    refine wpAnyH_ready (rs := [15]) (by kernel_rfl) (by simp) ?_
    refine AllReadyH.cons rfl (fun K hK => ?_) AllReadyH.nil
    go_simp
    refine (HBg.out _ A5 c5 N HNN.out hHeldaaa HAX.out).mono ?_
    rintro e wv ⟨rfl, hbv⟩
    clear HAX HNN
    go_wp2_with fail
    refine hK.out _ _ ?_ (fun hHeldaaaa => ?_)
    · exact hHeldaaa.trans (hbv.mono hHeldaaa.size)
    clear hK K
    try simp only [Act.put, List.setIfInBounds_toArray, List.set_cons_zero, List.set_cons_succ]
    clear hbv
    refine wpAnyH_take (i := 16) (oi := ⟨_, _, _, _, _, _⟩) (v := ?_) rfl (by kernel_rfl) (by kernel_rfl) (by kernel_rfl) (fun _ _ _ h => h) (Or.inl ⟨by kernel_rfl, ?_⟩) hHeldaaaa ?_
    rotate_left 1
    · intro W hW; first | (go_simp; done) | (go_simp; with_reducible rfl)
    try simp only [Act.put, List.setIfInBounds_toArray, List.set_cons_zero, List.set_cons_succ]
    refine wpAnyH_take (i := 17) (oi := ⟨_, _, _, _, _, _⟩) (v := ?_) rfl (by kernel_rfl) (by kernel_rfl) (by kernel_rfl) (fun _ _ _ h => h) (Or.inl ⟨by kernel_rfl, ?_⟩) hHeldaaaa ?_
    rotate_left 1
    · intro W hW; first | (go_simp; done) | (go_simp; with_reducible rfl)
    try simp only [Act.put, List.setIfInBounds_toArray, List.set_cons_zero, List.set_cons_succ]
    refine wpAnyH_take (i := 18) (oi := ⟨_, _, _, _, _, _⟩) (v := ?_) rfl (by kernel_rfl) (by kernel_rfl) (by kernel_rfl) (fun _ _ _ h => h) (Or.inl ⟨by kernel_rfl, ?_⟩) hHeldaaaa ?_
    rotate_left 1
    · intro W hW; have k0 := below_keep hW p0; have k1 := below_keep hW p1; have k2 := below_keep hW p2; have k3 := below_keep hW p3; have k4 := below_keep hW p4; have k5 := below_keep hW p5; have k6 := below_keep hW p6; have k7 := below_keep hW p7; first | (go_simp; done) | (go_simp; with_reducible rfl)
    try simp only [Act.put, List.setIfInBounds_toArray, List.set_cons_zero, List.set_cons_succ]
    refine wpAnyH_take (i := 19) (oi := ⟨_, _, _, _, _, _⟩) (v := ?_) rfl (by kernel_rfl) (by kernel_rfl) (by kernel_rfl) (fun _ _ _ h => h) (Or.inl ⟨by kernel_rfl, ?_⟩) hHeldaaaa ?_
    rotate_left 1
    · intro W hW; first | (go_simp; done) | (go_simp; with_reducible rfl)
    try simp only [Act.put, List.setIfInBounds_toArray, List.set_cons_zero, List.set_cons_succ]
    refine wpAnyH_take (i := 20) (oi := ⟨_, _, _, _, _, _⟩) (v := ?_) rfl (by kernel_rfl) (by kernel_rfl) (by kernel_rfl) (fun _ _ _ h => h) (Or.inl ⟨by kernel_rfl, ?_⟩) hHeldaaaa ?_
    rotate_left 1
    · intro W hW; first | (go_simp; done) | (go_simp; with_reducible rfl)
    try simp only [Act.put, List.setIfInBounds_toArray, List.set_cons_zero, List.set_cons_succ]
    refine wpAnyH_ready (rs := [21]) (by kernel_rfl) (by simp) ?_
    refine AllReadyH.cons rfl (fun K hK => ?_) AllReadyH.nil
    go_simp
    refine (HMy1.out _ hHeldaaaa).mono ?_
    rintro e wv ⟨rfl, hbv⟩
    go_wp2_with fail
    refine hK.out _ _ ?_ (fun hHeldaaaaa => ?_)
    · exact hHeldaaaa.trans (hbv.mono hHeldaaaa.size)
    clear hK K
    try simp only [Act.put, List.setIfInBounds_toArray, List.set_cons_zero, List.set_cons_succ]
    clear hbv
    refine wpAnyH_take (i := 22) (oi := ⟨_, _, _, _, _, _⟩) (v := ?_) rfl (by kernel_rfl) (by kernel_rfl) (by kernel_rfl) (fun _ _ _ h => h) (Or.inl ⟨by kernel_rfl, ?_⟩) hHeldaaaaa ?_
    rotate_left 1
    · intro W hW; first | (go_simp; done) | (go_simp; with_reducible rfl)
    try simp only [Act.put, List.setIfInBounds_toArray, List.set_cons_zero, List.set_cons_succ]
    refine wpAnyH_take (i := 23) (oi := ⟨_, _, _, _, _, _⟩) (v := ?_) rfl (by kernel_rfl) (by kernel_rfl) (by kernel_rfl) (fun _ _ _ h => h) (Or.inl ⟨by kernel_rfl, ?_⟩) hHeldaaaaa ?_
    rotate_left 1
    · intro W hW; first | (go_simp; done) | (go_simp; with_reducible rfl)
    try simp only [Act.put, List.setIfInBounds_toArray, List.set_cons_zero, List.set_cons_succ]
    refine wpAnyH_take (i := 24) (oi := ⟨_, _, _, _, _, _⟩) (v := ?_) rfl (by kernel_rfl) (by kernel_rfl) (by kernel_rfl) (fun _ _ _ h => h) (Or.inl ⟨by kernel_rfl, ?_⟩) hHeldaaaaa ?_
    rotate_left 1
    · intro W hW; first | (go_simp; done) | (go_simp; with_reducible rfl)
    try simp only [Act.put, List.setIfInBounds_toArray, List.set_cons_zero, List.set_cons_succ]
    refine wpAnyH_take (i := 25) (oi := ⟨_, _, _, _, _, _⟩) (v := undef) rfl (by kernel_rfl) (by kernel_rfl) (by kernel_rfl) (fun _ _ _ h => h) (Or.inr ⟨by kernel_rfl, rfl⟩) hHeldaaaaa ?_
    try simp only [Act.put, List.setIfInBounds_toArray, List.set_cons_zero, List.set_cons_succ]
    refine wpAnyH_take (i := 26) (oi := ⟨_, _, _, _, _, _⟩) (v := undef) rfl (by kernel_rfl) (by kernel_rfl) (by kernel_rfl) (fun _ _ _ h => h) (Or.inr ⟨by kernel_rfl, rfl⟩) hHeldaaaaa ?_
    try simp only [Act.put, List.setIfInBounds_toArray, List.set_cons_zero, List.set_cons_succ]
    refine wpAnyH_take (i := 27) (oi := ⟨_, _, _, _, _, _⟩) (v := undef) rfl (by kernel_rfl) (by kernel_rfl) (by kernel_rfl) (fun _ _ _ h => h) (Or.inr ⟨by kernel_rfl, rfl⟩) hHeldaaaaa ?_
    try simp only [Act.put, List.setIfInBounds_toArray, List.set_cons_zero, List.set_cons_succ]
    refine wpAnyH_take (i := 28) (oi := ⟨_, _, _, _, _, _⟩) (v := undef) rfl (by kernel_rfl) (by kernel_rfl) (by kernel_rfl) (fun _ _ _ h => h) (Or.inr ⟨by kernel_rfl, rfl⟩) hHeldaaaaa ?_
    try simp only [Act.put, List.setIfInBounds_toArray, List.set_cons_zero, List.set_cons_succ]
    refine wpAnyH_take (i := 29) (oi := ⟨_, _, _, _, _, _⟩) (v := undef) rfl (by kernel_rfl) (by kernel_rfl) (by kernel_rfl) (fun _ _ _ h => h) (Or.inr ⟨by kernel_rfl, rfl⟩) hHeldaaaaa ?_
    try simp only [Act.put, List.setIfInBounds_toArray, List.set_cons_zero, List.set_cons_succ]
    refine wpAnyH_take (i := 30) (oi := ⟨_, _, _, _, _, _⟩) (v := ?_) rfl (by kernel_rfl) (by kernel_rfl) (by kernel_rfl) (fun _ _ _ h => h) (Or.inl ⟨by kernel_rfl, ?_⟩) hHeldaaaaa ?_
    rotate_left 1
    · intro W hW; first | (go_simp; done) | (go_simp; with_reducible rfl)
    try simp only [Act.put, List.setIfInBounds_toArray, List.set_cons_zero, List.set_cons_succ]
    refine wpAnyH_done (by kernel_rfl) ?_ _
    go_wp2_with fail
    go_ret
    exact ⟨rfl, HBq.out.trans (hHeldaaaaa.mono HBq.out.size)⟩
  generalize hm2 : RU.may6 r t (m.map (·.r)) = b2 at *
  cases b2
  case false =>
    refine wp_region_held_drew (S := fun W => Below wq.heap.size wq W) (by kernel_rfl) (below_drew (Below.refl _ _)) (fun hHeld => ?_)
    refine wpAnyH_take (i := 0) (oi := ⟨_, _, _, _, _, _⟩) (v := ?_) rfl (by kernel_rfl) (by kernel_rfl) (by kernel_rfl) (fun _ _ _ h => h) (Or.inl ⟨by kernel_rfl, ?_⟩) hHeld ?_
    rotate_left 1
    · intro W hW; first | (go_simp; done) | (go_simp; with_reducible rfl)
    try simp only [Act.put, List.setIfInBounds_toArray, List.set_cons_zero, List.set_cons_succ]
    refine wpAnyH_take (i := 1) (oi := ⟨_, _, _, _, _, _⟩) (v := ?_) rfl (by kernel_rfl) (by kernel_rfl) (by kernel_rfl) (fun _ _ _ h => h) (Or.inl ⟨by kernel_rfl, ?_⟩) hHeld ?_
    rotate_left 1
    · intro W hW; first | (go_simp; done) | (go_simp; with_reducible rfl)
    try simp only [Act.put, List.setIfInBounds_toArray, List.set_cons_zero, List.set_cons_succ]
    refine wpAnyH_take (i := 2) (oi := ⟨_, _, _, _, _, _⟩) (v := ?_) rfl (by kernel_rfl) (by kernel_rfl) (by kernel_rfl) (fun _ _ _ h => h) (Or.inl ⟨by kernel_rfl, ?_⟩) hHeld ?_
    rotate_left 1
    · intro W hW; first | (go_simp; done) | (go_simp; with_reducible rfl)
    try simp only [Act.put, List.setIfInBounds_toArray, List.set_cons_zero, List.set_cons_succ]
    refine wpAnyH_take (i := 3) (oi := ⟨_, _, _, _, _, _⟩) (v := ?_) rfl (by kernel_rfl) (by kernel_rfl) (by kernel_rfl) (fun _ _ _ h => h) (Or.inl ⟨by kernel_rfl, ?_⟩) hHeld ?_
    rotate_left 1
    · intro W hW; first | (go_simp; done) | (go_simp; with_reducible rfl)
    try simp only [Act.put, List.setIfInBounds_toArray, List.set_cons_zero, List.set_cons_succ]
    refine wpAnyH_take (i := 4) (oi := ⟨_, _, _, _, _, _⟩) (v := ?_) rfl (by kernel_rfl) (by kernel_rfl) (by kernel_rfl) (fun _ _ _ h => h) (Or.inl ⟨by kernel_rfl, ?_⟩) hHeld ?_
    rotate_left 1
    · intro W hW; first | (go_simp; done) | (go_simp; with_reducible rfl)
    try simp only [Act.put, List.setIfInBounds_toArray, List.set_cons_zero, List.set_cons_succ]
    refine wpAnyH_take (i := 5) (oi := ⟨_, _, _, _, _, _⟩) (v := ?_) rfl (by kernel_rfl) (by kernel_rfl) (by kernel_rfl) (fun _ _ _ h => h) (Or.inl ⟨by kernel_rfl, ?_⟩) hHeld ?_
    rotate_left 1
    · intro W hW; first | (go_simp; done) | (go_simp; with_reducible rfl)
    try simp only [Act.put, List.setIfInBounds_toArray, List.set_cons_zero, List.set_cons_succ]
    refine wpAnyH_take (i := 6) (oi := ⟨_, _, _, _, _, _⟩) (v := ?_) rfl (by kernel_rfl) (by kernel_rfl) (by kernel_rfl) (fun _ _ _ h => h) (Or.inl ⟨by kernel_rfl, ?_⟩) hHeld ?_
    rotate_left 1
    · intro W hW; first | (go_simp; done) | (go_simp; with_reducible rfl)
    try simp only [Act.put, List.setIfInBounds_toArray, List.set_cons_zero, List.set_cons_succ]
    refine wpAnyH_take (i := 7) (oi := ⟨_, _, _, _, _, _⟩) (v := ?_) rfl (by kernel_rfl) (by kernel_rfl) (by kernel_rfl) (fun _ _ _ h => h) (Or.inl ⟨by kernel_rfl, ?_⟩) hHeld ?_
    rotate_left 1
    · intro W hW; first | (go_simp; done) | (go_simp; with_reducible rfl)
    try simp only [Act.put, List.setIfInBounds_toArray, List.set_cons_zero, List.set_cons_succ]
    refine wpAnyH_take (i := 8) (oi := ⟨_, _, _, _, _, _⟩) (v := ?_) rfl (by kernel_rfl) (by kernel_rfl) (by kernel_rfl) (fun _ _ _ h => h) (Or.inl ⟨by kernel_rfl, ?_⟩) hHeld ?_
    rotate_left 1
    · intro W hW; first | (go_simp; done) | (go_simp; with_reducible rfl)
    try simp only [Act.put, List.setIfInBounds_toArray, List.set_cons_zero, List.set_cons_succ]
    refine wpAnyH_take (i := 9) (oi := ⟨_, _, _, _, _, _⟩) (v := ?_) rfl (by kernel_rfl) (by kernel_rfl) (by kernel_rfl) (fun _ _ _ h => h) (Or.inl ⟨by kernel_rfl, ?_⟩) hHeld ?_
    rotate_left 1
    · intro W hW; have k0 := below_keep hW p0; have k1 := below_keep hW p1; have k2 := below_keep hW p2; have k3 := below_keep hW p3; have k4 := below_keep hW p4; have k5 := below_keep hW p5; have k6 := below_keep hW p6; have k7 := below_keep hW p7; first | (go_simp; done) | (go_simp; with_reducible rfl)
    try simp only [Act.put, List.setIfInBounds_toArray, List.set_cons_zero, List.set_cons_succ]
    refine wpAnyH_take (i := 11) (oi := ⟨_, _, _, _, _, _⟩) (v := ?_) rfl (by kernel_rfl) (by kernel_rfl) (by kernel_rfl) (fun _ _ _ h => h) (Or.inl ⟨by kernel_rfl, ?_⟩) hHeld ?_
    rotate_left 1
    · intro W hW; first | (go_simp; done) | (go_simp; with_reducible rfl)
    try simp only [Act.put, List.setIfInBounds_toArray, List.set_cons_zero, List.set_cons_succ]
    refine wpAnyH_take (i := 13) (oi := ⟨_, _, _, _, _, _⟩) (v := ?_) rfl (by kernel_rfl) (by kernel_rfl) (by kernel_rfl) (fun _ _ _ h => h) (Or.inl ⟨by kernel_rfl, ?_⟩) hHeld ?_
    rotate_left 1
    · intro W hW; first | (go_simp; done) | (go_simp; with_reducible rfl)
    try simp only [Act.put, List.setIfInBounds_toArray, List.set_cons_zero, List.set_cons_succ]
    refine wpAnyH_ready (rs := [10]) (by kernel_rfl) (by simp) ?_
    refine AllReadyH.cons rfl (fun K hK => ?_) AllReadyH.nil
    go_simp
    refine hK.out _ _ ?_ (fun hHelda => ?_)
    · exact hHeld.trans ((below1 wq.drew _).mono hHeld.size)
    clear hK K
    try simp only [Act.put, List.setIfInBounds_toArray, List.set_cons_zero, List.set_cons_succ]
    have HO3 := Lib.hid (show (World.alloc wq.drew (.cells #[] 27)).ownsRow 0 27 14 (.slice (some ⟨wq.heap.size, 0, none⟩) 0 0) 0 [] from World.ownsRow_lit (base := 0) (e := 27) (size := 14) wq.drew #[] 0 (Nat.zero_le _) (by unfold maxLen; omega) rfl)
    have HN3 := Lib.hid (show ∀ k, ob (some (⟨wq.heap.size, 0, none⟩ : Addr)) = some k → wq.heap.size ≤ k from fun k e => by injection e with e; have e' : wq.heap.size = k := e; omega)
    refine wpAnyH_ready (rs := [12]) (by kernel_rfl) (by simp) ?_
    refine AllReadyH.cons rfl (fun K hK => ?_) AllReadyH.nil
    rw [if_pos (by kernel_rfl)]
    refine wp_append_at _ _ _ _ rfl 27 i0 _ 14 152 Tryz.underlying31 hi0 hz0 hz1 hz2 rfl (some ⟨wq.heap.size, 0, none⟩) 0 0 [] rfl HO3.out _ l.length _ rfl (HSl.out _ hHelda) (by unfold maxLen; omega) (by omega) ?_
    intro A4 c4 w4 ho4 hg4 hat4
    rw [Nat.zero_add] at ho4 ⊢
    rw [List.nil_append] at ho4
    have HB4 := Lib.hid (grown_keep6 hHelda HN3.out hg4)
    have HN4 := Lib.hid (grown_new6 HN3.out hat4 hHelda.size)
    have HO4 := Lib.hid ho4
    clear hg4 hat4 ho4 HO3 HN3
    refine hK.out _ _ ?_ (fun hHeldaa => ?_)
    · exact HB4.out
    clear hK K
    try simp only [Act.put, List.setIfInBounds_toArray, List.set_cons_zero, List.set_cons_succ]
    clear HB4
    refine wpAnyH_ready (rs := [14]) (by kernel_rfl) (by simp) ?_
    refine AllReadyH.cons rfl (fun K hK => ?_) AllReadyH.nil
    rw [if_pos (by kernel_rfl)]
    refine wp_append_at _ _ _ _ rfl 27 i0 _ 14 152 Tryz.underlying31 hi0 hz0 hz1 hz2 rfl A4 l.length c4 (acCells l) rfl HO4.out _ m.length _ rfl (HSm.out _ hHeldaa) (by unfold maxLen; omega) (by omega) ?_
    intro A5 c5 w5 ho5 hg5 hat5
    obtain ⟨N, hN⟩ : ∃ N, N = l.length + m.length := ⟨_, rfl⟩
    rw [← hN] at ho5 ⊢
    have HB5 := Lib.hid (grown_keep6 hHeldaa HN4.out hg5)
    have HNN := Lib.hid (show N = (l ++ m).length by rw [List.length_append]; exact hN)
    have HAX := Lib.hid (show ActsIn w5 A5 (l ++ m) from acts_own HNN.out (by rw [acCells_append]; exact ho5) (fun x hx => (HAll.out x hx).keep HB5.out) (by rw [List.length_append]; unfold maxLen; omega))
    clear hg5 hat5 ho5 HO4 HN4 hN
    refine hK.out _ _ ?_ (fun hHeldaaa => ?_)
    · exact HB5.out
    clear hK K
    try simp only [Act.put, List.setIfInBounds_toArray, List.set_cons_zero, List.set_cons_succ]
    clear HB5
    refine wpAnyH_ready (rs := [15]) (by kernel_rfl) (by simp) ?_
    refine AllReadyH.cons rfl (fun K hK => ?_) AllReadyH.nil
    go_simp
    refine (HBg.out _ A5 c5 N HNN.out hHeldaaa HAX.out).mono ?_
    rintro e wv ⟨rfl, hbv⟩
    clear HAX HNN
    go_wp2_with fail
    refine hK.out _ _ ?_ (fun hHeldaaaa => ?_)
    · exact hHeldaaa.trans (hbv.mono hHeldaaa.size)
    clear hK K
    try simp only [Act.put, List.setIfInBounds_toArray, List.set_cons_zero, List.set_cons_succ]
    clear hbv
    refine wpAnyH_take (i := 16) (oi := ⟨_, _, _, _, _, _⟩) (v := ?_) rfl (by kernel_rfl) (by kernel_rfl) (by kernel_rfl) (fun _ _ _ h => h) (Or.inl ⟨by kernel_rfl, ?_⟩) hHeldaaaa ?_
    rotate_left 1
    · intro W hW; first | (go_simp; done) | (go_simp; with_reducible rfl)
    try simp only [Act.put, List.setIfInBounds_toArray, List.set_cons_zero, List.set_cons_succ]
    refine wpAnyH_take (i := 17) (oi := ⟨_, _, _, _, _, _⟩) (v := ?_) rfl (by kernel_rfl) (by kernel_rfl) (by kernel_rfl) (fun _ _ _ h => h) (Or.inl ⟨by kernel_rfl, ?_⟩) hHeldaaaa ?_
    rotate_left 1
    · intro W hW; first | (go_simp; done) | (go_simp; with_reducible rfl)
    try simp only [Act.put, List.setIfInBounds_toArray, List.set_cons_zero, List.set_cons_succ]
    refine wpAnyH_take (i := 18) (oi := ⟨_, _, _, _, _, _⟩) (v := ?_) rfl (by kernel_rfl) (by kernel_rfl) (by kernel_rfl) (fun _ _ _ h => h) (Or.inl ⟨by kernel_rfl, ?_⟩) hHeldaaaa ?_
    rotate_left 1
    · intro W hW; have k0 := below_keep hW p0; have k1 := below_keep hW p1; have k2 := below_keep hW p2; have k3 := below_keep hW p3; have k4 := below_keep hW p4; have k5 := below_keep hW p5; have k6 := below_keep hW p6; have k7 := below_keep hW p7; first | (go_simp; done) | (go_simp; with_reducible rfl)
    try simp only [Act.put, List.setIfInBounds_toArray, List.set_cons_zero, List.set_cons_succ]
    refine wpAnyH_take (i := 19) (oi := ⟨_, _, _, _, _, _⟩) (v := ?_) rfl (by kernel_rfl) (by kernel_rfl) (by kernel_rfl) (fun _ _ _ h => h) (Or.inl ⟨by kernel_rfl, ?_⟩) hHeldaaaa ?_
    rotate_left 1
    · intro W hW; first | (go_simp; done) | (go_simp; with_reducible rfl)
    try simp only [Act.put, List.setIfInBounds_toArray, List.set_cons_zero, List.set_cons_succ]
    refine wpAnyH_take (i := 20) (oi := ⟨_, _, _, _, _, _⟩) (v := ?_) rfl (by kernel_rfl) (by kernel_rfl) (by kernel_rfl) (fun _ _ _ h => h) (Or.inl ⟨by kernel_rfl, ?_⟩) hHeldaaaa ?_
    rotate_left 1
    · intro W hW; first | (go_simp; done) | (go_simp; with_reducible rfl)
    try simp only [Act.put, List.setIfInBounds_toArray, List.set_cons_zero, List.set_cons_succ]
    refine wpAnyH_ready (rs := [21]) (by kernel_rfl) (by simp) ?_
    refine AllReadyH.cons rfl (fun K hK => ?_) AllReadyH.nil
    go_simp
    refine (HMy1.out _ hHeldaaaa).mono ?_
    rintro e wv ⟨rfl, hbv⟩
    go_wp2_with fail
    refine hK.out _ _ ?_ (fun hHeldaaaaa => ?_)
    · exact hHeldaaaa.trans (hbv.mono hHeldaaaa.size)
    clear hK K
    try simp only [Act.put, List.setIfInBounds_toArray, List.set_cons_zero, List.set_cons_succ]
    clear hbv
    refine wpAnyH_take (i := 22) (oi := ⟨_, _, _, _, _, _⟩) (v := ?_) rfl (by kernel_rfl) (by kernel_rfl) (by kernel_rfl) (fun _ _ _ h => h) (Or.inl ⟨by kernel_rfl, ?_⟩) hHeldaaaaa ?_
    rotate_left 1
    · intro W hW; first | (go_simp; done) | (go_simp; with_reducible rfl)
    try simp only [Act.put, List.setIfInBounds_toArray, List.set_cons_zero, List.set_cons_succ]
    refine wpAnyH_take (i := 23) (oi := ⟨_, _, _, _, _, _⟩) (v := ?_) rfl (by kernel_rfl) (by kernel_rfl) (by kernel_rfl) (fun _ _ _ h => h) (Or.inl ⟨by kernel_rfl, ?_⟩) hHeldaaaaa ?_
    rotate_left 1
    · intro W hW; first | (go_simp; done) | (go_simp; with_reducible rfl)
    try simp only [Act.put, List.setIfInBounds_toArray, List.set_cons_zero, List.set_cons_succ]
    refine wpAnyH_take (i := 24) (oi := ⟨_, _, _, _, _, _⟩) (v := ?_) rfl (by kernel_rfl) (by kernel_rfl) (by kernel_rfl) (fun _ _ _ h => h) (Or.inl ⟨by kernel_rfl, ?_⟩) hHeldaaaaa ?_
    rotate_left 1
    · intro W hW; first | (go_simp; done) | (go_simp; with_reducible rfl)
    try simp only [Act.put, List.setIfInBounds_toArray, List.set_cons_zero, List.set_cons_succ]
    refine wpAnyH_take (i := 25) (oi := ⟨_, _, _, _, _, _⟩) (v := ?_) rfl (by kernel_rfl) (by kernel_rfl) (by kernel_rfl) (fun _ _ _ h => h) (Or.inl ⟨by kernel_rfl, ?_⟩) hHeldaaaaa ?_
    rotate_left 1
    · intro W hW; have k0 := below_keep hW p0; have k1 := below_keep hW p1; have k2 := below_keep hW p2; have k3 := below_keep hW p3; have k4 := below_keep hW p4; have k5 := below_keep hW p5; have k6 := below_keep hW p6; have k7 := below_keep hW p7; first | (go_simp; done) | (go_simp; with_reducible rfl)
    try simp only [Act.put, List.setIfInBounds_toArray, List.set_cons_zero, List.set_cons_succ]
    refine wpAnyH_take (i := 26) (oi := ⟨_, _, _, _, _, _⟩) (v := ?_) rfl (by kernel_rfl) (by kernel_rfl) (by kernel_rfl) (fun _ _ _ h => h) (Or.inl ⟨by kernel_rfl, ?_⟩) hHeldaaaaa ?_
    rotate_left 1
    · intro W hW; first | (go_simp; done) | (go_simp; with_reducible rfl)
    try simp only [Act.put, List.setIfInBounds_toArray, List.set_cons_zero, List.set_cons_succ]
    refine wpAnyH_take (i := 27) (oi := ⟨_, _, _, _, _, _⟩) (v := ?_) rfl (by kernel_rfl) (by kernel_rfl) (by kernel_rfl) (fun _ _ _ h => h) (Or.inl ⟨by kernel_rfl, ?_⟩) hHeldaaaaa ?_
    rotate_left 1
    · intro W hW; first | (go_simp; done) | (go_simp; with_reducible rfl)
    try simp only [Act.put, List.setIfInBounds_toArray, List.set_cons_zero, List.set_cons_succ]
    refine wpAnyH_ready (rs := [28]) (by kernel_rfl) (by simp) ?_
    refine AllReadyH.cons rfl (fun K hK => ?_) AllReadyH.nil
    go_simp
    refine (HMy2.out _ hHeldaaaaa).mono ?_
    rintro e wv ⟨rfl, hbv⟩
    go_wp2_with fail
    refine hK.out _ _ ?_ (fun hHeldaaaaaa => ?_)
    · exact hHeldaaaaa.trans (hbv.mono hHeldaaaaa.size)
    clear hK K
    try simp only [Act.put, List.setIfInBounds_toArray, List.set_cons_zero, List.set_cons_succ]
    clear hbv
    refine wpAnyH_take (i := 29) (oi := ⟨_, _, _, _, _, _⟩) (v := ?_) rfl (by kernel_rfl) (by kernel_rfl) (by kernel_rfl) (fun _ _ _ h => h) (Or.inl ⟨by kernel_rfl, ?_⟩) hHeldaaaaaa ?_
    rotate_left 1
    · intro W hW; first | (go_simp; done) | (go_simp; with_reducible rfl)
    try simp only [Act.put, List.setIfInBounds_toArray, List.set_cons_zero, List.set_cons_succ]
    refine wpAnyH_take (i := 30) (oi := ⟨_, _, _, _, _, _⟩) (v := ?_) rfl (by kernel_rfl) (by kernel_rfl) (by kernel_rfl) (fun _ _ _ h => h) (Or.inl ⟨by kernel_rfl, ?_⟩) hHeldaaaaaa ?_
    rotate_left 1
    · intro W hW; first | (go_simp; done) | (go_simp; with_reducible rfl)
    try simp only [Act.put, List.setIfInBounds_toArray, List.set_cons_zero, List.set_cons_succ]
    refine wpAnyH_done (by kernel_rfl) ?_ _
    go_wp2_with fail
    go_ret
    exact ⟨rfl, HBq.out.trans (hHeldaaaaaa.mono HBq.out.size)⟩
  refine wp_region_held_drew (S := fun W => Below wq.heap.size wq W) (by kernel_rfl) (below_drew (Below.refl _ _)) (fun hHeld => ?_)
  refine wpAnyH_take (i := 0) (oi := ⟨_, _, _, _, _, _⟩) (v := ?_) rfl (by kernel_rfl) (by kernel_rfl) (by kernel_rfl) (fun _ _ _ h => h) (Or.inl ⟨by kernel_rfl, ?_⟩) hHeld ?_
  rotate_left 1
  · intro W hW; first | (go_simp; done) | (go_simp; with_reducible rfl)
  try simp only [Act.put, List.setIfInBounds_toArray, List.set_cons_zero, List.set_cons_succ]
  refine wpAnyH_take (i := 1) (oi := ⟨_, _, _, _, _, _⟩) (v := ?_) rfl (by kernel_rfl) (by kernel_rfl) (by kernel_rfl) (fun _ _ _ h => h) (Or.inl ⟨by kernel_rfl, ?_⟩) hHeld ?_
  rotate_left 1
  · intro W hW; first | (go_simp; done) | (go_simp; with_reducible rfl)
  try simp only [Act.put, List.setIfInBounds_toArray, List.set_cons_zero, List.set_cons_succ]
  refine wpAnyH_take (i := 2) (oi := ⟨_, _, _, _, _, _⟩) (v := ?_) rfl (by kernel_rfl) (by kernel_rfl) (by kernel_rfl) (fun _ _ _ h => h) (Or.inl ⟨by kernel_rfl, ?_⟩) hHeld ?_
  rotate_left 1
  · intro W hW; first | (go_simp; done) | (go_simp; with_reducible rfl)
  try simp only [Act.put, List.setIfInBounds_toArray, List.set_cons_zero, List.set_cons_succ]
  refine wpAnyH_take (i := 3) (oi := ⟨_, _, _, _, _, _⟩) (v := ?_) rfl (by kernel_rfl) (by kernel_rfl) (by kernel_rfl) (fun _ _ _ h => h) (Or.inl ⟨by kernel_rfl, ?_⟩) hHeld ?_
  rotate_left 1
  · intro W hW; first | (go_simp; done) | (go_simp; with_reducible rfl)
  try simp only [Act.put, List.setIfInBounds_toArray, List.set_cons_zero, List.set_cons_succ]
  refine wpAnyH_take (i := 4) (oi := ⟨_, _, _, _, _, _⟩) (v := ?_) rfl (by kernel_rfl) (by kernel_rfl) (by kernel_rfl) (fun _ _ _ h => h) (Or.inl ⟨by kernel_rfl, ?_⟩) hHeld ?_
  rotate_left 1
  · intro W hW; first | (go_simp; done) | (go_simp; with_reducible rfl)
  try simp only [Act.put, List.setIfInBounds_toArray, List.set_cons_zero, List.set_cons_succ]
  refine wpAnyH_take (i := 5) (oi := ⟨_, _, _, _, _, _⟩) (v := ?_) rfl (by kernel_rfl) (by kernel_rfl) (by kernel_rfl) (fun _ _ _ h => h) (Or.inl ⟨by kernel_rfl, ?_⟩) hHeld ?_
  rotate_left 1
  · intro W hW; first | (go_simp; done) | (go_simp; with_reducible rfl)
  try simp only [Act.put, List.setIfInBounds_toArray, List.set_cons_zero, List.set_cons_succ]
  refine wpAnyH_take (i := 6) (oi := ⟨_, _, _, _, _, _⟩) (v := ?_) rfl (by kernel_rfl) (by kernel_rfl) (by kernel_rfl) (fun _ _ _ h => h) (Or.inl ⟨by kernel_rfl, ?_⟩) hHeld ?_
  rotate_left 1
  · intro W hW; first | (go_simp; done) | (go_simp; with_reducible rfl)
  try simp only [Act.put, List.setIfInBounds_toArray, List.set_cons_zero, List.set_cons_succ]
  refine wpAnyH_take (i := 7) (oi := ⟨_, _, _, _, _, _⟩) (v := ?_) rfl (by kernel_rfl) (by kernel_rfl) (by kernel_rfl) (fun _ _ _ h => h) (Or.inl ⟨by kernel_rfl, ?_⟩) hHeld ?_
  rotate_left 1
  · intro W hW; first | (go_simp; done) | (go_simp; with_reducible rfl)
  try simp only [Act.put, List.setIfInBounds_toArray, List.set_cons_zero, List.set_cons_succ]
  refine wpAnyH_take (i := 8) (oi := ⟨_, _, _, _, _, _⟩) (v := ?_) rfl (by kernel_rfl) (by kernel_rfl) (by kernel_rfl) (fun _ _ _ h => h) (Or.inl ⟨by kernel_rfl, ?_⟩) hHeld ?_
  rotate_left 1
  · intro W hW; first | (go_simp; done) | (go_simp; with_reducible rfl)
  try simp only [Act.put, List.setIfInBounds_toArray, List.set_cons_zero, List.set_cons_succ]
  refine wpAnyH_take (i := 9) (oi := ⟨_, _, _, _, _, _⟩) (v := ?_) rfl (by kernel_rfl) (by kernel_rfl) (by kernel_rfl) (fun _ _ _ h => h) (Or.inl ⟨by kernel_rfl, ?_⟩) hHeld ?_
  rotate_left 1
  · intro W hW; have k0 := below_keep hW p0; have k1 := below_keep hW p1; have k2 := below_keep hW p2; have k3 := below_keep hW p3; have k4 := below_keep hW p4; have k5 := below_keep hW p5; have k6 := below_keep hW p6; have k7 := below_keep hW p7; first | (go_simp; done) | (go_simp; with_reducible rfl)
  try simp only [Act.put, List.setIfInBounds_toArray, List.set_cons_zero, List.set_cons_succ]
  refine wpAnyH_take (i := 11) (oi := ⟨_, _, _, _, _, _⟩) (v := ?_) rfl (by kernel_rfl) (by kernel_rfl) (by kernel_rfl) (fun _ _ _ h => h) (Or.inl ⟨by kernel_rfl, ?_⟩) hHeld ?_
  rotate_left 1
  · intro W hW; first | (go_simp; done) | (go_simp; with_reducible rfl)
  try simp only [Act.put, List.setIfInBounds_toArray, List.set_cons_zero, List.set_cons_succ]
  refine wpAnyH_take (i := 13) (oi := ⟨_, _, _, _, _, _⟩) (v := ?_) rfl (by kernel_rfl) (by kernel_rfl) (by kernel_rfl) (fun _ _ _ h => h) (Or.inl ⟨by kernel_rfl, ?_⟩) hHeld ?_
  rotate_left 1
  · intro W hW; first | (go_simp; done) | (go_simp; with_reducible rfl)
  try simp only [Act.put, List.setIfInBounds_toArray, List.set_cons_zero, List.set_cons_succ]
  refine wpAnyH_ready (rs := [10]) (by kernel_rfl) (by simp) ?_
  refine AllReadyH.cons rfl (fun K hK => ?_) AllReadyH.nil
  go_simp
  refine hK.out _ _ ?_ (fun hHelda => ?_)
  · exact hHeld.trans ((below1 wq.drew _).mono hHeld.size)
  clear hK K
  try simp only [Act.put, List.setIfInBounds_toArray, List.set_cons_zero, List.set_cons_succ]
  have HO3 := Lib.hid (show (World.alloc wq.drew (.cells #[] 27)).ownsRow 0 27 14 (.slice (some ⟨wq.heap.size, 0, none⟩) 0 0) 0 [] from World.ownsRow_lit (base := 0) (e := 27) (size := 14) wq.drew #[] 0 (Nat.zero_le _) (by unfold maxLen; omega) rfl)
  have HN3 := Lib.hid (show ∀ k, ob (some (⟨wq.heap.size, 0, none⟩ : Addr)) = some k → wq.heap.size ≤ k from fun k e => by injection e with e; have e' : wq.heap.size = k := e; omega)
  refine wpAnyH_ready (rs := [12]) (by kernel_rfl) (by simp) ?_
  refine AllReadyH.cons rfl (fun K hK => ?_) AllReadyH.nil
  rw [if_pos (by kernel_rfl)]
  refine wp_append_at _ _ _ _ rfl 27 i0 _ 14 152 Tryz.underlying31 hi0 hz0 hz1 hz2 rfl (some ⟨wq.heap.size, 0, none⟩) 0 0 [] rfl HO3.out _ l.length _ rfl (HSl.out _ hHelda) (by unfold maxLen; omega) (by omega) ?_
  intro A4 c4 w4 ho4 hg4 hat4
  rw [Nat.zero_add] at ho4 ⊢
  rw [List.nil_append] at ho4
  have HB4 := Lib.hid (grown_keep6 hHelda HN3.out hg4)
  have HN4 := Lib.hid (grown_new6 HN3.out hat4 hHelda.size)
  have HO4 := Lib.hid ho4
  clear hg4 hat4 ho4 HO3 HN3
  refine hK.out _ _ ?_ (fun hHeldaa => ?_)
  · exact HB4.out
  clear hK K
  try simp only [Act.put, List.setIfInBounds_toArray, List.set_cons_zero, List.set_cons_succ]
  clear HB4
  refine wpAnyH_ready (rs := [14]) (by kernel_rfl) (by simp) ?_
  refine AllReadyH.cons rfl (fun K hK => ?_) AllReadyH.nil
  rw [if_pos (by kernel_rfl)]
  refine wp_append_at _ _ _ _ rfl 27 i0 _ 14 152 Tryz.underlying31 hi0 hz0 hz1 hz2 rfl A4 l.length c4 (acCells l) rfl HO4.out _ m.length _ rfl (HSm.out _ hHeldaa) (by unfold maxLen; omega) (by omega) ?_
  intro A5 c5 w5 ho5 hg5 hat5
  obtain ⟨N, hN⟩ : ∃ N, N = l.length + m.length := ⟨_, rfl⟩
  rw [← hN] at ho5 ⊢
  have HB5 := Lib.hid (grown_keep6 hHeldaa HN4.out hg5)
  have HNN := Lib.hid (show N = (l ++ m).length by rw [List.length_append]; exact hN)
  have HAX := Lib.hid (show ActsIn w5 A5 (l ++ m) from acts_own HNN.out (by rw [acCells_append]; exact ho5) (fun x hx => (HAll.out x hx).keep HB5.out) (by rw [List.length_append]; unfold maxLen; omega))
  clear hg5 hat5 ho5 HO4 HN4 hN
  refine hK.out _ _ ?_ (fun hHeldaaa => ?_)
  · exact HB5.out
  clear hK K
  try simp only [Act.put, List.setIfInBounds_toArray, List.set_cons_zero, List.set_cons_succ]
  clear HB5
  refine wpAnyH_ready (rs := [15]) (by kernel_rfl) (by simp) ?_
  refine AllReadyH.cons rfl (fun K hK => ?_) AllReadyH.nil
  go_simp
  refine (HBg.out _ A5 c5 N HNN.out hHeldaaa HAX.out).mono ?_
  rintro e wv ⟨rfl, hbv⟩
  clear HAX HNN
  go_wp2_with fail
  refine hK.out _ _ ?_ (fun hHeldaaaa => ?_)
  · exact hHeldaaa.trans (hbv.mono hHeldaaa.size)
  clear hK K
  try simp only [Act.put, List.setIfInBounds_toArray, List.set_cons_zero, List.set_cons_succ]
  clear hbv
  refine wpAnyH_take (i := 16) (oi := ⟨_, _, _, _, _, _⟩) (v := ?_) rfl (by kernel_rfl) (by kernel_rfl) (by kernel_rfl) (fun _ _ _ h => h) (Or.inl ⟨by kernel_rfl, ?_⟩) hHeldaaaa ?_
  rotate_left 1
  · intro W hW; first | (go_simp; done) | (go_simp; with_reducible rfl)
  try simp only [Act.put, List.setIfInBounds_toArray, List.set_cons_zero, List.set_cons_succ]
  refine wpAnyH_take (i := 17) (oi := ⟨_, _, _, _, _, _⟩) (v := ?_) rfl (by kernel_rfl) (by kernel_rfl) (by kernel_rfl) (fun _ _ _ h => h) (Or.inl ⟨by kernel_rfl, ?_⟩) hHeldaaaa ?_
  rotate_left 1
  · intro W hW; first | (go_simp; done) | (go_simp; with_reducible rfl)
  try simp only [Act.put, List.setIfInBounds_toArray, List.set_cons_zero, List.set_cons_succ]
  refine wpAnyH_take (i := 18) (oi := ⟨_, _, _, _, _, _⟩) (v := ?_) rfl (by kernel_rfl) (by kernel_rfl) (by kernel_rfl) (fun _ _ _ h => h) (Or.inl ⟨by kernel_rfl, ?_⟩) hHeldaaaa ?_
  rotate_left 1
  · intro W hW; have k0 := below_keep hW p0; have k1 := below_keep hW p1; have k2 := below_keep hW p2; have k3 := below_keep hW p3; have k4 := below_keep hW p4; have k5 := below_keep hW p5; have k6 := below_keep hW p6; have k7 := below_keep hW p7; first | (go_simp; done) | (go_simp; with_reducible rfl)
  try simp only [Act.put, List.setIfInBounds_toArray, List.set_cons_zero, List.set_cons_succ]
  refine wpAnyH_take (i := 19) (oi := ⟨_, _, _, _, _, _⟩) (v := ?_) rfl (by kernel_rfl) (by kernel_rfl) (by kernel_rfl) (fun _ _ _ h => h) (Or.inl ⟨by kernel_rfl, ?_⟩) hHeldaaaa ?_
  rotate_left 1
  · intro W hW; first | (go_simp; done) | (go_simp; with_reducible rfl)
  try simp only [Act.put, List.setIfInBounds_toArray, List.set_cons_zero, List.set_cons_succ]
  refine wpAnyH_take (i := 20) (oi := ⟨_, _, _, _, _, _⟩) (v := ?_) rfl (by kernel_rfl) (by kernel_rfl) (by kernel_rfl) (fun _ _ _ h => h) (Or.inl ⟨by kernel_rfl, ?_⟩) hHeldaaaa ?_
  rotate_left 1
  · intro W hW; first | (go_simp; done) | (go_simp; with_reducible rfl)
  try simp only [Act.put, List.setIfInBounds_toArray, List.set_cons_zero, List.set_cons_succ]
  refine wpAnyH_ready (rs := [21]) (by kernel_rfl) (by simp) ?_
  refine AllReadyH.cons rfl (fun K hK => ?_) AllReadyH.nil
  go_simp
  refine (HMy1.out _ hHeldaaaa).mono ?_
  rintro e wv ⟨rfl, hbv⟩
  go_wp2_with fail
  refine hK.out _ _ ?_ (fun hHeldaaaaa => ?_)
  · exact hHeldaaaa.trans (hbv.mono hHeldaaaa.size)
  clear hK K
  try simp only [Act.put, List.setIfInBounds_toArray, List.set_cons_zero, List.set_cons_succ]
  clear hbv
  refine wpAnyH_take (i := 22) (oi := ⟨_, _, _, _, _, _⟩) (v := ?_) rfl (by kernel_rfl) (by kernel_rfl) (by kernel_rfl) (fun _ _ _ h => h) (Or.inl ⟨by kernel_rfl, ?_⟩) hHeldaaaaa ?_
  rotate_left 1
  · intro W hW; first | (go_simp; done) | (go_simp; with_reducible rfl)
  try simp only [Act.put, List.setIfInBounds_toArray, List.set_cons_zero, List.set_cons_succ]
  refine wpAnyH_take (i := 23) (oi := ⟨_, _, _, _, _, _⟩) (v := ?_) rfl (by kernel_rfl) (by kernel_rfl) (by kernel_rfl) (fun _ _ _ h => h) (Or.inl ⟨by kernel_rfl, ?_⟩) hHeldaaaaa ?_
  rotate_left 1
  · intro W hW; first | (go_simp; done) | (go_simp; with_reducible rfl)
  try simp only [Act.put, List.setIfInBounds_toArray, List.set_cons_zero, List.set_cons_succ]
  refine wpAnyH_take (i := 24) (oi := ⟨_, _, _, _, _, _⟩) (v := ?_) rfl (by kernel_rfl) (by kernel_rfl) (by kernel_rfl) (fun _ _ _ h => h) (Or.inl ⟨by kernel_rfl, ?_⟩) hHeldaaaaa ?_
  rotate_left 1
  · intro W hW; first | (go_simp; done) | (go_simp; with_reducible rfl)
  try simp only [Act.put, List.setIfInBounds_toArray, List.set_cons_zero, List.set_cons_succ]
  refine wpAnyH_take (i := 25) (oi := ⟨_, _, _, _, _, _⟩) (v := ?_) rfl (by kernel_rfl) (by kernel_rfl) (by kernel_rfl) (fun _ _ _ h => h) (Or.inl ⟨by kernel_rfl, ?_⟩) hHeldaaaaa ?_
  rotate_left 1
  · intro W hW; have k0 := below_keep hW p0; have k1 := below_keep hW p1; have k2 := below_keep hW p2; have k3 := below_keep hW p3; have k4 := below_keep hW p4; have k5 := below_keep hW p5; have k6 := below_keep hW p6; have k7 := below_keep hW p7; first | (go_simp; done) | (go_simp; with_reducible rfl)
  try simp only [Act.put, List.setIfInBounds_toArray, List.set_cons_zero, List.set_cons_succ]
  refine wpAnyH_take (i := 26) (oi := ⟨_, _, _, _, _, _⟩) (v := ?_) rfl (by kernel_rfl) (by kernel_rfl) (by kernel_rfl) (fun _ _ _ h => h) (Or.inl ⟨by kernel_rfl, ?_⟩) hHeldaaaaa ?_
  rotate_left 1
  · intro W hW; first | (go_simp; done) | (go_simp; with_reducible rfl)
  try simp only [Act.put, List.setIfInBounds_toArray, List.set_cons_zero, List.set_cons_succ]
  refine wpAnyH_take (i := 27) (oi := ⟨_, _, _, _, _, _⟩) (v := ?_) rfl (by kernel_rfl) (by kernel_rfl) (by kernel_rfl) (fun _ _ _ h => h) (Or.inl ⟨by kernel_rfl, ?_⟩) hHeldaaaaa ?_
  rotate_left 1
  · intro W hW; first | (go_simp; done) | (go_simp; with_reducible rfl)
  try simp only [Act.put, List.setIfInBounds_toArray, List.set_cons_zero, List.set_cons_succ]
  refine wpAnyH_ready (rs := [28]) (by kernel_rfl) (by simp) ?_
  refine AllReadyH.cons rfl (fun K hK => ?_) AllReadyH.nil
  go_simp
  refine (HMy2.out _ hHeldaaaaa).mono ?_
  rintro e wv ⟨rfl, hbv⟩
  go_wp2_with fail
  refine hK.out _ _ ?_ (fun hHeldaaaaaa => ?_)
  · exact hHeldaaaaa.trans (hbv.mono hHeldaaaaa.size)
  clear hK K
  try simp only [Act.put, List.setIfInBounds_toArray, List.set_cons_zero, List.set_cons_succ]
  clear hbv
  refine wpAnyH_take (i := 29) (oi := ⟨_, _, _, _, _, _⟩) (v := ?_) rfl (by kernel_rfl) (by kernel_rfl) (by kernel_rfl) (fun _ _ _ h => h) (Or.inl ⟨by kernel_rfl, ?_⟩) hHeldaaaaaa ?_
  rotate_left 1
  · intro W hW; first | (go_simp; done) | (go_simp; with_reducible rfl)
  try simp only [Act.put, List.setIfInBounds_toArray, List.set_cons_zero, List.set_cons_succ]
  refine wpAnyH_take (i := 30) (oi := ⟨_, _, _, _, _, _⟩) (v := ?_) rfl (by kernel_rfl) (by kernel_rfl) (by kernel_rfl) (fun _ _ _ h => h) (Or.inl ⟨by kernel_rfl, ?_⟩) hHeldaaaaaa ?_
  rotate_left 1
  · intro W hW; first | (go_simp; done) | (go_simp; with_reducible rfl)
  try simp only [Act.put, List.setIfInBounds_toArray, List.set_cons_zero, List.set_cons_succ]
  refine wpAnyH_done (by kernel_rfl) ?_ _
  have HZ := Lib.hid hHeldaaaaaa
  have c1 := HC1.out (by trivial)
  have c2 := HC2.out (by trivial)
  have HBz := Lib.hid (HBq.out.trans (HZ.out.mono HBq.out.size))
  have Ez := Lib.hid ((HZ.out.block _ (lt_of_heap Eq0.out)).trans Eq0.out)
  have HK := Lib.hid (show Keeps (ownR r t) t from ⟨ownR_ok HI.out.ok, fun e => by subst e; exact c1.2 rfl, fun e => by subst e; rfl⟩)
  have HCl := Lib.hid (show ∀ a ∈ l.map (·.r), a.ok ∧ AC.chk a = 0 from fun a ha => by
    obtain ⟨x, hx, rfl⟩ := List.mem_map.1 ha
    exact ⟨(HL.out.all x hx).ok, c1.1 _ ha⟩)
  have HCm := Lib.hid (show ∀ a ∈ m.map (·.r), a.ok ∧ AC.chk a = 0 from fun a ha => by
    obtain ⟨x, hx, rfl⟩ := List.mem_map.1 ha
    exact ⟨(HM.out.all x hx).ok, c2.1 _ ha⟩)
  have HKi := Lib.hid (fun k l u (h : Below w.heap.size w u) => pairKinds_any k l u (HR.out.below h))
  clear p0 p1 p2 p3 p4 p5 p6 p7 c1 c2 HC1 HC2 HMy1 HMy2 HBg HSl HSm HAll hm1 hm2 HZ Eq0
  generalize wv = wz at *
  go_wp2_with fail
  go_loopw [60] (fun t60 wr => ∃ i : Nat, t60 = .int .i64 i ∧ i ≤ l.length ∧ ((l.take i).all fun a => m.all fun b => RU.kinds6 a.r.kind b.r.kind) = true ∧ Below wz.heap.size wz wr) (fun t60 _ => l.length - (intOf t60).toNat)
  case atStart => exact ⟨0, rfl, Nat.zero_le _, rfl, Below.refl _ _⟩
  case round =>
    obtain ⟨i, rfl, hi, hyes, hbr⟩ := hrel
    have HY := Lib.hid hyes
    have BR := Lib.hid hbr
    clear hyes hbr
    by_cases hlt : i < l.length
    · have hi1 : (i : Int) < (l.length : Int) := by omega
      obtain ⟨b1, o1, hLe, hr1⟩ := acts_range9 HL.out hlt
      subst hLe
      have HT := Lib.hid (fun (h : (m.all fun b => RU.kinds6 l[i].r.kind b.r.kind) = true) => all_take hlt (f := fun a : Al => m.all fun b => RU.kinds6 a.r.kind b.r.kind) HY.out h)
      generalize l[i] = a at *
      have HR1 := Lib.hid (range_keep9 (HBz.out.trans (BR.out.mono HBz.out.size)) hr1)
      clear hr1
      go_wp2_with (first
        | (refine wpList_load_mid rfl _ _ rfl b1 (o1 + i * 14) rfl (actC a.r a.A a.c).toList _ HR1.out Tryz.underlying27 rfl act_inf9 ?_)
        | (refine wpList_store_row rfl _ _ _ rfl _ (actC a.r a.A a.c) rfl rfl 27 _ (heap_alloc_new _ _) act_inf9 rfl (by kernel_rfl) ?_))
      rw [World.setRow_alloc_new]
      generalize hwb : World.alloc wr _ = wb
      have R6 := Lib.hid (show wb.heap[wr.heap.size]? = some (.cells (actC a.r a.A a.c) 27 (0, 0)) by rw [← hwb]; exact heap_alloc_new wr _)
      have BB := Lib.hid (show Below wz.heap.size wz wb by rw [← hwb]; exact BR.out.trans ((below1 wr _).mono BR.out.size))
      generalize hg6 : wr.heap.size = g6 at *
      clear hwb HR1 hg6
      go_loopw [66] (fun t66 wr => ∃ j : Nat, t66 = .int .i64 j ∧ j ≤ m.length ∧ ((m.take j).all fun b => RU.kinds6 a.r.kind b.r.kind) = true ∧ Below wb.heap.size wb wr) (fun t66 _ => m.length - (intOf t66).toNat)
      case atStart => exact ⟨0, rfl, Nat.zero_le _, rfl, Below.refl _ _⟩
      case round =>
        obtain ⟨j, rfl, hj, hyes, hbr⟩ := hrel
        generalize wr = ws at *
        have HY2 := Lib.hid hyes
        have BR2 := Lib.hid hbr
        clear hyes hbr
        by_cases hlt2 : j < m.length
        · have hj1 : (j : Int) < (m.length : Int) := by omega
          obtain ⟨b2, o2, hMe, hr2⟩ := acts_range9 HM.out hlt2
          subst hMe
          have HT2 := Lib.hid (fun (h : RU.kinds6 a.r.kind m[j].r.kind = true) => all_take hlt2 (f := fun b : Al => RU.kinds6 a.r.kind b.r.kind) HY2.out h)
          generalize m[j] = b at *
          have BW := Lib.hid (HBz.out.trans ((BB.out.trans (BR2.out.mono BB.out.size)).mono HBz.out.size))
          have HR2 := Lib.hid (range_keep9 BW.out hr2)
          have R6s := Lib.hid ((BR2.out.block _ (lt_of_heap R6.out)).trans R6.out)
          clear hr2
          go_upto_region 12 with (first
            | (refine wpList_load_mid rfl _ _ rfl b2 (o2 + j * 14) rfl (actC b.r b.A b.c).toList _ HR2.out Tryz.underlying27 rfl act_inf9 ?_)
            | (refine wpList_store_row rfl _ _ _ rfl _ (actC b.r b.A b.c) rfl rfl 27 _ (heap_alloc_new _ _) act_inf9 rfl (by kernel_rfl) ?_))
          rw [World.setRow_alloc_new]
          generalize hwc : World.alloc ws _ = wc
          have R8 := Lib.hid (show wc.heap[ws.heap.size]? = some (.cells (actC b.r b.A b.c) 27 (0, 0)) by rw [← hwc]; exact heap_alloc_new ws _)
          have hbc : Below ws.heap.size ws wc := by rw [← hwc]; exact below1 ws _
          have R6c := Lib.hid ((hbc.block _ (lt_of_heap R6s.out)).trans R6s.out)
          have BC := Lib.hid (BR2.out.trans (hbc.mono BR2.out.size))
          have BWc := Lib.hid (BW.out.trans (hbc.mono BW.out.size))
          generalize hg8 : ws.heap.size = g8 at *
          clear hwc hbc HR2 hg8 R6s
          have x6 := cell_of_row wc _ 0 _ _ (0, 0) R6c.out
          have x8 := cell_of_row wc _ 0 _ _ (0, 0) R8.out
          go_wp2_with fail
          refine (HKi.out a.r.kind b.r.kind _ BWc.out).mono ?_
          generalize hv : RU.kinds6 a.r.kind b.r.kind = v at *
          rintro e w9 ⟨rfl, hb9⟩
          have B9 := Lib.hid (BC.out.trans (hb9.mono BC.out.size))
          clear hb9 x6 x8
          cases v
          case false =>
            have BZ := Lib.hid (HBz.out.trans ((BB.out.trans (B9.out.mono BB.out.size)).mono HBz.out.size))
            go_wp2_with fail
            go_ret
            exact ⟨rfl, BZ.out⟩
          go_wp2_with fail
          go_roundw
          case rel => exact ⟨j + 1, by go_num, by omega, HT2.out (by simp), B9.out⟩
          case measure => simp [intOf]; omega
        · have hj' : j = m.length := by omega
          have hj1 : ¬ (j : Int) < (m.length : Int) := by omega
          have HAll := Lib.hid (show (m.all fun b => RU.kinds6 a.r.kind b.r.kind) = true by have := HY2.out; rw [hj', List.take_length] at this; exact this)
          have BZ := Lib.hid (BB.out.trans (BR2.out.mono BB.out.size))
          clear hlt2 hj hj'
          go_wp2_with fail
          go_roundw
          case rel => exact ⟨i + 1, by go_num, by omega, HT.out HAll.out, BZ.out⟩
          case measure => simp [intOf]; omega
    · have hi' : i = l.length := by omega
      have hi1 : ¬ (i : Int) < (l.length : Int) := by omega
      have hall : (l.all fun a => m.all fun b => RU.kinds6 a.r.kind b.r.kind) = true := by have := HY.out; rw [hi', List.take_length] at this; exact this
      have HPast := Lib.hid (rows_past (l.map (·.r)) (m.map (·.r)) HK.out HCl.out HCm.out (fun a ha b hb => by
        obtain ⟨x, hx, rfl⟩ := List.mem_map.1 ha
        obtain ⟨y, hy, rfl⟩ := List.mem_map.1 hb
        exact List.all_eq_true.1 (List.all_eq_true.1 hall x hx) y hy))
      clear hlt hi hi' hall HY HKi
      have HBr := Lib.hid (HBz.out.trans (BR.out.mono HBz.out.size))
      have Er := Lib.hid ((BR.out.block _ (lt_of_heap Ez.out)).trans Ez.out)
      clear BR Ez
      have HP1 := Lib.hid (play6_any r t l m A L M c cl cm wr HI.out.ok (HI.out.its.below HBr.out) HMr.out (HL.out.keep HBr.out) (HM.out.keep HBr.out) (by rw [List.length_append]; omega) HSm5.out)
      have HP2 := Lib.hid (fun u (h : Below w.heap.size w u) => play6_any r t m l A M L c cm cl u HI.out.ok (HI.out.its.below h) HMr.out (HM.out.keep h) (HL.out.keep h) (by rw [List.length_append]; omega) (fun x hx => HSm5.out x (List.mem_append.2 ((List.mem_append.1 hx).symm))))
      go_wp2_with (first
        | (refine wpList_load_row rfl _ _ rfl w.heap.size rfl 25 _ (0, 0) _ Er.out Tryz.underlying25 rfl rec_inf6 ?_))
      refine HP1.out.mono ?_
      rintro e w2 ⟨q1, t1, A1, c1, ys, B1, cb1, rfl, hgo1, hyl1, hI1, hok1, hlm1, hown1, hall1, hnB1, hb1⟩
      rw [← hyl1]
      rw [← hyl1] at hown1
      rw [List.length_map, List.length_append] at hyl1
      have HG1 := Lib.hid hgo1
      have HY1 := Lib.hid hyl1
      have HI1 := Lib.hid hI1
      have HQ1 := Lib.hid (And.intro hok1 hlm1)
      have HO1 := Lib.hid hown1
      have HA1 := Lib.hid hall1
      have HB2 := Lib.hid (HBr.out.trans (hb1.mono HBr.out.size))
      have E2 := Lib.hid ((hb1.block _ (lt_of_heap Er.out)).trans Er.out)
      clear hgo1 hyl1 hI1 hok1 hlm1 hown1 hall1 hnB1 hb1 HP1 Er
      go_upto_region 17 with (first
        | (refine wpList_store_row rfl _ _ _ rfl _ (recC q1.kind q1.num q1.low q1.high q1.real q1.cap q1.text (.slice A1 q1.list.length c1)) rfl rfl 25 _ (heap_alloc_new _ _) rec_inf6 rfl (by kernel_rfl) ?_))
      rw [World.setRow_alloc_new]
      generalize hw3 : World.alloc w2 _ = w3
      have hb3 : Below w2.heap.size w2 w3 := by rw [← hw3]; exact below1 w2 _
      have R13 := Lib.hid (show w3.heap[w2.heap.size]? = some (.cells (recC q1.kind q1.num q1.low q1.high q1.real q1.cap q1.text (.slice A1 q1.list.length c1)) 25 (0, 0)) by rw [← hw3]; exact heap_alloc_new w2 _)
      have HB3 := Lib.hid (HB2.out.trans (hb3.mono HB2.out.size))
      have E3 := Lib.hid ((hb3.block _ (lt_of_heap E2.out)).trans E2.out)
      have HI1 := Lib.hid (HI1.out.below hb3)
      have HO1 := Lib.hid (own_below HO1.out hb3)
      have HA1 := Lib.hid (show ∀ y ∈ ys, Its w3 y.A y.x.rc.list ∧ y.x.rc.ok ∧ Lim y.x.rc.list.length from fun y hy => ⟨(HA1.out y hy).1.below hb3, (HA1.out y hy).2⟩)
      generalize hg13 : w2.heap.size = g13 at *
      clear hw3 hb3 hg13 E2
      go_wp2_with (first
        | (refine wpList_load_row rfl _ _ rfl w.heap.size rfl 25 _ (0, 0) _ E3.out Tryz.underlying25 rfl rec_inf6 ?_))
      refine (HP2.out _ HB3.out).mono ?_
      rintro e w4 ⟨q2, t2, A2, c2, zs, B2, cb2, rfl, hgo2, hyl2, hI2, hok2, hlm2, hown2, hall2, hnB2, hb2⟩
      rw [← hyl2]
      rw [← hyl2] at hown2
      rw [List.length_map, List.length_append] at hyl2
      obtain ⟨e1, e2, P, Q, p1, p2, e3, e4⟩ := HPast.out
      rw [← List.map_append, ← List.map_append, HG1.out, hgo2] at e1 e2
      rw [← List.map_append, HG1.out] at e3
      rw [← List.map_append, hgo2] at e4
      obtain rfl : q1 = q2 := e1
      obtain rfl : t1 = t2 := e2
      have e3 : ys.map (·.x) = P ++ Q := e3
      have e4 : zs.map (·.x) = Q ++ P := e4
      have HY2 := Lib.hid hyl2
      have HRot := Lib.hid (show ∀ i, i < ys.length → (ys.map (·.x))[i]? = (zs.map (·.x))[(i + m.length) % ys.length]? from fun i hi => by
        rw [e3, e4]
        rw [List.length_map] at p1 p2
        have h1 := HY1.out
        rw [show ys.length = P.length + Q.length by omega, ← p2]
        exact rot_get (by omega))
      have HI2 := Lib.hid hI2
      have HO2 := Lib.hid hown2
      have HA2 := Lib.hid hall2
      have HB4 := Lib.hid (HB3.out.trans (hb2.mono HB3.out.size))
      have R13 := Lib.hid ((hb2.block _ (lt_of_heap R13.out)).trans R13.out)
      have HI1 := Lib.hid (HI1.out.below hb2)
      have HO1 := Lib.hid (own_below HO1.out hb2)
      have HA1 := Lib.hid (show ∀ y ∈ ys, Its w4 y.A y.x.rc.list ∧ y.x.rc.ok ∧ Lim y.x.rc.list.length from fun y hy => ⟨(HA1.out y hy).1.below hb2, (HA1.out y hy).2⟩)
      clear hgo2 hyl2 hI2 hok2 hlm2 hown2 hall2 hnB2 hb2 HP2 E3 HPast HG1 e3 e4 p1 p2
      go_upto_region 18 with (first
        | (refine wpList_store_row rfl _ _ _ rfl _ (recC q1.kind q1.num q1.low q1.high q1.real q1.cap q1.text (.slice A2 q1.list.length c2)) rfl rfl 25 _ (heap_alloc_new _ _) rec_inf6 rfl (by kernel_rfl) ?_))
      rw [World.setRow_alloc_new]
      generalize hw5 : World.alloc w4 _ = w5
      have hb5 : Below w4.heap.size w4 w5 := by rw [← hw5]; exact below1 w4 _
      have R16 := Lib.hid (show w5.heap[w4.heap.size]? = some (.cells (recC q1.kind q1.num q1.low q1.high q1.real q1.cap q1.text (.slice A2 q1.list.length c2)) 25 (0, 0)) by rw [← hw5]; exact heap_alloc_new w4 _)
      have R13 := Lib.hid ((hb5.block _ (lt_of_heap R13.out)).trans R13.out)
      have HB5 := Lib.hid (HB4.out.trans (hb5.mono HB4.out.size))
      have HI1 := Lib.hid (HI1.out.below hb5)
      have HI2 := Lib.hid (HI2.out.below hb5)
      have HO1 := Lib.hid (own_below HO1.out hb5)
      have HO2 := Lib.hid (own_below HO2.out hb5)
      have HA1 := Lib.hid (show ∀ y ∈ ys, Its w5 y.A y.x.rc.list ∧ y.x.rc.ok ∧ Lim y.x.rc.list.length from fun y hy => ⟨(HA1.out y hy).1.below hb5, (HA1.out y hy).2⟩)
      have HA2 := Lib.hid (show ∀ y ∈ zs, Its w5 y.A y.x.rc.list ∧ y.x.rc.ok ∧ Lim y.x.rc.list.length from fun y hy => ⟨(HA2.out y hy).1.below hb5, (HA2.out y hy).2⟩)
      generalize hg16 : w4.heap.size = g16 at *
      clear hw5 hb5 hg16 HB4
      have HSm := Lib.hid (show Calls Tryz.prog 21 #[recV q1 A1 c1, recV q1 A2 c2] w5 (fun e w' => e = .returned (.bool true) ∧ Below w5.heap.size w5 w') from by
        have h := (show Calls Tryz.prog 21 #[recV q1 A1 c1, recV q1 A2 c2] w5 (fun e w' => e = .returned (.bool (RC.same q1 q1)) ∧ Below w5.heap.size w5 w') from rsame3_any q1 q1 A1 A2 c1 c2 w5 HQ1.out.1 HQ1.out.1 HI1.out HI2.out HQ1.out.2 HQ1.out.2)
        rw [RC.same_refl'] at h
        exact h)
      have HLn := Lib.hid (show ys.length = l.length + m.length ∧ zs.length = ys.length ∧ l.length ≤ 10 ∧ m.length ≤ 10 by have h1 := HY1.out; have h2 := HY2.out; exact ⟨h1, by omega, by omega, by omega⟩)
      have k13 := fun o => cell_of_row w5 _ o _ _ (0, 0) R13.out
      have k16 := fun o => cell_of_row w5 _ o _ _ (0, 0) R16.out
      go_cut [104] (fun t104 wx => t104 = .bool false ∧ Below w5.heap.size w5 wx)
      case first =>
        cases t1
        all_goals
          go_wp2_with fail
          refine HSm.out.mono ?_
          rintro e w6 ⟨rfl, hb6⟩
          go_wp2_with fail
          go_meet
          exact ⟨rfl, hb6⟩
      case rest =>
      obtain ⟨rfl, hb6⟩ := hcut
      generalize hwc : wc = w6 at *
      clear hwc
      have HB6 := Lib.hid (HB5.out.trans (hb6.mono HB5.out.size))
      have HO1 := Lib.hid (own_below HO1.out hb6)
      have HO2 := Lib.hid (own_below HO2.out hb6)
      have HA1 := Lib.hid (show ∀ y ∈ ys, Its w6 y.A y.x.rc.list ∧ y.x.rc.ok ∧ Lim y.x.rc.list.length from fun y hy => ⟨(HA1.out y hy).1.below hb6, (HA1.out y hy).2⟩)
      have HA2 := Lib.hid (show ∀ y ∈ zs, Its w6 y.A y.x.rc.list ∧ y.x.rc.ok ∧ Lim y.x.rc.list.length from fun y hy => ⟨(HA2.out y hy).1.below hb6, (HA2.out y hy).2⟩)
      clear hb6 k13 k16 HSm R13 R16 HI1 HI2 HB5 HB3 HB2 HBr
      go_wp2_with fail
      go_loopw [107] (fun t107 wr => ∃ i : Nat, t107 = .int .i64 i ∧ i ≤ ys.length ∧ Below w6.heap.size w6 wr) (fun t107 _ => ys.length - (intOf t107).toNat)
      case atStart => exact ⟨0, rfl, Nat.zero_le _, Below.refl _ _⟩
      case round =>
        obtain ⟨i, rfl, hi, hbr⟩ := hrel
        generalize wr = ws at *
        have BR := Lib.hid hbr
        clear hbr
        have hLn := HLn.out
        by_cases hlt : i < ys.length
        · obtain ⟨k, hk⟩ : ∃ k, k = (i + m.length) % ys.length := ⟨_, rfl⟩
          have hkz : k < zs.length := by rw [hLn.2.1, hk]; exact Nat.mod_lt _ (by omega)
          have hrot := HRot.out i hlt
          rw [← hk] at hrot
          have hx : ys[i].x = zs[k].x := by
            simp only [List.getElem?_map, List.getElem?_eq_getElem hlt, List.getElem?_eq_getElem hkz, Option.map_some, Option.some.injEq] at hrot
            exact hrot
          obtain ⟨g1, o1, hB1, hc1⟩ := ans_rows6 HO1.out (by omega)
          obtain ⟨g2, o2, hB2, hc2⟩ := ans_rows6 HO2.out (by omega)
          subst hB1 hB2
          have hyc := hc1 i _ (List.getElem?_eq_getElem hlt)
          have hzc := hc2 k _ (List.getElem?_eq_getElem hkz)
          have hya := HA1.out _ (List.getElem_mem hlt)
          have hza := HA2.out _ (List.getElem_mem hkz)
          have HBs := Lib.hid BR.out
          have hrem : Int.tmod ((i : Int) + (m.length : Int)) (ys.length : Int) = (k : Int) := by rw [hk]; rw [← Int.natCast_add, Int.natCast_emod, Int.tmod_eq_emod_of_nonneg (by omega)]
          have hi1 : (i : Int) < (ys.length : Int) := by omega
          have hk1 : (k : Int) < (zs.length : Int) := by omega
          have hy20 : ys.length ≤ 20 := by omega
          have hm10 : m.length ≤ 10 := by omega
          have hwr : wrap64 ((i : Int) + (m.length : Int)) = (i : Int) + (m.length : Int) := by unfold wrap64; omega
          clear hc1 hc2 hrot hk hLn
          obtain ⟨y, hy⟩ : ∃ y, y = ys[i] := ⟨_, rfl⟩
          obtain ⟨z, hz⟩ : ∃ z, z = zs[k] := ⟨_, rfl⟩
          rw [← hy] at hx hyc hya
          rw [← hz] at hx hzc hza
          clear hy hz
          have HSa := Lib.hid (fun u (h : Below ws.heap.size ws u) => same5_true hx hya.2.1 hza.2.1 (hya.1.below (BR.out.trans (h.mono BR.out.size))) (hza.1.below (BR.out.trans (h.mono BR.out.size))) hya.2.2 hza.2.2)
          clear hya hza hx
          have ya0 : ws.cell? ⟨g1, o1 + i * 10, none⟩ = some (.int .i64 y.x.code) := below_keep HBs.out (hyc 0 _ rfl)
          have ya1 : ws.cell? ⟨g1, o1 + i * 10 + 1, none⟩ = some (.int .i64 y.x.num) := below_keep HBs.out (hyc 1 _ rfl)
          have ya2 : ws.cell? ⟨g1, o1 + i * 10 + 2, none⟩ = some (.int .i64 y.x.rc.kind) := below_keep HBs.out (hyc 2 _ rfl)
          have ya3 : ws.cell? ⟨g1, o1 + i * 10 + 3, none⟩ = some (.int .i64 y.x.rc.num) := below_keep HBs.out (hyc 3 _ rfl)
          have ya4 : ws.cell? ⟨g1, o1 + i * 10 + 4, none⟩ = some (.int .i64 y.x.rc.low) := below_keep HBs.out (hyc 4 _ rfl)
          have ya5 : ws.cell? ⟨g1, o1 + i * 10 + 5, none⟩ = some (.int .i64 y.x.rc.high) := below_keep HBs.out (hyc 5 _ rfl)
          have ya6 : ws.cell? ⟨g1, o1 + i * 10 + 6, none⟩ = some (.float .f64 y.x.rc.real) := below_keep HBs.out (hyc 6 _ rfl)
          have ya7 : ws.cell? ⟨g1, o1 + i * 10 + 7, none⟩ = some (.int .i64 y.x.rc.cap) := below_keep HBs.out (hyc 7 _ rfl)
          have ya8 : ws.cell? ⟨g1, o1 + i * 10 + 8, none⟩ = some (.string y.x.rc.text) := below_keep HBs.out (hyc 8 _ rfl)
          have ya9 : ws.cell? ⟨g1, o1 + i * 10 + 9, none⟩ = some (.slice y.A y.x.rc.list.length y.c) := below_keep HBs.out (hyc 9 _ rfl)
          have za0 : ws.cell? ⟨g2, o2 + k * 10, none⟩ = some (.int .i64 z.x.code) := below_keep HBs.out (hzc 0 _ rfl)
          have za1 : ws.cell? ⟨g2, o2 + k * 10 + 1, none⟩ = some (.int .i64 z.x.num) := below_keep HBs.out (hzc 1 _ rfl)
          have za2 : ws.cell? ⟨g2, o2 + k * 10 + 2, none⟩ = some (.int .i64 z.x.rc.kind) := below_keep HBs.out (hzc 2 _ rfl)
          have za3 : ws.cell? ⟨g2, o2 + k * 10 + 3, none⟩ = some (.int .i64 z.x.rc.num) := below_keep HBs.out (hzc 3 _ rfl)
          have za4 : ws.cell? ⟨g2, o2 + k * 10 + 4, none⟩ = some (.int .i64 z.x.rc.low) := below_keep HBs.out (hzc 4 _ rfl)
          have za5 : ws.cell? ⟨g2, o2 + k * 10 + 5, none⟩ = some (.int .i64 z.x.rc.high) := below_keep HBs.out (hzc 5 _ rfl)
          have za6 : ws.cell? ⟨g2, o2 + k * 10 + 6, none⟩ = some (.float .f64 z.x.rc.real) := below_keep HBs.out (hzc 6 _ rfl)
          have za7 : ws.cell? ⟨g2, o2 + k * 10 + 7, none⟩ = some (.int .i64 z.x.rc.cap) := below_keep HBs.out (hzc 7 _ rfl)
          have za8 : ws.cell? ⟨g2, o2 + k * 10 + 8, none⟩ = some (.string z.x.rc.text) := below_keep HBs.out (hzc 8 _ rfl)
          have za9 : ws.cell? ⟨g2, o2 + k * 10 + 9, none⟩ = some (.slice z.A z.x.rc.list.length z.c) := below_keep HBs.out (hzc 9 _ rfl)
          go_upto_region 24 with fail
          refine wp_region_held_drew (S := fun W => Below ws.heap.size ws W) (by kernel_rfl) (below_drew (Below.refl _ _)) (fun hHeld => ?_)
          refine wpAnyH_take (i := 0) (oi := ⟨_, _, _, _, _, _⟩) (v := ?_) rfl (by kernel_rfl) (by kernel_rfl) (by kernel_rfl) (fun _ _ _ h => h) (Or.inl ⟨by kernel_rfl, ?_⟩) hHeld ?_
          rotate_left 1
          · intro W hW; first | (go_simp; done) | (go_simp; with_reducible rfl)
          try simp only [Act.put, List.setIfInBounds_toArray, List.set_cons_zero, List.set_cons_succ]
          refine wpAnyH_take (i := 1) (oi := ⟨_, _, _, _, _, _⟩) (v := ?_) rfl (by kernel_rfl) (by kernel_rfl) (by kernel_rfl) (fun _ _ _ h => h) (Or.inl ⟨by kernel_rfl, ?_⟩) hHeld ?_
          rotate_left 1
          · intro W hW; first | (go_simp; done) | (go_simp; with_reducible rfl)
          try simp only [Act.put, List.setIfInBounds_toArray, List.set_cons_zero, List.set_cons_succ]
          refine wpAnyH_take (i := 2) (oi := ⟨_, _, _, _, _, _⟩) (v := ?_) rfl (by kernel_rfl) (by kernel_rfl) (by kernel_rfl) (fun _ _ _ h => h) (Or.inl ⟨by kernel_rfl, ?_⟩) hHeld ?_
          rotate_left 1
          · intro W hW; first | (go_simp; done) | (go_simp; with_reducible rfl)
          try simp only [Act.put, List.setIfInBounds_toArray, List.set_cons_zero, List.set_cons_succ]
          refine wpAnyH_take (i := 3) (oi := ⟨_, _, _, _, _, _⟩) (v := ?_) rfl (by kernel_rfl) (by kernel_rfl) (by kernel_rfl) (fun _ _ _ h => h) (Or.inl ⟨by kernel_rfl, ?_⟩) hHeld ?_
          rotate_left 1
          · intro W hW; have k0 := below_keep hW ya0; have k1 := below_keep hW ya1; have k2 := below_keep hW ya2; have k3 := below_keep hW ya3; have k4 := below_keep hW ya4; have k5 := below_keep hW ya5; have k6 := below_keep hW ya6; have k7 := below_keep hW ya7; have k8 := below_keep hW ya8; have k9 := below_keep hW ya9; first | (go_simp; done) | (go_simp; with_reducible rfl)
          try simp only [Act.put, List.setIfInBounds_toArray, List.set_cons_zero, List.set_cons_succ]
          refine wpAnyH_take (i := 4) (oi := ⟨_, _, _, _, _, _⟩) (v := ?_) rfl (by kernel_rfl) (by kernel_rfl) (by kernel_rfl) (fun _ _ _ h => h) (Or.inl ⟨by kernel_rfl, ?_⟩) hHeld ?_
          rotate_left 1
          · intro W hW; first | (go_simp; done) | (go_simp; with_reducible rfl)
          try simp only [Act.put, List.setIfInBounds_toArray, List.set_cons_zero, List.set_cons_succ]
          refine wpAnyH_take (i := 5) (oi := ⟨_, _, _, _, _, _⟩) (v := ?_) rfl (by kernel_rfl) (by kernel_rfl) (by kernel_rfl) (fun _ _ _ h => h) (Or.inl ⟨by kernel_rfl, ?_⟩) hHeld ?_
          rotate_left 1
          · intro W hW; first | (go_simp; done) | (go_simp; with_reducible rfl)
          try simp only [Act.put, List.setIfInBounds_toArray, List.set_cons_zero, List.set_cons_succ]
          refine wpAnyH_take (i := 6) (oi := ⟨_, _, _, _, _, _⟩) (v := ?_) rfl (by kernel_rfl) (by kernel_rfl) (by kernel_rfl) (fun _ _ _ h => h) (Or.inl ⟨by kernel_rfl, ?_⟩) hHeld ?_
          rotate_left 1
          · intro W hW; first | (go_simp; done) | (go_simp; with_reducible rfl)
          try simp only [Act.put, List.setIfInBounds_toArray, List.set_cons_zero, List.set_cons_succ]
          refine wpAnyH_take (i := 7) (oi := ⟨_, _, _, _, _, _⟩) (v := ?_) rfl (by kernel_rfl) (by kernel_rfl) (by kernel_rfl) (fun _ _ _ h => h) (Or.inl ⟨by kernel_rfl, ?_⟩) hHeld ?_
          rotate_left 1
          · intro W hW; have k0 := below_keep hW za0; have k1 := below_keep hW za1; have k2 := below_keep hW za2; have k3 := below_keep hW za3; have k4 := below_keep hW za4; have k5 := below_keep hW za5; have k6 := below_keep hW za6; have k7 := below_keep hW za7; have k8 := below_keep hW za8; have k9 := below_keep hW za9; first | (go_simp; done) | (go_simp; with_reducible rfl)
          try simp only [Act.put, List.setIfInBounds_toArray, List.set_cons_zero, List.set_cons_succ]
          refine wpAnyH_ready (rs := [8]) (by kernel_rfl) (by simp) ?_
          refine AllReadyH.cons rfl (fun K hK => ?_) AllReadyH.nil
          go_simp
          refine (HSa.out _ hHeld).mono ?_
          rintro e wv ⟨rfl, hbv⟩
          go_wp2_with fail
          refine hK.out _ _ ?_ (fun hHelda => ?_)
          · exact hHeld.trans (hbv.mono hHeld.size)
          clear hK K
          try simp only [Act.put, List.setIfInBounds_toArray, List.set_cons_zero, List.set_cons_succ]
          clear hbv
          refine wpAnyH_take (i := 9) (oi := ⟨_, _, _, _, _, _⟩) (v := ?_) rfl (by kernel_rfl) (by kernel_rfl) (by kernel_rfl) (fun _ _ _ h => h) (Or.inl ⟨by kernel_rfl, ?_⟩) hHelda ?_
          rotate_left 1
          · intro W hW; first | (go_simp; done) | (go_simp; with_reducible rfl)
          try simp only [Act.put, List.setIfInBounds_toArray, List.set_cons_zero, List.set_cons_succ]
          refine wpAnyH_done (by kernel_rfl) ?_ _
          have BZ := Lib.hid (BR.out.trans (hHelda.mono BR.out.size))
          go_wp2_with fail
          go_roundw
          case rel => exact ⟨i + 1, by go_num, by omega, BZ.out⟩
          case measure => simp [intOf]; omega
        · have hi1 : ¬ (i : Int) < (ys.length : Int) := by omega
          clear hLn
          have BZ := Lib.hid (HB6.out.trans (BR.out.mono HB6.out.size))
          go_wp2_with fail
          go_ret
          exact ⟨rfl, BZ.out⟩
end Go.Proofs.YtlpecaldodganaaGreatDoor
