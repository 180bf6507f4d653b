/- Contracts of package share: numbers of escrows. -/
import Derived.Test.YtbkcmnmbcldjoaaGreatDoorSh1P7d
import Derived.Test.YtbkcmnmbcldjoaaGreatDoorRuWP7d
import Derived.Laws.MakeOwn
import Derived.Test.YtbkcmnmbcldjoaaGreatDoorSh4P7d
namespace Go.Proofs.YtbkcmnmbcldjoaaGreatDoor
open Go.RowKit MM
set_option linter.unusedVariables false
set_option linter.unusedSimpArgs false
/-- What may be taken, up and down. -/
structure Rm where
  up : Nat
  down : Nat
abbrev rmC (x : Rm) : Array Value := #[.int .u64 x.up, .int .u64 x.down]
abbrev rmV (x : Rm) : Value := .agg (rmC x)
theorem room_inf7 : (Tryz.prog.info? 104).map (fun i => i.size) = some 2 := by kernel_rfl
def SH.portion (t w n : Nat) : Nat := if w < t % n then t / n + 1 else t / n
def SH.ofPlus (n : Int) : Rm := if n < 0 then ⟨0, (-n).toNat⟩ else ⟨n.toNat, 0⟩
theorem u64_wrap (x : Int) : IntKind.u64.wrap x = x % 18446744073709551616 := by simp [IntKind.wrap, IntKind.signed, IntKind.bits]
theorem i64_lims {n : Int} (h : RC.I64 n) : -9223372036854775808 ≤ n ∧ n ≤ 9223372036854775807 := by
  unfold RC.I64 at h
  have h1 : IntKind.i64.min = -9223372036854775808 := by decide
  have h2 : IntKind.i64.max = 9223372036854775807 := by decide
  simp only [Lit.wf, Bool.and_eq_true, decide_eq_true_eq, h1, h2] at h
  exact h
set_option maxHeartbeats 2000000 in
theorem stooMuch_any (k : Int) (w : World) :
    Calls Tryz.prog 92 #[.int .i64 k] w fun e w' => e = .returned (.int .i64 (if k = 18 then 8 else 9)) ∧ w = w' := by
  go_enter Tryz.func92, Tryz.ntmps92
  by_cases h : k = 18
  · subst h
    go_wp2_with fail
    go_ret
    exact ⟨rfl, rfl⟩
  · go_wp2_with fail
    go_ret
    exact ⟨rfl, rfl⟩
set_option maxHeartbeats 2000000 in
theorem sapart_any (low high : Int) (w : World) (h1 : RC.I64 low) (h2 : RC.I64 high) (h : low ≤ high) :
    Calls Tryz.prog 89 #[.int .i64 low, .int .i64 high] w fun e w' => e = .returned (.int .u64 (high - low)) ∧ w = w' := by
  have HV := Lib.hid (show IntKind.u64.wrap (IntKind.u64.wrap high - IntKind.u64.wrap low) = high - low by
    have := i64_lims h1
    have := i64_lims h2
    rw [u64_wrap, u64_wrap, u64_wrap]
    omega)
  clear h1 h2 h
  go_enter Tryz.func89, Tryz.ntmps89
  go_wp2_with fail
  go_ret
  exact ⟨by rw [← HV.out]; rfl, rfl⟩
set_option maxHeartbeats 4000000 in
theorem sportion_any (t k n : Nat) (w : World) (ht : t < 18446744073709551616) (hn : 1 ≤ n ∧ n ≤ 8) (hk : k < 9) :
    Calls Tryz.prog 88 #[.int .u64 (t : Int), .int .i64 (k : Int), .int .i64 (n : Int)] w fun e w' => e = .returned (.int .u64 (SH.portion t k n : Nat)) ∧ w = w' := by
  have HV := Lib.hid (show SH.portion t k n = if k < t % n then t / n + 1 else t / n from rfl)
  have hq : Int.tdiv (t : Int) (n : Int) = ((t / n : Nat) : Int) := by rw [Int.tdiv_eq_ediv_of_nonneg (by omega)]; rfl
  have hr : Int.tmod (t : Int) (n : Int) = ((t % n : Nat) : Int) := by rw [Int.tmod_eq_emod_of_nonneg (by omega)]; rfl
  have h1 : t / n * n + t % n = t := Nat.div_add_mod' t n
  have h2 : t / n ≤ t / n * n := Nat.le_mul_of_pos_right _ (by omega)
  have hml : t % n < n := Nat.mod_lt _ (by omega)
  generalize SH.portion t k n = v at *
  generalize t / n = dq at *
  generalize t % n = dr at *
  have h3 : dq + dr ≤ t := by omega
  clear h1 h2
  have hwn : IntKind.u64.wrap (n : Int) = (n : Int) := by rw [u64_wrap]; omega
  have hwk : IntKind.u64.wrap (k : Int) = (k : Int) := by rw [u64_wrap]; omega
  have hwq : IntKind.u64.wrap (dq : Int) = (dq : Int) := by rw [u64_wrap]; omega
  have hwr : IntKind.u64.wrap (dr : Int) = (dr : Int) := by rw [u64_wrap]; omega
  have hn0 : (n : Int) ≠ 0 := by omega
  have HN := Lib.hid (show k < dr → IntKind.u64.wrap ((dq : Int) + 1) = ((dq + 1 : Nat) : Int) from fun h => by
    rw [u64_wrap]
    omega)
  go_enter Tryz.func88, Tryz.ntmps88
  by_cases h : k < dr
  · have h' : (k : Int) < (dr : Int) := by omega
    have HW := Lib.hid (show v = dq + 1 by rw [HV.out, if_pos h])
    have HX := Lib.hid (HN.out h)
    clear hml ht h3
    go_wp2_with fail
    go_ret
    exact ⟨by rw [HW.out, ← HX.out]; rfl, rfl⟩
  · have h' : ¬ (k : Int) < (dr : Int) := by omega
    have HW := Lib.hid (show v = dq by rw [HV.out, if_neg h])
    clear hml ht h3
    go_wp2_with fail
    go_ret
    exact ⟨by rw [HW.out]; rfl, rfl⟩
set_option maxHeartbeats 4000000 in
theorem sofPlus_any (n : Int) (w : World) (hn : RC.I64 n) :
    Calls Tryz.prog 144 #[.int .i64 n] w fun e w' => e = .returned (rmV (SH.ofPlus n)) ∧ Below w.heap.size w w' := by
  have HL := Lib.hid (i64_lims hn)
  go_enter Tryz.func144, Tryz.ntmps144
  by_cases h : n < 0
  · have HV := Lib.hid (show rmV (SH.ofPlus n) = .agg #[.int .u64 0, .int .u64 (IntKind.u64.wrap (-(IntKind.u64.wrap n)))] by
      have := HL.out
      unfold SH.ofPlus
      rw [if_pos h]
      show Value.agg #[.int .u64 ((0 : Nat) : Int), .int .u64 (((-n).toNat : Nat) : Int)] = _
      rw [show (((-n).toNat : Nat) : Int) = IntKind.u64.wrap (-(IntKind.u64.wrap n)) by rw [u64_wrap, u64_wrap]; omega]
      rfl)
    go_wp2_with (first
      | (refine wpList_store_row rfl _ _ _ rfl w.heap.size #[.int .u64 0, .int .u64 (IntKind.u64.wrap (-(IntKind.u64.wrap n)))] rfl rfl 104 _ (heap_alloc_new w _) room_inf7 rfl (by kernel_rfl) ?_))
    generalize hwf : World.setRow _ _ _ = wf
    have hkf : Kp (fun j => j = w.heap.size) (w.alloc (.cells #[.int .u64 0, .int .u64 0] 104)) wf := by rw [← hwf]; exact kpRow7 (S := fun j => j = w.heap.size) (Kp.refl _ _) (.inl rfl) _
    have X2 : wf.heap[w.heap.size]? = some (.cells #[.int .u64 0, .int .u64 (IntKind.u64.wrap (-(IntKind.u64.wrap n)))] 104 (0, 0)) := by rw [← hwf]; exact setRow_heap _ _ _ _ _ _ (heap_alloc_new w _)
    have k2 := fun o => cell_of_row wf _ o _ _ (0, 0) X2
    have HBf := Lib.hid ((below1 w _).trans (hkf.below (by simp) (fun i hi x => by omega)))
    clear hwf X2 hkf
    exact bodyPost_ret (v := .agg #[.int .u64 0, .int .u64 (IntKind.u64.wrap (-(IntKind.u64.wrap n)))]) (by simp [results, Tryz.results144, go_sem, k2]) rfl ⟨by rw [HV.out], HBf.out⟩
  · have HV := Lib.hid (show rmV (SH.ofPlus n) = .agg #[.int .u64 (IntKind.u64.wrap n), .int .u64 0] by
      have := HL.out
      unfold SH.ofPlus
      rw [if_neg h]
      show Value.agg #[.int .u64 ((n.toNat : Nat) : Int), .int .u64 ((0 : Nat) : Int)] = _
      rw [show ((n.toNat : Nat) : Int) = IntKind.u64.wrap n by rw [u64_wrap]; omega]
      rfl)
    go_wp2_with (first
      | (refine wpList_store_row rfl _ _ _ rfl w.heap.size #[.int .u64 (IntKind.u64.wrap n), .int .u64 0] rfl rfl 104 _ (heap_alloc_new w _) room_inf7 rfl (by kernel_rfl) ?_))
    generalize hwf : World.setRow _ _ _ = wf
    have hkf : Kp (fun j => j = w.heap.size) (w.alloc (.cells #[.int .u64 0, .int .u64 0] 104)) wf := by rw [← hwf]; exact kpRow7 (S := fun j => j = w.heap.size) (Kp.refl _ _) (.inl rfl) _
    have X2 : wf.heap[w.heap.size]? = some (.cells #[.int .u64 (IntKind.u64.wrap n), .int .u64 0] 104 (0, 0)) := by rw [← hwf]; exact setRow_heap _ _ _ _ _ _ (heap_alloc_new w _)
    have k2 := fun o => cell_of_row wf _ o _ _ (0, 0) X2
    have HBf := Lib.hid ((below1 w _).trans (hkf.below (by simp) (fun i hi x => by omega)))
    clear hwf X2 hkf
    exact bodyPost_ret (v := .agg #[.int .u64 (IntKind.u64.wrap n), .int .u64 0]) (by simp [results, Tryz.results144, go_sem, k2]) rfl ⟨by rw [HV.out], HBf.out⟩
end Go.Proofs.YtbkcmnmbcldjoaaGreatDoor

namespace Go.Proofs.YtbkcmnmbcldjoaaGreatDoor
open Go.RowKit MM
set_option linter.unusedVariables false
set_option linter.unusedSimpArgs false
/-- What may be taken of a record by all workers together. -/
def SH.all (r : RC.Rc) : Rm :=
  if r.kind = 3 then ⟨(9223372036854775807 - r.num).toNat, (r.num + 9223372036854775808).toNat⟩
  else if r.kind = 4 then ⟨(r.high - r.num).toNat, (r.num - r.low).toNat⟩
  else if r.kind = 8 then ⟨(r.cap - r.list.length).toNat, 0⟩
  else ⟨0, 0⟩
theorem SH.all_lt {r : RC.Rc} (hr : r.ok) (h : RC.chk r = 0) : (SH.all r).up < 18446744073709551616 ∧ (SH.all r).down < 18446744073709551616 := by
  have b1 := i64_lims hr.num
  have b2 := i64_lims hr.cap
  unfold SH.all
  by_cases h3 : r.kind = 3
  · rw [if_pos h3]; constructor <;> (show Int.toNat _ < _; omega)
  rw [if_neg h3]
  by_cases h4 : r.kind = 4
  · have := purse_bd h h4
    rw [if_pos h4]; constructor <;> (show Int.toNat _ < _; omega)
  rw [if_neg h4]
  by_cases h8 : r.kind = 8
  · rw [if_pos h8]; constructor
    · show Int.toNat _ < _; omega
    · show 0 < _; omega
  rw [if_neg h8]
  constructor <;> (show 0 < _; omega)
theorem kp_cell7 {w1 W : World} {n o : Nat} {v : Value} (h : Kp (fun j => j = n + 1) w1 W) (hc : w1.cell? ⟨n, o, none⟩ = some v) : W.cell? ⟨n, o, none⟩ = some v := h.cell hc (by show ¬ n = n + 1; omega)
set_option maxHeartbeats 8000000 in
set_option maxRecDepth 100000 in
theorem sall_any (r : RC.Rc) (A : Option Addr) (c : Nat) (w : World) (hr : r.ok) (h : RC.chk r = 0) :
    Calls Tryz.prog 55 #[recV r A c] w fun e w' => e = .returned (rmV (SH.all r)) ∧ Below w.heap.size w w' := by
  have HOk := Lib.hid hr
  have HC := Lib.hid h
  have HL := Lib.hid (i64_lims hr.num)
  have HV := Lib.hid (show SH.all r = if r.kind = 3 then ⟨(9223372036854775807 - r.num).toNat, (r.num + 9223372036854775808).toNat⟩ else if r.kind = 4 then ⟨(r.high - r.num).toNat, (r.num - r.low).toNat⟩ else if r.kind = 8 then ⟨(r.cap - r.list.length).toNat, 0⟩ else ⟨0, 0⟩ from rfl)
  generalize SH.all r = v at *
  clear hr h
  go_enter Tryz.func55, Tryz.ntmps55
  go_upto_region 1 with fail
  generalize hw1 : World.alloc (World.alloc w _) _ = w1
  have HB := Lib.hid (show Below w.heap.size w w1 by rw [← hw1]; exact below2 w _ _)
  have E1 := Lib.hid (show w1.heap[w.heap.size]? = some (.cells (recC r.kind r.num r.low r.high r.real r.cap r.text (.slice A r.list.length c)) 25 (0, 0)) by rw [← hw1]; exact heap_alloc2_old w _ _)
  have E2 := Lib.hid (show w1.heap[w.heap.size + 1]? = some (.cells #[.int .u64 0, .int .u64 0] 104 (0, 0)) by rw [← hw1]; exact heap_alloc2_new w _ _)
  clear hw1
  have p0 : w1.cell? ⟨w.heap.size, 0, none⟩ = some (.int .i64 r.kind) := cell_of_row w1 _ 0 _ _ (0, 0) E1.out
  have p1 : w1.cell? ⟨w.heap.size, 1, none⟩ = some (.int .i64 r.num) := cell_of_row w1 _ 1 _ _ (0, 0) E1.out
  have p2 : w1.cell? ⟨w.heap.size, 2, none⟩ = some (.int .i64 r.low) := cell_of_row w1 _ 2 _ _ (0, 0) E1.out
  have p3 : w1.cell? ⟨w.heap.size, 3, none⟩ = some (.int .i64 r.high) := cell_of_row w1 _ 3 _ _ (0, 0) E1.out
  have p5 : w1.cell? ⟨w.heap.size, 5, none⟩ = some (.int .i64 r.cap) := cell_of_row w1 _ 5 _ _ (0, 0) E1.out
  have p7 : w1.cell? ⟨w.heap.size, 7, none⟩ = some (.slice A r.list.length c) := cell_of_row w1 _ 7 _ _ (0, 0) E1.out
  by_cases h3 : r.kind = 3
  · have HW := Lib.hid (show rmV v = .agg #[.int .u64 (9223372036854775807 - r.num), .int .u64 (r.num - -9223372036854775808)] by
      have := HL.out
      rw [HV.out, if_pos h3]
      show Value.agg #[.int .u64 (((9223372036854775807 - r.num).toNat : Nat) : Int), .int .u64 (((r.num + 9223372036854775808).toNat : Nat) : Int)] = _
      rw [show (((9223372036854775807 - r.num).toNat : Nat) : Int) = 9223372036854775807 - r.num by omega, show (((r.num + 9223372036854775808).toNat : Nat) : Int) = r.num - -9223372036854775808 by omega])
    have HA1 := Lib.hid (fun u => sapart_any r.num 9223372036854775807 u HOk.out.num (show (Lit.int .i64 9223372036854775807).wf = true by decide) (by have := HL.out; omega))
    have HA2 := Lib.hid (fun u => sapart_any (-9223372036854775808) r.num u (show (Lit.int .i64 (-9223372036854775808)).wf = true by decide) HOk.out.num (by have := HL.out; omega))
    replace p0 : w1.cell? ⟨w.heap.size, 0, none⟩ = some (.int .i64 3) := by rw [← h3]; exact p0
    clear h3
    go_upto_region 3 with fail
    generalize r.num - -9223372036854775808 = z2 at *
    generalize 9223372036854775807 - r.num = z1 at *
    refine wp_region_held_drew (S := fun W => Kp (fun j => j = w.heap.size + 1) w1 W) (by kernel_rfl) (Kp.drew (Kp.refl _ _)) (fun hHeld => ?_)
    have E2 := Lib.hid (show (World.drew w1).heap[w.heap.size + 1]? = some (.cells #[.int .u64 0, .int .u64 0] 104 (0, 0)) from E2.out)
    have HB := Lib.hid (below_drew HB.out)
    generalize World.drew w1 = v0 at *
    refine wpAnyH_take (i := 0) (oi := ⟨_, _, _, _, _, _⟩) (v := ?_) rfl (by kernel_rfl) (by kernel_rfl) (by kernel_rfl) (fun _ _ _ h => h) (Or.inl ⟨by kernel_rfl, ?_⟩) hHeld ?_
    rotate_left 1
    · intro W hW; first | (go_simp; done) | (go_simp; with_reducible rfl)
    try simp only [Act.put, List.setIfInBounds_toArray, List.set_cons_zero, List.set_cons_succ]
    refine wpAnyH_take (i := 1) (oi := ⟨_, _, _, _, _, _⟩) (v := ?_) rfl (by kernel_rfl) (by kernel_rfl) (by kernel_rfl) (fun _ _ _ h => h) (Or.inl ⟨by kernel_rfl, ?_⟩) hHeld ?_
    rotate_left 1
    · intro W hW; have k0 := kp_cell7 hW p1; first | (go_simp; done) | (go_simp; with_reducible rfl)
    try simp only [Act.put, List.setIfInBounds_toArray, List.set_cons_zero, List.set_cons_succ]
    refine wpAnyH_take (i := 3) (oi := ⟨_, _, _, _, _, _⟩) (v := ?_) rfl (by kernel_rfl) (by kernel_rfl) (by kernel_rfl) (fun _ _ _ h => h) (Or.inl ⟨by kernel_rfl, ?_⟩) hHeld ?_
    rotate_left 1
    · intro W hW; first | (go_simp; done) | (go_simp; with_reducible rfl)
    try simp only [Act.put, List.setIfInBounds_toArray, List.set_cons_zero, List.set_cons_succ]
    refine wpAnyH_take (i := 4) (oi := ⟨_, _, _, _, _, _⟩) (v := ?_) rfl (by kernel_rfl) (by kernel_rfl) (by kernel_rfl) (fun _ _ _ h => h) (Or.inl ⟨by kernel_rfl, ?_⟩) hHeld ?_
    rotate_left 1
    · intro W hW; have k0 := kp_cell7 hW p1; first | (go_simp; done) | (go_simp; with_reducible rfl)
    try simp only [Act.put, List.setIfInBounds_toArray, List.set_cons_zero, List.set_cons_succ]
    refine wpAnyH_ready (rs := [2]) (by kernel_rfl) (by simp) ?_
    refine AllReadyH.cons rfl (fun K hK => ?_) AllReadyH.nil
    go_simp
    refine (HA1.out _).mono ?_
    rintro e wv ⟨rfl, rfl⟩
    go_wp2_with fail
    refine hK.out _ _ ?_ (fun hHelda => ?_)
    · exact hHeld
    clear hK K
    try simp only [Act.put, List.setIfInBounds_toArray, List.set_cons_zero, List.set_cons_succ]
    refine wpAnyH_ready (rs := [5]) (by kernel_rfl) (by simp) ?_
    refine AllReadyH.cons rfl (fun K hK => ?_) AllReadyH.nil
    go_simp
    refine (HA2.out _).mono ?_
    rintro e wv ⟨rfl, rfl⟩
    go_wp2_with fail
    refine hK.out _ _ ?_ (fun hHeldaa => ?_)
    · exact hHelda
    clear hK K
    try simp only [Act.put, List.setIfInBounds_toArray, List.set_cons_zero, List.set_cons_succ]
    refine wpAnyH_take (i := 6) (oi := ⟨_, _, _, _, _, _⟩) (v := ?_) rfl (by kernel_rfl) (by kernel_rfl) (by kernel_rfl) (fun _ _ _ h => h) (Or.inl ⟨by kernel_rfl, ?_⟩) hHeldaa ?_
    rotate_left 1
    · intro W hW; first | (go_simp; done) | (go_simp; with_reducible rfl)
    try simp only [Act.put, List.setIfInBounds_toArray, List.set_cons_zero, List.set_cons_succ]
    refine wpAnyH_ready (rs := [7]) (by kernel_rfl) (by simp) ?_
    refine AllReadyH.cons rfl (fun K hK => ?_) AllReadyH.nil
    rw [if_pos (by kernel_rfl)]
    refine wp_store_row 104 _ _ rfl (w.heap.size + 1) #[.int .u64 z1, .int .u64 z2] rfl rfl 104 _ E2.out room_inf7 rfl (by kernel_rfl) ?_
    generalize hwf : World.setRow v0 _ _ = wf
    have hkf : Kp (fun j => j = w.heap.size + 1) v0 wf := by rw [← hwf]; exact kpRow7 (S := fun j => j = w.heap.size + 1) (Kp.refl _ _) (.inl rfl) _
    have X2 : wf.heap[w.heap.size + 1]? = some (.cells #[.int .u64 z1, .int .u64 z2] 104 (0, 0)) := by rw [← hwf]; exact setRow_heap _ _ _ _ _ _ E2.out
    have k2 := fun o => cell_of_row wf _ o _ _ (0, 0) X2
    have HBf := Lib.hid (HB.out.trans (hkf.below HB.out.size (fun i hi x => by omega)))
    clear hwf X2
    refine hK.out _ _ ?_ (fun hHeldaaa => ?_)
    · exact hHeldaa.trans hkf (fun _ _ x => x)
    clear hK K
    try simp only [Act.put, List.setIfInBounds_toArray, List.set_cons_zero, List.set_cons_succ]
    clear hkf
    refine wpAnyH_done (by kernel_rfl) ?_ _
    go_wp2_with fail
    exact bodyPost_ret (v := .agg #[.int .u64 z1, .int .u64 z2]) (by simp [results, Tryz.results55, go_sem, k2]) rfl ⟨by rw [HW.out], HBf.out⟩
  by_cases h4 : r.kind = 4
  · have hp := purse_bd HC.out h4
    have HW := Lib.hid (show rmV v = .agg #[.int .u64 (r.high - r.num), .int .u64 (r.num - r.low)] by
      rw [HV.out, if_neg h3, if_pos h4]
      show Value.agg #[.int .u64 (((r.high - r.num).toNat : Nat) : Int), .int .u64 (((r.num - r.low).toNat : Nat) : Int)] = _
      rw [show (((r.high - r.num).toNat : Nat) : Int) = r.high - r.num by omega, show (((r.num - r.low).toNat : Nat) : Int) = r.num - r.low by omega])
    have HA1 := Lib.hid (fun u => sapart_any r.num r.high u HOk.out.num HOk.out.high hp.2.2.1)
    have HA2 := Lib.hid (fun u => sapart_any r.low r.num u HOk.out.low HOk.out.num hp.2.1)
    replace p0 : w1.cell? ⟨w.heap.size, 0, none⟩ = some (.int .i64 4) := by rw [← h4]; exact p0
    clear h3 h4 hp
    go_upto_region 5 with fail
    generalize r.num - r.low = z2 at *
    generalize r.high - r.num = z1 at *
    refine wp_region_held_drew (S := fun W => Kp (fun j => j = w.heap.size + 1) w1 W) (by kernel_rfl) (Kp.drew (Kp.refl _ _)) (fun hHeld => ?_)
    have E2 := Lib.hid (show (World.drew w1).heap[w.heap.size + 1]? = some (.cells #[.int .u64 0, .int .u64 0] 104 (0, 0)) from E2.out)
    have HB := Lib.hid (below_drew HB.out)
    generalize World.drew w1 = v0 at *
    refine wpAnyH_take (i := 0) (oi := ⟨_, _, _, _, _, _⟩) (v := ?_) rfl (by kernel_rfl) (by kernel_rfl) (by kernel_rfl) (fun _ _ _ h => h) (Or.inl ⟨by kernel_rfl, ?_⟩) hHeld ?_
    rotate_left 1
    · intro W hW; first | (go_simp; done) | (go_simp; with_reducible rfl)
    try simp only [Act.put, List.setIfInBounds_toArray, List.set_cons_zero, List.set_cons_succ]
    refine wpAnyH_take (i := 1) (oi := ⟨_, _, _, _, _, _⟩) (v := ?_) rfl (by kernel_rfl) (by kernel_rfl) (by kernel_rfl) (fun _ _ _ h => h) (Or.inl ⟨by kernel_rfl, ?_⟩) hHeld ?_
    rotate_left 1
    · intro W hW; have k0 := kp_cell7 hW p1; first | (go_simp; done) | (go_simp; with_reducible rfl)
    try simp only [Act.put, List.setIfInBounds_toArray, List.set_cons_zero, List.set_cons_succ]
    refine wpAnyH_take (i := 2) (oi := ⟨_, _, _, _, _, _⟩) (v := ?_) rfl (by kernel_rfl) (by kernel_rfl) (by kernel_rfl) (fun _ _ _ h => h) (Or.inl ⟨by kernel_rfl, ?_⟩) hHeld ?_
    rotate_left 1
    · intro W hW; first | (go_simp; done) | (go_simp; with_reducible rfl)
    try simp only [Act.put, List.setIfInBounds_toArray, List.set_cons_zero, List.set_cons_succ]
    refine wpAnyH_take (i := 3) (oi := ⟨_, _, _, _, _, _⟩) (v := ?_) rfl (by kernel_rfl) (by kernel_rfl) (by kernel_rfl) (fun _ _ _ h => h) (Or.inl ⟨by kernel_rfl, ?_⟩) hHeld ?_
    rotate_left 1
    · intro W hW; have k0 := kp_cell7 hW p3; first | (go_simp; done) | (go_simp; with_reducible rfl)
    try simp only [Act.put, List.setIfInBounds_toArray, List.set_cons_zero, List.set_cons_succ]
    refine wpAnyH_take (i := 5) (oi := ⟨_, _, _, _, _, _⟩) (v := ?_) rfl (by kernel_rfl) (by kernel_rfl) (by kernel_rfl) (fun _ _ _ h => h) (Or.inl ⟨by kernel_rfl, ?_⟩) hHeld ?_
    rotate_left 1
    · intro W hW; first | (go_simp; done) | (go_simp; with_reducible rfl)
    try simp only [Act.put, List.setIfInBounds_toArray, List.set_cons_zero, List.set_cons_succ]
    refine wpAnyH_take (i := 6) (oi := ⟨_, _, _, _, _, _⟩) (v := ?_) rfl (by kernel_rfl) (by kernel_rfl) (by kernel_rfl) (fun _ _ _ h => h) (Or.inl ⟨by kernel_rfl, ?_⟩) hHeld ?_
    rotate_left 1
    · intro W hW; have k0 := kp_cell7 hW p2; first | (go_simp; done) | (go_simp; with_reducible rfl)
    try simp only [Act.put, List.setIfInBounds_toArray, List.set_cons_zero, List.set_cons_succ]
    refine wpAnyH_take (i := 7) (oi := ⟨_, _, _, _, _, _⟩) (v := ?_) rfl (by kernel_rfl) (by kernel_rfl) (by kernel_rfl) (fun _ _ _ h => h) (Or.inl ⟨by kernel_rfl, ?_⟩) hHeld ?_
    rotate_left 1
    · intro W hW; first | (go_simp; done) | (go_simp; with_reducible rfl)
    try simp only [Act.put, List.setIfInBounds_toArray, List.set_cons_zero, List.set_cons_succ]
    refine wpAnyH_take (i := 8) (oi := ⟨_, _, _, _, _, _⟩) (v := ?_) rfl (by kernel_rfl) (by kernel_rfl) (by kernel_rfl) (fun _ _ _ h => h) (Or.inl ⟨by kernel_rfl, ?_⟩) hHeld ?_
    rotate_left 1
    · intro W hW; have k0 := kp_cell7 hW p1; first | (go_simp; done) | (go_simp; with_reducible rfl)
    try simp only [Act.put, List.setIfInBounds_toArray, List.set_cons_zero, List.set_cons_succ]
    refine wpAnyH_ready (rs := [4]) (by kernel_rfl) (by simp) ?_
    refine AllReadyH.cons rfl (fun K hK => ?_) AllReadyH.nil
    go_simp
    refine (HA1.out _).mono ?_
    rintro e wv ⟨rfl, rfl⟩
    go_wp2_with fail
    refine hK.out _ _ ?_ (fun hHelda => ?_)
    · exact hHeld
    clear hK K
    try simp only [Act.put, List.setIfInBounds_toArray, List.set_cons_zero, List.set_cons_succ]
    refine wpAnyH_ready (rs := [9]) (by kernel_rfl) (by simp) ?_
    refine AllReadyH.cons rfl (fun K hK => ?_) AllReadyH.nil
    go_simp
    refine (HA2.out _).mono ?_
    rintro e wv ⟨rfl, rfl⟩
    go_wp2_with fail
    refine hK.out _ _ ?_ (fun hHeldaa => ?_)
    · exact hHelda
    clear hK K
    try simp only [Act.put, List.setIfInBounds_toArray, List.set_cons_zero, List.set_cons_succ]
    refine wpAnyH_take (i := 10) (oi := ⟨_, _, _, _, _, _⟩) (v := ?_) rfl (by kernel_rfl) (by kernel_rfl) (by kernel_rfl) (fun _ _ _ h => h) (Or.inl ⟨by kernel_rfl, ?_⟩) hHeldaa ?_
    rotate_left 1
    · intro W hW; first | (go_simp; done) | (go_simp; with_reducible rfl)
    try simp only [Act.put, List.setIfInBounds_toArray, List.set_cons_zero, List.set_cons_succ]
    refine wpAnyH_ready (rs := [11]) (by kernel_rfl) (by simp) ?_
    refine AllReadyH.cons rfl (fun K hK => ?_) AllReadyH.nil
    rw [if_pos (by kernel_rfl)]
    refine wp_store_row 104 _ _ rfl (w.heap.size + 1) #[.int .u64 z1, .int .u64 z2] rfl rfl 104 _ E2.out room_inf7 rfl (by kernel_rfl) ?_
    generalize hwf : World.setRow v0 _ _ = wf
    have hkf : Kp (fun j => j = w.heap.size + 1) v0 wf := by rw [← hwf]; exact kpRow7 (S := fun j => j = w.heap.size + 1) (Kp.refl _ _) (.inl rfl) _
    have X2 : wf.heap[w.heap.size + 1]? = some (.cells #[.int .u64 z1, .int .u64 z2] 104 (0, 0)) := by rw [← hwf]; exact setRow_heap _ _ _ _ _ _ E2.out
    have k2 := fun o => cell_of_row wf _ o _ _ (0, 0) X2
    have HBf := Lib.hid (HB.out.trans (hkf.below HB.out.size (fun i hi x => by omega)))
    clear hwf X2
    refine hK.out _ _ ?_ (fun hHeldaaa => ?_)
    · exact hHeldaa.trans hkf (fun _ _ x => x)
    clear hK K
    try simp only [Act.put, List.setIfInBounds_toArray, List.set_cons_zero, List.set_cons_succ]
    clear hkf
    refine wpAnyH_done (by kernel_rfl) ?_ _
    go_wp2_with fail
    exact bodyPost_ret (v := .agg #[.int .u64 z1, .int .u64 z2]) (by simp [results, Tryz.results55, go_sem, k2]) rfl ⟨by rw [HW.out], HBf.out⟩
  by_cases h8 : r.kind = 8
  · have hc := (list_of HC.out (.inl h8)).2
    have hcb := i64_lims HOk.out.cap
    have hsub : wrap64 (r.cap - (r.list.length : Int)) = r.cap - (r.list.length : Int) := by unfold wrap64; omega
    have HX := Lib.hid (show IntKind.u64.wrap (r.cap - (r.list.length : Int)) = r.cap - (r.list.length : Int) by rw [u64_wrap]; omega)
    have HW := Lib.hid (show rmV v = .agg #[.int .u64 (IntKind.u64.wrap (r.cap - (r.list.length : Int))), .int .u64 0] by
      rw [HV.out, if_neg h3, if_neg h4, if_pos h8]
      show Value.agg #[.int .u64 (((r.cap - (r.list.length : Int)).toNat : Nat) : Int), .int .u64 ((0 : Nat) : Int)] = _
      rw [show (((r.cap - (r.list.length : Int)).toNat : Nat) : Int) = r.cap - (r.list.length : Int) by omega, HX.out]
      rfl)
    replace p0 : w1.cell? ⟨w.heap.size, 0, none⟩ = some (.int .i64 8) := by rw [← h8]; exact p0
    clear h3 h4 h8 hc hcb
    go_wp2_with (first
      | (refine wpList_store_row rfl _ _ _ rfl (w.heap.size + 1) #[.int .u64 (IntKind.u64.wrap (r.cap - (r.list.length : Int))), .int .u64 0] rfl rfl 104 _ E2.out room_inf7 rfl (by kernel_rfl) ?_))
    generalize hwf : World.setRow w1 _ _ = wf
    have hkf : Kp (fun j => j = w.heap.size + 1) w1 wf := by rw [← hwf]; exact kpRow7 (S := fun j => j = w.heap.size + 1) (Kp.refl _ _) (.inl rfl) _
    have X2 : wf.heap[w.heap.size + 1]? = some (.cells #[.int .u64 (IntKind.u64.wrap (r.cap - (r.list.length : Int))), .int .u64 0] 104 (0, 0)) := by rw [← hwf]; exact setRow_heap _ _ _ _ _ _ E2.out
    have k2 := fun o => cell_of_row wf _ o _ _ (0, 0) X2
    have HBf := Lib.hid (HB.out.trans (hkf.below HB.out.size (fun i hi x => by omega)))
    clear hwf X2 hkf
    exact bodyPost_ret (v := .agg #[.int .u64 (IntKind.u64.wrap (r.cap - (r.list.length : Int))), .int .u64 0]) (by simp [results, Tryz.results55, go_sem, k2]) rfl ⟨by rw [HW.out], HBf.out⟩
  have HW := Lib.hid (show rmV v = .agg #[.int .u64 0, .int .u64 0] by rw [HV.out, if_neg h3, if_neg h4, if_neg h8]; rfl)
  go_wp2_with (first
    | (refine wpList_store_row rfl _ _ _ rfl (w.heap.size + 1) #[.int .u64 0, .int .u64 0] rfl rfl 104 _ E2.out room_inf7 rfl (by kernel_rfl) ?_))
  generalize hwf : World.setRow w1 _ _ = wf
  have hkf : Kp (fun j => j = w.heap.size + 1) w1 wf := by rw [← hwf]; exact kpRow7 (S := fun j => j = w.heap.size + 1) (Kp.refl _ _) (.inl rfl) _
  have X2 : wf.heap[w.heap.size + 1]? = some (.cells #[.int .u64 0, .int .u64 0] 104 (0, 0)) := by rw [← hwf]; exact setRow_heap _ _ _ _ _ _ E2.out
  have k2 := fun o => cell_of_row wf _ o _ _ (0, 0) X2
  have HBf := Lib.hid (HB.out.trans (hkf.below HB.out.size (fun i hi x => by omega)))
  clear hwf X2 hkf
  exact bodyPost_ret (v := .agg #[.int .u64 0, .int .u64 0]) (by simp [results, Tryz.results55, go_sem, k2]) rfl ⟨by rw [HW.out], HBf.out⟩
end Go.Proofs.YtbkcmnmbcldjoaaGreatDoor

namespace Go.Proofs.YtbkcmnmbcldjoaaGreatDoor
open Go.RowKit MM
set_option linter.unusedVariables false
set_option linter.unusedSimpArgs false
theorem room_info7 : (Tryz.prog.info? 104).map (fun i => (i.zero, i.size, i.bytes)) = some (some (.agg #[.int .u64 0, .int .u64 0]), 2, 16) := by kernel_rfl
/-- The first i rooms of a row are dealt. -/
def Dealt (x : Rm) (n i : Nat) (cs : Array Value) : Prop := cs.size = n * 2 ∧ ∀ k, k < i → cs[k * 2]? = some (.int .u64 (SH.portion x.up k n : Nat)) ∧ cs[k * 2 + 1]? = some (.int .u64 (SH.portion x.down k n : Nat))
/-- What dealOut answers. -/
def DlPost (x : Rm) (n : Nat) (w : World) (e : Ending) (w' : World) : Prop := ∃ g cs, e = .returned (.slice (some ⟨g, 0, none⟩) n n) ∧ w'.heap[g]? = some (.cells cs 104 (0, 0)) ∧ Dealt x n n cs ∧ w.heap.size ≤ g ∧ Below w.heap.size w w'
theorem Dealt.next {x : Rm} {n i : Nat} {cs : Array Value} (h : Dealt x n i cs) (hi : i < n) : Dealt x n (i + 1) ((cs.setIfInBounds (i * 2) (.int .u64 (SH.portion x.up i n : Nat))).setIfInBounds (i * 2 + 1) (.int .u64 (SH.portion x.down i n : Nat))) := by
  obtain ⟨h1, h2⟩ := h
  refine ⟨by simp [h1], fun k hk => ?_⟩
  by_cases hki : k = i
  · subst hki
    constructor
    · rw [Array.getElem?_setIfInBounds_ne (by omega), Array.getElem?_setIfInBounds_self_of_lt (by omega)]
    · rw [Array.getElem?_setIfInBounds_self_of_lt (by rw [Array.size_setIfInBounds]; omega)]
  · obtain ⟨h3, h4⟩ := h2 k (by omega)
    constructor
    · rw [Array.getElem?_setIfInBounds_ne (by omega), Array.getElem?_setIfInBounds_ne (by omega)]; exact h3
    · rw [Array.getElem?_setIfInBounds_ne (by omega), Array.getElem?_setIfInBounds_ne (by omega)]; exact h4
theorem kp_cellg {w1 W : World} {g n o : Nat} {v : Value} (hn : n ≠ g) (h : Kp (fun j => j = g) w1 W) (hc : w1.cell? ⟨n, o, none⟩ = some v) : W.cell? ⟨n, o, none⟩ = some v := h.cell hc hn
set_option maxHeartbeats 8000000 in
set_option maxRecDepth 100000 in
theorem sdealOut_any (x : Rm) (n : Nat) (w : World) (h1 : x.up < 18446744073709551616) (h2 : x.down < 18446744073709551616) (hn : 1 ≤ n ∧ n ≤ 8) :
    Calls Tryz.prog 54 #[rmV x, .int .i64 (n : Int)] w (DlPost x n w) := by
  obtain ⟨i0, hi0, hz0, hz1, hz2⟩ := info_parts room_info7
  have HP := Lib.hid (fun k (hk : k < 9) u => And.intro (sportion_any x.up k n u h1 hn hk) (sportion_any x.down k n u h2 hn hk))
  have HN := Lib.hid hn
  have hn8 : n ≤ 8 := hn.2
  have hmk : ∀ W : World, (Instr.makeSlice 101 (.int .i64 (n : Int)) (.int .i64 (n : Int))).run Tryz.prog W = .ok (.slice (some ⟨W.heap.size, 0, none⟩) n n) (W.alloc (.cells (madeCells #[.int .u64 0, .int .u64 0] (n * 2)) 104)) := fun W => by
    have h := run_makeSlice (P := Tryz.prog) W 101 104 i0 _ Tryz.underlying101 hi0 hz0 .i64 .i64 (n : Int) (n : Int) (by omega) (Int.le_refl _) (by rw [hz1]; omega) (by rw [hz2]; omega) (by omega)
    rw [hz1] at h
    exact h
  clear h1 h2 hn hi0 hz0 hz1 hz2
  go_enter Tryz.func54, Tryz.ntmps54
  go_upto_region 1 with fail
  generalize hw1 : World.alloc w _ = w1
  have hb1 : Below w.heap.size w w1 := by rw [← hw1]; exact below1 w _
  have e1 : w1.heap[w.heap.size]? = some (.cells (rmC x) 104 (0, 0)) := by rw [← hw1]; exact heap_alloc_new w _
  have hs1 : w1.heap.size = w.heap.size + 1 := by rw [← hw1]; simp
  clear hw1
  have HS1 := Lib.hid hs1
  clear hs1
  go_upto_region 2 with fail
  generalize hw2 : World.alloc w1 _ = w2
  have hb2 : Below w1.heap.size w1 w2 := by rw [← hw2]; exact below1 w1 _
  have E1 := Lib.hid ((hb2.block _ (lt_of_heap e1)).trans e1)
  have HD := Lib.hid (show ∃ cs, w2.heap[w1.heap.size]? = some (.cells cs 104 (0, 0)) ∧ Dealt x n 0 cs from ⟨_, by rw [← hw2]; exact heap_alloc_new w1 _, by rw [size_madeCells], fun k hk => by omega⟩)
  have HB := Lib.hid (hb1.trans (hb2.mono hb1.size))
  have HSz := Lib.hid (show w2.heap.size = w1.heap.size + 1 by rw [← hw2]; simp)
  generalize hg : w1.heap.size = g at *
  clear hw2 hb1 hb2 e1 hg hmk
  go_wp2_with fail
  go_loopw [11] (fun t11 wr => ∃ (i : Nat) (cs : Array Value), t11 = .int .i64 i ∧ i ≤ n ∧ wr.heap[g]? = some (.cells cs 104 (0, 0)) ∧ Dealt x n i cs ∧ Kp (fun j => j = g) w2 wr) (fun t11 _ => n - (intOf t11).toNat)
  case atStart =>
    obtain ⟨cs, h1, h2⟩ := HD.out
    exact ⟨0, cs, rfl, Nat.zero_le _, h1, h2, Kp.refl _ _⟩
  case round =>
    obtain ⟨i, cs, rfl, hi, hrow, hdl, hkp⟩ := hrel
    have HDl := Lib.hid hdl
    have HRow := Lib.hid hrow
    have HKp := Lib.hid hkp
    clear hrow hdl hkp
    by_cases hlt : i < n
    · have hi1 : (i : Int) < (n : Int) := by omega
      obtain ⟨x0, hx0⟩ : ∃ v, cs[i * 2]? = some v := ⟨_, Array.getElem?_eq_getElem (by rw [HDl.out.1]; omega)⟩
      obtain ⟨x1, hx1⟩ : ∃ v, cs[i * 2 + 1]? = some v := ⟨_, Array.getElem?_eq_getElem (by rw [HDl.out.1]; omega)⟩
      have F1 := (HKp.out.block _ (lt_of_heap E1.out) (by have := HS1.out; omega)).trans E1.out
      have p0 : wr.cell? ⟨w.heap.size, 0, none⟩ = some (.int .u64 x.up) := cell_of_row wr _ 0 _ _ (0, 0) F1
      have p1 : wr.cell? ⟨w.heap.size, 1, none⟩ = some (.int .u64 x.down) := cell_of_row wr _ 1 _ _ (0, 0) F1
      have HPi := Lib.hid (HP.out i (by omega))
      have HGW := Lib.hid (show w.heap.size ≠ g by have := HS1.out; omega)
      have HX := Lib.hid (And.intro hx0 hx1)
      clear F1 hx0 hx1
      go_upto_region 5 with fail
      refine wp_region_held_drew (S := fun W => Kp (fun j => j = g) wr W) (by kernel_rfl) (Kp.drew (Kp.refl _ _)) (fun hHeld => ?_)
      have HRv := Lib.hid (show (World.drew wr).heap[g]? = some (.cells cs 104 (0, 0)) from HRow.out)
      generalize World.drew wr = v0 at *
      refine wpAnyH_take (i := 0) (oi := ⟨_, _, _, _, _, _⟩) (v := ?_) rfl (by kernel_rfl) (by kernel_rfl) (by kernel_rfl) (fun _ _ _ h => h) (Or.inl ⟨by kernel_rfl, ?_⟩) hHeld ?_
      rotate_left 1
      · intro W hW; first | (go_simp; done) | (go_simp; with_reducible rfl)
      try simp only [Act.put, List.setIfInBounds_toArray, List.set_cons_zero, List.set_cons_succ]
      refine wpAnyH_take (i := 1) (oi := ⟨_, _, _, _, _, _⟩) (v := ?_) rfl (by kernel_rfl) (by kernel_rfl) (by kernel_rfl) (fun _ _ _ h => h) (Or.inl ⟨by kernel_rfl, ?_⟩) hHeld ?_
      rotate_left 1
      · intro W hW; first | (go_simp; done) | (go_simp; with_reducible rfl)
      try simp only [Act.put, List.setIfInBounds_toArray, List.set_cons_zero, List.set_cons_succ]
      refine wpAnyH_take (i := 2) (oi := ⟨_, _, _, _, _, _⟩) (v := ?_) rfl (by kernel_rfl) (by kernel_rfl) (by kernel_rfl) (fun _ _ _ h => h) (Or.inl ⟨by kernel_rfl, ?_⟩) hHeld ?_
      rotate_left 1
      · intro W hW; first | (go_simp; done) | (go_simp; with_reducible rfl)
      try simp only [Act.put, List.setIfInBounds_toArray, List.set_cons_zero, List.set_cons_succ]
      refine wpAnyH_take (i := 3) (oi := ⟨_, _, _, _, _, _⟩) (v := ?_) rfl (by kernel_rfl) (by kernel_rfl) (by kernel_rfl) (fun _ _ _ h => h) (Or.inl ⟨by kernel_rfl, ?_⟩) hHeld ?_
      rotate_left 1
      · intro W hW; have k0 := kp_cellg HGW.out hW p0; first | (go_simp; done) | (go_simp; with_reducible rfl)
      try simp only [Act.put, List.setIfInBounds_toArray, List.set_cons_zero, List.set_cons_succ]
      refine wpAnyH_take (i := 4) (oi := ⟨_, _, _, _, _, _⟩) (v := ?_) rfl (by kernel_rfl) (by kernel_rfl) (by kernel_rfl) (fun _ _ _ h => h) (Or.inl ⟨by kernel_rfl, ?_⟩) hHeld ?_
      rotate_left 1
      · intro W hW; first | (go_simp; done) | (go_simp; with_reducible rfl)
      try simp only [Act.put, List.setIfInBounds_toArray, List.set_cons_zero, List.set_cons_succ]
      refine wpAnyH_take (i := 5) (oi := ⟨_, _, _, _, _, _⟩) (v := ?_) rfl (by kernel_rfl) (by kernel_rfl) (by kernel_rfl) (fun _ _ _ h => h) (Or.inl ⟨by kernel_rfl, ?_⟩) hHeld ?_
      rotate_left 1
      · intro W hW; first | (go_simp; done) | (go_simp; with_reducible rfl)
      try simp only [Act.put, List.setIfInBounds_toArray, List.set_cons_zero, List.set_cons_succ]
      refine wpAnyH_take (i := 7) (oi := ⟨_, _, _, _, _, _⟩) (v := ?_) rfl (by kernel_rfl) (by kernel_rfl) (by kernel_rfl) (fun _ _ _ h => h) (Or.inl ⟨by kernel_rfl, ?_⟩) hHeld ?_
      rotate_left 1
      · intro W hW; first | (go_simp; done) | (go_simp; with_reducible rfl)
      try simp only [Act.put, List.setIfInBounds_toArray, List.set_cons_zero, List.set_cons_succ]
      refine wpAnyH_take (i := 8) (oi := ⟨_, _, _, _, _, _⟩) (v := ?_) rfl (by kernel_rfl) (by kernel_rfl) (by kernel_rfl) (fun _ _ _ h => h) (Or.inl ⟨by kernel_rfl, ?_⟩) hHeld ?_
      rotate_left 1
      · intro W hW; have k0 := kp_cellg HGW.out hW p1; first | (go_simp; done) | (go_simp; with_reducible rfl)
      try simp only [Act.put, List.setIfInBounds_toArray, List.set_cons_zero, List.set_cons_succ]
      refine wpAnyH_take (i := 9) (oi := ⟨_, _, _, _, _, _⟩) (v := ?_) rfl (by kernel_rfl) (by kernel_rfl) (by kernel_rfl) (fun _ _ _ h => h) (Or.inl ⟨by kernel_rfl, ?_⟩) hHeld ?_
      rotate_left 1
      · intro W hW; first | (go_simp; done) | (go_simp; with_reducible rfl)
      try simp only [Act.put, List.setIfInBounds_toArray, List.set_cons_zero, List.set_cons_succ]
      refine wpAnyH_take (i := 10) (oi := ⟨_, _, _, _, _, _⟩) (v := ?_) rfl (by kernel_rfl) (by kernel_rfl) (by kernel_rfl) (fun _ _ _ h => h) (Or.inl ⟨by kernel_rfl, ?_⟩) hHeld ?_
      rotate_left 1
      · intro W hW; first | (go_simp; done) | (go_simp; with_reducible rfl)
      try simp only [Act.put, List.setIfInBounds_toArray, List.set_cons_zero, List.set_cons_succ]
      refine wpAnyH_ready (rs := [6]) (by kernel_rfl) (by simp) ?_
      refine AllReadyH.cons rfl (fun K hK => ?_) AllReadyH.nil
      go_simp
      refine ((HPi.out _).1).mono ?_
      rintro e wv ⟨rfl, rfl⟩
      go_wp2_with fail
      refine hK.out _ _ ?_ (fun hHelda => ?_)
      · exact hHeld
      clear hK K
      try simp only [Act.put, List.setIfInBounds_toArray, List.set_cons_zero, List.set_cons_succ]
      refine wpAnyH_ready (rs := [11]) (by kernel_rfl) (by simp) ?_
      refine AllReadyH.cons rfl (fun K hK => ?_) AllReadyH.nil
      go_simp
      refine ((HPi.out _).2).mono ?_
      rintro e wv ⟨rfl, rfl⟩
      go_wp2_with fail
      refine hK.out _ _ ?_ (fun hHeldaa => ?_)
      · exact hHelda
      clear hK K
      try simp only [Act.put, List.setIfInBounds_toArray, List.set_cons_zero, List.set_cons_succ]
      refine wpAnyH_take (i := 12) (oi := ⟨_, _, _, _, _, _⟩) (v := ?_) rfl (by kernel_rfl) (by kernel_rfl) (by kernel_rfl) (fun _ _ _ h => h) (Or.inl ⟨by kernel_rfl, ?_⟩) hHeldaa ?_
      rotate_left 1
      · intro W hW; first | (go_simp; done) | (go_simp; with_reducible rfl)
      try simp only [Act.put, List.setIfInBounds_toArray, List.set_cons_zero, List.set_cons_succ]
      refine wpAnyH_take (i := 13) (oi := ⟨_, _, _, _, _, _⟩) (v := ?_) rfl (by kernel_rfl) (by kernel_rfl) (by kernel_rfl) (fun _ _ _ h => h) (Or.inl ⟨by kernel_rfl, ?_⟩) hHeldaa ?_
      rotate_left 1
      · intro W hW; first | (go_simp; done) | (go_simp; with_reducible rfl)
      try simp only [Act.put, List.setIfInBounds_toArray, List.set_cons_zero, List.set_cons_succ]
      refine wpAnyH_ready (rs := [14]) (by kernel_rfl) (by simp) ?_
      refine AllReadyH.cons rfl (fun K hK => ?_) AllReadyH.nil
      have c0 : v0.cell? ⟨g, i * 2, none⟩ = some x0 := by rw [cell_of_row v0 _ _ _ _ (0, 0) HRv.out]; exact HX.out.1
      have c1 : v0.cell? ⟨g, i * 2 + 1, none⟩ = some x1 := by rw [cell_of_row v0 _ _ _ _ (0, 0) HRv.out]; exact HX.out.2
      have ff : ∀ o, v0.frozen? ⟨g, o, none⟩ = false := fun o => frozen_of_row _ _ o _ _ HRv.out
      rw [if_pos (by kernel_rfl)]
      go_simp
      generalize hwf : World.setCell (World.setCell v0 _ _) _ _ = wf
      have hkf : Kp (fun j => j = g) v0 wf := by rw [← hwf]; exact Kp.setCell (S := fun j => j = g) (p := ⟨g, i * 2 + 1, none⟩) (Kp.setCell (S := fun j => j = g) (p := ⟨g, i * 2, none⟩) (Kp.refl _ _) (.inl rfl) _) (.inl rfl) _
      have hrf := Lib.hid (show wf.heap[g]? = some (.cells _ 104 (0, 0)) by rw [← hwf]; exact heap_setCell_same _ _ (i * 2 + 1) _ _ _ (heap_setCell_same _ _ (i * 2) _ _ _ HRv.out))
      clear hwf c0 c1 ff
      refine hK.out _ _ ?_ (fun hHeldaaa => ?_)
      · exact hHeldaa.trans hkf (fun _ _ x => x)
      clear hK K
      try simp only [Act.put, List.setIfInBounds_toArray, List.set_cons_zero, List.set_cons_succ]
      refine wpAnyH_done (by kernel_rfl) ?_ _
      have HT := Lib.hid (HKp.out.trans hHeldaaa (fun _ _ x => x))
      have HDn := Lib.hid (HDl.out.next hlt)
      clear hkf
      go_wp2_with fail
      go_roundw
      case rel => exact ⟨i + 1, _, by go_num, by omega, hrf.out, HDn.out, HT.out⟩
      case measure => simp [intOf]; omega
    · have hi' : i = n := by omega
      have hi1 : ¬ (i : Int) < (n : Int) := by omega
      have HE := Lib.hid (show ∃ cs, wr.heap[g]? = some (.cells cs 104 (0, 0)) ∧ Dealt x n n cs from ⟨cs, HRow.out, by have h := HDl.out; rw [hi'] at h; exact h⟩)
      have HBf := Lib.hid (HB.out.trans (HKp.out.below (by have := HS1.out; have := HSz.out; omega) (fun i hi x => by have := HS1.out; omega)))
      have HGe := Lib.hid (show w.heap.size ≤ g by have := HS1.out; omega)
      clear hlt hi hi'
      go_wp2_with fail
      go_ret
      obtain ⟨cs, h1, h2⟩ := HE.out
      exact ⟨g, cs, rfl, h1, h2, HGe.out, HBf.out⟩
end Go.Proofs.YtbkcmnmbcldjoaaGreatDoor

namespace Go.Proofs.YtbkcmnmbcldjoaaGreatDoor
open Go.RowKit MM
set_option linter.unusedVariables false
set_option linter.unusedSimpArgs false
def stCells (l : List ByteArray) : List Value := l.map Value.string
/-- A slice that reads as texts. -/
def Strs (w : World) (A : Option Addr) (l : List ByteArray) : Prop := l = [] ∨ ∃ b off, A = some ⟨b, off, none⟩ ∧ b < w.heap.size ∧ ∀ i s, l[i]? = some s → w.cell? ⟨b, off + i, none⟩ = some (.string s)
theorem Strs.below {w w' : World} {A : Option Addr} {l : List ByteArray} (h : Strs w A l) (hb : Below w.heap.size w w') : Strs w' A l := by
  rcases h with h | ⟨b, off, h1, h2, h3⟩
  · exact .inl h
  · exact .inr ⟨b, off, h1, Nat.lt_of_lt_of_le h2 hb.size, fun i s hi => below_keep hb (h3 i s hi)⟩
theorem strs_own {w : World} {B : Option Addr} {l : List ByteArray} {n c : Nat} (hn : n = l.length) (h : w.ownsRow 0 9 1 (.slice B n c) n (stCells l)) : Strs w B l := by
  subst hn
  rcases Nat.eq_zero_or_pos l.length with h0 | h0
  · exact .inl (List.eq_nil_of_length_eq_zero h0)
  · obtain ⟨g, hA, hg, hc⟩ := own_cell14 h h0
    exact .inr ⟨g, 0, hA, hg, fun i s hi => by rw [Nat.zero_add]; exact hc i _ (by simp [stCells, hi])⟩
def SH.names (r : RC.Rc) : List ByteArray := if r.kind = 8 then r.list.map (·.name) else []
theorem str_info7 : (Tryz.prog.info? 9).map (fun i => (i.zero, i.size, i.bytes)) = some (some (.string ⟨#[]⟩), 1, 16) := by kernel_rfl
/-- What joined answers. -/
def JnPost (l : List ByteArray) (w : World) (e : Ending) (w' : World) : Prop := ∃ B cb, e = .returned (.slice B l.length cb) ∧ w'.ownsRow 0 9 1 (.slice B l.length cb) l.length (stCells l) ∧ (∀ k, ob B = some k → w.heap.size ≤ k) ∧ Below w.heap.size w w'
/-- How things stand while names are gathered. -/
structure JnAt (w : World) (ys : List ByteArray) (B : Option Addr) (n cb : Nat) (wr : World) : Prop where
  own : wr.ownsRow 0 9 1 (.slice B n cb) n (stCells ys)
  newB : ∀ k, ob B = some k → w.heap.size ≤ k
  below : Below w.heap.size w wr
  len : ys.length = n
theorem JnAt.keep {w wr w' : World} {ys : List ByteArray} {B : Option Addr} {n cb : Nat} (h : JnAt w ys B n cb wr) (hb : Below wr.heap.size wr w') : JnAt w ys B n cb w' :=
  ⟨own_below h.own hb, h.newB, h.below.trans (hb.mono h.below.size), h.len⟩
theorem JnAt.next {w wr w4 : World} {ys : List ByteArray} {a : ByteArray} {B B' : Option Addr} {n cb cb' : Nat} (h : JnAt w ys B n cb wr) (hg : wr.grownBy w4 (ob B)) (hat : ob B' = ob B ∨ ob B' = some wr.heap.size) (ho : w4.ownsRow 0 9 1 (.slice B' (n + 1) cb') (n + 1) (stCells ys ++ [.string a])) : JnAt w (ys ++ [a]) B' (n + 1) cb' w4 := by
  refine ⟨?_, grown_new7 h.newB hat h.below.size, grown_keep7 h.below h.newB hg (Nat.le_refl _), by simp [h.len]⟩
  unfold stCells at ho ⊢
  rw [List.map_append]
  exact ho
set_option maxHeartbeats 8000000 in
set_option maxRecDepth 100000 in
theorem sjoined_any (r : RC.Rc) (A : Option Addr) (c : Nat) (w : World) (hA : Its w A r.list) (hn : r.list.length ≤ 100000) :
    Calls Tryz.prog 53 #[recV r A c] w (JnPost (SH.names r) w) := by
  obtain ⟨i0, hi0, hz0, hz1, hz2⟩ := info_parts str_info7
  have HA := Lib.hid hA
  have HV := Lib.hid (show SH.names r = if r.kind = 8 then r.list.map (·.name) else [] from rfl)
  generalize SH.names r = V at *
  clear hA
  go_enter Tryz.func53, Tryz.ntmps53
  go_upto_region 1 with fail
  generalize hw1 : World.alloc w _ = w1
  have HB := Lib.hid (show Below w.heap.size w w1 by rw [← hw1]; exact below1 w _)
  have E1 := (show w1.heap[w.heap.size]? = some (.cells (recC r.kind r.num r.low r.high r.real r.cap r.text (.slice A r.list.length c)) 25 (0, 0)) by rw [← hw1]; exact heap_alloc_new w _)
  have p0 : w1.cell? ⟨w.heap.size, 0, none⟩ = some (.int .i64 r.kind) := cell_of_row w1 _ 0 _ _ (0, 0) E1
  have p7 : w1.cell? ⟨w.heap.size, 7, none⟩ = some (.slice A r.list.length c) := cell_of_row w1 _ 7 _ _ (0, 0) E1
  clear hw1 E1
  by_cases h8 : r.kind = 8
  case neg =>
    have b8 : (r.kind != 8) = true := bne_iff_ne.2 h8
    have HV := Lib.hid (show V = [] by rw [HV.out, if_neg h8])
    clear h8
    go_wp2_with fail
    go_ret
    exact (show JnPost V w _ _ from ⟨none, 0, by rw [HV.out]; rfl, by rw [HV.out]; exact World.ownsRow_nil _ _ _ _, fun k e => (by cases e), HB.out⟩)
  have HV := Lib.hid (show V = r.list.map (·.name) by rw [HV.out, if_pos h8])
  replace p0 : w1.cell? ⟨w.heap.size, 0, none⟩ = some (.int .i64 8) := by rw [← h8]; exact p0
  clear h8
  go_wp2_with fail
  go_loopw [3, 12] (fun t3 t12 wr => ∃ (j : Nat) (zs : List ByteArray) (B : Option Addr) (cb : Nat), t12 = .int .i64 j ∧ j ≤ r.list.length ∧ zs = (r.list.take j).map (·.name) ∧ t3 = .slice B zs.length cb ∧ JnAt w zs B zs.length cb wr) (fun _ t12 _ => r.list.length - (intOf t12).toNat)
  case atStart => exact ⟨0, [], none, 0, rfl, Nat.zero_le _, rfl, rfl, ⟨World.ownsRow_nil _ _ _ _, fun k e => (by cases e), HB.out, rfl⟩⟩
  case round =>
    obtain ⟨j, zs, B, cb, rfl, hj, hzs, rfl, hv⟩ := hrel
    have HVv := Lib.hid hv
    have HZS := Lib.hid hzs
    have HZL := Lib.hid (show zs.length = j by rw [hzs, List.length_map, List.length_take]; omega)
    clear hv hzs p0 p7
    by_cases hlt2 : j < r.list.length
    · have hj1 : (j : Int) < (r.list.length : Int) := by omega
      rcases HA.out with h0 | ⟨b2, o2, hpA, hbl, hits⟩
      · rw [h0] at hlt2; simp at hlt2
      have hx := hits j _ (List.getElem?_eq_getElem hlt2)
      obtain ⟨x, hxe⟩ : ∃ x, x = r.list[j] := ⟨_, rfl⟩
      have HTA := Lib.hid (show zs ++ [x.name] = (r.list.take (j + 1)).map (·.name) by rw [HZS.out, hxe, List.take_add_one, List.getElem?_eq_getElem hlt2, List.map_append]; rfl)
      rw [← hxe] at hx
      obtain ⟨hx0, hx1⟩ := hx
      have HR2 := Lib.hid (show wr.rangeAt b2 (o2 + j * 2) (#[.float .f64 x.score, .string x.name] : Array Value).toList from fun k v hv => by
        rcases k with _ | _ | k
        · simp at hv; subst hv; exact below_keep HVv.out.below hx0
        · simp at hv; subst hv; exact below_keep HVv.out.below hx1
        · simp at hv)
      have hzl : zs.length < 100000 := by have h1 := HZL.out; omega
      clear hits hx0 hx1 hxe
      rw [hpA]
      go_upto_region 7 with (first
        | (refine wpList_load_mid rfl _ _ rfl b2 (o2 + j * 2) rfl (#[.float .f64 x.score, .string x.name] : Array Value).toList _ HR2.out Tryz.underlying91 rfl item_inf7 ?_)
        | (refine wpList_store_row rfl _ _ _ rfl _ #[.float .f64 x.score, .string x.name] rfl rfl 91 _ (heap_alloc_new _ _) item_inf7 rfl (by kernel_rfl) ?_))
      rw [World.setRow_alloc_new]
      generalize hwd : World.alloc wr _ = wd
      have hbd : Below wr.heap.size wr wd := by rw [← hwd]; exact below1 wr _
      have R9 : wd.heap[wr.heap.size]? = some (.cells #[.float .f64 x.score, .string x.name] 91 (0, 0)) := by rw [← hwd]; exact heap_alloc_new wr _
      have e1 := cell_of_row wd _ 1 _ _ (0, 0) R9
      have HVd := Lib.hid (HVv.out.keep hbd)
      have KO := Lib.hid (fun X => HVd.out.keep (below1 wd X))
      clear hwd hbd R9 HR2
      go_wp2_with (first
        | (at_builtin
           refine wpList_append_at rfl _ _ _ _ rfl 9 i0 _ 1 16 Tryz.underlying99 hi0 hz0 hz1 hz2 rfl B zs.length cb (stCells zs) rfl (KO.out _).own _ 1 _ rfl (src_row Tryz.underlying99 _ #[.string x.name] _ (by simp) rfl (List.all_eq_true.1 rfl)) (by unfold maxLen; omega) (by omega) ?_
           intro B' cb' w10 ho10 hg10 hat10))
      have HT := Lib.hid ((KO.out _).next hg10 hat10 ho10)
      clear ho10 hg10 hat10 e1
      go_wp2_with fail
      go_roundw
      case rel => exact ⟨j + 1, zs ++ [x.name], B', cb', by go_num, by omega, HTA.out, by simp, by have := HT.out; simpa using this⟩
      case measure => simp [intOf]; omega
    · have hj' : j = r.list.length := by omega
      have hj1 : ¬ (j : Int) < (r.list.length : Int) := by omega
      have HE := Lib.hid (show zs = V by rw [HZS.out, HV.out, hj', List.take_length])
      have HP := Lib.hid (show JnPost V w (.returned (.slice B zs.length cb)) wr from ⟨B, cb, by rw [HE.out], by have h := HVv.out.own; rw [HE.out] at h; exact h, HVv.out.newB, HVv.out.below⟩)
      clear hlt2 hj hj'
      go_wp2_with fail
      go_ret
      exact HP.out
end Go.Proofs.YtbkcmnmbcldjoaaGreatDoor

namespace Go.Proofs.YtbkcmnmbcldjoaaGreatDoor
open Go.RowKit MM
set_option linter.unusedVariables false
set_option linter.unusedSimpArgs false
/-- Rooms, cell by cell. -/
def RmsAt (cs : Array Value) (l : List Rm) : Prop := cs.size = l.length * 2 ∧ ∀ k x, l[k]? = some x → cs[k * 2]? = some (.int .u64 x.up) ∧ cs[k * 2 + 1]? = some (.int .u64 x.down)
def SH.rooms (x : Rm) (n : Nat) : List Rm := (List.range n).map fun k => ⟨SH.portion x.up k n, SH.portion x.down k n⟩
theorem Dealt.rms {x : Rm} {n : Nat} {cs : Array Value} (h : Dealt x n n cs) : RmsAt cs (SH.rooms x n) := by
  refine ⟨by rw [h.1]; simp [SH.rooms], fun k y hy => ?_⟩
  unfold SH.rooms at hy
  rw [List.getElem?_map] at hy
  obtain ⟨i, hi, rfl⟩ := Option.map_eq_some_iff.1 hy
  have hk : k < n := by have := (List.getElem?_eq_some_iff.1 hi).1; simpa using this
  obtain rfl : i = k := by rw [List.getElem?_eq_getElem (by simpa using hk)] at hi; simpa using hi.symm
  exact h.2 i hk
/-- An escrow in memory, apart from all that was there ahead of a size. -/
structure EscAt (B0 : Nat) (w : World) (g : Nat) (kind : Int) (names : List ByteArray) (l : List Rm) (B : Option Addr) (cb gl : Nat) (cs : Array Value) : Prop where
  box : w.heap[g]? = some (.cells #[.int .i64 kind, .slice B names.length cb, .slice (some ⟨gl, 0, none⟩) l.length l.length] 107 (0, 0))
  names : w.ownsRow 0 9 1 (.slice B names.length cb) names.length (stCells names)
  row : w.heap[gl]? = some (.cells cs 104 (0, 0))
  rms : RmsAt cs l
  ne : g ≠ gl ∧ ob B ≠ some g ∧ ob B ≠ some gl
  new : B0 ≤ g ∧ B0 ≤ gl ∧ ∀ k, ob B = some k → B0 ≤ k
theorem EscAt.keep {B0 : Nat} {w w' : World} {g : Nat} {kind : Int} {names : List ByteArray} {l : List Rm} {B : Option Addr} {cb gl : Nat} {cs : Array Value} (h : EscAt B0 w g kind names l B cb gl cs) (hb : Below w.heap.size w w') : EscAt B0 w' g kind names l B cb gl cs :=
  ⟨(hb.block _ (lt_of_heap h.box)).trans h.box, own_below h.names hb, (hb.block _ (lt_of_heap h.row)).trans h.row, h.rms, h.ne, h.new⟩
def SH.newE (r : RC.Rc) (n : Int) : Nat := if n < 1 ∨ 8 < n then 1 else if RC.chk r ≠ 0 then RC.chk r else if (SH.slice r).2 = false then 5 else 0
/-- What New answers. -/
def NwPost (r : RC.Rc) (n : Int) (w : World) (e : Ending) (w' : World) : Prop :=
  (SH.newE r n ≠ 0 ∧ e = .returned (.tuple #[.pointer none, .int .i64 (SH.newE r n : Nat)]) ∧ Below w.heap.size w w') ∨
  (SH.newE r n = 0 ∧ ∃ g B cb gl cs, e = .returned (.tuple #[.pointer (some ⟨g, 0, none⟩), .int .i64 0]) ∧ EscAt w.heap.size w' g r.kind (SH.names r) (SH.rooms (SH.all r) n.toNat) B cb gl cs ∧ Below w.heap.size w w')
theorem rooms_len (x : Rm) (n : Nat) : (SH.rooms x n).length = n := by simp [SH.rooms]
set_option maxHeartbeats 8000000 in
set_option maxRecDepth 100000 in
theorem snew_any (r : RC.Rc) (A : Option Addr) (c : Nat) (n : Int) (w : World) (hr : r.ok) (hA : Its w A r.list) (hn : r.list.length ≤ 100000) :
    Calls Tryz.prog 21 #[recV r A c, .int .i64 n] w (NwPost r n w) := by
  have HOk := Lib.hid hr
  have HL := Lib.hid hn
  have HC := Lib.hid (fun u (h : Below w.heap.size w u) => recCheck_any r A c u hr (hA.below h) (by unfold Lim; omega))
  have HSl := Lib.hid (fun u (h : Below w.heap.size w u) => sslice_any r A c u hr (hA.below h) (by unfold Lim; omega))
  have HJ := Lib.hid (fun u (h : Below w.heap.size w u) => sjoined_any r A c u (hA.below h) hn)
  have HAl := Lib.hid (fun (h : RC.chk r = 0) u => sall_any r A c u hr h)
  have HDl := Lib.hid (fun (h : RC.chk r = 0) (m : Nat) (hm : 1 ≤ m ∧ m ≤ 8) u => sdealOut_any (SH.all r) m u (SH.all_lt hr h).1 (SH.all_lt hr h).2 hm)
  clear hr hA hn
  have HP1 := Lib.hid (fun (h : n < 1 ∨ 8 < n) u (hb : Below w.heap.size w u) => show NwPost r n w (.returned (.tuple #[.pointer none, .int .i64 1])) u from .inl (by unfold SH.newE; rw [if_pos h]; exact ⟨by omega, rfl, hb⟩))
  have HP2 := Lib.hid (fun (h : ¬ (n < 1 ∨ 8 < n)) (h2 : RC.chk r ≠ 0) u (hb : Below w.heap.size w u) => show NwPost r n w (.returned (.tuple #[.pointer none, .int .i64 (RC.chk r : Nat)])) u from .inl (by unfold SH.newE; rw [if_neg h, if_pos h2]; exact ⟨h2, rfl, hb⟩))
  have HP3 := Lib.hid (fun (h : ¬ (n < 1 ∨ 8 < n)) (h2 : RC.chk r = 0) (h3 : (SH.slice r).2 = false) u (hb : Below w.heap.size w u) => show NwPost r n w (.returned (.tuple #[.pointer none, .int .i64 5])) u from .inl (by unfold SH.newE; rw [if_neg h, if_neg (by omega), if_pos h3]; exact ⟨by omega, rfl, hb⟩))
  have HP4 := Lib.hid (fun (h : ¬ (n < 1 ∨ 8 < n)) (h2 : RC.chk r = 0) (h3 : (SH.slice r).2 = true) g B cb gl cs u (he : EscAt w.heap.size u g r.kind (SH.names r) (SH.rooms (SH.all r) n.toNat) B cb gl cs) (hb : Below w.heap.size w u) => show NwPost r n w (.returned (.tuple #[.pointer (some ⟨g, 0, none⟩), .int .i64 0])) u from .inr (by refine ⟨?_, g, B, cb, gl, cs, rfl, he, hb⟩; unfold SH.newE; rw [if_neg h, if_neg (by omega), h3]; rfl))
  generalize hPP : NwPost r n w = PP at *
  clear hPP
  go_enter Tryz.func21, Tryz.ntmps21
  go_upto_region 1 with fail
  generalize hw1 : World.alloc w _ = w1
  have HB := Lib.hid (show Below w.heap.size w w1 by rw [← hw1]; exact below1 w _)
  have E1 := Lib.hid (show w1.heap[w.heap.size]? = some (.cells (recC r.kind r.num r.low r.high r.real r.cap r.text (.slice A r.list.length c)) 25 (0, 0)) by rw [← hw1]; exact heap_alloc_new w _)
  clear hw1
  by_cases h1 : n < 1
  · have HQ := Lib.hid (HP1.out (.inl h1) w1 HB.out)
    go_wp2_with fail
    exact HQ.out
  by_cases h8 : 8 < n
  · have HQ := Lib.hid (HP1.out (.inr h8) w1 HB.out)
    go_wp2_with fail
    exact HQ.out
  have hnn : ¬ (n < 1 ∨ 8 < n) := by omega
  obtain ⟨m, rfl⟩ : ∃ m : Nat, n = (m : Int) := ⟨n.toNat, by omega⟩
  have HM := Lib.hid (show 1 ≤ m ∧ m ≤ 8 by omega)
  have HNN := Lib.hid hnn
  clear hnn
  go_wp2_with (first
    | (refine wpList_load_row rfl _ _ rfl w.heap.size rfl 25 _ (0, 0) _ E1.out Tryz.underlying25 rfl rec_inf7 ?_))
  refine (HC.out _ HB.out).mono ?_
  rintro e w2 ⟨rfl, hb⟩
  have HB2 := Lib.hid (HB.out.trans (hb.mono HB.out.size))
  have E2 := Lib.hid ((hb.block _ (lt_of_heap E1.out)).trans E1.out)
  clear hb E1 HB
  rcases Nat.eq_zero_or_pos (RC.chk r) with h0 | h0
  rotate_left
  · have hne : ((RC.chk r : Int) != 0) = true := by simp; omega
    have HQ := Lib.hid (HP2.out HNN.out (by omega) w2 HB2.out)
    generalize RC.chk r = ck at *
    go_wp2_with fail
    exact HQ.out
  have H0 := Lib.hid h0
  rw [h0]
  clear h0
  go_wp2_with (first
    | (refine wpList_load_row rfl _ _ rfl w.heap.size rfl 25 _ (0, 0) _ E2.out Tryz.underlying25 rfl rec_inf7 ?_))
  refine (HSl.out _ HB2.out).mono ?_
  generalize hsl : SH.slice r = sl at *
  obtain ⟨sr, sb⟩ := sl
  rintro e w3 ⟨rfl, hb⟩
  have HB3 := Lib.hid (HB2.out.trans (hb.mono HB2.out.size))
  have E3 := Lib.hid ((hb.block _ (lt_of_heap E2.out)).trans E2.out)
  clear hb E2 HB2 hsl
  go_upto_region 7 with (first
    | (refine wpList_store_row rfl _ _ _ rfl _ (recC sr.kind sr.num sr.low sr.high sr.real sr.cap sr.text (.slice none sr.list.length 0)) rfl rfl 25 _ (heap_alloc_new _ _) rec_inf7 rfl (by kernel_rfl) ?_))
  rw [World.setRow_alloc_new]
  generalize hw4 : World.alloc w3 _ = w4
  have hb4 : Below w3.heap.size w3 w4 := by rw [← hw4]; exact below1 w3 _
  have HB4 := Lib.hid (HB3.out.trans (hb4.mono HB3.out.size))
  have E4 := Lib.hid ((hb4.block _ (lt_of_heap E3.out)).trans E3.out)
  clear hw4 hb4 E3 HB3
  cases sb
  · have HQ := Lib.hid (HP3.out HNN.out H0.out rfl w4 HB4.out)
    go_wp2_with fail
    exact HQ.out
  have HFin := Lib.hid (fun g B cb gl cs u => HP4.out HNN.out H0.out rfl g B cb gl cs u)
  have p0 := cell_of_row w4 _ 0 _ _ (0, 0) E4.out
  have p1 := cell_of_row w4 _ 1 _ _ (0, 0) E4.out
  have p2 := cell_of_row w4 _ 2 _ _ (0, 0) E4.out
  have p3 := cell_of_row w4 _ 3 _ _ (0, 0) E4.out
  have p4 := cell_of_row w4 _ 4 _ _ (0, 0) E4.out
  have p5 := cell_of_row w4 _ 5 _ _ (0, 0) E4.out
  have p6 := cell_of_row w4 _ 6 _ _ (0, 0) E4.out
  have p7 := cell_of_row w4 _ 7 _ _ (0, 0) E4.out

  go_upto_region 9 with fail
  refine wp_region_held_drew (S := fun W => Below w4.heap.size w4 W) (by kernel_rfl) (below_drew (Below.refl _ _)) (fun hHeld => ?_)
  refine wpAnyH_take (i := 0) (oi := ⟨_, _, _, _, _, _⟩) (v := ?_) rfl (by kernel_rfl) (by kernel_rfl) (by kernel_rfl) (fun _ _ _ h => h) (Or.inl ⟨by kernel_rfl, ?_⟩) hHeld ?_
  rotate_left 1
  · intro W hW; first | (go_simp; done) | (go_simp; with_reducible rfl)
  try simp only [Act.put, List.setIfInBounds_toArray, List.set_cons_zero, List.set_cons_succ]
  refine wpAnyH_take (i := 1) (oi := ⟨_, _, _, _, _, _⟩) (v := ?_) rfl (by kernel_rfl) (by kernel_rfl) (by kernel_rfl) (fun _ _ _ h => h) (Or.inl ⟨by kernel_rfl, ?_⟩) hHeld ?_
  rotate_left 1
  · intro W hW; have k0 := below_keep hW p0; first | (go_simp; done) | (go_simp; with_reducible rfl)
  try simp only [Act.put, List.setIfInBounds_toArray, List.set_cons_zero, List.set_cons_succ]
  refine wpAnyH_take (i := 2) (oi := ⟨_, _, _, _, _, _⟩) (v := ?_) rfl (by kernel_rfl) (by kernel_rfl) (by kernel_rfl) (fun _ _ _ h => h) (Or.inl ⟨by kernel_rfl, ?_⟩) hHeld ?_
  rotate_left 1
  · intro W hW; have k0 := below_keep hW p0; have k1 := below_keep hW p1; have k2 := below_keep hW p2; have k3 := below_keep hW p3; have k4 := below_keep hW p4; have k5 := below_keep hW p5; have k6 := below_keep hW p6; have k7 := below_keep hW p7; first | (go_simp; done) | (go_simp; with_reducible rfl)
  try simp only [Act.put, List.setIfInBounds_toArray, List.set_cons_zero, List.set_cons_succ]
  refine wpAnyH_take (i := 4) (oi := ⟨_, _, _, _, _, _⟩) (v := ?_) rfl (by kernel_rfl) (by kernel_rfl) (by kernel_rfl) (fun _ _ _ h => h) (Or.inl ⟨by kernel_rfl, ?_⟩) hHeld ?_
  rotate_left 1
  · intro W hW; have k0 := below_keep hW p0; have k1 := below_keep hW p1; have k2 := below_keep hW p2; have k3 := below_keep hW p3; have k4 := below_keep hW p4; have k5 := below_keep hW p5; have k6 := below_keep hW p6; have k7 := below_keep hW p7; first | (go_simp; done) | (go_simp; with_reducible rfl)
  try simp only [Act.put, List.setIfInBounds_toArray, List.set_cons_zero, List.set_cons_succ]
  refine wpAnyH_take (i := 6) (oi := ⟨_, _, _, _, _, _⟩) (v := ?_) rfl (by kernel_rfl) (by kernel_rfl) (by kernel_rfl) (fun _ _ _ h => h) (Or.inl ⟨by kernel_rfl, ?_⟩) hHeld ?_
  rotate_left 1
  · intro W hW; first | (go_simp; done) | (go_simp; with_reducible rfl)
  try simp only [Act.put, List.setIfInBounds_toArray, List.set_cons_zero, List.set_cons_succ]
  refine wpAnyH_ready (rs := [3]) (by kernel_rfl) (by simp) ?_
  refine AllReadyH.cons rfl (fun K hK => ?_) AllReadyH.nil
  go_simp
  refine (HJ.out _ (HB4.out.trans (hHeld.mono HB4.out.size))).mono ?_
  rintro e v1 ⟨B, cb, rfl, hown, hnew, hbx⟩
  have HN1 := Lib.hid hown
  have HW1 := Lib.hid (show (∀ k, ob B = some k → w.heap.size ≤ k) ∧ (∀ k, ob B = some k → k < v1.heap.size) ∧ w.heap.size ≤ v1.heap.size from ⟨fun k e => by have h1 := hnew k e; have h2 := HB4.out.size; have h3 := (hHeld).size; omega, fun k e => in_row hown k e, by have h1 := hbx.size; have h2 := HB4.out.size; have h3 := (hHeld).size; omega⟩)
  clear hown hnew
  go_wp2_with fail
  refine hK.out _ _ ?_ (fun hHelda => ?_)
  · exact hHeld.trans (hbx.mono hHeld.size)
  clear hK K
  try simp only [Act.put, List.setIfInBounds_toArray, List.set_cons_zero, List.set_cons_succ]
  clear hbx
  refine wpAnyH_ready (rs := [5]) (by kernel_rfl) (by simp) ?_
  refine AllReadyH.cons rfl (fun K hK => ?_) AllReadyH.nil
  go_simp
  refine (HAl.out H0.out _).mono ?_
  rintro e v2 ⟨rfl, hbx⟩
  have HN2 := Lib.hid (own_below HN1.out hbx)
  have HW2 := Lib.hid (show v1.heap.size ≤ v2.heap.size from hbx.size)
  go_wp2_with fail
  refine hK.out _ _ ?_ (fun hHeldaa => ?_)
  · exact hHelda.trans (hbx.mono hHelda.size)
  clear hK K
  try simp only [Act.put, List.setIfInBounds_toArray, List.set_cons_zero, List.set_cons_succ]
  clear hbx
  refine wpAnyH_ready (rs := [7]) (by kernel_rfl) (by simp) ?_
  refine AllReadyH.cons rfl (fun K hK => ?_) AllReadyH.nil
  go_simp
  refine (HDl.out H0.out m HM.out _).mono ?_
  rintro e v3 ⟨gl, cs, rfl, hrow, hdl, hge, hbx⟩
  have HN3 := Lib.hid (own_below HN2.out hbx)
  have HR3 := Lib.hid hrow
  have HD3 := Lib.hid hdl.rms
  have HG3 := Lib.hid (show v2.heap.size ≤ gl ∧ gl < v3.heap.size from ⟨hge, lt_of_heap hrow⟩)
  clear hrow hdl hge
  go_wp2_with fail
  refine hK.out _ _ ?_ (fun hHeldaaa => ?_)
  · exact hHeldaa.trans (hbx.mono hHeldaa.size)
  clear hK K
  try simp only [Act.put, List.setIfInBounds_toArray, List.set_cons_zero, List.set_cons_succ]
  clear hbx
  refine wpAnyH_take (i := 8) (oi := ⟨_, _, _, _, _, _⟩) (v := ?_) rfl (by kernel_rfl) (by kernel_rfl) (by kernel_rfl) (fun _ _ _ h => h) (Or.inl ⟨by kernel_rfl, ?_⟩) hHeldaaa ?_
  rotate_left 1
  · intro W hW; first | (go_simp; done) | (go_simp; with_reducible rfl)
  try simp only [Act.put, List.setIfInBounds_toArray, List.set_cons_zero, List.set_cons_succ]
  refine wpAnyH_ready (rs := [9]) (by kernel_rfl) (by simp) ?_
  refine AllReadyH.cons rfl (fun K hK => ?_) AllReadyH.nil
  go_simp
  generalize hwx : World.alloc v3 _ = v4
  have hbx : Below v3.heap.size v3 v4 := by rw [← hwx]; exact below1 v3 _
  have hE : EscAt w.heap.size v4 v3.heap.size r.kind (SH.names r) (SH.rooms (SH.all r) ((m : Int)).toNat) B cb gl cs := by
    have a1 := HW1.out
    have a2 := HW2.out
    have a3 := HG3.out
    have a4 := HB4.out.size
    have a5 := (hHeldaaa).size
    refine ⟨?_, own_below HN3.out hbx, (hbx.block _ a3.2).trans HR3.out, by rw [Int.toNat_natCast]; exact HD3.out, ⟨by omega, fun e => by have := a1.2.1 _ e; omega, fun e => by have := a1.2.1 _ e; omega⟩, ⟨by omega, by have := a1; omega, a1.1⟩⟩
    rw [← hwx, rooms_len, Int.toNat_natCast]
    exact heap_alloc_new v3 _
  have HE := Lib.hid hE
  clear hwx hE
  refine hK.out _ _ ?_ (fun hHeldaaaa => ?_)
  · exact hHeldaaa.trans (hbx.mono hHeldaaa.size)
  clear hK K
  try simp only [Act.put, List.setIfInBounds_toArray, List.set_cons_zero, List.set_cons_succ]
  clear hbx
  refine wpAnyH_take (i := 10) (oi := ⟨_, _, _, _, _, _⟩) (v := ?_) rfl (by kernel_rfl) (by kernel_rfl) (by kernel_rfl) (fun _ _ _ h => h) (Or.inl ⟨by kernel_rfl, ?_⟩) hHeldaaaa ?_
  rotate_left 1
  · intro W hW; first | (go_simp; done) | (go_simp; with_reducible rfl)
  try simp only [Act.put, List.setIfInBounds_toArray, List.set_cons_zero, List.set_cons_succ]
  refine wpAnyH_take (i := 11) (oi := ⟨_, _, _, _, _, _⟩) (v := ?_) rfl (by kernel_rfl) (by kernel_rfl) (by kernel_rfl) (fun _ _ _ h => h) (Or.inl ⟨by kernel_rfl, ?_⟩) hHeldaaaa ?_
  rotate_left 1
  · intro W hW; first | (go_simp; done) | (go_simp; with_reducible rfl)
  try simp only [Act.put, List.setIfInBounds_toArray, List.set_cons_zero, List.set_cons_succ]
  refine wpAnyH_done (by kernel_rfl) ?_ _
  have HQ := Lib.hid (HFin.out _ _ _ _ _ _ HE.out (HB4.out.trans (hHeldaaaa.mono HB4.out.size)))
  go_wp2_with fail
  exact HQ.out
end Go.Proofs.YtbkcmnmbcldjoaaGreatDoor

namespace Go.Proofs.YtbkcmnmbcldjoaaGreatDoor
open Go.RowKit MM
set_option linter.unusedVariables false
set_option linter.unusedSimpArgs false
set_option maxHeartbeats 4000000 in
theorem shas_any (g gl n : Nat) (k kind : Int) (V : Value) (w : World) (hR : w.heap[g]? = some (.cells #[.int .i64 kind, V, .slice (some ⟨gl, 0, none⟩) n n] 107 (0, 0))) :
    Calls Tryz.prog 60 #[.pointer (some ⟨g, 0, none⟩), .int .i64 k] w fun e w' => e = .returned (.bool (decide (0 ≤ k ∧ k < (n : Int)))) ∧ w = w' := by
  have c2 : w.cell? ⟨g, 2, none⟩ = some (.slice (some ⟨gl, 0, none⟩) n n) := cell_of_row w _ 2 _ _ (0, 0) hR
  clear hR
  go_enter Tryz.func60, Tryz.ntmps60
  by_cases h0 : 0 ≤ k
  · by_cases h1 : k < (n : Int)
    · have HV := Lib.hid (show decide (0 ≤ k ∧ k < (n : Int)) = true from decide_eq_true ⟨h0, h1⟩)
      rw [HV.out]
      go_wp2_with fail
      go_ret
      exact ⟨rfl, rfl⟩
    · have HV := Lib.hid (show decide (0 ≤ k ∧ k < (n : Int)) = false from decide_eq_false (fun h => h1 h.2))
      rw [HV.out]
      go_wp2_with fail
      go_ret
      exact ⟨rfl, rfl⟩
  · have HV := Lib.hid (show decide (0 ≤ k ∧ k < (n : Int)) = false from decide_eq_false (fun h => h0 h.1))
    rw [HV.out]
    go_wp2_with fail
    go_ret
    exact ⟨rfl, rfl⟩
/-- What a worker may still do. -/
def SH.left (l : List Rm) (k : Int) : Rm := if 0 ≤ k ∧ k < (l.length : Int) then (l[k.toNat]?).getD ⟨0, 0⟩ else ⟨0, 0⟩
set_option maxHeartbeats 8000000 in
set_option maxRecDepth 100000 in
theorem sleft_any (g gl : Nat) (k kind : Int) (V : Value) (l : List Rm) (cs : Array Value) (w : World) (hR : w.heap[g]? = some (.cells #[.int .i64 kind, V, .slice (some ⟨gl, 0, none⟩) l.length l.length] 107 (0, 0))) (hl : w.heap[gl]? = some (.cells cs 104 (0, 0))) (hc : RmsAt cs l) :
    Calls Tryz.prog 24 #[.pointer (some ⟨g, 0, none⟩), .int .i64 k] w fun e w' => e = .returned (.tuple #[.int .u64 (SH.left l k).up, .int .u64 (SH.left l k).down]) ∧ Below w.heap.size w w' := by
  have HH := Lib.hid (shas_any g gl l.length k kind V w hR)
  have HV := Lib.hid (show SH.left l k = if 0 ≤ k ∧ k < (l.length : Int) then (l[k.toNat]?).getD ⟨0, 0⟩ else ⟨0, 0⟩ from rfl)
  generalize SH.left l k = v at *
  go_enter Tryz.func24, Tryz.ntmps24
  go_wp2_with fail
  refine HH.out.mono ?_
  rintro e w1 ⟨rfl, rfl⟩
  by_cases hk : 0 ≤ k ∧ k < (l.length : Int)
  case neg =>
    have HW := Lib.hid (show v = ⟨0, 0⟩ by rw [HV.out, if_neg hk])
    rw [decide_eq_false hk]
    clear hk
    go_wp2_with fail
    rw [HW.out]
    exact bodyPost_ret (v := .tuple #[.int .u64 0, .int .u64 0]) (by simp [results, Tryz.results24, go_sem]) rfl ⟨rfl, Below.refl _ _⟩
  obtain ⟨i, rfl⟩ : ∃ i : Nat, k = (i : Int) := ⟨k.toNat, by omega⟩
  have hi : i < l.length := by omega
  have HW := Lib.hid (show v = l[i] by rw [HV.out, if_pos hk, Int.toNat_natCast, List.getElem?_eq_getElem hi]; rfl)
  rw [decide_eq_true hk]
  obtain ⟨x, hx⟩ : ∃ x, x = l[i] := ⟨_, rfl⟩
  have hcx := hc.2 i x (by rw [hx]; exact List.getElem?_eq_getElem hi)
  rw [← hx] at HW
  have hi1 : (i : Int) < (l.length : Int) := by omega
  have c2 : w.cell? ⟨g, 2, none⟩ = some (.slice (some ⟨gl, 0, none⟩) l.length l.length) := cell_of_row w _ 2 _ _ (0, 0) hR
  have u0 : w.cell? ⟨gl, i * 2, none⟩ = some (.int .u64 x.up) := by rw [cell_of_row w _ _ _ _ (0, 0) hl]; exact hcx.1
  have u1 : w.cell? ⟨gl, i * 2 + 1, none⟩ = some (.int .u64 x.down) := by rw [cell_of_row w _ _ _ _ (0, 0) hl]; exact hcx.2
  clear hcx hx hi hk hR hl hc
  go_upto_region 3 with fail
  refine wp_region_held_drew (S := fun W => Below w.heap.size w W) (by kernel_rfl) (below_drew (Below.refl _ _)) (fun hHeld => ?_)
  refine wpAnyH_take (i := 0) (oi := ⟨_, _, _, _, _, _⟩) (v := ?_) rfl (by kernel_rfl) (by kernel_rfl) (by kernel_rfl) (fun _ _ _ h => h) (Or.inl ⟨by kernel_rfl, ?_⟩) hHeld ?_
  rotate_left 1
  · intro W hW; first | (go_simp; done) | (go_simp; with_reducible rfl)
  try simp only [Act.put, List.setIfInBounds_toArray, List.set_cons_zero, List.set_cons_succ]
  refine wpAnyH_take (i := 1) (oi := ⟨_, _, _, _, _, _⟩) (v := ?_) rfl (by kernel_rfl) (by kernel_rfl) (by kernel_rfl) (fun _ _ _ h => h) (Or.inl ⟨by kernel_rfl, ?_⟩) hHeld ?_
  rotate_left 1
  · intro W hW; first | (go_simp; done) | (go_simp; with_reducible rfl)
  try simp only [Act.put, List.setIfInBounds_toArray, List.set_cons_zero, List.set_cons_succ]
  refine wpAnyH_take (i := 2) (oi := ⟨_, _, _, _, _, _⟩) (v := ?_) rfl (by kernel_rfl) (by kernel_rfl) (by kernel_rfl) (fun _ _ _ h => h) (Or.inl ⟨by kernel_rfl, ?_⟩) hHeld ?_
  rotate_left 1
  · intro W hW; first | (go_simp; done) | (go_simp; with_reducible rfl)
  try simp only [Act.put, List.setIfInBounds_toArray, List.set_cons_zero, List.set_cons_succ]
  refine wpAnyH_take (i := 3) (oi := ⟨_, _, _, _, _, _⟩) (v := ?_) rfl (by kernel_rfl) (by kernel_rfl) (by kernel_rfl) (fun _ _ _ h => h) (Or.inl ⟨by kernel_rfl, ?_⟩) hHeld ?_
  rotate_left 1
  · intro W hW; have k0 := below_keep hW c2; first | (go_simp; done) | (go_simp; with_reducible rfl)
  try simp only [Act.put, List.setIfInBounds_toArray, List.set_cons_zero, List.set_cons_succ]
  refine wpAnyH_take (i := 4) (oi := ⟨_, _, _, _, _, _⟩) (v := ?_) rfl (by kernel_rfl) (by kernel_rfl) (by kernel_rfl) (fun _ _ _ h => h) (Or.inl ⟨by kernel_rfl, ?_⟩) hHeld ?_
  rotate_left 1
  · intro W hW; first | (go_simp; done) | (go_simp; with_reducible rfl)
  try simp only [Act.put, List.setIfInBounds_toArray, List.set_cons_zero, List.set_cons_succ]
  refine wpAnyH_take (i := 5) (oi := ⟨_, _, _, _, _, _⟩) (v := ?_) rfl (by kernel_rfl) (by kernel_rfl) (by kernel_rfl) (fun _ _ _ h => h) (Or.inl ⟨by kernel_rfl, ?_⟩) hHeld ?_
  rotate_left 1
  · intro W hW; first | (go_simp; done) | (go_simp; with_reducible rfl)
  try simp only [Act.put, List.setIfInBounds_toArray, List.set_cons_zero, List.set_cons_succ]
  refine wpAnyH_take (i := 6) (oi := ⟨_, _, _, _, _, _⟩) (v := ?_) rfl (by kernel_rfl) (by kernel_rfl) (by kernel_rfl) (fun _ _ _ h => h) (Or.inl ⟨by kernel_rfl, ?_⟩) hHeld ?_
  rotate_left 1
  · intro W hW; first | (go_simp; done) | (go_simp; with_reducible rfl)
  try simp only [Act.put, List.setIfInBounds_toArray, List.set_cons_zero, List.set_cons_succ]
  refine wpAnyH_take (i := 7) (oi := ⟨_, _, _, _, _, _⟩) (v := ?_) rfl (by kernel_rfl) (by kernel_rfl) (by kernel_rfl) (fun _ _ _ h => h) (Or.inl ⟨by kernel_rfl, ?_⟩) hHeld ?_
  rotate_left 1
  · intro W hW; have k0 := below_keep hW u0; first | (go_simp; done) | (go_simp; with_reducible rfl)
  try simp only [Act.put, List.setIfInBounds_toArray, List.set_cons_zero, List.set_cons_succ]
  refine wpAnyH_take (i := 8) (oi := ⟨_, _, _, _, _, _⟩) (v := ?_) rfl (by kernel_rfl) (by kernel_rfl) (by kernel_rfl) (fun _ _ _ h => h) (Or.inl ⟨by kernel_rfl, ?_⟩) hHeld ?_
  rotate_left 1
  · intro W hW; first | (go_simp; done) | (go_simp; with_reducible rfl)
  try simp only [Act.put, List.setIfInBounds_toArray, List.set_cons_zero, List.set_cons_succ]
  refine wpAnyH_take (i := 9) (oi := ⟨_, _, _, _, _, _⟩) (v := ?_) rfl (by kernel_rfl) (by kernel_rfl) (by kernel_rfl) (fun _ _ _ h => h) (Or.inl ⟨by kernel_rfl, ?_⟩) hHeld ?_
  rotate_left 1
  · intro W hW; first | (go_simp; done) | (go_simp; with_reducible rfl)
  try simp only [Act.put, List.setIfInBounds_toArray, List.set_cons_zero, List.set_cons_succ]
  refine wpAnyH_take (i := 10) (oi := ⟨_, _, _, _, _, _⟩) (v := ?_) rfl (by kernel_rfl) (by kernel_rfl) (by kernel_rfl) (fun _ _ _ h => h) (Or.inl ⟨by kernel_rfl, ?_⟩) hHeld ?_
  rotate_left 1
  · intro W hW; first | (go_simp; done) | (go_simp; with_reducible rfl)
  try simp only [Act.put, List.setIfInBounds_toArray, List.set_cons_zero, List.set_cons_succ]
  refine wpAnyH_take (i := 11) (oi := ⟨_, _, _, _, _, _⟩) (v := ?_) rfl (by kernel_rfl) (by kernel_rfl) (by kernel_rfl) (fun _ _ _ h => h) (Or.inl ⟨by kernel_rfl, ?_⟩) hHeld ?_
  rotate_left 1
  · intro W hW; have k0 := below_keep hW c2; first | (go_simp; done) | (go_simp; with_reducible rfl)
  try simp only [Act.put, List.setIfInBounds_toArray, List.set_cons_zero, List.set_cons_succ]
  refine wpAnyH_take (i := 12) (oi := ⟨_, _, _, _, _, _⟩) (v := ?_) rfl (by kernel_rfl) (by kernel_rfl) (by kernel_rfl) (fun _ _ _ h => h) (Or.inl ⟨by kernel_rfl, ?_⟩) hHeld ?_
  rotate_left 1
  · intro W hW; first | (go_simp; done) | (go_simp; with_reducible rfl)
  try simp only [Act.put, List.setIfInBounds_toArray, List.set_cons_zero, List.set_cons_succ]
  refine wpAnyH_take (i := 13) (oi := ⟨_, _, _, _, _, _⟩) (v := ?_) rfl (by kernel_rfl) (by kernel_rfl) (by kernel_rfl) (fun _ _ _ h => h) (Or.inl ⟨by kernel_rfl, ?_⟩) hHeld ?_
  rotate_left 1
  · intro W hW; first | (go_simp; done) | (go_simp; with_reducible rfl)
  try simp only [Act.put, List.setIfInBounds_toArray, List.set_cons_zero, List.set_cons_succ]
  refine wpAnyH_take (i := 14) (oi := ⟨_, _, _, _, _, _⟩) (v := ?_) rfl (by kernel_rfl) (by kernel_rfl) (by kernel_rfl) (fun _ _ _ h => h) (Or.inl ⟨by kernel_rfl, ?_⟩) hHeld ?_
  rotate_left 1
  · intro W hW; first | (go_simp; done) | (go_simp; with_reducible rfl)
  try simp only [Act.put, List.setIfInBounds_toArray, List.set_cons_zero, List.set_cons_succ]
  refine wpAnyH_take (i := 15) (oi := ⟨_, _, _, _, _, _⟩) (v := ?_) rfl (by kernel_rfl) (by kernel_rfl) (by kernel_rfl) (fun _ _ _ h => h) (Or.inl ⟨by kernel_rfl, ?_⟩) hHeld ?_
  rotate_left 1
  · intro W hW; have k0 := below_keep hW u1; first | (go_simp; done) | (go_simp; with_reducible rfl)
  try simp only [Act.put, List.setIfInBounds_toArray, List.set_cons_zero, List.set_cons_succ]
  refine wpAnyH_take (i := 16) (oi := ⟨_, _, _, _, _, _⟩) (v := ?_) rfl (by kernel_rfl) (by kernel_rfl) (by kernel_rfl) (fun _ _ _ h => h) (Or.inl ⟨by kernel_rfl, ?_⟩) hHeld ?_
  rotate_left 1
  · intro W hW; first | (go_simp; done) | (go_simp; with_reducible rfl)
  try simp only [Act.put, List.setIfInBounds_toArray, List.set_cons_zero, List.set_cons_succ]
  refine wpAnyH_take (i := 17) (oi := ⟨_, _, _, _, _, _⟩) (v := ?_) rfl (by kernel_rfl) (by kernel_rfl) (by kernel_rfl) (fun _ _ _ h => h) (Or.inl ⟨by kernel_rfl, ?_⟩) hHeld ?_
  rotate_left 1
  · intro W hW; first | (go_simp; done) | (go_simp; with_reducible rfl)
  try simp only [Act.put, List.setIfInBounds_toArray, List.set_cons_zero, List.set_cons_succ]
  refine wpAnyH_done (by kernel_rfl) ?_ _
  have HB := Lib.hid hHeld
  go_wp2_with fail
  rw [HW.out]
  exact bodyPost_ret (v := .tuple #[.int .u64 x.up, .int .u64 x.down]) (by simp [results, Tryz.results24, go_sem]) rfl ⟨rfl, HB.out⟩
end Go.Proofs.YtbkcmnmbcldjoaaGreatDoor
