/- Layer 7's statements' own head: a purse of two workers. -/
import Derived.Test.YtbkcmnmbcldjoaaGreatDoorSh3P7d
import Derived.Test.YtbkcmnmbcldjoaaGreatDoorSh5P7d
import Derived.Test.YtbkcmnmbcldjoaaGreatDoorShYP7d
namespace Go.Proofs.YtbkcmnmbcldjoaaGreatDoor
open Go.RowKit MM
set_option linter.unusedVariables false
set_option linter.unusedSimpArgs false
def sp7R : RC.Rc := ⟨4, 5, 0, 10, 0, 0, ⟨#[]⟩, []⟩
def sp7A : AC.Ac := ⟨10, SH.sA, 3, 0, ⟨#[]⟩, RC.zero, false⟩
def sp7L : List Rm := [⟨3, 3⟩, ⟨2, 2⟩]
theorem sp7_new : SH.newE sp7R 2 = 0 := by decide +kernel
theorem sp7_names : SH.names sp7R = [] := rfl
theorem sp7_rooms : SH.rooms (SH.all sp7R) ((2 : Int)).toNat = sp7L := by kernel_rfl
theorem sp7_slice : SH.slice sp7R = (⟨2, 0, 0, 0, 0, 0, ⟨#[]⟩, []⟩, true) := by kernel_rfl
theorem sp7_draw1 : SH.drawE 4 [] sp7L 1 [sp7A] = 9 := by decide +kernel
theorem sp7_draw1r : SH.drawR 4 [] sp7L 1 [sp7A] = sp7L := by kernel_rfl
theorem sp7_draw0 : SH.drawE 4 [] sp7L 0 [sp7A] = 0 := by decide +kernel
def sp7S : RC.Rc := ⟨2, 0, 0, 0, 0, 0, ⟨#[]⟩, []⟩
def sp7D : RC.Rc := ⟨2, 3, 0, 0, 0, 0, ⟨#[]⟩, []⟩
def sp7M : RC.Rc := ⟨4, 8, 0, 10, 0, 0, ⟨#[]⟩, []⟩
theorem sp7_do : SH.do_ sp7S sp7A = sp7D := by kernel_rfl
theorem sp7_merge : SH.merge sp7R [sp7D] = sp7M := by kernel_rfl
theorem recs_one {w : World} {r : RC.Rc} {A : Option Addr} {c : Nat} (t : TypeId) (h : RecIn w r A c) : RecsIn (w.alloc (.cells (recC r.kind r.num r.low r.high r.real r.cap r.text (.slice A r.list.length c)) t)) (some ⟨w.heap.size, 0, none⟩) [⟨r, A, c⟩] := by
  refine ⟨.inr ⟨w.heap.size, 0, rfl, by simp, fun i x hi j v hv => ?_⟩, fun x hx => ?_, by unfold maxLen; simp⟩
  · have hi0 : i = 0 := by
      rcases Nat.eq_zero_or_pos i with h0 | h0
      · exact h0
      · rw [List.getElem?_eq_none (by simp; omega)] at hi; cases hi
    subst hi0
    simp at hi
    subst hi
    rw [show 0 + 0 * 8 + j = j by omega, cell_of_row _ _ j _ _ (0, 0) (heap_alloc_new w _)]
    exact hv
  · simp at hx
    subst hx
    exact ⟨h.ok, h.its.below (below1 w _), h.len, h.text, h.names⟩
theorem sp7_splits : SH.splits 4 10 = true := by decide +kernel
theorem sp7R_ok : sp7R.ok := ⟨by decide, by decide, by decide, by decide, by unfold MF.W64; decide, by decide, fun x hx => by cases hx⟩
theorem sp7S_ok : sp7S.ok := ⟨by decide, by decide, by decide, by decide, by unfold MF.W64; decide, by decide, fun x hx => by cases hx⟩
theorem sp7D_in (w : World) (B : Option Addr) (d : Nat) : RecIn w sp7D B d := ⟨⟨by decide, by decide, by decide, by decide, by unfold MF.W64; decide, by decide, fun x hx => by cases hx⟩, .inl rfl, Nat.zero_le _, Nat.zero_le _, fun y hy => by cases hy⟩
theorem sp7A_in (w : World) : ActIn w sp7A none 0 := ⟨⟨show (Lit.int .i64 10).wf = true by decide, show (Lit.int .i64 3).wf = true by decide, show MF.W64 0 by unfold MF.W64; decide, RC.zero_ok⟩, ⟨RC.zero_ok, .inl rfl, Nat.zero_le _, Nat.zero_le _, fun y hy => by cases hy⟩, show SH.sA.size ≤ maxLen by unfold maxLen; decide, Nat.zero_le _⟩
set_option maxHeartbeats 16000000 in
set_option maxRecDepth 100000 in
theorem speaks7_any (w : World) (hR : RowsAt w) :
    Calls Tryz.prog 10 #[] w fun e w' => e = .returned (.bool true) ∧ Below w.heap.size w w' := by
  have HR := Lib.hid hR
  clear hR
  go_enter Tryz.func10, Tryz.ntmps10
  go_upto_region 2 with (first
    | (refine wpList_store_row rfl _ _ _ rfl _ (recC 4 5 0 10 0 0 ⟨#[]⟩ (.slice none 0 0)) rfl rfl 25 _ (heap_alloc_new _ _) rec_inf7 rfl (by kernel_rfl) ?_))
  rw [World.setRow_alloc_new]
  generalize hw1 : World.alloc w _ = w1
  have B1 := Lib.hid (show Below w.heap.size w w1 by rw [← hw1]; exact below1 w _)
  have R1 := Lib.hid (show w1.heap[w.heap.size]? = some (.cells (recC 4 5 0 10 0 0 ⟨#[]⟩ (.slice none 0 0)) 25 (0, 0)) by rw [← hw1]; exact heap_alloc_new w _)
  clear hw1
  go_wp2_with (first
    | (refine wpList_load_row rfl _ _ rfl w.heap.size rfl 25 _ (0, 0) _ R1.out Tryz.underlying25 rfl rec_inf7 ?_))
  refine (show Calls Tryz.prog 21 #[.agg (recC 4 5 0 10 0 0 ⟨#[]⟩ (.slice none 0 0)), .int .i64 2] w1 (NwPost sp7R 2 w1) from snew_any sp7R none 0 2 w1 sp7R_ok (.inl rfl) (Nat.zero_le _)).mono ?_
  rintro e w2 (⟨h0, _⟩ | ⟨_, g, B, cb, gl, cs, rfl, he, hb⟩)
  · exact absurd sp7_new h0
  rw [sp7_names, sp7_rooms] at he
  have HE := Lib.hid he
  have B2 := Lib.hid (B1.out.trans (hb.mono B1.out.size))
  have R2 := Lib.hid ((hb.block _ (lt_of_heap R1.out)).trans R1.out)
  have HS := Lib.hid (show w.heap.size < w1.heap.size from lt_of_heap R1.out)
  clear he hb R1 B1
  go_wp2_with fail
  refine (show Calls Tryz.prog 24 #[.pointer (some ⟨g, 0, none⟩), .int .i64 0] w2 (fun e w' => e = .returned (.tuple #[.int .u64 3, .int .u64 3]) ∧ Below w2.heap.size w2 w') from sleft_any g gl 0 4 _ sp7L cs w2 HE.out.box HE.out.row HE.out.rms).mono ?_
  rintro e w3 ⟨rfl, hb⟩
  have HE := Lib.hid (HE.out.keep hb)
  have B3 := Lib.hid (B2.out.trans (hb.mono B2.out.size))
  have R3 := Lib.hid ((hb.block _ (lt_of_heap R2.out)).trans R2.out)
  clear hb R2 B2
  go_wp2_with fail
  refine (show Calls Tryz.prog 24 #[.pointer (some ⟨g, 0, none⟩), .int .i64 1] w3 (fun e w' => e = .returned (.tuple #[.int .u64 2, .int .u64 2]) ∧ Below w3.heap.size w3 w') from sleft_any g gl 1 4 _ sp7L cs w3 HE.out.box HE.out.row HE.out.rms).mono ?_
  rintro e w4 ⟨rfl, hb⟩
  have HE := Lib.hid (HE.out.keep hb)
  have B4 := Lib.hid (B3.out.trans (hb.mono B3.out.size))
  have R4 := Lib.hid ((hb.block _ (lt_of_heap R3.out)).trans R3.out)
  clear hb R3 B3
  go_upto_region 10 with (first
    | (refine wpList_store_row rfl _ _ _ rfl _ (actC sp7A none 0) rfl rfl 37 _ (heap_alloc_new _ _) act_inf9 rfl (by kernel_rfl) ?_))
  rw [World.setRow_alloc_new]
  generalize hw5 : World.alloc w4 _ = w5
  have hb : Below w4.heap.size w4 w5 := by rw [← hw5]; exact below1 w4 _
  have A5 := Lib.hid (show w5.heap[w4.heap.size]? = some (.cells (actC sp7A none 0) 37 (0, 0)) by rw [← hw5]; exact heap_alloc_new w4 _)
  have HZ := Lib.hid (show g < w4.heap.size ∧ gl < w4.heap.size ∧ w.heap.size < w4.heap.size ∧ w.heap.size < gl ∧ g ≠ gl from ⟨lt_of_heap HE.out.box, lt_of_heap HE.out.row, lt_of_heap R4.out, by have := HE.out.new.2.1; have := HS.out; omega, HE.out.ne.1⟩)
  have HE := Lib.hid (HE.out.keep hb)
  have B5 := Lib.hid (B4.out.trans (hb.mono B4.out.size))
  have R5 := Lib.hid ((hb.block _ (lt_of_heap R4.out)).trans R4.out)
  generalize hg8 : w4.heap.size = g8 at *
  clear hb R4 B4 hw5 hg8
  go_wp2_with (first
    | (refine wpList_load_row rfl _ _ rfl w.heap.size rfl 25 _ (0, 0) _ R5.out Tryz.underlying25 rfl rec_inf7 ?_))
  refine (show Calls Tryz.prog 12 #[.agg (recC 4 5 0 10 0 0 ⟨#[]⟩ (.slice none 0 0))] w5 (fun e w' => e = .returned (.tuple #[recV ⟨2, 0, 0, 0, 0, 0, ⟨#[]⟩, []⟩ none 0, .bool true]) ∧ Below w5.heap.size w5 w') from by have h := sslice_any sp7R none 0 w5 sp7R_ok (.inl rfl) (by unfold Lim; decide); rw [sp7_slice] at h; exact h).mono ?_
  rintro e w6 ⟨rfl, hb⟩
  have HE := Lib.hid (HE.out.keep hb)
  have B6 := Lib.hid (B5.out.trans (hb.mono B5.out.size))
  have R6 := Lib.hid ((hb.block _ (lt_of_heap R5.out)).trans R5.out)
  have A6 := Lib.hid ((hb.block _ (lt_of_heap A5.out)).trans A5.out)
  clear hb R5 B5 A5
  go_upto_region 11 with (first
    | (refine wpList_store_row rfl _ _ _ rfl _ (recC 2 0 0 0 0 0 ⟨#[]⟩ (.slice none 0 0)) rfl rfl 25 _ (heap_alloc_new _ _) rec_inf7 rfl (by kernel_rfl) ?_))
  rw [World.setRow_alloc_new]
  generalize hw7 : World.alloc w6 _ = w7
  have hb : Below w6.heap.size w6 w7 := by rw [← hw7]; exact below1 w6 _
  have S7 := Lib.hid (show w7.heap[w6.heap.size]? = some (.cells (recC 2 0 0 0 0 0 ⟨#[]⟩ (.slice none 0 0)) 25 (0, 0)) by rw [← hw7]; exact heap_alloc_new w6 _)
  have HZ := Lib.hid (show g ≠ gl ∧ w.heap.size ≠ gl ∧ g8 ≠ gl ∧ w6.heap.size ≠ gl ∧ w.heap.size < gl from ⟨HZ.out.2.2.2.2, by have := HZ.out; omega, by have := HZ.out; omega, by have := lt_of_heap HE.out.row; omega, HZ.out.2.2.2.1⟩)
  have HE := Lib.hid (HE.out.keep hb)
  have B7 := Lib.hid (B6.out.trans (hb.mono B6.out.size))
  have R7 := Lib.hid (show w7.heap[w.heap.size]? = some (.cells (recC 4 5 0 10 0 0 ⟨#[]⟩ (.slice none 0 0)) 25 (0, 0)) from (hb.block _ (lt_of_heap R6.out)).trans R6.out)
  have A7 := Lib.hid (show w7.heap[g8]? = some (.cells (actC sp7A none 0) 37 (0, 0)) from (hb.block _ (lt_of_heap A6.out)).trans A6.out)
  have E7 := Lib.hid (show w7.heap[g]? = some (.cells #[.int .i64 4, .slice B 0 cb, .slice (some ⟨gl, 0, none⟩) 2 2] 107 (0, 0)) from HE.out.box)
  have X7 := Lib.hid (show w7.heap[gl]? = some (.cells cs 104 (0, 0)) from HE.out.row)
  have M7 := Lib.hid (show RmsAt cs sp7L from HE.out.rms)
  have BW := Lib.hid (fun u (hk : Kp (fun j => j = gl) w7 u) => show Below w.heap.size w u from B7.out.trans (hk.below B7.out.size (fun i hi x => by have := HZ.out; omega)))
  have HDr := Lib.hid (fun (k : Int) u p cs (hk : Kp (fun j => j = gl) w7 u) (hl : ActsIn u (some ⟨p, 0, none⟩) [⟨sp7A, none, 0⟩]) (hX : u.heap[gl]? = some (.cells cs 104 (0, 0))) (hM : RmsAt cs sp7L) => show Calls Tryz.prog 25 #[.pointer (some ⟨g, 0, none⟩), .int .i64 k, .slice (some ⟨p, 0, none⟩) 1 1] u (DrPost 4 [] sp7L k [sp7A] gl u) from
    sdraw_any g gl 4 [] B cb sp7L cs k [⟨sp7A, none, 0⟩] (some ⟨p, 0, none⟩) 1 u ((hk.block _ (lt_of_heap E7.out) HZ.out.1).trans E7.out) hX hM (fun x hx => by rcases List.mem_cons.1 hx with rfl | hx; exact ⟨by decide, by decide⟩; rcases List.mem_cons.1 hx with rfl | hx; exact ⟨by decide, by decide⟩; cases hx) (.inl rfl) (by simp) hl (by simp) (fun x hx => by rcases List.mem_cons.1 hx with rfl | hx; exact ⟨by unfold Lim; decide, by unfold Lim; decide, by unfold Lim; decide⟩; cases hx) (HR.out.below (BW.out u hk)) HZ.out.1)
  have HDr1 := Lib.hid (fun u p cs hk hl hX hM => show Calls Tryz.prog 25 #[.pointer (some ⟨g, 0, none⟩), .int .i64 1, .slice (some ⟨p, 0, none⟩) 1 1] u (fun e w' => e = .returned (.int .i64 9) ∧ (∃ cs, w'.heap[gl]? = some (.cells cs 104 (0, 0)) ∧ RmsAt cs sp7L) ∧ Kp (fun j => j = gl) u w') from (HDr.out 1 u p cs hk hl hX hM).mono fun e w' h => by
    obtain ⟨h1, h2, h3⟩ := h
    rw [sp7_draw1] at h1
    rw [sp7_draw1r] at h2
    exact ⟨h1, h2, h3⟩)
  have HDr0 := Lib.hid (fun u p cs hk hl hX hM => show Calls Tryz.prog 25 #[.pointer (some ⟨g, 0, none⟩), .int .i64 0, .slice (some ⟨p, 0, none⟩) 1 1] u (fun e w' => e = .returned (.int .i64 0) ∧ Kp (fun j => j = gl) u w') from (HDr.out 0 u p cs hk hl hX hM).mono fun e w' h => by
    obtain ⟨h1, h2, h3⟩ := h
    rw [sp7_draw0] at h1
    exact ⟨h1, h3⟩)
  have HDo := Lib.hid (fun u (hk : Kp (fun j => j = gl) w7 u) => show Calls Tryz.prog 18 #[.agg (recC 2 0 0 0 0 0 ⟨#[]⟩ (.slice none 0 0)), .agg (actC sp7A none 0)] u (DoS sp7D u) from by
    have h := sdo_any sp7S sp7A none none 0 0 u sp7S_ok (sp7A_in w).ok (HR.out.below (BW.out u hk)) (.inl rfl) (.inl rfl) (by unfold Lim; decide) (by unfold Lim; decide) (by unfold Lim; decide) (by unfold Lim; decide)
    rw [sp7_do] at h
    exact h)
  have HMe := Lib.hid (fun u p B d (hk : Kp (fun j => j = gl) w7 u) (hl : RecsIn u (some ⟨p, 0, none⟩) [⟨sp7D, B, d⟩]) => show Calls Tryz.prog 17 #[.agg (recC 4 5 0 10 0 0 ⟨#[]⟩ (.slice none 0 0)), .slice (some ⟨p, 0, none⟩) 1 1] u (DoS sp7M u) from by
    have h := smerge_any sp7R [⟨sp7D, B, d⟩] none (some ⟨p, 0, none⟩) 0 1 u sp7R_ok (.inl rfl) (by unfold Lim; decide) hl (by show 0 ≤ 1000; decide) (by simp) (fun x hx => by rcases List.mem_cons.1 hx with rfl | hx; exact Nat.zero_le _; cases hx) (fun a ha => by cases ha) (HR.out.below (BW.out u hk))
    rw [show SH.merge sp7R (([⟨sp7D, B, d⟩] : List Rl).map (·.r)) = sp7M from sp7_merge] at h
    exact h)
  have HSp := Lib.hid (fun u (hk : Kp (fun j => j = gl) w7 u) => show Calls Tryz.prog 14 #[.int .i64 4, .int .i64 10] u (fun e w' => e = .returned (.bool true) ∧ Below u.heap.size u w') from by
    have h := ssplits_any 4 10 u (HR.out.below (BW.out u hk))
    rw [sp7_splits] at h
    exact h)
  generalize hg9 : w6.heap.size = g9 at *
  have HAj := Lib.hid (fun o => cell_of_row w7 _ o _ _ (0, 0) A7.out)
  have a0 := cell_of_row w7 _ 0 _ _ (0, 0) A7.out
  have a1 := cell_of_row w7 _ 1 _ _ (0, 0) A7.out
  have a2 := cell_of_row w7 _ 2 _ _ (0, 0) A7.out
  have a3 := cell_of_row w7 _ 3 _ _ (0, 0) A7.out
  have a4 := cell_of_row w7 _ 4 _ _ (0, 0) A7.out
  have a5 := cell_of_row w7 _ 5 _ _ (0, 0) A7.out
  have a6 := cell_of_row w7 _ 6 _ _ (0, 0) A7.out
  have a7 := cell_of_row w7 _ 7 _ _ (0, 0) A7.out
  have a8 := cell_of_row w7 _ 8 _ _ (0, 0) A7.out
  have a9 := cell_of_row w7 _ 9 _ _ (0, 0) A7.out
  have a10 := cell_of_row w7 _ 10 _ _ (0, 0) A7.out
  have a11 := cell_of_row w7 _ 11 _ _ (0, 0) A7.out
  have a12 := cell_of_row w7 _ 12 _ _ (0, 0) A7.out
  have a13 := cell_of_row w7 _ 13 _ _ (0, 0) A7.out
  have r0 := cell_of_row w7 _ 0 _ _ (0, 0) R7.out
  have r1 := cell_of_row w7 _ 1 _ _ (0, 0) R7.out
  have r2 := cell_of_row w7 _ 2 _ _ (0, 0) R7.out
  have r3 := cell_of_row w7 _ 3 _ _ (0, 0) R7.out
  have r4 := cell_of_row w7 _ 4 _ _ (0, 0) R7.out
  have r5 := cell_of_row w7 _ 5 _ _ (0, 0) R7.out
  have r6 := cell_of_row w7 _ 6 _ _ (0, 0) R7.out
  have r7 := cell_of_row w7 _ 7 _ _ (0, 0) R7.out
  have s0 := cell_of_row w7 _ 0 _ _ (0, 0) S7.out
  have s1 := cell_of_row w7 _ 1 _ _ (0, 0) S7.out
  have s2 := cell_of_row w7 _ 2 _ _ (0, 0) S7.out
  have s3 := cell_of_row w7 _ 3 _ _ (0, 0) S7.out
  have s4 := cell_of_row w7 _ 4 _ _ (0, 0) S7.out
  have s5 := cell_of_row w7 _ 5 _ _ (0, 0) S7.out
  have s6 := cell_of_row w7 _ 6 _ _ (0, 0) S7.out
  have s7 := cell_of_row w7 _ 7 _ _ (0, 0) S7.out
  clear hb HE R6 A6 B6 hw7 hg9 HS HDr HAj E7 R7 A7 S7 B7
  refine wp_region_held_drew (S := fun W => Kp (fun j => j = gl) w7 W) (by kernel_rfl) (Kp.drew (Kp.refl _ _)) (fun hHeld => ?_)
  have X7 := Lib.hid (show (World.drew w7).heap[gl]? = some (.cells cs 104 (0, 0)) from X7.out)
  generalize World.drew w7 = v0 at *
  refine wpAnyH_take (i := 0) (oi := ⟨_, _, _, _, _, _⟩) (v := ?_) rfl (by kernel_rfl) (by kernel_rfl) (by kernel_rfl) (fun _ _ _ h => h) (Or.inl ⟨by kernel_rfl, ?_⟩) hHeld ?_
  rotate_left 1
  · intro W hW; first | (go_simp; done) | (go_simp; with_reducible rfl)
  try simp only [Act.put, List.setIfInBounds_toArray, List.set_cons_zero, List.set_cons_succ]
  refine wpAnyH_take (i := 1) (oi := ⟨_, _, _, _, _, _⟩) (v := ?_) rfl (by kernel_rfl) (by kernel_rfl) (by kernel_rfl) (fun _ _ _ h => h) (Or.inl ⟨by kernel_rfl, ?_⟩) hHeld ?_
  rotate_left 1
  · intro W hW; have k0 := kp_cellg (by have := HZ.out; omega) hW a0; have k1 := kp_cellg (by have := HZ.out; omega) hW a1; have k2 := kp_cellg (by have := HZ.out; omega) hW a2; have k3 := kp_cellg (by have := HZ.out; omega) hW a3; have k4 := kp_cellg (by have := HZ.out; omega) hW a4; have k5 := kp_cellg (by have := HZ.out; omega) hW a5; have k6 := kp_cellg (by have := HZ.out; omega) hW a6; have k7 := kp_cellg (by have := HZ.out; omega) hW a7; have k8 := kp_cellg (by have := HZ.out; omega) hW a8; have k9 := kp_cellg (by have := HZ.out; omega) hW a9; have k10 := kp_cellg (by have := HZ.out; omega) hW a10; have k11 := kp_cellg (by have := HZ.out; omega) hW a11; have k12 := kp_cellg (by have := HZ.out; omega) hW a12; have k13 := kp_cellg (by have := HZ.out; omega) hW a13; first | (go_simp; done) | (go_simp; with_reducible rfl)
  try simp only [Act.put, List.setIfInBounds_toArray, List.set_cons_zero, List.set_cons_succ]
  refine wpAnyH_ready (rs := [2]) (by kernel_rfl) (by simp) ?_
  refine AllReadyH.cons rfl (fun K hK => ?_) AllReadyH.nil
  go_simp
  generalize hwx : World.alloc v0 _ = v1
  have hkx : Kp (fun j => j = gl) v0 v1 := by rw [← hwx]; exact Kp.of_below (below1 v0 _) _
  have HL := Lib.hid (show ActsIn v1 (some ⟨v0.heap.size, 0, none⟩) [⟨sp7A, none, 0⟩] by rw [← hwx]; exact acts_one 37 (sp7A_in v0))
  have X1 := Lib.hid (show v1.heap[gl]? = some (.cells cs 104 (0, 0)) by rw [← hwx]; exact (heap_alloc_old v0 _ (lt_of_heap X7.out)).trans X7.out)
  clear hwx
  refine hK.out _ _ ?_ (fun hHelda => ?_)
  · exact hHeld.trans hkx (fun _ _ x => x)
  clear hK K
  try simp only [Act.put, List.setIfInBounds_toArray, List.set_cons_zero, List.set_cons_succ]
  clear hkx
  refine wpAnyH_ready (rs := [3]) (by kernel_rfl) (by simp) ?_
  refine AllReadyH.cons rfl (fun K hK => ?_) AllReadyH.nil
  go_simp
  refine (HDr1.out v1 v0.heap.size cs hHelda HL.out X1.out M7.out).mono ?_
  rintro e v2 ⟨rfl, ⟨cs2, hX, hM⟩, hkx⟩
  have X2 := Lib.hid hX
  have M2 := Lib.hid hM
  clear hX hM HL X1 X7 M7
  go_wp2_with fail
  refine hK.out _ _ ?_ (fun hHeldaa => ?_)
  · exact hHelda.trans hkx (fun _ _ x => x)
  clear hK K
  try simp only [Act.put, List.setIfInBounds_toArray, List.set_cons_zero, List.set_cons_succ]
  clear hkx
  refine wpAnyH_take (i := 4) (oi := ⟨_, _, _, _, _, _⟩) (v := ?_) rfl (by kernel_rfl) (by kernel_rfl) (by kernel_rfl) (fun _ _ _ h => h) (Or.inl ⟨by kernel_rfl, ?_⟩) hHeldaa ?_
  rotate_left 1
  · intro W hW; first | (go_simp; done) | (go_simp; with_reducible rfl)
  try simp only [Act.put, List.setIfInBounds_toArray, List.set_cons_zero, List.set_cons_succ]
  refine wpAnyH_take (i := 5) (oi := ⟨_, _, _, _, _, _⟩) (v := ?_) rfl (by kernel_rfl) (by kernel_rfl) (by kernel_rfl) (fun _ _ _ h => h) (Or.inl ⟨by kernel_rfl, ?_⟩) hHeldaa ?_
  rotate_left 1
  · intro W hW; first | (go_simp; done) | (go_simp; with_reducible rfl)
  try simp only [Act.put, List.setIfInBounds_toArray, List.set_cons_zero, List.set_cons_succ]
  refine wpAnyH_take (i := 6) (oi := ⟨_, _, _, _, _, _⟩) (v := ?_) rfl (by kernel_rfl) (by kernel_rfl) (by kernel_rfl) (fun _ _ _ h => h) (Or.inl ⟨by kernel_rfl, ?_⟩) hHeldaa ?_
  rotate_left 1
  · intro W hW; first | (go_simp; done) | (go_simp; with_reducible rfl)
  try simp only [Act.put, List.setIfInBounds_toArray, List.set_cons_zero, List.set_cons_succ]
  refine wpAnyH_take (i := 7) (oi := ⟨_, _, _, _, _, _⟩) (v := ?_) rfl (by kernel_rfl) (by kernel_rfl) (by kernel_rfl) (fun _ _ _ h => h) (Or.inl ⟨by kernel_rfl, ?_⟩) hHeldaa ?_
  rotate_left 1
  · intro W hW; have k0 := kp_cellg (by have := HZ.out; omega) hW a0; have k1 := kp_cellg (by have := HZ.out; omega) hW a1; have k2 := kp_cellg (by have := HZ.out; omega) hW a2; have k3 := kp_cellg (by have := HZ.out; omega) hW a3; have k4 := kp_cellg (by have := HZ.out; omega) hW a4; have k5 := kp_cellg (by have := HZ.out; omega) hW a5; have k6 := kp_cellg (by have := HZ.out; omega) hW a6; have k7 := kp_cellg (by have := HZ.out; omega) hW a7; have k8 := kp_cellg (by have := HZ.out; omega) hW a8; have k9 := kp_cellg (by have := HZ.out; omega) hW a9; have k10 := kp_cellg (by have := HZ.out; omega) hW a10; have k11 := kp_cellg (by have := HZ.out; omega) hW a11; have k12 := kp_cellg (by have := HZ.out; omega) hW a12; have k13 := kp_cellg (by have := HZ.out; omega) hW a13; first | (go_simp; done) | (go_simp; with_reducible rfl)
  try simp only [Act.put, List.setIfInBounds_toArray, List.set_cons_zero, List.set_cons_succ]
  refine wpAnyH_ready (rs := [8]) (by kernel_rfl) (by simp) ?_
  refine AllReadyH.cons rfl (fun K hK => ?_) AllReadyH.nil
  go_simp
  generalize hwx : World.alloc v2 _ = v3
  have hkx : Kp (fun j => j = gl) v2 v3 := by rw [← hwx]; exact Kp.of_below (below1 v2 _) _
  have HL := Lib.hid (show ActsIn v3 (some ⟨v2.heap.size, 0, none⟩) [⟨sp7A, none, 0⟩] by rw [← hwx]; exact acts_one 37 (sp7A_in v2))
  have X3 := Lib.hid (show v3.heap[gl]? = some (.cells cs2 104 (0, 0)) by rw [← hwx]; exact (heap_alloc_old v2 _ (lt_of_heap X2.out)).trans X2.out)
  clear hwx
  refine hK.out _ _ ?_ (fun hHeldaaa => ?_)
  · exact hHeldaa.trans hkx (fun _ _ x => x)
  clear hK K
  try simp only [Act.put, List.setIfInBounds_toArray, List.set_cons_zero, List.set_cons_succ]
  clear hkx
  refine wpAnyH_ready (rs := [9]) (by kernel_rfl) (by simp) ?_
  refine AllReadyH.cons rfl (fun K hK => ?_) AllReadyH.nil
  go_simp
  refine (HDr0.out v3 v2.heap.size cs2 hHeldaaa HL.out X3.out M2.out).mono ?_
  rintro e v4 ⟨rfl, hkx⟩
  clear HL X2 X3 M2
  go_wp2_with fail
  refine hK.out _ _ ?_ (fun hHeldaaaa => ?_)
  · exact hHeldaaa.trans hkx (fun _ _ x => x)
  clear hK K
  try simp only [Act.put, List.setIfInBounds_toArray, List.set_cons_zero, List.set_cons_succ]
  clear hkx
  refine wpAnyH_take (i := 10) (oi := ⟨_, _, _, _, _, _⟩) (v := ?_) rfl (by kernel_rfl) (by kernel_rfl) (by kernel_rfl) (fun _ _ _ h => h) (Or.inl ⟨by kernel_rfl, ?_⟩) hHeldaaaa ?_
  rotate_left 1
  · intro W hW; first | (go_simp; done) | (go_simp; with_reducible rfl)
  try simp only [Act.put, List.setIfInBounds_toArray, List.set_cons_zero, List.set_cons_succ]
  refine wpAnyH_take (i := 11) (oi := ⟨_, _, _, _, _, _⟩) (v := ?_) rfl (by kernel_rfl) (by kernel_rfl) (by kernel_rfl) (fun _ _ _ h => h) (Or.inl ⟨by kernel_rfl, ?_⟩) hHeldaaaa ?_
  rotate_left 1
  · intro W hW; first | (go_simp; done) | (go_simp; with_reducible rfl)
  try simp only [Act.put, List.setIfInBounds_toArray, List.set_cons_zero, List.set_cons_succ]
  refine wpAnyH_take (i := 12) (oi := ⟨_, _, _, _, _, _⟩) (v := ?_) rfl (by kernel_rfl) (by kernel_rfl) (by kernel_rfl) (fun _ _ _ h => h) (Or.inl ⟨by kernel_rfl, ?_⟩) hHeldaaaa ?_
  rotate_left 1
  · intro W hW; first | (go_simp; done) | (go_simp; with_reducible rfl)
  try simp only [Act.put, List.setIfInBounds_toArray, List.set_cons_zero, List.set_cons_succ]
  refine wpAnyH_take (i := 13) (oi := ⟨_, _, _, _, _, _⟩) (v := ?_) rfl (by kernel_rfl) (by kernel_rfl) (by kernel_rfl) (fun _ _ _ h => h) (Or.inl ⟨by kernel_rfl, ?_⟩) hHeldaaaa ?_
  rotate_left 1
  · intro W hW; first | (go_simp; done) | (go_simp; with_reducible rfl)
  try simp only [Act.put, List.setIfInBounds_toArray, List.set_cons_zero, List.set_cons_succ]
  refine wpAnyH_take (i := 14) (oi := ⟨_, _, _, _, _, _⟩) (v := ?_) rfl (by kernel_rfl) (by kernel_rfl) (by kernel_rfl) (fun _ _ _ h => h) (Or.inl ⟨by kernel_rfl, ?_⟩) hHeldaaaa ?_
  rotate_left 1
  · intro W hW; first | (go_simp; done) | (go_simp; with_reducible rfl)
  try simp only [Act.put, List.setIfInBounds_toArray, List.set_cons_zero, List.set_cons_succ]
  refine wpAnyH_take (i := 15) (oi := ⟨_, _, _, _, _, _⟩) (v := ?_) rfl (by kernel_rfl) (by kernel_rfl) (by kernel_rfl) (fun _ _ _ h => h) (Or.inl ⟨by kernel_rfl, ?_⟩) hHeldaaaa ?_
  rotate_left 1
  · intro W hW; first | (go_simp; done) | (go_simp; with_reducible rfl)
  try simp only [Act.put, List.setIfInBounds_toArray, List.set_cons_zero, List.set_cons_succ]
  refine wpAnyH_take (i := 16) (oi := ⟨_, _, _, _, _, _⟩) (v := ?_) rfl (by kernel_rfl) (by kernel_rfl) (by kernel_rfl) (fun _ _ _ h => h) (Or.inl ⟨by kernel_rfl, ?_⟩) hHeldaaaa ?_
  rotate_left 1
  · intro W hW; have k0 := kp_cellg (by have := HZ.out; omega) hW r0; have k1 := kp_cellg (by have := HZ.out; omega) hW r1; have k2 := kp_cellg (by have := HZ.out; omega) hW r2; have k3 := kp_cellg (by have := HZ.out; omega) hW r3; have k4 := kp_cellg (by have := HZ.out; omega) hW r4; have k5 := kp_cellg (by have := HZ.out; omega) hW r5; have k6 := kp_cellg (by have := HZ.out; omega) hW r6; have k7 := kp_cellg (by have := HZ.out; omega) hW r7; first | (go_simp; done) | (go_simp; with_reducible rfl)
  try simp only [Act.put, List.setIfInBounds_toArray, List.set_cons_zero, List.set_cons_succ]
  refine wpAnyH_take (i := 17) (oi := ⟨_, _, _, _, _, _⟩) (v := ?_) rfl (by kernel_rfl) (by kernel_rfl) (by kernel_rfl) (fun _ _ _ h => h) (Or.inl ⟨by kernel_rfl, ?_⟩) hHeldaaaa ?_
  rotate_left 1
  · intro W hW; have k0 := kp_cellg (by have := HZ.out; omega) hW s0; have k1 := kp_cellg (by have := HZ.out; omega) hW s1; have k2 := kp_cellg (by have := HZ.out; omega) hW s2; have k3 := kp_cellg (by have := HZ.out; omega) hW s3; have k4 := kp_cellg (by have := HZ.out; omega) hW s4; have k5 := kp_cellg (by have := HZ.out; omega) hW s5; have k6 := kp_cellg (by have := HZ.out; omega) hW s6; have k7 := kp_cellg (by have := HZ.out; omega) hW s7; first | (go_simp; done) | (go_simp; with_reducible rfl)
  try simp only [Act.put, List.setIfInBounds_toArray, List.set_cons_zero, List.set_cons_succ]
  refine wpAnyH_take (i := 18) (oi := ⟨_, _, _, _, _, _⟩) (v := ?_) rfl (by kernel_rfl) (by kernel_rfl) (by kernel_rfl) (fun _ _ _ h => h) (Or.inl ⟨by kernel_rfl, ?_⟩) hHeldaaaa ?_
  rotate_left 1
  · intro W hW; have k0 := kp_cellg (by have := HZ.out; omega) hW a0; have k1 := kp_cellg (by have := HZ.out; omega) hW a1; have k2 := kp_cellg (by have := HZ.out; omega) hW a2; have k3 := kp_cellg (by have := HZ.out; omega) hW a3; have k4 := kp_cellg (by have := HZ.out; omega) hW a4; have k5 := kp_cellg (by have := HZ.out; omega) hW a5; have k6 := kp_cellg (by have := HZ.out; omega) hW a6; have k7 := kp_cellg (by have := HZ.out; omega) hW a7; have k8 := kp_cellg (by have := HZ.out; omega) hW a8; have k9 := kp_cellg (by have := HZ.out; omega) hW a9; have k10 := kp_cellg (by have := HZ.out; omega) hW a10; have k11 := kp_cellg (by have := HZ.out; omega) hW a11; have k12 := kp_cellg (by have := HZ.out; omega) hW a12; have k13 := kp_cellg (by have := HZ.out; omega) hW a13; first | (go_simp; done) | (go_simp; with_reducible rfl)
  try simp only [Act.put, List.setIfInBounds_toArray, List.set_cons_zero, List.set_cons_succ]
  refine wpAnyH_ready (rs := [19]) (by kernel_rfl) (by simp) ?_
  refine AllReadyH.cons rfl (fun K hK => ?_) AllReadyH.nil
  go_simp
  refine (HDo.out v4 hHeldaaaa).mono ?_
  rintro e v5 ⟨B5, d5, rfl, _, hbx⟩
  have hkx := Kp.of_below hbx (fun j => j = gl)
  clear hbx
  go_wp2_with fail
  refine hK.out _ _ ?_ (fun hHeldaaaaa => ?_)
  · exact hHeldaaaa.trans hkx (fun _ _ x => x)
  clear hK K
  try simp only [Act.put, List.setIfInBounds_toArray, List.set_cons_zero, List.set_cons_succ]
  clear hkx
  refine wpAnyH_ready (rs := [20]) (by kernel_rfl) (by simp) ?_
  refine AllReadyH.cons rfl (fun K hK => ?_) AllReadyH.nil
  go_simp
  generalize hwx : World.alloc v5 _ = v6
  have hkx : Kp (fun j => j = gl) v5 v6 := by rw [← hwx]; exact Kp.of_below (below1 v5 _) _
  have HP := Lib.hid (show RecsIn v6 (some ⟨v5.heap.size, 0, none⟩) [⟨sp7D, B5, d5⟩] by rw [← hwx]; exact recs_one 25 (sp7D_in v5 B5 d5))
  clear hwx
  refine hK.out _ _ ?_ (fun hHeldaaaaaa => ?_)
  · exact hHeldaaaaa.trans hkx (fun _ _ x => x)
  clear hK K
  try simp only [Act.put, List.setIfInBounds_toArray, List.set_cons_zero, List.set_cons_succ]
  clear hkx
  refine wpAnyH_ready (rs := [21]) (by kernel_rfl) (by simp) ?_
  refine AllReadyH.cons rfl (fun K hK => ?_) AllReadyH.nil
  go_simp
  refine (HMe.out v6 v5.heap.size B5 d5 hHeldaaaaaa HP.out).mono ?_
  rintro e v7 ⟨B7, d7, rfl, _, hbx⟩
  have hfld : ∀ W, (Instr.field 25 (recV sp7M B7 d7) 1).run Tryz.prog W = .ok (.int .i64 8) W := fun W => by kernel_rfl
  have hkx := Kp.of_below hbx (fun j => j = gl)
  clear hbx HP
  go_wp2_with fail
  refine hK.out _ _ ?_ (fun hHeldaaaaaaa => ?_)
  · exact hHeldaaaaaa.trans hkx (fun _ _ x => x)
  clear hK K
  try simp only [Act.put, List.setIfInBounds_toArray, List.set_cons_zero, List.set_cons_succ]
  clear hkx
  refine wpAnyH_take (i := 22) (oi := ⟨_, _, _, _, _, _⟩) (v := ?_) rfl (by kernel_rfl) (by kernel_rfl) (by kernel_rfl) (fun _ _ _ h => h) (Or.inl ⟨by kernel_rfl, ?_⟩) hHeldaaaaaaa ?_
  rotate_left 1
  · intro W hW; first | (go_simp; done) | (go_simp; with_reducible rfl)
  try simp only [Act.put, List.setIfInBounds_toArray, List.set_cons_zero, List.set_cons_succ]
  refine wpAnyH_take (i := 23) (oi := ⟨_, _, _, _, _, _⟩) (v := ?_) rfl (by kernel_rfl) (by kernel_rfl) (by kernel_rfl) (fun _ _ _ h => h) (Or.inl ⟨by kernel_rfl, ?_⟩) hHeldaaaaaaa ?_
  rotate_left 1
  · intro W hW; first | (go_simp; done) | (go_simp; with_reducible rfl)
  try simp only [Act.put, List.setIfInBounds_toArray, List.set_cons_zero, List.set_cons_succ]
  refine wpAnyH_take (i := 24) (oi := ⟨_, _, _, _, _, _⟩) (v := ?_) rfl (by kernel_rfl) (by kernel_rfl) (by kernel_rfl) (fun _ _ _ h => h) (Or.inl ⟨by kernel_rfl, ?_⟩) hHeldaaaaaaa ?_
  rotate_left 1
  · intro W hW; first | (go_simp; done) | (go_simp; with_reducible rfl)
  try simp only [Act.put, List.setIfInBounds_toArray, List.set_cons_zero, List.set_cons_succ]
  refine wpAnyH_take (i := 25) (oi := ⟨_, _, _, _, _, _⟩) (v := ?_) rfl (by kernel_rfl) (by kernel_rfl) (by kernel_rfl) (fun _ _ _ h => h) (Or.inl ⟨by kernel_rfl, ?_⟩) hHeldaaaaaaa ?_
  rotate_left 1
  · intro W hW; first | (go_simp; done) | (go_simp; with_reducible rfl)
  try simp only [Act.put, List.setIfInBounds_toArray, List.set_cons_zero, List.set_cons_succ]
  refine wpAnyH_ready (rs := [26]) (by kernel_rfl) (by simp) ?_
  refine AllReadyH.cons rfl (fun K hK => ?_) AllReadyH.nil
  go_simp
  refine (HSp.out v7 hHeldaaaaaaa).mono ?_
  rintro e v8 ⟨rfl, hbx⟩
  have hkx := Kp.of_below hbx (fun j => j = gl)
  clear hbx
  go_wp2_with fail
  refine hK.out _ _ ?_ (fun hHeldaaaaaaaa => ?_)
  · exact hHeldaaaaaaa.trans hkx (fun _ _ x => x)
  clear hK K
  try simp only [Act.put, List.setIfInBounds_toArray, List.set_cons_zero, List.set_cons_succ]
  clear hkx
  refine wpAnyH_take (i := 27) (oi := ⟨_, _, _, _, _, _⟩) (v := ?_) rfl (by kernel_rfl) (by kernel_rfl) (by kernel_rfl) (fun _ _ _ h => h) (Or.inl ⟨by kernel_rfl, ?_⟩) hHeldaaaaaaaa ?_
  rotate_left 1
  · intro W hW; first | (go_simp; done) | (go_simp; with_reducible rfl)
  try simp only [Act.put, List.setIfInBounds_toArray, List.set_cons_zero, List.set_cons_succ]
  refine wpAnyH_take (i := 28) (oi := ⟨_, _, _, _, _, _⟩) (v := ?_) rfl (by kernel_rfl) (by kernel_rfl) (by kernel_rfl) (fun _ _ _ h => h) (Or.inl ⟨by kernel_rfl, ?_⟩) hHeldaaaaaaaa ?_
  rotate_left 1
  · intro W hW; first | (go_simp; done) | (go_simp; with_reducible rfl)
  try simp only [Act.put, List.setIfInBounds_toArray, List.set_cons_zero, List.set_cons_succ]
  refine wpAnyH_done (by kernel_rfl) ?_ _
  have HF := Lib.hid (BW.out _ hHeldaaaaaaaa)
  go_wp2_with fail
  go_ret
  exact ⟨rfl, HF.out⟩
end Go.Proofs.YtbkcmnmbcldjoaaGreatDoor
