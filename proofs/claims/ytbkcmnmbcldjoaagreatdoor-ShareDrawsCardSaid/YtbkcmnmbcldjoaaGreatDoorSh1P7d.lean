/- Contracts of package share, and the document's own of layer 7: which acts split which records; the empty slice of a record. -/
import Derived.Test.YtbkcmnmbcldjoaaGreatDoorRefMP7d
import Derived.Test.YtbkcmnmbcldjoaaGreatDoorRef4amP7d
import Derived.Test.YtbkcmnmbcldjoaaGreatDoorActMP7d
import Derived.Deep.WholeRow
import Derived.Laws.Rows
import Derived.Laws.Tables
import Derived.Laws.ResultCell
namespace Go.Proofs.YtbkcmnmbcldjoaaGreatDoor
open Go.RowKit MM
set_option linter.unusedVariables false
set_option linter.unusedSimpArgs false
def SH.gath (k : Int) : Bool := k == 7 || k == 8 || k == 10 || k == 11 || k == 13 || k == 14 || k == 18 || k == 21
def SH.splits (kind k : Int) : Bool := SH.gath k && ((rowAt k).on == kind)
theorem SH.gath_iff {k : Int} : SH.gath k = true ↔ (k = 7 ∨ k = 8 ∨ k = 10 ∨ k = 11 ∨ k = 13 ∨ k = 14 ∨ k = 18 ∨ k = 21) := by
  unfold SH.gath
  simp [or_assoc]
/-- What a slice is at first, by its record's kind. -/
def SH.empty (kind cap : Int) : RC.Rc × Bool :=
  if kind = 2 ∨ kind = 3 ∨ kind = 4 then (⟨2, 0, 0, 0, 0, 0, ⟨#[]⟩, []⟩, true)
  else if kind = 5 then (⟨5, 0, 0, 0, 18442240474082181120, 0, ⟨#[]⟩, []⟩, true)
  else if kind = 6 then (⟨6, 0, 0, 0, 9221120237041090561, 0, ⟨#[]⟩, []⟩, true)
  else if kind = 8 then (⟨8, 0, 0, 0, 0, 32, ⟨#[]⟩, []⟩, true)
  else if kind = 9 then (⟨9, 0, 0, 0, 0, cap, ⟨#[]⟩, []⟩, true)
  else (RC.zero, false)
def SH.slice (r : RC.Rc) : RC.Rc × Bool := if RC.chk r ≠ 0 then (RC.zero, false) else SH.empty r.kind r.cap
theorem kpRow7 {S : Nat → Prop} {w0 w : World} {g : Nat} (h : Kp S w0 w) (hg : S g ∨ w0.heap.size ≤ g) (cs : Array Value) : Kp S w0 (w.setRow g cs) :=
  ⟨h.os, h.tape, h.output, by rw [setRow_size]; exact h.size, fun k hk hn => (setRow_other w g k cs (fun e => by subst e; rcases hg with hg | hg; exact hn hg; omega)).trans (h.block k hk hn)⟩
theorem canon_nan : MF.canon 9221120237041090561 = 9221120237041090561 := by decide +kernel
theorem rec_inf7 : (Tryz.prog.info? 25).map (fun i => i.size) = some 8 := by kernel_rfl
set_option maxHeartbeats 400000 in
theorem inf_down7 (w : World) :
    Calls Tryz.prog 37 #[.int .i64 (-1)] w fun e w' => e = .returned (.float .f64 18442240474082181120) ∧ w = w' := by
  go_enter Tryz.func37, Tryz.ntmps37
  go_wp2
  go_ret
  exact ⟨rfl, rfl⟩
set_option maxHeartbeats 400000 in
theorem nan_calls7 (w : World) :
    Calls Tryz.prog 39 #[] w fun e w' => e = .returned (.float .f64 9221120237041090561) ∧ w = w' := by
  go_enter Tryz.func39, Tryz.ntmps39
  go_wp2
  go_ret
  exact ⟨rfl, rfl⟩
set_option maxHeartbeats 2000000 in
theorem sgathers_any (k : Int) (w : World) :
    Calls Tryz.prog 40 #[.int .i64 k] w fun e w' => e = .returned (.bool (SH.gath k)) ∧ w = w' := by
  go_enter Tryz.func40, Tryz.ntmps40
  by_cases h7 : k = 7
  · subst h7
    go_wp2_with fail
    go_ret
    exact ⟨rfl, rfl⟩
  by_cases h8 : k = 8
  · subst h8
    go_wp2_with fail
    go_ret
    exact ⟨rfl, rfl⟩
  by_cases h10 : k = 10
  · subst h10
    go_wp2_with fail
    go_ret
    exact ⟨rfl, rfl⟩
  by_cases h11 : k = 11
  · subst h11
    go_wp2_with fail
    go_ret
    exact ⟨rfl, rfl⟩
  by_cases h13 : k = 13
  · subst h13
    go_wp2_with fail
    go_ret
    exact ⟨rfl, rfl⟩
  by_cases h14 : k = 14
  · subst h14
    go_wp2_with fail
    go_ret
    exact ⟨rfl, rfl⟩
  by_cases h18 : k = 18
  · subst h18
    go_wp2_with fail
    go_ret
    exact ⟨rfl, rfl⟩
  by_cases h21 : k = 21
  · subst h21
    go_wp2_with fail
    go_ret
    exact ⟨rfl, rfl⟩
  have HV := Lib.hid (show SH.gath k = false by cases h : SH.gath k; rfl; have := SH.gath_iff.1 h; omega)
  go_wp2_with fail
  go_ret
  exact ⟨by rw [HV.out]; rfl, rfl⟩
set_option maxHeartbeats 2000000 in
theorem ssplits_any (kind k : Int) (w : World) (hR : RowsAt w) :
    Calls Tryz.prog 14 #[.int .i64 kind, .int .i64 k] w fun e w' => e = .returned (.bool (SH.splits kind k)) ∧ Below w.heap.size w w' := by
  have HG := Lib.hid (fun u => sgathers_any k u)
  have HO := Lib.hid (fun u (h : Below w.heap.size w u) => actOn_any k u (hR.below h))
  have HV := Lib.hid (show SH.splits kind k = (SH.gath k && ((rowAt k).on == kind)) from rfl)
  clear hR
  generalize SH.splits kind k = V at *
  generalize (rowAt k).on = n at *
  generalize SH.gath k = g at *
  go_enter Tryz.func14, Tryz.ntmps14
  go_wp2_with fail
  refine (HG.out _).mono ?_
  rintro e w1 ⟨rfl, rfl⟩
  cases g
  · go_wp2_with fail
    go_ret
    exact ⟨by rw [HV.out]; rfl, Below.refl _ _⟩
  · go_wp2_with fail
    refine (HO.out _ (Below.refl _ _)).mono ?_
    rintro e w1 ⟨rfl, hb⟩
    have HB := Lib.hid hb
    clear hb
    by_cases h : n = kind
    · subst h
      go_wp2_with fail
      go_ret
      exact ⟨by rw [HV.out]; simp, HB.out⟩
    · have h' : (n == kind) = false := beq_eq_false_iff_ne.2 h
      go_wp2_with fail
      go_ret
      exact ⟨by rw [HV.out]; simp [h], HB.out⟩
set_option maxHeartbeats 4000000 in
theorem r7splits_any (kind k : Int) (w : World) :
    Calls Tryz.prog 15 #[.int .i64 kind, .int .i64 k] w fun e w' => e = .returned (.bool (SH.splits kind k)) ∧ Below w.heap.size w w' := by
  have HO := Lib.hid (fun u => rOn_any k u)
  by_cases hg : SH.gath k = true
  · have HV := Lib.hid (show SH.splits kind k = ((rowAt k).on == kind) by unfold SH.splits; rw [hg]; rfl)
    generalize SH.splits kind k = V at *
    generalize (rowAt k).on = n at *
    have hk := SH.gath_iff.1 hg
    clear hg
    rcases hk with rfl | rfl | rfl | rfl | rfl | rfl | rfl | rfl
    all_goals
      go_enter Tryz.func15, Tryz.ntmps15
      go_wp2_with fail
      refine (HO.out _).mono ?_
      rintro e w1 ⟨rfl, hb⟩
      have HB := Lib.hid hb
      clear hb
      by_cases h : n = kind
      · subst h
        go_wp2_with fail
        go_ret
        exact ⟨by rw [HV.out]; simp, HB.out⟩
      · have h' : (n == kind) = false := beq_eq_false_iff_ne.2 h
        go_wp2_with fail
        go_ret
        exact ⟨by rw [HV.out]; simp [h], HB.out⟩
  · have hk := mt SH.gath_iff.2 hg
    have HV := Lib.hid (show SH.splits kind k = false by unfold SH.splits; rw [Bool.eq_false_iff.2 hg]; rfl)
    have n7 : (k != 7) = true := bne_iff_ne.2 (fun e => hk (by omega))
    have n8 : (k != 8) = true := bne_iff_ne.2 (fun e => hk (by omega))
    have n10 : (k != 10) = true := bne_iff_ne.2 (fun e => hk (by omega))
    have n11 : (k != 11) = true := bne_iff_ne.2 (fun e => hk (by omega))
    have n13 : (k != 13) = true := bne_iff_ne.2 (fun e => hk (by omega))
    have n14 : (k != 14) = true := bne_iff_ne.2 (fun e => hk (by omega))
    have n18 : (k != 18) = true := bne_iff_ne.2 (fun e => hk (by omega))
    have n21 : (k != 21) = true := bne_iff_ne.2 (fun e => hk (by omega))
    clear hk hg
    go_enter Tryz.func15, Tryz.ntmps15
    go_wp2_with fail
    go_ret
    exact ⟨by rw [HV.out]; rfl, Below.refl _ _⟩
set_option maxHeartbeats 8000000 in
set_option maxRecDepth 100000 in
theorem sslice_any (r : RC.Rc) (A : Option Addr) (c : Nat) (w : World) (hr : r.ok) (hA : Its w A r.list) (hn : Lim r.list.length) :
    Calls Tryz.prog 12 #[recV r A c] w fun e w' => e = .returned (.tuple #[recV (SH.slice r).1 none 0, .bool (SH.slice r).2]) ∧ Below w.heap.size w w' := by
  have HC := Lib.hid (recCheck_any r A c ((w.alloc (.cells (recC r.kind r.num r.low r.high r.real r.cap r.text (.slice A r.list.length c)) 25)).alloc (.cells (recC 0 0 0 0 0 0 ⟨#[]⟩ (.slice none 0 0)) 25)) hr (hA.below (below2 w _ _)) hn)
  have HS := Lib.hid (show SH.slice r = if RC.chk r ≠ 0 then (RC.zero, false) else SH.empty r.kind r.cap from rfl)
  clear hr hA hn
  generalize SH.slice r = s at *
  generalize RC.chk r = ck at *
  go_enter Tryz.func12, Tryz.ntmps12
  go_wp2_with fail
  refine HC.out.mono ?_
  rintro e w1 ⟨rfl, hb⟩
  have hs1 := hb.size
  simp only [World.size_alloc] at hs1
  have E1 := Lib.hid (show w1.heap[w.heap.size]? = _ from (hb.block w.heap.size (by simp only [World.size_alloc]; omega)).trans (heap_alloc2_old w _ _))
  have E2 := Lib.hid (show w1.heap[w.heap.size + 1]? = _ from (hb.block (w.heap.size + 1) (by simp only [World.size_alloc]; omega)).trans (heap_alloc2_new w _ _))
  have HB := Lib.hid (show Below w.heap.size w w1 from (below2 w _ _).trans (hb.mono (by simp only [World.size_alloc]; omega)))
  have d1 := fun o => cell_of_row w1 _ o _ _ (0, 0) E1.out
  clear hb HC
  obtain ⟨kind, num, low, high, real, cap, text, list⟩ := r
  rcases Nat.eq_zero_or_pos ck with h0 | h0
  rotate_left
  · have hne : ((ck : Int) != 0) = true := by simp; omega
    have HV := Lib.hid (show s = (RC.zero, false) by rw [HS.out, if_pos (by omega)])
    go_wp2_with (first
      | (refine wpList_store_row rfl _ _ _ rfl (w.heap.size + 1) (recC 0 0 0 0 0 0 ⟨#[]⟩ (.slice none 0 0)) rfl rfl 25 _ E2.out rec_inf7 rfl (by kernel_rfl) ?_))
    generalize hwf : World.setRow w1 _ _ = wf
    have hkf : Kp (fun j => j = w.heap.size + 1) w1 wf := by rw [← hwf]; exact kpRow7 (S := fun j => j = w.heap.size + 1) (Kp.refl _ _) (.inl rfl) _
    have X2 : wf.heap[w.heap.size + 1]? = some (.cells (recC 0 0 0 0 0 0 ⟨#[]⟩ (.slice none 0 0)) 25 (0, 0)) := by rw [← hwf]; exact setRow_heap w1 _ _ _ _ _ E2.out
    have k2 := fun o => cell_of_row wf _ o _ _ (0, 0) X2
    have HBf := Lib.hid (HB.out.trans (hkf.below HB.out.size (fun i hi x => by omega)))
    clear hwf X2 hkf
    exact bodyPost_ret (v := .tuple #[recV RC.zero none 0, .bool false]) (by simp [results, Tryz.results12, go_sem, k2, RC.zero]) rfl ⟨by rw [HV.out] <;> rfl, HBf.out⟩
  subst h0
  have HV := Lib.hid (show s = SH.empty kind cap from HS.out)
  clear HS
  by_cases h2 : kind = 2
  · subst h2
    go_wp2_with (first
      | (refine wpList_store_row rfl _ _ _ rfl (w.heap.size + 1) (recC 2 0 0 0 0 0 ⟨#[]⟩ (.slice none 0 0)) rfl rfl 25 _ E2.out rec_inf7 rfl (by kernel_rfl) ?_))
    generalize hwf : World.setRow w1 _ _ = wf
    have hkf : Kp (fun j => j = w.heap.size + 1) w1 wf := by rw [← hwf]; exact kpRow7 (S := fun j => j = w.heap.size + 1) (Kp.refl _ _) (.inl rfl) _
    have X2 : wf.heap[w.heap.size + 1]? = some (.cells (recC 2 0 0 0 0 0 ⟨#[]⟩ (.slice none 0 0)) 25 (0, 0)) := by rw [← hwf]; exact setRow_heap w1 _ _ _ _ _ E2.out
    have k2 := fun o => cell_of_row wf _ o _ _ (0, 0) X2
    have HBf := Lib.hid (HB.out.trans (hkf.below HB.out.size (fun i hi x => by omega)))
    clear hwf X2 hkf
    exact bodyPost_ret (v := .tuple #[recV ⟨2, 0, 0, 0, 0, 0, ⟨#[]⟩, []⟩ none 0, .bool true]) (by simp [results, Tryz.results12, go_sem, k2, RC.zero]) rfl ⟨by rw [HV.out] <;> rfl, HBf.out⟩
  by_cases h3 : kind = 3
  · subst h3
    go_wp2_with (first
      | (refine wpList_store_row rfl _ _ _ rfl (w.heap.size + 1) (recC 2 0 0 0 0 0 ⟨#[]⟩ (.slice none 0 0)) rfl rfl 25 _ E2.out rec_inf7 rfl (by kernel_rfl) ?_))
    generalize hwf : World.setRow w1 _ _ = wf
    have hkf : Kp (fun j => j = w.heap.size + 1) w1 wf := by rw [← hwf]; exact kpRow7 (S := fun j => j = w.heap.size + 1) (Kp.refl _ _) (.inl rfl) _
    have X2 : wf.heap[w.heap.size + 1]? = some (.cells (recC 2 0 0 0 0 0 ⟨#[]⟩ (.slice none 0 0)) 25 (0, 0)) := by rw [← hwf]; exact setRow_heap w1 _ _ _ _ _ E2.out
    have k2 := fun o => cell_of_row wf _ o _ _ (0, 0) X2
    have HBf := Lib.hid (HB.out.trans (hkf.below HB.out.size (fun i hi x => by omega)))
    clear hwf X2 hkf
    exact bodyPost_ret (v := .tuple #[recV ⟨2, 0, 0, 0, 0, 0, ⟨#[]⟩, []⟩ none 0, .bool true]) (by simp [results, Tryz.results12, go_sem, k2, RC.zero]) rfl ⟨by rw [HV.out] <;> rfl, HBf.out⟩
  by_cases h4 : kind = 4
  · subst h4
    go_wp2_with (first
      | (refine wpList_store_row rfl _ _ _ rfl (w.heap.size + 1) (recC 2 0 0 0 0 0 ⟨#[]⟩ (.slice none 0 0)) rfl rfl 25 _ E2.out rec_inf7 rfl (by kernel_rfl) ?_))
    generalize hwf : World.setRow w1 _ _ = wf
    have hkf : Kp (fun j => j = w.heap.size + 1) w1 wf := by rw [← hwf]; exact kpRow7 (S := fun j => j = w.heap.size + 1) (Kp.refl _ _) (.inl rfl) _
    have X2 : wf.heap[w.heap.size + 1]? = some (.cells (recC 2 0 0 0 0 0 ⟨#[]⟩ (.slice none 0 0)) 25 (0, 0)) := by rw [← hwf]; exact setRow_heap w1 _ _ _ _ _ E2.out
    have k2 := fun o => cell_of_row wf _ o _ _ (0, 0) X2
    have HBf := Lib.hid (HB.out.trans (hkf.below HB.out.size (fun i hi x => by omega)))
    clear hwf X2 hkf
    exact bodyPost_ret (v := .tuple #[recV ⟨2, 0, 0, 0, 0, 0, ⟨#[]⟩, []⟩ none 0, .bool true]) (by simp [results, Tryz.results12, go_sem, k2, RC.zero]) rfl ⟨by rw [HV.out] <;> rfl, HBf.out⟩
  by_cases h5 : kind = 5
  · subst h5
    go_wp2_with fail
    refine (inf_down7 _).mono ?_
    rintro e w9 ⟨rfl, rfl⟩
    go_wp2_with (first
      | (refine wpList_store_row rfl _ _ _ rfl (w.heap.size + 1) (recC 5 0 0 0 18442240474082181120 0 ⟨#[]⟩ (.slice none 0 0)) rfl rfl 25 _ E2.out rec_inf7 rfl (by kernel_rfl) ?_))
    generalize hwf : World.setRow w1 _ _ = wf
    have hkf : Kp (fun j => j = w.heap.size + 1) w1 wf := by rw [← hwf]; exact kpRow7 (S := fun j => j = w.heap.size + 1) (Kp.refl _ _) (.inl rfl) _
    have X2 : wf.heap[w.heap.size + 1]? = some (.cells (recC 5 0 0 0 18442240474082181120 0 ⟨#[]⟩ (.slice none 0 0)) 25 (0, 0)) := by rw [← hwf]; exact setRow_heap w1 _ _ _ _ _ E2.out
    have k2 := fun o => cell_of_row wf _ o _ _ (0, 0) X2
    have HBf := Lib.hid (HB.out.trans (hkf.below HB.out.size (fun i hi x => by omega)))
    clear hwf X2 hkf
    exact bodyPost_ret (v := .tuple #[recV ⟨5, 0, 0, 0, 18442240474082181120, 0, ⟨#[]⟩, []⟩ none 0, .bool true]) (by simp [results, Tryz.results12, go_sem, k2, RC.zero]) rfl ⟨by rw [HV.out] <;> rfl, HBf.out⟩
  by_cases h6 : kind = 6
  · subst h6
    go_wp2_with fail
    refine (nan_calls7 _).mono ?_
    rintro e w9 ⟨rfl, rfl⟩
    go_wp2_with fail
    refine (canon_any 9221120237041090561 _).mono ?_
    rw [canon_nan]
    rintro e w9 ⟨rfl, rfl⟩
    go_wp2_with (first
      | (refine wpList_store_row rfl _ _ _ rfl (w.heap.size + 1) (recC 6 0 0 0 9221120237041090561 0 ⟨#[]⟩ (.slice none 0 0)) rfl rfl 25 _ E2.out rec_inf7 rfl (by kernel_rfl) ?_))
    generalize hwf : World.setRow w1 _ _ = wf
    have hkf : Kp (fun j => j = w.heap.size + 1) w1 wf := by rw [← hwf]; exact kpRow7 (S := fun j => j = w.heap.size + 1) (Kp.refl _ _) (.inl rfl) _
    have X2 : wf.heap[w.heap.size + 1]? = some (.cells (recC 6 0 0 0 9221120237041090561 0 ⟨#[]⟩ (.slice none 0 0)) 25 (0, 0)) := by rw [← hwf]; exact setRow_heap w1 _ _ _ _ _ E2.out
    have k2 := fun o => cell_of_row wf _ o _ _ (0, 0) X2
    have HBf := Lib.hid (HB.out.trans (hkf.below HB.out.size (fun i hi x => by omega)))
    clear hwf X2 hkf
    exact bodyPost_ret (v := .tuple #[recV ⟨6, 0, 0, 0, 9221120237041090561, 0, ⟨#[]⟩, []⟩ none 0, .bool true]) (by simp [results, Tryz.results12, go_sem, k2, RC.zero]) rfl ⟨by rw [HV.out] <;> rfl, HBf.out⟩
  by_cases h8 : kind = 8
  · subst h8
    go_wp2_with (first
      | (refine wpList_store_row rfl _ _ _ rfl (w.heap.size + 1) (recC 8 0 0 0 0 32 ⟨#[]⟩ (.slice none 0 0)) rfl rfl 25 _ E2.out rec_inf7 rfl (by kernel_rfl) ?_))
    generalize hwf : World.setRow w1 _ _ = wf
    have hkf : Kp (fun j => j = w.heap.size + 1) w1 wf := by rw [← hwf]; exact kpRow7 (S := fun j => j = w.heap.size + 1) (Kp.refl _ _) (.inl rfl) _
    have X2 : wf.heap[w.heap.size + 1]? = some (.cells (recC 8 0 0 0 0 32 ⟨#[]⟩ (.slice none 0 0)) 25 (0, 0)) := by rw [← hwf]; exact setRow_heap w1 _ _ _ _ _ E2.out
    have k2 := fun o => cell_of_row wf _ o _ _ (0, 0) X2
    have HBf := Lib.hid (HB.out.trans (hkf.below HB.out.size (fun i hi x => by omega)))
    clear hwf X2 hkf
    exact bodyPost_ret (v := .tuple #[recV ⟨8, 0, 0, 0, 0, 32, ⟨#[]⟩, []⟩ none 0, .bool true]) (by simp [results, Tryz.results12, go_sem, k2, RC.zero]) rfl ⟨by rw [HV.out] <;> rfl, HBf.out⟩
  by_cases h9 : kind = 9
  · subst h9
    go_wp2_with (first
      | (refine wpList_store_row rfl _ _ _ rfl (w.heap.size + 1) (recC 9 0 0 0 0 cap ⟨#[]⟩ (.slice none 0 0)) rfl rfl 25 _ E2.out rec_inf7 rfl (by kernel_rfl) ?_))
    generalize hwf : World.setRow w1 _ _ = wf
    have hkf : Kp (fun j => j = w.heap.size + 1) w1 wf := by rw [← hwf]; exact kpRow7 (S := fun j => j = w.heap.size + 1) (Kp.refl _ _) (.inl rfl) _
    have X2 : wf.heap[w.heap.size + 1]? = some (.cells (recC 9 0 0 0 0 cap ⟨#[]⟩ (.slice none 0 0)) 25 (0, 0)) := by rw [← hwf]; exact setRow_heap w1 _ _ _ _ _ E2.out
    have k2 := fun o => cell_of_row wf _ o _ _ (0, 0) X2
    have HBf := Lib.hid (HB.out.trans (hkf.below HB.out.size (fun i hi x => by omega)))
    clear hwf X2 hkf
    exact bodyPost_ret (v := .tuple #[recV ⟨9, 0, 0, 0, 0, cap, ⟨#[]⟩, []⟩ none 0, .bool true]) (by simp [results, Tryz.results12, go_sem, k2, RC.zero]) rfl ⟨by rw [HV.out] <;> rfl, HBf.out⟩
  have HV := Lib.hid (show s = (RC.zero, false) by rw [HV.out]; unfold SH.empty; rw [if_neg (by omega), if_neg h5, if_neg h6, if_neg h8, if_neg h9])
  go_wp2_with (first
    | (refine wpList_store_row rfl _ _ _ rfl (w.heap.size + 1) (recC 0 0 0 0 0 0 ⟨#[]⟩ (.slice none 0 0)) rfl rfl 25 _ E2.out rec_inf7 rfl (by kernel_rfl) ?_))
  generalize hwf : World.setRow w1 _ _ = wf
  have hkf : Kp (fun j => j = w.heap.size + 1) w1 wf := by rw [← hwf]; exact kpRow7 (S := fun j => j = w.heap.size + 1) (Kp.refl _ _) (.inl rfl) _
  have X2 : wf.heap[w.heap.size + 1]? = some (.cells (recC 0 0 0 0 0 0 ⟨#[]⟩ (.slice none 0 0)) 25 (0, 0)) := by rw [← hwf]; exact setRow_heap w1 _ _ _ _ _ E2.out
  have k2 := fun o => cell_of_row wf _ o _ _ (0, 0) X2
  have HBf := Lib.hid (HB.out.trans (hkf.below HB.out.size (fun i hi x => by omega)))
  clear hwf X2 hkf
  exact bodyPost_ret (v := .tuple #[recV RC.zero none 0, .bool false]) (by simp [results, Tryz.results12, go_sem, k2, RC.zero]) rfl ⟨by rw [HV.out] <;> rfl, HBf.out⟩
theorem SH.kinds {r : RC.Rc} (h : RC.chk r = 0) : 1 ≤ r.kind ∧ r.kind ≤ 9 := by
  have h1 := (RC.chk_zero h).1
  unfold RC.known at h1
  have h2 := of_decide_eq_true h1
  omega
set_option maxHeartbeats 8000000 in
set_option maxRecDepth 100000 in
theorem r7slice_any (r : RC.Rc) (A : Option Addr) (c : Nat) (w : World) (hr : r.ok) (hA : Its w A r.list) (hn : Lim r.list.length) :
    Calls Tryz.prog 13 #[recV r A c] w fun e w' => e = .returned (.tuple #[recV (SH.slice r).1 none 0, .bool (SH.slice r).2]) ∧ Below w.heap.size w w' := by
  have HC := Lib.hid (rcheck_any r A c ((w.alloc (.cells (recC r.kind r.num r.low r.high r.real r.cap r.text (.slice A r.list.length c)) 25)).alloc (.cells (recC 0 0 0 0 0 0 ⟨#[]⟩ (.slice none 0 0)) 25)) hr (hA.below (below2 w _ _)) hn)
  have HS := Lib.hid (show SH.slice r = if RC.chk r ≠ 0 then (RC.zero, false) else SH.empty r.kind r.cap from rfl)
  have HK := Lib.hid (fun h => SH.kinds (r := r) h)
  clear hr hA hn
  generalize SH.slice r = s at *
  generalize RC.chk r = ck at *
  go_enter Tryz.func13, Tryz.ntmps13
  go_wp2_with fail
  refine HC.out.mono ?_
  rintro e w1 ⟨rfl, hb⟩
  have hs1 := hb.size
  simp only [World.size_alloc] at hs1
  have E1 := Lib.hid (show w1.heap[w.heap.size]? = _ from (hb.block w.heap.size (by simp only [World.size_alloc]; omega)).trans (heap_alloc2_old w _ _))
  have E2 := Lib.hid (show w1.heap[w.heap.size + 1]? = _ from (hb.block (w.heap.size + 1) (by simp only [World.size_alloc]; omega)).trans (heap_alloc2_new w _ _))
  have HB := Lib.hid (show Below w.heap.size w w1 from (below2 w _ _).trans (hb.mono (by simp only [World.size_alloc]; omega)))
  have d1 := fun o => cell_of_row w1 _ o _ _ (0, 0) E1.out
  clear hb HC
  obtain ⟨kind, num, low, high, real, cap, text, list⟩ := r
  rcases Nat.eq_zero_or_pos ck with h0 | h0
  rotate_left
  · have hne : ((ck : Int) != 0) = true := by simp; omega
    have HV := Lib.hid (show s = (RC.zero, false) by rw [HS.out, if_pos (by omega)])
    go_wp2_with (first
      | (refine wpList_store_row rfl _ _ _ rfl (w.heap.size + 1) (recC 0 0 0 0 0 0 ⟨#[]⟩ (.slice none 0 0)) rfl rfl 25 _ E2.out rec_inf7 rfl (by kernel_rfl) ?_))
    generalize hwf : World.setRow w1 _ _ = wf
    have hkf : Kp (fun j => j = w.heap.size + 1) w1 wf := by rw [← hwf]; exact kpRow7 (S := fun j => j = w.heap.size + 1) (Kp.refl _ _) (.inl rfl) _
    have X2 : wf.heap[w.heap.size + 1]? = some (.cells (recC 0 0 0 0 0 0 ⟨#[]⟩ (.slice none 0 0)) 25 (0, 0)) := by rw [← hwf]; exact setRow_heap w1 _ _ _ _ _ E2.out
    have k2 := fun o => cell_of_row wf _ o _ _ (0, 0) X2
    have HBf := Lib.hid (HB.out.trans (hkf.below HB.out.size (fun i hi x => by omega)))
    clear hwf X2 hkf
    exact bodyPost_ret (v := .tuple #[recV RC.zero none 0, .bool false]) (by simp [results, Tryz.results13, go_sem, k2, RC.zero]) rfl ⟨by rw [HV.out] <;> rfl, HBf.out⟩
  subst h0
  have hk : 1 ≤ kind ∧ kind ≤ 9 := HK.out rfl
  have HV := Lib.hid (show s = SH.empty kind cap from HS.out)
  clear HS
  by_cases h1 : kind = 1
  · subst h1
    go_wp2_with (first
      | (refine wpList_store_row rfl _ _ _ rfl (w.heap.size + 1) (recC 0 0 0 0 0 0 ⟨#[]⟩ (.slice none 0 0)) rfl rfl 25 _ E2.out rec_inf7 rfl (by kernel_rfl) ?_))
    generalize hwf : World.setRow w1 _ _ = wf
    have hkf : Kp (fun j => j = w.heap.size + 1) w1 wf := by rw [← hwf]; exact kpRow7 (S := fun j => j = w.heap.size + 1) (Kp.refl _ _) (.inl rfl) _
    have X2 : wf.heap[w.heap.size + 1]? = some (.cells (recC 0 0 0 0 0 0 ⟨#[]⟩ (.slice none 0 0)) 25 (0, 0)) := by rw [← hwf]; exact setRow_heap w1 _ _ _ _ _ E2.out
    have k2 := fun o => cell_of_row wf _ o _ _ (0, 0) X2
    have HBf := Lib.hid (HB.out.trans (hkf.below HB.out.size (fun i hi x => by omega)))
    clear hwf X2 hkf
    exact bodyPost_ret (v := .tuple #[recV RC.zero none 0, .bool false]) (by simp [results, Tryz.results13, go_sem, k2, RC.zero]) rfl ⟨by rw [HV.out] <;> rfl, HBf.out⟩
  by_cases h7 : kind = 7
  · subst h7
    go_wp2_with (first
      | (refine wpList_store_row rfl _ _ _ rfl (w.heap.size + 1) (recC 0 0 0 0 0 0 ⟨#[]⟩ (.slice none 0 0)) rfl rfl 25 _ E2.out rec_inf7 rfl (by kernel_rfl) ?_))
    generalize hwf : World.setRow w1 _ _ = wf
    have hkf : Kp (fun j => j = w.heap.size + 1) w1 wf := by rw [← hwf]; exact kpRow7 (S := fun j => j = w.heap.size + 1) (Kp.refl _ _) (.inl rfl) _
    have X2 : wf.heap[w.heap.size + 1]? = some (.cells (recC 0 0 0 0 0 0 ⟨#[]⟩ (.slice none 0 0)) 25 (0, 0)) := by rw [← hwf]; exact setRow_heap w1 _ _ _ _ _ E2.out
    have k2 := fun o => cell_of_row wf _ o _ _ (0, 0) X2
    have HBf := Lib.hid (HB.out.trans (hkf.below HB.out.size (fun i hi x => by omega)))
    clear hwf X2 hkf
    exact bodyPost_ret (v := .tuple #[recV RC.zero none 0, .bool false]) (by simp [results, Tryz.results13, go_sem, k2, RC.zero]) rfl ⟨by rw [HV.out] <;> rfl, HBf.out⟩
  have h1' : (kind == 1) = false := beq_eq_false_iff_ne.2 h1
  have h7' : (kind == 7) = false := beq_eq_false_iff_ne.2 h7
  by_cases h5 : kind = 5
  · subst h5
    go_wp2_with fail
    refine (inf_down7 _).mono ?_
    rintro e w9 ⟨rfl, rfl⟩
    go_wp2_with (first
      | (refine wpList_store_row rfl _ _ _ rfl (w.heap.size + 1) (recC 5 0 0 0 18442240474082181120 0 ⟨#[]⟩ (.slice none 0 0)) rfl rfl 25 _ E2.out rec_inf7 rfl (by kernel_rfl) ?_))
    generalize hwf : World.setRow w1 _ _ = wf
    have hkf : Kp (fun j => j = w.heap.size + 1) w1 wf := by rw [← hwf]; exact kpRow7 (S := fun j => j = w.heap.size + 1) (Kp.refl _ _) (.inl rfl) _
    have X2 : wf.heap[w.heap.size + 1]? = some (.cells (recC 5 0 0 0 18442240474082181120 0 ⟨#[]⟩ (.slice none 0 0)) 25 (0, 0)) := by rw [← hwf]; exact setRow_heap w1 _ _ _ _ _ E2.out
    have k2 := fun o => cell_of_row wf _ o _ _ (0, 0) X2
    have HBf := Lib.hid (HB.out.trans (hkf.below HB.out.size (fun i hi x => by omega)))
    clear hwf X2 hkf
    exact bodyPost_ret (v := .tuple #[recV ⟨5, 0, 0, 0, 18442240474082181120, 0, ⟨#[]⟩, []⟩ none 0, .bool true]) (by simp [results, Tryz.results13, go_sem, k2, RC.zero]) rfl ⟨by rw [HV.out] <;> rfl, HBf.out⟩
  by_cases h6 : kind = 6
  · subst h6
    go_wp2_with fail
    refine (nan_calls7 _).mono ?_
    rintro e w9 ⟨rfl, rfl⟩
    go_wp2_with (first
      | (refine wpList_store_row rfl _ _ _ rfl (w.heap.size + 1) (recC 6 0 0 0 9221120237041090561 0 ⟨#[]⟩ (.slice none 0 0)) rfl rfl 25 _ E2.out rec_inf7 rfl (by kernel_rfl) ?_))
    generalize hwf : World.setRow w1 _ _ = wf
    have hkf : Kp (fun j => j = w.heap.size + 1) w1 wf := by rw [← hwf]; exact kpRow7 (S := fun j => j = w.heap.size + 1) (Kp.refl _ _) (.inl rfl) _
    have X2 : wf.heap[w.heap.size + 1]? = some (.cells (recC 6 0 0 0 9221120237041090561 0 ⟨#[]⟩ (.slice none 0 0)) 25 (0, 0)) := by rw [← hwf]; exact setRow_heap w1 _ _ _ _ _ E2.out
    have k2 := fun o => cell_of_row wf _ o _ _ (0, 0) X2
    have HBf := Lib.hid (HB.out.trans (hkf.below HB.out.size (fun i hi x => by omega)))
    clear hwf X2 hkf
    exact bodyPost_ret (v := .tuple #[recV ⟨6, 0, 0, 0, 9221120237041090561, 0, ⟨#[]⟩, []⟩ none 0, .bool true]) (by simp [results, Tryz.results13, go_sem, k2, RC.zero]) rfl ⟨by rw [HV.out] <;> rfl, HBf.out⟩
  by_cases h8 : kind = 8
  · subst h8
    go_wp2_with (first
      | (refine wpList_store_row rfl _ _ _ rfl (w.heap.size + 1) (recC 8 0 0 0 0 32 ⟨#[]⟩ (.slice none 0 0)) rfl rfl 25 _ E2.out rec_inf7 rfl (by kernel_rfl) ?_))
    generalize hwf : World.setRow w1 _ _ = wf
    have hkf : Kp (fun j => j = w.heap.size + 1) w1 wf := by rw [← hwf]; exact kpRow7 (S := fun j => j = w.heap.size + 1) (Kp.refl _ _) (.inl rfl) _
    have X2 : wf.heap[w.heap.size + 1]? = some (.cells (recC 8 0 0 0 0 32 ⟨#[]⟩ (.slice none 0 0)) 25 (0, 0)) := by rw [← hwf]; exact setRow_heap w1 _ _ _ _ _ E2.out
    have k2 := fun o => cell_of_row wf _ o _ _ (0, 0) X2
    have HBf := Lib.hid (HB.out.trans (hkf.below HB.out.size (fun i hi x => by omega)))
    clear hwf X2 hkf
    exact bodyPost_ret (v := .tuple #[recV ⟨8, 0, 0, 0, 0, 32, ⟨#[]⟩, []⟩ none 0, .bool true]) (by simp [results, Tryz.results13, go_sem, k2, RC.zero]) rfl ⟨by rw [HV.out] <;> rfl, HBf.out⟩
  by_cases h9 : kind = 9
  · subst h9
    go_wp2_with (first
      | (refine wpList_store_row rfl _ _ _ rfl (w.heap.size + 1) (recC 9 0 0 0 0 cap ⟨#[]⟩ (.slice none 0 0)) rfl rfl 25 _ E2.out rec_inf7 rfl (by kernel_rfl) ?_))
    generalize hwf : World.setRow w1 _ _ = wf
    have hkf : Kp (fun j => j = w.heap.size + 1) w1 wf := by rw [← hwf]; exact kpRow7 (S := fun j => j = w.heap.size + 1) (Kp.refl _ _) (.inl rfl) _
    have X2 : wf.heap[w.heap.size + 1]? = some (.cells (recC 9 0 0 0 0 cap ⟨#[]⟩ (.slice none 0 0)) 25 (0, 0)) := by rw [← hwf]; exact setRow_heap w1 _ _ _ _ _ E2.out
    have k2 := fun o => cell_of_row wf _ o _ _ (0, 0) X2
    have HBf := Lib.hid (HB.out.trans (hkf.below HB.out.size (fun i hi x => by omega)))
    clear hwf X2 hkf
    exact bodyPost_ret (v := .tuple #[recV ⟨9, 0, 0, 0, 0, cap, ⟨#[]⟩, []⟩ none 0, .bool true]) (by simp [results, Tryz.results13, go_sem, k2, RC.zero]) rfl ⟨by rw [HV.out] <;> rfl, HBf.out⟩
  have HV := Lib.hid (show s = (⟨2, 0, 0, 0, 0, 0, ⟨#[]⟩, []⟩, true) by rw [HV.out]; unfold SH.empty; rw [if_pos (by omega)])
  go_wp2_with (first
    | (refine wpList_store_row rfl _ _ _ rfl (w.heap.size + 1) (recC 2 0 0 0 0 0 ⟨#[]⟩ (.slice none 0 0)) rfl rfl 25 _ E2.out rec_inf7 rfl (by kernel_rfl) ?_))
  generalize hwf : World.setRow w1 _ _ = wf
  have hkf : Kp (fun j => j = w.heap.size + 1) w1 wf := by rw [← hwf]; exact kpRow7 (S := fun j => j = w.heap.size + 1) (Kp.refl _ _) (.inl rfl) _
  have X2 : wf.heap[w.heap.size + 1]? = some (.cells (recC 2 0 0 0 0 0 ⟨#[]⟩ (.slice none 0 0)) 25 (0, 0)) := by rw [← hwf]; exact setRow_heap w1 _ _ _ _ _ E2.out
  have k2 := fun o => cell_of_row wf _ o _ _ (0, 0) X2
  have HBf := Lib.hid (HB.out.trans (hkf.below HB.out.size (fun i hi x => by omega)))
  clear hwf X2 hkf
  exact bodyPost_ret (v := .tuple #[recV ⟨2, 0, 0, 0, 0, 0, ⟨#[]⟩, []⟩ none 0, .bool true]) (by simp [results, Tryz.results13, go_sem, k2, RC.zero]) rfl ⟨by rw [HV.out] <;> rfl, HBf.out⟩
end Go.Proofs.YtbkcmnmbcldjoaaGreatDoor
