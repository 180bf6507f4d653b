/- The walk of ShareMerges. -/
import Derived.Test.YtbkcmnmbcldjoaaGreatDoorSh16P7b
import Derived.Test.YtbkcmnmbcldjoaaGreatDoorSh18P7b
import Derived.Test.YtbkcmnmbcldjoaaGreatDoorRef3gmP7b
namespace Go.Proofs.YtbkcmnmbcldjoaaGreatDoor
open Go.RowKit MM
set_option linter.unusedVariables false
set_option linter.unusedSimpArgs false
theorem deeds_one {w : World} {d : Dl} (t : TypeId) (h : ActIn w d.a.r d.a.A d.a.c) (hk : RC.I64 d.k) : DeedsIn (w.alloc (.cells (ddC d) t)) (some ⟨w.heap.size, 0, none⟩) [d] := by
  refine ⟨.inr ⟨w.heap.size, 0, rfl, by simp, fun i x hi j v hv => ?_⟩, fun x hx => ?_, by unfold maxLen; simp⟩
  · have hi0 : i = 0 := by
      rcases Nat.eq_zero_or_pos i with h0 | h0
      · exact h0
      · rw [List.getElem?_eq_none (by simp; omega)] at hi; cases hi
    subst hi0
    simp at hi
    subst hi
    rw [show 0 + 0 * 15 + j = j by omega, cell_of_row _ _ j _ _ (0, 0) (heap_alloc_new w _)]
    exact hv
  · simp at hx
    subst hx
    exact ⟨h.keep (below1 w _), hk⟩
theorem big7_one {r : RC.Rc} {d : Dl} (h : big7 r [d] = false) : RC.big r = false ∧ AC.big d.a.r = false := by
  unfold big7 at h
  rw [Bool.or_eq_false_iff, Bool.or_eq_false_iff] at h
  have h2 := h.2.2
  simp at h2
  exact ⟨h.1, h2⟩
theorem big7_nil {r : RC.Rc} (h : big7 r [] = false) : RC.big r = false := by
  unfold big7 at h
  rw [Bool.or_eq_false_iff] at h
  exact h.1
theorem big_lims {r : RC.Rc} (h : RC.big r = false) : r.list.length ≤ 100 ∧ Lim r.list.length ∧ ∀ x ∈ r.list, Lim x.name.size := by
  obtain ⟨h1, _, h2⟩ := big_not h
  exact ⟨h1, by unfold Lim; omega, fun x hx => by have := h2 x hx; unfold Lim; omega⟩
theorem bigA_lims {a : AC.Ac} (h : AC.big a = false) : Lim a.make.list.length ∧ Lim a.key.size ∧ Lim a.s.size := by
  obtain ⟨h1, h2, h3⟩ := AC.big_not h
  have h4 := (big_lims h3).2.1
  exact ⟨h4, by unfold Lim; omega, by unfold Lim; omega⟩
set_option maxHeartbeats 16000000 in
set_option maxRecDepth 100000 in
theorem shareMergesL_any (r : RC.Rc) (A : Option Addr) (c : Nat) (L : Option Addr) (cl : Nat) (l : List Rl) (a : AC.Ac) (La : Option Addr) (ca : Nat) (w : World) (hI : RecIn w r A c) (hl : RecsIn w L l) (ha : ActIn w a La ca) (hR : RowsAt w) :
    Calls Tryz.prog 4 #[recV r A c, .slice L l.length cl, actV a La ca] w fun e w' => e = .returned (.bool true) ∧ Below w.heap.size w w' := by
  have HR := Lib.hid hR
  have HI := Lib.hid hI
  have HL := Lib.hid hl
  have HAc := Lib.hid ha
  clear hR hI hl ha
  go_enter Tryz.func4, Tryz.ntmps4
  go_upto_region 1 with fail
  generalize hw1 : World.alloc (World.alloc w _) _ = w1
  have B1 := Lib.hid (show Below w.heap.size w w1 by rw [← hw1]; exact below2 w _ _)
  have E1 := Lib.hid (show w1.heap[w.heap.size]? = some (.cells (recC r.kind r.num r.low r.high r.real r.cap r.text (.slice A r.list.length c)) 25 (0, 0)) by rw [← hw1]; exact heap_alloc2_old w _ _)
  have E2 := Lib.hid (show w1.heap[w.heap.size + 1]? = some (.cells (actC a La ca) 37 (0, 0)) by rw [← hw1]; exact heap_alloc2_new w _ _)
  clear hw1
  go_wp2_with fail
  refine (speaks7_any _ (HR.out.below B1.out)).mono ?_
  rintro e w2 ⟨rfl, hb⟩
  have B2 := Lib.hid (B1.out.trans (hb.mono B1.out.size))
  have E1 := Lib.hid ((hb.block _ (lt_of_heap E1.out)).trans E1.out)
  have E2 := Lib.hid ((hb.block _ (lt_of_heap E2.out)).trans E2.out)
  clear hb B1
  by_cases h10 : (10 : Int) < (l.length : Int)
  · go_wp2_with fail
    go_ret
    exact ⟨rfl, B2.out⟩
  have p0 := cell_of_row w2 _ 0 _ _ (0, 0) E1.out
  have p1 := cell_of_row w2 _ 1 _ _ (0, 0) E1.out
  have p2 := cell_of_row w2 _ 2 _ _ (0, 0) E1.out
  have p3 := cell_of_row w2 _ 3 _ _ (0, 0) E1.out
  have p4 := cell_of_row w2 _ 4 _ _ (0, 0) E1.out
  have p5 := cell_of_row w2 _ 5 _ _ (0, 0) E1.out
  have p6 := cell_of_row w2 _ 6 _ _ (0, 0) E1.out
  have p7 := cell_of_row w2 _ 7 _ _ (0, 0) E1.out
  have q0 := cell_of_row w2 _ 0 _ _ (0, 0) E2.out
  have q1 := cell_of_row w2 _ 1 _ _ (0, 0) E2.out
  have q2 := cell_of_row w2 _ 2 _ _ (0, 0) E2.out
  have q3 := cell_of_row w2 _ 3 _ _ (0, 0) E2.out
  have q4 := cell_of_row w2 _ 4 _ _ (0, 0) E2.out
  have q5 := cell_of_row w2 _ 5 _ _ (0, 0) E2.out
  have q6 := cell_of_row w2 _ 6 _ _ (0, 0) E2.out
  have q7 := cell_of_row w2 _ 7 _ _ (0, 0) E2.out
  have q8 := cell_of_row w2 _ 8 _ _ (0, 0) E2.out
  have q9 := cell_of_row w2 _ 9 _ _ (0, 0) E2.out
  have q10 := cell_of_row w2 _ 10 _ _ (0, 0) E2.out
  have q11 := cell_of_row w2 _ 11 _ _ (0, 0) E2.out
  have q12 := cell_of_row w2 _ 12 _ _ (0, 0) E2.out
  have q13 := cell_of_row w2 _ 13 _ _ (0, 0) E2.out
  have HBi := Lib.hid (show Calls Tryz.prog 11 #[.agg (recC r.kind r.num r.low r.high r.real r.cap r.text (.slice A r.list.length c)), .slice (some ⟨w2.heap.size, 0, none⟩) 1 1] (w2.alloc (.cells (ddC ⟨0, ⟨a, La, ca⟩⟩) 39)) (fun e w' => e = .returned (.bool (big7 r [⟨0, ⟨a, La, ca⟩⟩])) ∧ Below (w2.alloc (.cells (ddC ⟨0, ⟨a, La, ca⟩⟩) 39)).heap.size (w2.alloc (.cells (ddC ⟨0, ⟨a, La, ca⟩⟩) 39)) w') from
    big7_any r A (some ⟨w2.heap.size, 0, none⟩) c 1 [⟨0, ⟨a, La, ca⟩⟩] _ (HI.out.its.below (B2.out.trans ((below1 w2 _).mono B2.out.size))) HI.out.len (deeds_one (d := ⟨0, ⟨a, La, ca⟩⟩) 39 (HAc.out.keep B2.out) rfl))
  have HBg := Lib.hid (show big7 r [⟨0, ⟨a, La, ca⟩⟩] = false → RC.big r = false ∧ AC.big a = false from fun h => big7_one h)
  generalize big7 r [⟨0, ⟨a, La, ca⟩⟩] = bg at *
  go_wp2_with fail
  refine HBi.out.mono ?_
  rintro e w3 ⟨rfl, hb⟩
  have hb := (below1 w2 (.cells (ddC ⟨0, ⟨a, La, ca⟩⟩) 39)).trans (hb.mono (by rw [World.size_alloc]; omega))
  have B3 := Lib.hid (B2.out.trans (hb.mono B2.out.size))
  have E1 := Lib.hid ((hb.block _ (lt_of_heap E1.out)).trans E1.out)
  have E2 := Lib.hid ((hb.block _ (lt_of_heap E2.out)).trans E2.out)
  clear hb B2 HBi p0 p1 p2 p3 p4 p5 p6 p7 q0 q1 q2 q3 q4 q5 q6 q7 q8 q9 q10 q11 q12 q13
  cases bg
  case true =>
    go_wp2_with fail
    go_ret
    exact ⟨rfl, B3.out⟩
  have HN := Lib.hid (HBg.out rfl)
  clear HBg
  have hl10 : l.length ≤ 10 := by omega
  have HBl := Lib.hid (fun (p : Rl) (hp : p ∈ l) u (h : Below w.heap.size w u) => show Calls Tryz.prog 11 #[recV p.r p.A p.c, .slice none 0 0] u (fun e w' => e = .returned (.bool (big7 p.r [])) ∧ Below u.heap.size u w') from big7_any p.r p.A none p.c 0 [] u ((HL.out.all p hp).its.below h) (HL.out.all p hp).len ⟨.inl rfl, fun x hx => (by cases hx), Nat.zero_le _⟩)
  go_wp2_with fail
  go_loopw [23] (fun t23 wr => ∃ i : Nat, t23 = .int .i64 i ∧ i ≤ l.length ∧ (∀ p ∈ l.take i, RC.big p.r = false) ∧ Below w3.heap.size w3 wr) (fun t23 _ => l.length - (intOf t23).toNat)
  case atStart => exact ⟨0, rfl, Nat.zero_le _, fun p hp => (by cases hp), Below.refl _ _⟩
  case round =>
    obtain ⟨i, rfl, hi, hall, hb⟩ := hrel
    have HAll := Lib.hid hall
    have HB := Lib.hid hb
    have BW := Lib.hid (B3.out.trans (hb.mono B3.out.size))
    clear hall hb
    by_cases hlt : i < l.length
    · have hi1 : (i : Int) < (l.length : Int) := by omega
      have hmem := List.getElem_mem hlt
      have hnx : ∀ q ∈ l.take (i + 1), q ∈ l.take i ∨ q = l[i] := fun q hq => by
        rw [List.take_add_one, List.getElem?_eq_getElem hlt] at hq
        rcases List.mem_append.1 hq with h | h
        · exact .inl h
        · simp at h; exact .inr h
      obtain ⟨b1, o1, hLe, hr1⟩ := recs_range7 HL.out hlt
      subst hLe
      obtain ⟨p, hp⟩ : ∃ p, p = l[i] := ⟨_, rfl⟩
      rw [← hp] at hnx hr1 hmem
      have HNX := Lib.hid hnx
      have HR1 := Lib.hid (range_keep9 BW.out hr1)
      have HBp := Lib.hid (fun u h => HBl.out p hmem u h)
      have HBn := Lib.hid (show big7 p.r [] = false → RC.big p.r = false from big7_nil)
      generalize big7 p.r [] = bp at *
      clear hnx hr1 hp hmem
      go_upto_region 8 with (first
        | (refine wpList_load_mid rfl _ _ rfl b1 (o1 + i * 8) rfl p.cells.toList _ HR1.out Tryz.underlying25 rfl rec_inf7 ?_)
        | (refine wpList_store_row rfl _ _ _ rfl _ p.cells rfl rfl 25 _ (heap_alloc_new _ _) rec_inf7 rfl (by kernel_rfl) ?_))
      rw [World.setRow_alloc_new]
      generalize hwb : World.alloc wr _ = wb
      have hbb : Below wr.heap.size wr wb := by rw [← hwb]; exact below1 wr _
      have R9 := Lib.hid (show wb.heap[wr.heap.size]? = some (.cells p.cells 25 (0, 0)) by rw [← hwb]; exact heap_alloc_new wr _)
      have BB := Lib.hid (BW.out.trans (hbb.mono BW.out.size))
      have HBb := Lib.hid (HB.out.trans (hbb.mono HB.out.size))
      generalize hg9 : wr.heap.size = g9 at *
      clear hwb hbb HR1 hg9 BW HB
      go_wp2_with (first
        | (refine wpList_load_row rfl _ _ rfl g9 rfl 25 _ (0, 0) _ R9.out Tryz.underlying25 rfl rec_inf7 ?_))
      refine (HBp.out _ BB.out).mono ?_
      rintro e wc ⟨rfl, hb⟩
      have BC := Lib.hid (BB.out.trans (hb.mono BB.out.size))
      have HBc := Lib.hid (HBb.out.trans (hb.mono HBb.out.size))
      clear hb BB HBb
      cases bp
      case true =>
        go_wp2_with fail
        go_ret
        exact ⟨rfl, BC.out⟩
      have HN1 := Lib.hid (HBn.out rfl)
      go_wp2_with fail
      go_roundw
      case rel => exact ⟨i + 1, by go_num, by omega, fun q hq => by rcases HNX.out q hq with h | h; exact HAll.out q h; rw [h]; exact HN1.out, HBc.out⟩
      case measure => simp [intOf]; omega
    · have hi' : i = l.length := by omega
      have hi1 : ¬ (i : Int) < (l.length : Int) := by omega
      have HAl := Lib.hid (show ∀ p ∈ l, p.r.list.length ≤ 100 ∧ Lim p.r.list.length ∧ ∀ x ∈ p.r.list, Lim x.name.size from fun p hp => big_lims (HAll.out p (by rw [hi', List.take_length]; exact hp)))
      have E1 := Lib.hid ((HB.out.block _ (lt_of_heap E1.out)).trans E1.out)
      have E2 := Lib.hid ((HB.out.block _ (lt_of_heap E2.out)).trans E2.out)
      clear hlt hi hi' HB B3 HAll HBl
      have HLr := Lib.hid (big_lims HN.out.1)
      have HLa := Lib.hid (bigA_lims HN.out.2)
      have HMl := Lib.hid (show ∀ p ∈ l.map (·.r), p.ok from fun p hp => by obtain ⟨q, hq, rfl⟩ := List.mem_map.1 hp; exact (HL.out.all q hq).ok)
      have HDa := Lib.hid (fun u (h : Below w.heap.size w u) => sdo_any r a A La c ca u HI.out.ok HAc.out.ok (HR.out.below h) (HI.out.its.below h) (HAc.out.make.its.below h) HLr.out.2.1 HLa.out.1 HLa.out.2.1 HLa.out.2.2)
      have HDb := Lib.hid (fun u (h : Below w.heap.size w u) => r7do_any r a A La c ca u HI.out.ok HAc.out.ok (HI.out.its.below h) (HAc.out.make.its.below h) HLr.out.2.1 HLa.out.1 HLa.out.2.1 HLa.out.2.2)
      have HDs := Lib.hid (fun (X Y : Option Addr) (m n : Nat) u (hX : Its u X (SH.do_ r a).list) (hY : Its u Y (SH.do_ r a).list) => show Calls Tryz.prog 16 #[recV (SH.do_ r a) X m, recV (SH.do_ r a) Y n] u (fun e w' => e = .returned (.bool true) ∧ Below u.heap.size u w') from by
        have h1 := rsame3_any (SH.do_ r a) (SH.do_ r a) X Y m n u (SH.do_ok HI.out.ok HAc.out.ok) (SH.do_ok HI.out.ok HAc.out.ok) hX hY (SH.do_lim HI.out.ok HAc.out.ok HLr.out.2.1) (SH.do_lim HI.out.ok HAc.out.ok HLr.out.2.1)
        exact h1.mono (fun e w' x => ⟨by rw [x.1, RC.same_refl'], x.2⟩))
      have HMa := Lib.hid (fun u (h : Below w.heap.size w u) => smerge_any r l A L c cl u HI.out.ok (HI.out.its.below h) HLr.out.2.1 (HL.out.keep h) (by have h1 := regains_len (kind := r.kind) (l := l.map (·.r)) (n := 100) (fun p hp => by obtain ⟨q, hq, rfl⟩ := List.mem_map.1 hp; exact (HAl.out q hq).1); rw [List.length_map] at h1; omega) (by omega) (fun p hp => by have := (HAl.out p hp).1; omega) (regains_lim (fun p hp => by obtain ⟨q, hq, rfl⟩ := List.mem_map.1 hp; exact (HAl.out q hq).2.2)) (HR.out.below h))
      have HMb := Lib.hid (fun u (h : Below w.heap.size w u) => r7merge_any r l A L c cl u HI.out.ok (HI.out.its.below h) HLr.out.2.1 (HL.out.keep h) (by omega) (fun p hp => by have := (HAl.out p hp).1; omega) (fun p hp => (HAl.out p hp).2.2))
      have HMs := Lib.hid (fun (X Y : Option Addr) (m n : Nat) u (hX : Its u X (SH.merge r (l.map (·.r))).list) (hY : Its u Y (SH.rmerge r (l.map (·.r))).list) => show Calls Tryz.prog 16 #[recV (SH.merge r (l.map (·.r))) X m, recV (SH.rmerge r (l.map (·.r))) Y n] u (fun e w' => e = .returned (.bool true) ∧ Below u.heap.size u w') from by
        have h2 := merge_ok HI.out.ok HLr.out.2.1 HMl.out
        have h3 := rmerge_ok HI.out.ok HLr.out.2.1 HMl.out
        have h1 := rsame3_any (SH.merge r (l.map (·.r))) (SH.rmerge r (l.map (·.r))) X Y m n u h2.1 h3.1 hX hY h2.2 h3.2
        exact h1.mono (fun e w' x => ⟨by rw [x.1, rmerge_same], x.2⟩))
      generalize SH.do_ r a = p at *
      generalize SH.merge r (l.map (·.r)) = M at *
      generalize SH.rmerge r (l.map (·.r)) = N at *
      generalize hwv : wr = wv at *
      clear hwv
      have p0 := cell_of_row wv _ 0 _ _ (0, 0) E1.out
      have p1 := cell_of_row wv _ 1 _ _ (0, 0) E1.out
      have p2 := cell_of_row wv _ 2 _ _ (0, 0) E1.out
      have p3 := cell_of_row wv _ 3 _ _ (0, 0) E1.out
      have p4 := cell_of_row wv _ 4 _ _ (0, 0) E1.out
      have p5 := cell_of_row wv _ 5 _ _ (0, 0) E1.out
      have p6 := cell_of_row wv _ 6 _ _ (0, 0) E1.out
      have p7 := cell_of_row wv _ 7 _ _ (0, 0) E1.out
      have q0 := cell_of_row wv _ 0 _ _ (0, 0) E2.out
      have q1 := cell_of_row wv _ 1 _ _ (0, 0) E2.out
      have q2 := cell_of_row wv _ 2 _ _ (0, 0) E2.out
      have q3 := cell_of_row wv _ 3 _ _ (0, 0) E2.out
      have q4 := cell_of_row wv _ 4 _ _ (0, 0) E2.out
      have q5 := cell_of_row wv _ 5 _ _ (0, 0) E2.out
      have q6 := cell_of_row wv _ 6 _ _ (0, 0) E2.out
      have q7 := cell_of_row wv _ 7 _ _ (0, 0) E2.out
      have q8 := cell_of_row wv _ 8 _ _ (0, 0) E2.out
      have q9 := cell_of_row wv _ 9 _ _ (0, 0) E2.out
      have q10 := cell_of_row wv _ 10 _ _ (0, 0) E2.out
      have q11 := cell_of_row wv _ 11 _ _ (0, 0) E2.out
      have q12 := cell_of_row wv _ 12 _ _ (0, 0) E2.out
      have q13 := cell_of_row wv _ 13 _ _ (0, 0) E2.out
      clear HAl HLr HLa HMl HI HAc HL HN hl10 h10
      go_upto_region 11 with fail
      refine wp_region_held_drew (S := fun W => Below wv.heap.size wv W) (by kernel_rfl) (below_drew (Below.refl _ _)) (fun hHeld => ?_)
      generalize World.drew wv = v0 at *
      refine wpAnyH_take (i := 0) (oi := ⟨_, _, _, _, _, _⟩) (v := ?_) rfl (by kernel_rfl) (by kernel_rfl) (by kernel_rfl) (fun _ _ _ h => h) (Or.inl ⟨by kernel_rfl, ?_⟩) hHeld ?_
      rotate_left 1
      · intro W hW; have k0 := below_keep hW p0; have k1 := below_keep hW p1; have k2 := below_keep hW p2; have k3 := below_keep hW p3; have k4 := below_keep hW p4; have k5 := below_keep hW p5; have k6 := below_keep hW p6; have k7 := below_keep hW p7; first | (go_simp; done) | (go_simp; with_reducible rfl)
      try simp only [Act.put, List.setIfInBounds_toArray, List.set_cons_zero, List.set_cons_succ]
      refine wpAnyH_take (i := 1) (oi := ⟨_, _, _, _, _, _⟩) (v := ?_) rfl (by kernel_rfl) (by kernel_rfl) (by kernel_rfl) (fun _ _ _ h => h) (Or.inl ⟨by kernel_rfl, ?_⟩) hHeld ?_
      rotate_left 1
      · intro W hW; have k0 := below_keep hW q0; have k1 := below_keep hW q1; have k2 := below_keep hW q2; have k3 := below_keep hW q3; have k4 := below_keep hW q4; have k5 := below_keep hW q5; have k6 := below_keep hW q6; have k7 := below_keep hW q7; have k8 := below_keep hW q8; have k9 := below_keep hW q9; have k10 := below_keep hW q10; have k11 := below_keep hW q11; have k12 := below_keep hW q12; have k13 := below_keep hW q13; first | (go_simp; done) | (go_simp; with_reducible rfl)
      try simp only [Act.put, List.setIfInBounds_toArray, List.set_cons_zero, List.set_cons_succ]
      refine wpAnyH_take (i := 3) (oi := ⟨_, _, _, _, _, _⟩) (v := ?_) rfl (by kernel_rfl) (by kernel_rfl) (by kernel_rfl) (fun _ _ _ h => h) (Or.inl ⟨by kernel_rfl, ?_⟩) hHeld ?_
      rotate_left 1
      · intro W hW; have k0 := below_keep hW p0; have k1 := below_keep hW p1; have k2 := below_keep hW p2; have k3 := below_keep hW p3; have k4 := below_keep hW p4; have k5 := below_keep hW p5; have k6 := below_keep hW p6; have k7 := below_keep hW p7; first | (go_simp; done) | (go_simp; with_reducible rfl)
      try simp only [Act.put, List.setIfInBounds_toArray, List.set_cons_zero, List.set_cons_succ]
      refine wpAnyH_take (i := 4) (oi := ⟨_, _, _, _, _, _⟩) (v := ?_) rfl (by kernel_rfl) (by kernel_rfl) (by kernel_rfl) (fun _ _ _ h => h) (Or.inl ⟨by kernel_rfl, ?_⟩) hHeld ?_
      rotate_left 1
      · intro W hW; have k0 := below_keep hW q0; have k1 := below_keep hW q1; have k2 := below_keep hW q2; have k3 := below_keep hW q3; have k4 := below_keep hW q4; have k5 := below_keep hW q5; have k6 := below_keep hW q6; have k7 := below_keep hW q7; have k8 := below_keep hW q8; have k9 := below_keep hW q9; have k10 := below_keep hW q10; have k11 := below_keep hW q11; have k12 := below_keep hW q12; have k13 := below_keep hW q13; first | (go_simp; done) | (go_simp; with_reducible rfl)
      try simp only [Act.put, List.setIfInBounds_toArray, List.set_cons_zero, List.set_cons_succ]
      refine wpAnyH_ready (rs := [2]) (by kernel_rfl) (by simp) ?_
      refine AllReadyH.cons rfl (fun K hK => ?_) AllReadyH.nil
      go_simp
      refine (HDa.out _ (BW.out.trans (hHeld.mono BW.out.size))).mono ?_
      rintro e v1 ⟨X1, m1, rfl, hits, hbx⟩
      have I1 := Lib.hid hits
      clear hits
      go_wp2_with fail
      refine hK.out _ _ ?_ (fun hHelda => ?_)
      · exact hHeld.trans (hbx.mono hHeld.size)
      clear hK K
      try simp only [Act.put, List.setIfInBounds_toArray, List.set_cons_zero, List.set_cons_succ]
      clear hbx
      refine wpAnyH_ready (rs := [5]) (by kernel_rfl) (by simp) ?_
      refine AllReadyH.cons rfl (fun K hK => ?_) AllReadyH.nil
      go_simp
      refine (HDb.out _ (BW.out.trans (hHelda.mono BW.out.size))).mono ?_
      rintro e v2 ⟨X2, m2, rfl, hits, hbx⟩
      have I2 := Lib.hid hits
      clear hits
      have I1 := Lib.hid (I1.out.below hbx)
      go_wp2_with fail
      refine hK.out _ _ ?_ (fun hHeldaa => ?_)
      · exact hHelda.trans (hbx.mono hHelda.size)
      clear hK K
      try simp only [Act.put, List.setIfInBounds_toArray, List.set_cons_zero, List.set_cons_succ]
      clear hbx
      refine wpAnyH_ready (rs := [6]) (by kernel_rfl) (by simp) ?_
      refine AllReadyH.cons rfl (fun K hK => ?_) AllReadyH.nil
      go_simp
      refine (HDs.out X1 X2 m1 m2 _ I1.out I2.out).mono ?_
      rintro e v3 ⟨rfl, hbx⟩
      clear I1 I2
      go_wp2_with fail
      refine hK.out _ _ ?_ (fun hHeldaaa => ?_)
      · exact hHeldaa.trans (hbx.mono hHeldaa.size)
      clear hK K
      try simp only [Act.put, List.setIfInBounds_toArray, List.set_cons_zero, List.set_cons_succ]
      clear hbx
      refine wpAnyH_take (i := 7) (oi := ⟨_, _, _, _, _, _⟩) (v := ?_) rfl (by kernel_rfl) (by kernel_rfl) (by kernel_rfl) (fun _ _ _ h => h) (Or.inl ⟨by kernel_rfl, ?_⟩) hHeldaaa ?_
      rotate_left 1
      · intro W hW; first | (go_simp; done) | (go_simp; with_reducible rfl)
      try simp only [Act.put, List.setIfInBounds_toArray, List.set_cons_zero, List.set_cons_succ]
      refine wpAnyH_take (i := 8) (oi := ⟨_, _, _, _, _, _⟩) (v := ?_) rfl (by kernel_rfl) (by kernel_rfl) (by kernel_rfl) (fun _ _ _ h => h) (Or.inl ⟨by kernel_rfl, ?_⟩) hHeldaaa ?_
      rotate_left 1
      · intro W hW; have k0 := below_keep hW p0; have k1 := below_keep hW p1; have k2 := below_keep hW p2; have k3 := below_keep hW p3; have k4 := below_keep hW p4; have k5 := below_keep hW p5; have k6 := below_keep hW p6; have k7 := below_keep hW p7; first | (go_simp; done) | (go_simp; with_reducible rfl)
      try simp only [Act.put, List.setIfInBounds_toArray, List.set_cons_zero, List.set_cons_succ]
      refine wpAnyH_take (i := 9) (oi := ⟨_, _, _, _, _, _⟩) (v := ?_) rfl (by kernel_rfl) (by kernel_rfl) (by kernel_rfl) (fun _ _ _ h => h) (Or.inl ⟨by kernel_rfl, ?_⟩) hHeldaaa ?_
      rotate_left 1
      · intro W hW; first | (go_simp; done) | (go_simp; with_reducible rfl)
      try simp only [Act.put, List.setIfInBounds_toArray, List.set_cons_zero, List.set_cons_succ]
      refine wpAnyH_take (i := 11) (oi := ⟨_, _, _, _, _, _⟩) (v := ?_) rfl (by kernel_rfl) (by kernel_rfl) (by kernel_rfl) (fun _ _ _ h => h) (Or.inl ⟨by kernel_rfl, ?_⟩) hHeldaaa ?_
      rotate_left 1
      · intro W hW; have k0 := below_keep hW p0; have k1 := below_keep hW p1; have k2 := below_keep hW p2; have k3 := below_keep hW p3; have k4 := below_keep hW p4; have k5 := below_keep hW p5; have k6 := below_keep hW p6; have k7 := below_keep hW p7; first | (go_simp; done) | (go_simp; with_reducible rfl)
      try simp only [Act.put, List.setIfInBounds_toArray, List.set_cons_zero, List.set_cons_succ]
      refine wpAnyH_take (i := 12) (oi := ⟨_, _, _, _, _, _⟩) (v := ?_) rfl (by kernel_rfl) (by kernel_rfl) (by kernel_rfl) (fun _ _ _ h => h) (Or.inl ⟨by kernel_rfl, ?_⟩) hHeldaaa ?_
      rotate_left 1
      · intro W hW; first | (go_simp; done) | (go_simp; with_reducible rfl)
      try simp only [Act.put, List.setIfInBounds_toArray, List.set_cons_zero, List.set_cons_succ]
      refine wpAnyH_ready (rs := [10]) (by kernel_rfl) (by simp) ?_
      refine AllReadyH.cons rfl (fun K hK => ?_) AllReadyH.nil
      go_simp
      refine (HMa.out _ (BW.out.trans (hHeldaaa.mono BW.out.size))).mono ?_
      rintro e v4 ⟨X3, m3, rfl, hits, hbx⟩
      have I3 := Lib.hid hits
      clear hits
      go_wp2_with fail
      refine hK.out _ _ ?_ (fun hHeldaaaa => ?_)
      · exact hHeldaaa.trans (hbx.mono hHeldaaa.size)
      clear hK K
      try simp only [Act.put, List.setIfInBounds_toArray, List.set_cons_zero, List.set_cons_succ]
      clear hbx
      refine wpAnyH_ready (rs := [13]) (by kernel_rfl) (by simp) ?_
      refine AllReadyH.cons rfl (fun K hK => ?_) AllReadyH.nil
      go_simp
      refine (HMb.out _ (BW.out.trans (hHeldaaaa.mono BW.out.size))).mono ?_
      rintro e v5 ⟨X4, m4, rfl, hits, hbx⟩
      have I4 := Lib.hid hits
      clear hits
      have I3 := Lib.hid (I3.out.below hbx)
      go_wp2_with fail
      refine hK.out _ _ ?_ (fun hHeldaaaaa => ?_)
      · exact hHeldaaaa.trans (hbx.mono hHeldaaaa.size)
      clear hK K
      try simp only [Act.put, List.setIfInBounds_toArray, List.set_cons_zero, List.set_cons_succ]
      clear hbx
      refine wpAnyH_ready (rs := [14]) (by kernel_rfl) (by simp) ?_
      refine AllReadyH.cons rfl (fun K hK => ?_) AllReadyH.nil
      go_simp
      refine (HMs.out X3 X4 m3 m4 _ I3.out I4.out).mono ?_
      rintro e v6 ⟨rfl, hbx⟩
      clear I3 I4
      go_wp2_with fail
      refine hK.out _ _ ?_ (fun hHeldaaaaaa => ?_)
      · exact hHeldaaaaa.trans (hbx.mono hHeldaaaaa.size)
      clear hK K
      try simp only [Act.put, List.setIfInBounds_toArray, List.set_cons_zero, List.set_cons_succ]
      clear hbx
      refine wpAnyH_take (i := 15) (oi := ⟨_, _, _, _, _, _⟩) (v := ?_) rfl (by kernel_rfl) (by kernel_rfl) (by kernel_rfl) (fun _ _ _ h => h) (Or.inl ⟨by kernel_rfl, ?_⟩) hHeldaaaaaa ?_
      rotate_left 1
      · intro W hW; first | (go_simp; done) | (go_simp; with_reducible rfl)
      try simp only [Act.put, List.setIfInBounds_toArray, List.set_cons_zero, List.set_cons_succ]
      refine wpAnyH_take (i := 16) (oi := ⟨_, _, _, _, _, _⟩) (v := ?_) rfl (by kernel_rfl) (by kernel_rfl) (by kernel_rfl) (fun _ _ _ h => h) (Or.inl ⟨by kernel_rfl, ?_⟩) hHeldaaaaaa ?_
      rotate_left 1
      · intro W hW; first | (go_simp; done) | (go_simp; with_reducible rfl)
      try simp only [Act.put, List.setIfInBounds_toArray, List.set_cons_zero, List.set_cons_succ]
      refine wpAnyH_done (by kernel_rfl) ?_ _
      have HF := Lib.hid (BW.out.trans (hHeldaaaaaa.mono BW.out.size))
      go_wp2_with fail
      go_ret
      exact ⟨rfl, HF.out⟩
end Go.Proofs.YtbkcmnmbcldjoaaGreatDoor
