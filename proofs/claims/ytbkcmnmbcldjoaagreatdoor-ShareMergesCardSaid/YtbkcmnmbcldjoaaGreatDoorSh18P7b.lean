/- The document's Merge. -/
import Derived.Test.YtbkcmnmbcldjoaaGreatDoorSh2P7b
import Derived.Test.YtbkcmnmbcldjoaaGreatDoorShQP7b
import Derived.StillTailTactics
namespace Go.Proofs.YtbkcmnmbcldjoaaGreatDoor
open Go.RowKit MM
set_option linter.unusedVariables false
set_option linter.unusedSimpArgs false
set_option maxHeartbeats 16000000 in
set_option maxRecDepth 100000 in
theorem r7merge_any (r : RC.Rc) (l : List Rl) (A L : Option Addr) (c cl : Nat) (w : World) (hr : r.ok) (hA : Its w A r.list) (n1 : Lim r.list.length) (hl : RecsIn w L l) (hk : l.length ≤ 1000) (hk2 : ∀ p ∈ l, p.r.list.length ≤ 100000) (hs : ∀ p ∈ l, ∀ x ∈ p.r.list, Lim x.name.size) :
    Calls Tryz.prog 20 #[recV r A c, .slice L l.length cl] w (DoS (SH.rmerge r (l.map (·.r))) w) := by
  obtain ⟨i0, hi0, hz0, hz1, hz2⟩ := info_parts item_info
  have HA := Lib.hid (fun u (b : Below w.heap.size w u) => its_srcA (c := c) Tryz.underlying23 (hA.below b))
  have hn1 : Lim (0 + r.list.length) := by rw [Nat.zero_add]; exact n1
  have HN := Lib.hid hn1
  have HL := Lib.hid hl
  have HK := Lib.hid hk2
  have HS := Lib.hid hs
  have HOr := Lib.hid hr
  have HAp := Lib.hid (fun (q : RC.Rc) (B : Option Addr) (d : Nat) (x : RC.It) (u : World) (hq : q.ok) (hB : Its u B q.list) (hn : Lim q.list.length) (hx : MF.W64 x.score) (hxs : Lim x.name.size) => show Calls Tryz.prog 50 #[recV q B d, .bool true, actV (SH.regK r.kind x) none 0] u (R5Post (RU.apply q true (SH.regK r.kind x)).1 (RU.apply q true (SH.regK r.kind x)).2.1 (RU.apply q true (SH.regK r.kind x)).2.2 u) from by
    by_cases h9 : r.kind = 9
    · rw [h9]
      exact r5apply_any q true (SH.regK 9 x) B none d 0 u hq (regK_ok 9 hx) hB (.inl rfl) hn (by show Lim 0; unfold Lim; decide) (by show Lim 1; unfold Lim; decide) hxs
    · rw [regK_no h9]
      have h := r5apply_any q true (SH.regK 8 x) B none d 0 u hq (regK_ok 8 hx) hB (.inl rfl) hn (by show Lim 0; unfold Lim; decide) (by show Lim 1; unfold Lim; decide) hxs
      rw [regK_8] at h
      exact h)
  have HD := Lib.hid (show SH.rmerge r (l.map (·.r)) = (l.map (·.r)).foldl (SH.rstep r.kind) r from rfl)
  generalize SH.rmerge r (l.map (·.r)) = M at *
  clear hr hA hl hk2 hs
  go_enter Tryz.func20, Tryz.ntmps20
  go_upto_region 1 with fail
  generalize hw1 : World.alloc (World.alloc w _) _ = w1
  have HB := Lib.hid (show Below w.heap.size w w1 by rw [← hw1]; exact below2 w _ _)
  have E1 := Lib.hid (show w1.heap[w.heap.size]? = some (.cells (recC r.kind r.num r.low r.high r.real r.cap r.text (.slice A r.list.length c)) 25 (0, 0)) by rw [← hw1]; exact heap_alloc2_old w _ _)
  have E4 := Lib.hid (show w1.heap[w.heap.size + 1]? = some (.cells (recC 0 0 0 0 0 0 ⟨#[]⟩ (.slice none 0 0)) 25 (0, 0)) by rw [← hw1]; exact heap_alloc2_new w _ _)
  clear hw1
  have HO0 := Lib.hid (show (World.alloc w1 (.cells #[] 91)).ownsRow 0 91 2 (.slice (some ⟨w1.heap.size, 0, none⟩) 0 0) 0 [] from World.ownsRow_lit (base := 0) (e := 91) (size := 2) w1 #[] 0 (Nat.zero_le _) (by unfold maxLen; omega) rfl)
  have p7 : w1.cell? ⟨w.heap.size, 7, none⟩ = some (.slice A r.list.length c) := cell_of_row w1 _ 7 _ _ (0, 0) E1.out
  have hlt1 : w.heap.size < w1.heap.size := lt_of_heap E1.out
  go_wp2_with (first
    | (at_builtin
       refine wpList_append_at rfl _ _ _ _ rfl 91 i0 _ 2 24 Tryz.underlying23 hi0 hz0 hz1 hz2 rfl (some ⟨w1.heap.size, 0, none⟩) 0 0 [] rfl HO0.out _ r.list.length _ rfl (HA.out _ (HB.out.trans ((below1 w1 _).mono HB.out.size))) (Lim.len HN.out) (Lim.fit HN.out 24 (by omega)) ?_
       intro A2 c2 w2 ho2 hg2 hat2
       have hb2 : Below w1.heap.size w1 w2 := grown_keep7 (below1 w1 _) (fun k e => by injection e with e; have e' : w1.heap.size = k := e; omega) hg2 (Nat.le_refl _)
       have hnew : ∀ k, ob A2 = some k → w1.heap.size ≤ k := grown_new7 (wa := World.alloc w1 _) (A := some ⟨w1.heap.size, 0, none⟩) (fun k e => by injection e with e; have e' : w1.heap.size = k := e; omega) hat2 (by simp)
       have e0 := (hb2.block _ (lt_of_heap E1.out)).trans E1.out
       have d7 : w2.cell? ⟨w.heap.size, 7, none⟩ = some (.slice A r.list.length c) := cell_of_row w2 _ 7 _ _ (0, 0) e0
       have f7 : ∀ o, w2.frozen? ⟨w.heap.size, o, none⟩ = false := fun o => frozen_of_row _ _ o _ _ e0
       have F1 := Lib.hid e0
       have F4 := Lib.hid ((hb2.block _ (lt_of_heap E4.out)).trans E4.out)
       have HO := Lib.hid ho2
       have HNw := Lib.hid hnew
       have HB2 := Lib.hid (HB.out.trans (hb2.mono HB.out.size))
       have HZ2 := Lib.hid hb2.size
       clear e0 hb2 hnew ho2 hg2 hat2))
  generalize hw3 : World.setCell w2 _ _ = w3
  have hk3 : Kp (fun j => j = w.heap.size) w2 w3 := by rw [← hw3]; exact Kp.setCell (S := fun j => j = w.heap.size) (p := ⟨w.heap.size, 7, none⟩) (Kp.refl _ _) (.inl rfl) _
  have G1 := Lib.hid (show w3.heap[w.heap.size]? = some (.cells (recC r.kind r.num r.low r.high r.real r.cap r.text (.slice A2 r.list.length c2)) 25 (0, 0)) by rw [← hw3]; exact heap_setCell_same w2 _ 7 _ _ _ F1.out)
  have G4 := Lib.hid ((hk3.block _ (lt_of_heap F4.out) (by omega)).trans F4.out)
  have HI3 := Lib.hid (show Its w3 A2 r.list from Its.own (c := c2) (hk3.own (by have h := HO.out; rw [Nat.zero_add, List.nil_append] at h; exact h) (fun k e x => by
    rw [ownBlock_slice] at e
    have := HNw.out k e
    omega)))
  have HB3 := Lib.hid (HB2.out.trans (hk3.below HB2.out.size (fun i hi x => by omega)))
  have HZ3 := Lib.hid (show w.heap.size + 1 < w3.heap.size from lt_of_heap G4.out)
  clear hw3 hk3 F1 F4 HO HNw HB2 HZ2 E1 E4 HO0 HA HB d7 f7 p7 hlt1 hn1
  go_wp2_with fail
  go_loopw [5] (fun t5 wr => ∃ (i : Nat) (q : RC.Rc) (B : Option Addr) (d : Nat), t5 = .int .i64 i ∧ i ≤ l.length ∧ q = ((l.take i).map (·.r)).foldl (SH.rstep r.kind) r ∧ wr.heap[w.heap.size]? = some (.cells (recC q.kind q.num q.low q.high q.real q.cap q.text (.slice B q.list.length d)) 25 (0, 0)) ∧ Its wr B q.list ∧ (q.ok ∧ q.kind = r.kind ∧ Lim q.list.length) ∧ Kp (fun j => j = w.heap.size) w3 wr) (fun t5 _ => l.length - (intOf t5).toNat)
  case atStart => exact ⟨0, r, A2, c2, rfl, Nat.zero_le _, rfl, G1.out, HI3.out, ⟨HOr.out, rfl, n1⟩, Kp.refl _ _⟩
  case round =>
    obtain ⟨i, q, B, d, rfl, hi, hq, hrow, hits, hqok, hkp⟩ := hrel
    have HQ := Lib.hid hq
    have HRow := Lib.hid hrow
    have HIt := Lib.hid hits
    have HQk := Lib.hid hqok
    have HKp := Lib.hid hkp
    have HGl := Lib.hid (lt_of_heap hrow)
    clear hq hrow hits hqok hkp
    by_cases hlt : i < l.length
    · have hin := HL.out.all _ (List.getElem_mem hlt)
      have hk2 := HK.out _ (List.getElem_mem hlt)
      have hs2 := HS.out _ (List.getElem_mem hlt)
      have hnx : ((l.take (i + 1)).map (·.r)).foldl (SH.rstep r.kind) r = SH.rstep r.kind q l[i].r := by
        rw [List.take_add_one, List.getElem?_eq_getElem hlt, List.map_append, List.foldl_append, ← HQ.out]
        rfl
      obtain ⟨b1, o1, hLe, hr1⟩ := recs_range7 HL.out hlt
      have hbl : b1 < w.heap.size := by
        rcases HL.out.rows with h0 | ⟨b, off, he, hb, _⟩
        · subst h0; simp at hlt
        · rw [hLe] at he; injection he with he; injection he with he _ _; omega
      subst hLe
      obtain ⟨p, hp⟩ : ∃ p, p = l[i] := ⟨_, rfl⟩
      rw [← hp] at hin hnx hr1 hk2 hs2
      have HNX := Lib.hid hnx
      have HIN := Lib.hid hin
      have HS2 := Lib.hid hs2
      have HR1 := Lib.hid (show wr.rangeAt b1 (o1 + i * 8) p.cells.toList from fun j v hv => HKp.out.cell (below_keep HB3.out (hr1 j v hv)) (by show ¬ b1 = w.heap.size; omega))
      have hi1 : (i : Int) < (l.length : Int) := by omega
      have BWr := Lib.hid (show Below w.heap.size w wr from HB3.out.trans (HKp.out.below HB3.out.size (fun i hi x => by omega)))
      clear hin hnx hr1 hp hbl hs2
      go_upto_region 6 with (first
        | (refine wpList_load_mid rfl _ _ rfl b1 (o1 + i * 8) rfl p.cells.toList _ HR1.out Tryz.underlying25 rfl rec_inf7 ?_)
        | (refine wpList_store_row rfl _ _ _ rfl _ p.cells rfl rfl 25 _ (heap_alloc_new _ _) rec_inf7 rfl (by kernel_rfl) ?_))
      rw [World.setRow_alloc_new]
      generalize hwb : World.alloc wr _ = wb
      have hbb : Below wr.heap.size wr wb := by rw [← hwb]; exact below1 wr _
      have R9 := Lib.hid (show wb.heap[wr.heap.size]? = some (.cells p.cells 25 (0, 0)) by rw [← hwb]; exact heap_alloc_new wr _)
      have e1 : wb.cell? ⟨wr.heap.size, 1, none⟩ = some (.int .i64 p.r.num) := cell_of_row wb _ 1 _ _ (0, 0) R9.out
      have e4 : wb.cell? ⟨wr.heap.size, 4, none⟩ = some (.float .f64 p.r.real) := cell_of_row wb _ 4 _ _ (0, 0) R9.out
      have e7 : wb.cell? ⟨wr.heap.size, 7, none⟩ = some (.slice p.A p.r.list.length p.c) := cell_of_row wb _ 7 _ _ (0, 0) R9.out
      have GB := Lib.hid ((hbb.block _ HGl.out).trans HRow.out)
      have g0 : wb.cell? ⟨w.heap.size, 0, none⟩ = some (.int .i64 r.kind) := (cell_of_row wb _ 0 _ _ (0, 0) GB.out).trans (by rw [← HQk.out.2.1]; rfl)
      have g1 : wb.cell? ⟨w.heap.size, 1, none⟩ = some (.int .i64 q.num) := cell_of_row wb _ 1 _ _ (0, 0) GB.out
      have g4 : wb.cell? ⟨w.heap.size, 4, none⟩ = some (.float .f64 q.real) := cell_of_row wb _ 4 _ _ (0, 0) GB.out
      have f5 : ∀ o, wb.frozen? ⟨w.heap.size, o, none⟩ = false := fun o => frozen_of_row _ _ o _ _ GB.out
      have HIb := Lib.hid (HIt.out.below hbb)
      have HKb := Lib.hid (HKp.out.trans (Kp.of_below hbb (fun j => j = w.heap.size)) (fun _ _ x => x))
      have HBb := Lib.hid (BWr.out.trans (hbb.mono BWr.out.size))
      have HG6 := Lib.hid (show w.heap.size < wr.heap.size ∧ wr.heap.size < wb.heap.size from ⟨HGl.out, lt_of_heap R9.out⟩)
      generalize hg6 : wr.heap.size = g6 at *
      clear hwb hbb HR1 hg6 HRow HIt HKp HGl BWr
      have HPO := Lib.hid (SH.rput_ok (kind := r.kind) HQk.out.1 HIN.out.ok)
      by_cases hk : r.kind = 2
      · have HW := Lib.hid (show SH.rput r.kind q p.r = { q with num := RU.w64 (q.num + p.r.num) } by unfold SH.rput; rw [if_pos (by omega)])
        have HST := Lib.hid (show SH.rstep r.kind q p.r = SH.rput r.kind q p.r by unfold SH.rstep; rw [if_neg (by omega)])
        replace g0 : wb.cell? ⟨w.heap.size, 0, none⟩ = some (.int .i64 2) := by rw [← hk]; exact g0
        have HKK := Lib.hid hk
        clear hk
        go_wp2_with fail
        generalize hwd : World.setCell wb _ _ = wd
        have hkd : Kp (fun j => j = w.heap.size) wb wd := by rw [← hwd]; exact Kp.setCell (S := fun j => j = w.heap.size) (p := ⟨w.heap.size, 1, none⟩) (Kp.refl _ _) (.inl rfl) _
        have HRd := Lib.hid (show wd.heap[w.heap.size]? = some (.cells (recC (SH.rput r.kind q p.r).kind (SH.rput r.kind q p.r).num (SH.rput r.kind q p.r).low (SH.rput r.kind q p.r).high (SH.rput r.kind q p.r).real (SH.rput r.kind q p.r).cap (SH.rput r.kind q p.r).text (.slice B (SH.rput r.kind q p.r).list.length d)) 25 (0, 0)) by rw [← hwd, HW.out]; exact heap_setCell_same wb _ 1 _ _ _ GB.out)
        have d0 : wd.cell? ⟨w.heap.size, 0, none⟩ = some (.int .i64 2) := (cell_of_row wd _ 0 _ _ (0, 0) HRd.out).trans (by show some (Value.int .i64 (SH.rput r.kind q p.r).kind) = _; rw [rput_kind, HQk.out.2.1, HKK.out])
        have d7 : wd.cell? ⟨g6, 7, none⟩ = some (.slice p.A p.r.list.length p.c) := hkd.cell e7 (by have := HG6.out; show ¬ g6 = w.heap.size; omega)
        have HId := Lib.hid (show Its wd B (SH.rput r.kind q p.r).list by
          rw [SH.rput_list]
          refine its_keep HIb.out hkd ?_
          rcases its_apart HIb.out GB.out (rec_no _ _ _ _ _ _ _ _ _ _) with h1 | h1
          · exact .inl h1
          · exact .inr fun ad e x => h1 ad e x)
        have HKd := Lib.hid (HKb.out.trans hkd (fun _ _ x => x))
        clear hwd hkd g0 g1 g4 f5 e1 e4 e7
        go_wp2_with fail
        go_loopw [7] (fun t7 ws => t7 = .int .i64 0 ∧ ws = wd) (fun _ _ => 0)
        case atStart => exact ⟨rfl, rfl⟩
        case round =>
          obtain ⟨rfl, rfl⟩ := hrel
          rcases Nat.eq_zero_or_pos p.r.list.length with h0 | h0
          · have h00 : ¬ (0 : Int) < (p.r.list.length : Int) := by omega
            go_wp2_with fail
            go_roundw
            case rel => exact ⟨i + 1, SH.rput r.kind q p.r, B, d, by go_num, by omega, by rw [HNX.out, HST.out], HRd.out, HId.out, ⟨HPO.out, by rw [rput_kind]; exact HQk.out.2.1, by rw [SH.rput_list]; exact HQk.out.2.2⟩, HKd.out⟩
            case measure => simp [intOf]; omega
          · have h00 : (0 : Int) < (p.r.list.length : Int) := by omega
            go_wp2_with fail
            go_roundw
            case rel => exact ⟨i + 1, SH.rput r.kind q p.r, B, d, by go_num, by omega, by rw [HNX.out, HST.out], HRd.out, HId.out, ⟨HPO.out, by rw [rput_kind]; exact HQk.out.2.1, by rw [SH.rput_list]; exact HQk.out.2.2⟩, HKd.out⟩
            case measure => simp [intOf]; omega
      have h2 := hk
      clear hk
      by_cases hk : r.kind = 3
      · have HW := Lib.hid (show SH.rput r.kind q p.r = { q with num := RU.w64 (q.num + p.r.num) } by unfold SH.rput; rw [if_pos (by omega)])
        have HST := Lib.hid (show SH.rstep r.kind q p.r = SH.rput r.kind q p.r by unfold SH.rstep; rw [if_neg (by omega)])
        replace g0 : wb.cell? ⟨w.heap.size, 0, none⟩ = some (.int .i64 3) := by rw [← hk]; exact g0
        have HKK := Lib.hid hk
        clear hk
        go_wp2_with fail
        generalize hwd : World.setCell wb _ _ = wd
        have hkd : Kp (fun j => j = w.heap.size) wb wd := by rw [← hwd]; exact Kp.setCell (S := fun j => j = w.heap.size) (p := ⟨w.heap.size, 1, none⟩) (Kp.refl _ _) (.inl rfl) _
        have HRd := Lib.hid (show wd.heap[w.heap.size]? = some (.cells (recC (SH.rput r.kind q p.r).kind (SH.rput r.kind q p.r).num (SH.rput r.kind q p.r).low (SH.rput r.kind q p.r).high (SH.rput r.kind q p.r).real (SH.rput r.kind q p.r).cap (SH.rput r.kind q p.r).text (.slice B (SH.rput r.kind q p.r).list.length d)) 25 (0, 0)) by rw [← hwd, HW.out]; exact heap_setCell_same wb _ 1 _ _ _ GB.out)
        have d0 : wd.cell? ⟨w.heap.size, 0, none⟩ = some (.int .i64 3) := (cell_of_row wd _ 0 _ _ (0, 0) HRd.out).trans (by show some (Value.int .i64 (SH.rput r.kind q p.r).kind) = _; rw [rput_kind, HQk.out.2.1, HKK.out])
        have d7 : wd.cell? ⟨g6, 7, none⟩ = some (.slice p.A p.r.list.length p.c) := hkd.cell e7 (by have := HG6.out; show ¬ g6 = w.heap.size; omega)
        have HId := Lib.hid (show Its wd B (SH.rput r.kind q p.r).list by
          rw [SH.rput_list]
          refine its_keep HIb.out hkd ?_
          rcases its_apart HIb.out GB.out (rec_no _ _ _ _ _ _ _ _ _ _) with h1 | h1
          · exact .inl h1
          · exact .inr fun ad e x => h1 ad e x)
        have HKd := Lib.hid (HKb.out.trans hkd (fun _ _ x => x))
        clear hwd hkd g0 g1 g4 f5 e1 e4 e7
        go_wp2_with fail
        go_loopw [7] (fun t7 ws => t7 = .int .i64 0 ∧ ws = wd) (fun _ _ => 0)
        case atStart => exact ⟨rfl, rfl⟩
        case round =>
          obtain ⟨rfl, rfl⟩ := hrel
          rcases Nat.eq_zero_or_pos p.r.list.length with h0 | h0
          · have h00 : ¬ (0 : Int) < (p.r.list.length : Int) := by omega
            go_wp2_with fail
            go_roundw
            case rel => exact ⟨i + 1, SH.rput r.kind q p.r, B, d, by go_num, by omega, by rw [HNX.out, HST.out], HRd.out, HId.out, ⟨HPO.out, by rw [rput_kind]; exact HQk.out.2.1, by rw [SH.rput_list]; exact HQk.out.2.2⟩, HKd.out⟩
            case measure => simp [intOf]; omega
          · have h00 : (0 : Int) < (p.r.list.length : Int) := by omega
            go_wp2_with fail
            go_roundw
            case rel => exact ⟨i + 1, SH.rput r.kind q p.r, B, d, by go_num, by omega, by rw [HNX.out, HST.out], HRd.out, HId.out, ⟨HPO.out, by rw [rput_kind]; exact HQk.out.2.1, by rw [SH.rput_list]; exact HQk.out.2.2⟩, HKd.out⟩
            case measure => simp [intOf]; omega
      have h3 := hk
      clear hk
      by_cases hk : r.kind = 4
      · have HW := Lib.hid (show SH.rput r.kind q p.r = { q with num := RU.w64 (q.num + p.r.num) } by unfold SH.rput; rw [if_pos (by omega)])
        have HST := Lib.hid (show SH.rstep r.kind q p.r = SH.rput r.kind q p.r by unfold SH.rstep; rw [if_neg (by omega)])
        replace g0 : wb.cell? ⟨w.heap.size, 0, none⟩ = some (.int .i64 4) := by rw [← hk]; exact g0
        have HKK := Lib.hid hk
        clear hk
        go_wp2_with fail
        generalize hwd : World.setCell wb _ _ = wd
        have hkd : Kp (fun j => j = w.heap.size) wb wd := by rw [← hwd]; exact Kp.setCell (S := fun j => j = w.heap.size) (p := ⟨w.heap.size, 1, none⟩) (Kp.refl _ _) (.inl rfl) _
        have HRd := Lib.hid (show wd.heap[w.heap.size]? = some (.cells (recC (SH.rput r.kind q p.r).kind (SH.rput r.kind q p.r).num (SH.rput r.kind q p.r).low (SH.rput r.kind q p.r).high (SH.rput r.kind q p.r).real (SH.rput r.kind q p.r).cap (SH.rput r.kind q p.r).text (.slice B (SH.rput r.kind q p.r).list.length d)) 25 (0, 0)) by rw [← hwd, HW.out]; exact heap_setCell_same wb _ 1 _ _ _ GB.out)
        have d0 : wd.cell? ⟨w.heap.size, 0, none⟩ = some (.int .i64 4) := (cell_of_row wd _ 0 _ _ (0, 0) HRd.out).trans (by show some (Value.int .i64 (SH.rput r.kind q p.r).kind) = _; rw [rput_kind, HQk.out.2.1, HKK.out])
        have d7 : wd.cell? ⟨g6, 7, none⟩ = some (.slice p.A p.r.list.length p.c) := hkd.cell e7 (by have := HG6.out; show ¬ g6 = w.heap.size; omega)
        have HId := Lib.hid (show Its wd B (SH.rput r.kind q p.r).list by
          rw [SH.rput_list]
          refine its_keep HIb.out hkd ?_
          rcases its_apart HIb.out GB.out (rec_no _ _ _ _ _ _ _ _ _ _) with h1 | h1
          · exact .inl h1
          · exact .inr fun ad e x => h1 ad e x)
        have HKd := Lib.hid (HKb.out.trans hkd (fun _ _ x => x))
        clear hwd hkd g0 g1 g4 f5 e1 e4 e7
        go_wp2_with fail
        go_loopw [7] (fun t7 ws => t7 = .int .i64 0 ∧ ws = wd) (fun _ _ => 0)
        case atStart => exact ⟨rfl, rfl⟩
        case round =>
          obtain ⟨rfl, rfl⟩ := hrel
          rcases Nat.eq_zero_or_pos p.r.list.length with h0 | h0
          · have h00 : ¬ (0 : Int) < (p.r.list.length : Int) := by omega
            go_wp2_with fail
            go_roundw
            case rel => exact ⟨i + 1, SH.rput r.kind q p.r, B, d, by go_num, by omega, by rw [HNX.out, HST.out], HRd.out, HId.out, ⟨HPO.out, by rw [rput_kind]; exact HQk.out.2.1, by rw [SH.rput_list]; exact HQk.out.2.2⟩, HKd.out⟩
            case measure => simp [intOf]; omega
          · have h00 : (0 : Int) < (p.r.list.length : Int) := by omega
            go_wp2_with fail
            go_roundw
            case rel => exact ⟨i + 1, SH.rput r.kind q p.r, B, d, by go_num, by omega, by rw [HNX.out, HST.out], HRd.out, HId.out, ⟨HPO.out, by rw [rput_kind]; exact HQk.out.2.1, by rw [SH.rput_list]; exact HQk.out.2.2⟩, HKd.out⟩
            case measure => simp [intOf]; omega
      have h4 := hk
      clear hk
      by_cases hk : r.kind = 5
      · have HW := Lib.hid (show SH.rput r.kind q p.r = { q with real := MF.rmx q.real p.r.real } by unfold SH.rput; rw [if_neg (by omega), if_pos hk])
        have HST := Lib.hid (show SH.rstep r.kind q p.r = SH.rput r.kind q p.r by unfold SH.rstep; rw [if_neg (by omega)])
        replace g0 : wb.cell? ⟨w.heap.size, 0, none⟩ = some (.int .i64 5) := by rw [← hk]; exact g0
        have HKK := Lib.hid hk
        clear hk
        go_wp2_with fail
        refine (rmax_any q.real p.r.real _ HQk.out.1.real HIN.out.ok.real).mono ?_
        rintro e w9 ⟨rfl, rfl⟩
        go_wp2_with fail
        generalize hwd : World.setCell wb _ _ = wd
        have hkd : Kp (fun j => j = w.heap.size) wb wd := by rw [← hwd]; exact Kp.setCell (S := fun j => j = w.heap.size) (p := ⟨w.heap.size, 4, none⟩) (Kp.refl _ _) (.inl rfl) _
        have HRd := Lib.hid (show wd.heap[w.heap.size]? = some (.cells (recC (SH.rput r.kind q p.r).kind (SH.rput r.kind q p.r).num (SH.rput r.kind q p.r).low (SH.rput r.kind q p.r).high (SH.rput r.kind q p.r).real (SH.rput r.kind q p.r).cap (SH.rput r.kind q p.r).text (.slice B (SH.rput r.kind q p.r).list.length d)) 25 (0, 0)) by rw [← hwd, HW.out]; exact heap_setCell_same wb _ 4 _ _ _ GB.out)
        have d0 : wd.cell? ⟨w.heap.size, 0, none⟩ = some (.int .i64 5) := (cell_of_row wd _ 0 _ _ (0, 0) HRd.out).trans (by show some (Value.int .i64 (SH.rput r.kind q p.r).kind) = _; rw [rput_kind, HQk.out.2.1, HKK.out])
        have d7 : wd.cell? ⟨g6, 7, none⟩ = some (.slice p.A p.r.list.length p.c) := hkd.cell e7 (by have := HG6.out; show ¬ g6 = w.heap.size; omega)
        have HId := Lib.hid (show Its wd B (SH.rput r.kind q p.r).list by
          rw [SH.rput_list]
          refine its_keep HIb.out hkd ?_
          rcases its_apart HIb.out GB.out (rec_no _ _ _ _ _ _ _ _ _ _) with h1 | h1
          · exact .inl h1
          · exact .inr fun ad e x => h1 ad e x)
        have HKd := Lib.hid (HKb.out.trans hkd (fun _ _ x => x))
        clear hwd hkd g0 g1 g4 f5 e1 e4 e7
        go_wp2_with fail
        go_loopw [7] (fun t7 ws => t7 = .int .i64 0 ∧ ws = wd) (fun _ _ => 0)
        case atStart => exact ⟨rfl, rfl⟩
        case round =>
          obtain ⟨rfl, rfl⟩ := hrel
          rcases Nat.eq_zero_or_pos p.r.list.length with h0 | h0
          · have h00 : ¬ (0 : Int) < (p.r.list.length : Int) := by omega
            go_wp2_with fail
            go_roundw
            case rel => exact ⟨i + 1, SH.rput r.kind q p.r, B, d, by go_num, by omega, by rw [HNX.out, HST.out], HRd.out, HId.out, ⟨HPO.out, by rw [rput_kind]; exact HQk.out.2.1, by rw [SH.rput_list]; exact HQk.out.2.2⟩, HKd.out⟩
            case measure => simp [intOf]; omega
          · have h00 : (0 : Int) < (p.r.list.length : Int) := by omega
            go_wp2_with fail
            go_roundw
            case rel => exact ⟨i + 1, SH.rput r.kind q p.r, B, d, by go_num, by omega, by rw [HNX.out, HST.out], HRd.out, HId.out, ⟨HPO.out, by rw [rput_kind]; exact HQk.out.2.1, by rw [SH.rput_list]; exact HQk.out.2.2⟩, HKd.out⟩
            case measure => simp [intOf]; omega
      have h5 := hk
      clear hk
      by_cases hk : r.kind = 6
      · have HW := Lib.hid (show SH.rput r.kind q p.r = { q with real := MF.rmn q.real p.r.real } by unfold SH.rput; rw [if_neg (by omega), if_neg (by omega), if_pos hk])
        have HST := Lib.hid (show SH.rstep r.kind q p.r = SH.rput r.kind q p.r by unfold SH.rstep; rw [if_neg (by omega)])
        replace g0 : wb.cell? ⟨w.heap.size, 0, none⟩ = some (.int .i64 6) := by rw [← hk]; exact g0
        have HKK := Lib.hid hk
        clear hk
        go_wp2_with fail
        refine (rmin_any q.real p.r.real _ HQk.out.1.real HIN.out.ok.real).mono ?_
        rintro e w9 ⟨rfl, rfl⟩
        go_wp2_with fail
        generalize hwd : World.setCell wb _ _ = wd
        have hkd : Kp (fun j => j = w.heap.size) wb wd := by rw [← hwd]; exact Kp.setCell (S := fun j => j = w.heap.size) (p := ⟨w.heap.size, 4, none⟩) (Kp.refl _ _) (.inl rfl) _
        have HRd := Lib.hid (show wd.heap[w.heap.size]? = some (.cells (recC (SH.rput r.kind q p.r).kind (SH.rput r.kind q p.r).num (SH.rput r.kind q p.r).low (SH.rput r.kind q p.r).high (SH.rput r.kind q p.r).real (SH.rput r.kind q p.r).cap (SH.rput r.kind q p.r).text (.slice B (SH.rput r.kind q p.r).list.length d)) 25 (0, 0)) by rw [← hwd, HW.out]; exact heap_setCell_same wb _ 4 _ _ _ GB.out)
        have d0 : wd.cell? ⟨w.heap.size, 0, none⟩ = some (.int .i64 6) := (cell_of_row wd _ 0 _ _ (0, 0) HRd.out).trans (by show some (Value.int .i64 (SH.rput r.kind q p.r).kind) = _; rw [rput_kind, HQk.out.2.1, HKK.out])
        have d7 : wd.cell? ⟨g6, 7, none⟩ = some (.slice p.A p.r.list.length p.c) := hkd.cell e7 (by have := HG6.out; show ¬ g6 = w.heap.size; omega)
        have HId := Lib.hid (show Its wd B (SH.rput r.kind q p.r).list by
          rw [SH.rput_list]
          refine its_keep HIb.out hkd ?_
          rcases its_apart HIb.out GB.out (rec_no _ _ _ _ _ _ _ _ _ _) with h1 | h1
          · exact .inl h1
          · exact .inr fun ad e x => h1 ad e x)
        have HKd := Lib.hid (HKb.out.trans hkd (fun _ _ x => x))
        clear hwd hkd g0 g1 g4 f5 e1 e4 e7
        go_wp2_with fail
        go_loopw [7] (fun t7 ws => t7 = .int .i64 0 ∧ ws = wd) (fun _ _ => 0)
        case atStart => exact ⟨rfl, rfl⟩
        case round =>
          obtain ⟨rfl, rfl⟩ := hrel
          rcases Nat.eq_zero_or_pos p.r.list.length with h0 | h0
          · have h00 : ¬ (0 : Int) < (p.r.list.length : Int) := by omega
            go_wp2_with fail
            go_roundw
            case rel => exact ⟨i + 1, SH.rput r.kind q p.r, B, d, by go_num, by omega, by rw [HNX.out, HST.out], HRd.out, HId.out, ⟨HPO.out, by rw [rput_kind]; exact HQk.out.2.1, by rw [SH.rput_list]; exact HQk.out.2.2⟩, HKd.out⟩
            case measure => simp [intOf]; omega
          · have h00 : (0 : Int) < (p.r.list.length : Int) := by omega
            go_wp2_with fail
            go_roundw
            case rel => exact ⟨i + 1, SH.rput r.kind q p.r, B, d, by go_num, by omega, by rw [HNX.out, HST.out], HRd.out, HId.out, ⟨HPO.out, by rw [rput_kind]; exact HQk.out.2.1, by rw [SH.rput_list]; exact HQk.out.2.2⟩, HKd.out⟩
            case measure => simp [intOf]; omega
      have h6 := hk
      clear hk
      by_cases h8 : 8 ≤ r.kind
      case neg =>
        have HW := Lib.hid (show SH.rstep r.kind q p.r = q by unfold SH.rstep SH.rput; rw [if_neg h8, if_neg (by omega), if_neg h5, if_neg h6])
        have h24 : ¬ (2 ≤ r.kind ∧ r.kind ≤ 4) := by omega
        by_cases hlow : 2 ≤ r.kind
        case neg =>
          go_wp2_with fail
          go_loopw [7] (fun t7 ws => t7 = .int .i64 0 ∧ ws = wb) (fun _ _ => 0)
          case atStart => exact ⟨rfl, rfl⟩
          case round =>
            obtain ⟨rfl, rfl⟩ := hrel
            rcases Nat.eq_zero_or_pos p.r.list.length with h0 | h0
            · have h00 : ¬ (0 : Int) < (p.r.list.length : Int) := by omega
              go_wp2_with fail
              go_roundw
              case rel => exact ⟨i + 1, q, B, d, by go_num, by omega, by rw [HNX.out, HW.out], GB.out, HIb.out, HQk.out, HKb.out⟩
              case measure => simp [intOf]; omega
            · have h00 : (0 : Int) < (p.r.list.length : Int) := by omega
              go_wp2_with fail
              go_roundw
              case rel => exact ⟨i + 1, q, B, d, by go_num, by omega, by rw [HNX.out, HW.out], GB.out, HIb.out, HQk.out, HKb.out⟩
              case measure => simp [intOf]; omega
        have hhi : ¬ r.kind ≤ 4 := by omega
        go_wp2_with fail
        go_loopw [7] (fun t7 ws => t7 = .int .i64 0 ∧ ws = wb) (fun _ _ => 0)
        case atStart => exact ⟨rfl, rfl⟩
        case round =>
          obtain ⟨rfl, rfl⟩ := hrel
          rcases Nat.eq_zero_or_pos p.r.list.length with h0 | h0
          · have h00 : ¬ (0 : Int) < (p.r.list.length : Int) := by omega
            go_wp2_with fail
            go_roundw
            case rel => exact ⟨i + 1, q, B, d, by go_num, by omega, by rw [HNX.out, HW.out], GB.out, HIb.out, HQk.out, HKb.out⟩
            case measure => simp [intOf]; omega
          · have h00 : (0 : Int) < (p.r.list.length : Int) := by omega
            go_wp2_with fail
            go_roundw
            case rel => exact ⟨i + 1, q, B, d, by go_num, by omega, by rw [HNX.out, HW.out], GB.out, HIb.out, HQk.out, HKb.out⟩
            case measure => simp [intOf]; omega
      have HW := Lib.hid (show SH.rstep r.kind q p.r = SH.inn r.kind q p.r.list by unfold SH.rstep; rw [if_pos h8, rput8 h8])
      have hge2 : (2 : Int) ≤ r.kind := by omega
      have hhi : ¬ r.kind ≤ 4 := by omega
      go_wp2_with fail
      go_loopw [7] (fun t7 ws => ∃ (k : Nat) (q2 : RC.Rc) (B2 : Option Addr) (d2 : Nat), t7 = .int .i64 k ∧ k ≤ p.r.list.length ∧ q2 = SH.inn r.kind q (p.r.list.take k) ∧ ws.heap[w.heap.size]? = some (.cells (recC q2.kind q2.num q2.low q2.high q2.real q2.cap q2.text (.slice B2 q2.list.length d2)) 25 (0, 0)) ∧ Its ws B2 q2.list ∧ (q2.ok ∧ q2.kind = r.kind ∧ Lim q2.list.length) ∧ Kp (fun j => j = w.heap.size) wb ws) (fun t7 _ => p.r.list.length - (intOf t7).toNat)
      case atStart => exact ⟨0, q, B, d, rfl, Nat.zero_le _, rfl, GB.out, HIb.out, HQk.out, Kp.refl _ _⟩
      case round =>
        obtain ⟨k, q2, B2, d2, rfl, hk7, hq2, hrow2, hits2, hqok2, hkp2⟩ := hrel
        generalize wr = ws at *
        have HQ2 := Lib.hid hq2
        have HRow2 := Lib.hid hrow2
        have HIt2 := Lib.hid hits2
        have HQk2 := Lib.hid hqok2
        have HKp2 := Lib.hid hkp2
        have d7 : ws.cell? ⟨g6, 7, none⟩ = some (.slice p.A p.r.list.length p.c) := hkp2.cell e7 (by have := HG6.out; show ¬ g6 = w.heap.size; omega)
        have d0 : ws.cell? ⟨w.heap.size, 0, none⟩ = some (.int .i64 r.kind) := (cell_of_row ws _ 0 _ _ (0, 0) hrow2).trans (by rw [← hqok2.2.1]; rfl)
        have HBs := Lib.hid (HBb.out.trans (hkp2.below HBb.out.size (fun i hi x => by omega)))
        have HZs := Lib.hid (show wb.heap.size ≤ ws.heap.size from hkp2.size)
        clear hq2 hrow2 hits2 hqok2 hkp2 g0 g1 g4 f5 e1 e4 e7
        by_cases hlt2 : k < p.r.list.length
        · have hk1 : (k : Int) < (p.r.list.length : Int) := by omega
          rcases HIN.out.its with h0 | ⟨b2, o2, hpA, hbl, hits⟩
          · rw [h0] at hlt2; simp at hlt2
          have hx := hits k _ (List.getElem?_eq_getElem hlt2)
          have hxo := HIN.out.ok.list _ (List.getElem_mem hlt2)
          have hxs := HS2.out _ (List.getElem_mem hlt2)
          obtain ⟨x, hxe⟩ : ∃ x, x = p.r.list[k] := ⟨_, rfl⟩
          have HTA := Lib.hid (show (RU.apply q2 true (SH.regK r.kind x)).1 = SH.inn r.kind q (p.r.list.take (k + 1)) by rw [HQ2.out, hxe, List.take_add_one, List.getElem?_eq_getElem hlt2]; unfold SH.inn; rw [List.foldl_append]; rfl)
          rw [← hxe] at hx hxo hxs
          obtain ⟨hx0, hx1⟩ := hx
          have x0 := below_keep HBs.out hx0
          have x1 := below_keep HBs.out hx1
          have HXO := Lib.hid (And.intro hxo hxs)
          have HB2l := Lib.hid (show b2 < w.heap.size from hbl)
          have HRO := Lib.hid (regK_kind HQk2.out.2.1 h8 x)
          clear hits hx0 hx1 hxe hxo hxs hbl
          rw [hpA] at d7
          go_upto_region 16 with (first
            | (refine wpList_store_row rfl _ _ _ rfl _ (actC ⟨18, SH.sK, 0, 0, x.name, RC.zero, false⟩ none 0) rfl rfl 37 _ (heap_alloc_new _ _) act_inf9 rfl (by kernel_rfl) ?_))
          rw [World.setRow_alloc_new]
          generalize hwt : World.alloc ws _ = wt
          have hbt : Below ws.heap.size ws wt := by rw [← hwt]; exact below1 ws _
          have A8 := Lib.hid (show wt.heap[ws.heap.size]? = some (.cells (actC ⟨18, SH.sK, 0, 0, x.name, RC.zero, false⟩ none 0) 37 (0, 0)) by rw [← hwt]; exact heap_alloc_new ws _)
          have RT := Lib.hid ((hbt.block _ (lt_of_heap HRow2.out)).trans HRow2.out)
          have IT := Lib.hid (HIt2.out.below hbt)
          have IT2 := Lib.hid (fun u (hk : Kp (fun j => j = ws.heap.size) wt u) => HIt2.out.below (hbt.trans (hk.below hbt.size (fun i hi x => by omega))))
          have KT := Lib.hid (HKp2.out.trans (Kp.of_below hbt (fun j => j = w.heap.size)) (fun _ _ x => x))
          have BT := Lib.hid (HBs.out.trans (hbt.mono HBs.out.size))
          have t0 : wt.cell? ⟨w.heap.size, 0, none⟩ = some (.int .i64 r.kind) := below_keep hbt d0
          have t7 : wt.cell? ⟨g6, 7, none⟩ = some (.slice (some ⟨b2, o2, none⟩) p.r.list.length p.c) := below_keep hbt d7
          have HZ8 := Lib.hid (show w.heap.size < ws.heap.size ∧ g6 < ws.heap.size ∧ b2 < ws.heap.size ∧ wb.heap.size ≤ ws.heap.size from ⟨lt_of_heap HRow2.out, by have := HG6.out; have := HZs.out; omega, by have := HB2l.out; have := lt_of_heap HRow2.out; omega, HZs.out⟩)
          have y0 := below_keep hbt x0
          have y1 := below_keep hbt x1
          generalize hg8 : ws.heap.size = g8 at *
          clear hwt hbt hg8 HRow2 HIt2 HKp2 HBs HZs d0 d7 x0 x1
          by_cases h9 : r.kind = 9
          · have HRK := Lib.hid (show SH.regK r.kind x = ⟨21, SH.sK, 0, x.score, x.name, RC.zero, false⟩ by rw [h9, regK_9])
            replace t0 : wt.cell? ⟨w.heap.size, 0, none⟩ = some (.int .i64 9) := by rw [← h9]; exact t0
            clear h9
            go_upto_region 17 with fail
            have IT3 := Lib.hid (fun u (hk : Kp (fun j => j = g8) (World.drew wt) u) => IT2.out u ((Kp.drew (Kp.refl _ _)).trans hk (fun _ _ x => x)))
            have KT3 := Lib.hid (fun u (hk : Kp (fun j => j = g8) (World.drew wt) u) => KT.out.trans (((Kp.drew (S := fun j => j = g8) (Kp.refl _ wt)).trans hk (fun _ _ x => x)).mono (S' := fun j => j = w.heap.size ∨ j = g8) (fun _ _ x => .inr x)) (fun j hj x => by rcases x with x | x; exact x; have := HZ8.out; omega))
            have RT3 := Lib.hid (show (World.drew wt).heap[w.heap.size]? = some (.cells (recC q2.kind q2.num q2.low q2.high q2.real q2.cap q2.text (.slice B2 q2.list.length d2)) 25 (0, 0)) from RT.out)
            have A3 := Lib.hid (show (World.drew wt).heap[g8]? = some (.cells (actC ⟨18, SH.sK, 0, 0, x.name, RC.zero, false⟩ none 0) 37 (0, 0)) from A8.out)
            go_still_tail 13, (by kernel_rfl)
            change wpList _ _ _ _ _ (World.drew wt)
            generalize World.drew wt = v0 at *
            clear t0 t7 y0 y1 IT KT RT A8 IT2
            go_upto_region 18 with (first | (refine wpList_store_row rfl _ _ _ rfl g8 (actC ⟨21, SH.sK, 0, x.score, x.name, RC.zero, false⟩ none 0) rfl rfl 37 _ A3.out act_inf9 rfl (by kernel_rfl) ?_))
            generalize hwx : World.setRow v0 _ _ = v1
            have hkx : Kp (fun j => j = g8) v0 v1 := by rw [← hwx]; exact kpRow7 (S := fun j => j = g8) (Kp.refl _ _) (.inl rfl) _
            have A8 := Lib.hid (show v1.heap[g8]? = some (.cells (actC ⟨21, SH.sK, 0, x.score, x.name, RC.zero, false⟩ none 0) 37 (0, 0)) by rw [← hwx]; exact setRow_heap v0 _ _ _ _ _ A3.out)
            have RT := Lib.hid ((hkx.block _ (lt_of_heap RT3.out) (by have := HZ8.out; omega)).trans RT3.out)
            have IT := Lib.hid (IT3.out _ hkx)
            have KT := Lib.hid (KT3.out _ hkx)
            clear hwx hkx IT3 KT3 RT3 A3
            have HQQ := Lib.hid (show Calls Tryz.prog 50 #[recV q2 B2 d2, .bool true, .agg (actC ⟨21, SH.sK, 0, x.score, x.name, RC.zero, false⟩ none 0)] v1 (R5Post (RU.apply q2 true (SH.regK r.kind x)).1 true (RU.apply q2 true (SH.regK r.kind x)).2.2 v1) from by have h := HAp.out q2 B2 d2 x v1 HQk2.out.1 IT.out HQk2.out.2.2 HXO.out.1 HXO.out.2; rw [HRO.out.2] at h; rw [HRK.out] at h ⊢; exact h)
            have HPP := Lib.hid (And.intro (apply_ok (there := true) HQk2.out.1 (regK_ok r.kind HXO.out.1)).1 (And.intro HRO.out.1 (apply_lim (there := true) HQk2.out.1 (regK_ok r.kind HXO.out.1) HQk2.out.2.2).1))
            generalize (RU.apply q2 true (SH.regK r.kind x)).2.2 = xx at *
            generalize (RU.apply q2 true (SH.regK r.kind x)).1 = q3 at *
            clear HRK HRO
            go_wp2_with (first
              | (refine wpList_load_row rfl _ _ rfl w.heap.size rfl 25 _ (0, 0) _ RT.out Tryz.underlying25 rfl rec_inf7 ?_)
              | (refine wpList_load_row rfl _ _ rfl g8 rfl 37 _ (0, 0) _ A8.out Tryz.underlying37 rfl act_inf9 ?_))
            refine HQQ.out.mono ?_
            rintro e w7 ⟨B3, d3, D, dd, rfl, hi1, hi2, hb7⟩
            have R7 := Lib.hid ((hb7.block _ (lt_of_heap RT.out)).trans RT.out)
            have I7 := Lib.hid (show Its w7 B3 q3.list from hi1)
            have K7 := Lib.hid (KT.out.trans (Kp.of_below hb7 (fun j => j = w.heap.size)) (fun _ _ x => x))
            clear hi1 hi2 hb7 HQQ RT IT KT A8
            go_wp2_with (first
              | (refine wpList_store_row rfl _ _ _ rfl w.heap.size (recC q3.kind q3.num q3.low q3.high q3.real q3.cap q3.text (.slice B3 q3.list.length d3)) rfl rfl 25 _ R7.out rec_inf7 rfl (by kernel_rfl) ?_))
            generalize hw8 : World.setRow w7 _ _ = w8
            have hk8 : Kp (fun j => j = w.heap.size) w7 w8 := by rw [← hw8]; exact kpRow7 (S := fun j => j = w.heap.size) (Kp.refl _ _) (.inl rfl) _
            have R8 := Lib.hid (show w8.heap[w.heap.size]? = some (.cells (recC q3.kind q3.num q3.low q3.high q3.real q3.cap q3.text (.slice B3 q3.list.length d3)) 25 (0, 0)) by rw [← hw8]; exact setRow_heap w7 _ _ _ _ _ R7.out)
            have I8 := Lib.hid (its_keep I7.out hk8 (by
              rcases its_apart I7.out R7.out (rec_no _ _ _ _ _ _ _ _ _ _) with h1 | h1
              · exact .inl h1
              · exact .inr fun ad e x => h1 ad e x))
            have K8 := Lib.hid (K7.out.trans hk8 (fun _ _ x => x))
            clear hw8 hk8 R7 I7 K7
            go_wp2_with fail
            go_roundw
            case rel => exact ⟨k + 1, q3, B3, d3, by go_num, by omega, HTA.out, R8.out, I8.out, HPP.out, K8.out⟩
            case measure => simp [intOf]; omega
          · have HRK := Lib.hid (show SH.regK r.kind x = ⟨18, SH.sK, 0, 0, x.name, RC.zero, false⟩ from regK_no h9 x)
            have b9 : (r.kind == 9) = false := beq_eq_false_iff_ne.2 h9
            have HQQ := Lib.hid (show Calls Tryz.prog 50 #[recV q2 B2 d2, .bool true, .agg (actC ⟨18, SH.sK, 0, 0, x.name, RC.zero, false⟩ none 0)] wt (R5Post (RU.apply q2 true (SH.regK r.kind x)).1 true (RU.apply q2 true (SH.regK r.kind x)).2.2 wt) from by have h := HAp.out q2 B2 d2 x wt HQk2.out.1 IT.out HQk2.out.2.2 HXO.out.1 HXO.out.2; rw [HRO.out.2] at h; rw [HRK.out] at h ⊢; exact h)
            have HPP := Lib.hid (And.intro (apply_ok (there := true) HQk2.out.1 (regK_ok r.kind HXO.out.1)).1 (And.intro HRO.out.1 (apply_lim (there := true) HQk2.out.1 (regK_ok r.kind HXO.out.1) HQk2.out.2.2).1))
            generalize (RU.apply q2 true (SH.regK r.kind x)).2.2 = xx at *
            generalize (RU.apply q2 true (SH.regK r.kind x)).1 = q3 at *
            clear HRK HRO
            go_wp2_with (first
              | (refine wpList_load_row rfl _ _ rfl w.heap.size rfl 25 _ (0, 0) _ RT.out Tryz.underlying25 rfl rec_inf7 ?_)
              | (refine wpList_load_row rfl _ _ rfl g8 rfl 37 _ (0, 0) _ A8.out Tryz.underlying37 rfl act_inf9 ?_))
            refine HQQ.out.mono ?_
            rintro e w7 ⟨B3, d3, D, dd, rfl, hi1, hi2, hb7⟩
            have R7 := Lib.hid ((hb7.block _ (lt_of_heap RT.out)).trans RT.out)
            have I7 := Lib.hid (show Its w7 B3 q3.list from hi1)
            have K7 := Lib.hid (KT.out.trans (Kp.of_below hb7 (fun j => j = w.heap.size)) (fun _ _ x => x))
            clear hi1 hi2 hb7 HQQ RT IT KT A8
            go_wp2_with (first
              | (refine wpList_store_row rfl _ _ _ rfl w.heap.size (recC q3.kind q3.num q3.low q3.high q3.real q3.cap q3.text (.slice B3 q3.list.length d3)) rfl rfl 25 _ R7.out rec_inf7 rfl (by kernel_rfl) ?_))
            generalize hw8 : World.setRow w7 _ _ = w8
            have hk8 : Kp (fun j => j = w.heap.size) w7 w8 := by rw [← hw8]; exact kpRow7 (S := fun j => j = w.heap.size) (Kp.refl _ _) (.inl rfl) _
            have R8 := Lib.hid (show w8.heap[w.heap.size]? = some (.cells (recC q3.kind q3.num q3.low q3.high q3.real q3.cap q3.text (.slice B3 q3.list.length d3)) 25 (0, 0)) by rw [← hw8]; exact setRow_heap w7 _ _ _ _ _ R7.out)
            have I8 := Lib.hid (its_keep I7.out hk8 (by
              rcases its_apart I7.out R7.out (rec_no _ _ _ _ _ _ _ _ _ _) with h1 | h1
              · exact .inl h1
              · exact .inr fun ad e x => h1 ad e x))
            have K8 := Lib.hid (K7.out.trans hk8 (fun _ _ x => x))
            clear hw8 hk8 R7 I7 K7
            go_wp2_with fail
            go_roundw
            case rel => exact ⟨k + 1, q3, B3, d3, by go_num, by omega, HTA.out, R8.out, I8.out, HPP.out, K8.out⟩
            case measure => simp [intOf]; omega
        · have hk' : k = p.r.list.length := by omega
          have hk1 : ¬ (k : Int) < (p.r.list.length : Int) := by omega
          have HE := Lib.hid (show q2 = SH.rstep r.kind q p.r by rw [HQ2.out, HW.out, hk', List.take_length])
          have HKf := Lib.hid (HKb.out.trans HKp2.out (fun _ _ x => x))
          clear hlt2 hk7 hk'
          go_wp2_with fail
          go_roundw
          case rel => exact ⟨i + 1, q2, B2, d2, by go_num, by omega, by rw [HNX.out, HE.out], HRow2.out, HIt2.out, HQk2.out, HKf.out⟩
          case measure => simp [intOf]; omega
    · have hi' : i = l.length := by omega
      have hi1 : ¬ (i : Int) < (l.length : Int) := by omega
      have HE := Lib.hid (show q = M by rw [HQ.out, HD.out, hi', List.take_length])
      have G4 := Lib.hid ((HKp.out.block _ (lt_of_heap G4.out) (by omega)).trans G4.out)
      have HBr := Lib.hid (HB3.out.trans (HKp.out.below HB3.out.size (fun i hi x => by omega)))
      clear hlt hi hi'
      go_wp2_with (first
        | (refine wpList_load_row rfl _ _ rfl w.heap.size rfl 25 _ (0, 0) _ HRow.out Tryz.underlying25 rfl rec_inf7 ?_)
        | (refine wpList_store_row rfl _ _ _ rfl (w.heap.size + 1) (recC q.kind q.num q.low q.high q.real q.cap q.text (.slice B q.list.length d)) rfl rfl 25 _ G4.out rec_inf7 rfl (by kernel_rfl) ?_))
      generalize hwf : World.setRow wr _ _ = wf
      have hkf : Kp (fun j => j = w.heap.size + 1) wr wf := by rw [← hwf]; exact kpRow7 (S := fun j => j = w.heap.size + 1) (Kp.refl _ _) (.inl rfl) _
      have X2 : wf.heap[w.heap.size + 1]? = some (.cells (recC q.kind q.num q.low q.high q.real q.cap q.text (.slice B q.list.length d)) 25 (0, 0)) := by rw [← hwf]; exact setRow_heap wr _ _ _ _ _ G4.out
      have k2 := fun o => cell_of_row wf _ o _ _ (0, 0) X2
      have HPo := Lib.hid (show DoS M w (.returned (recV q B d)) wf from ⟨B, d, by rw [HE.out], by rw [← HE.out]; exact its_keep HIt.out hkf (by
        rcases its_apart HIt.out G4.out (rec_no _ _ _ _ _ _ _ _ _ _) with h1 | h1
        · exact .inl h1
        · exact .inr fun ad e x => h1 ad e x), HBr.out.trans (hkf.below HBr.out.size (fun i hi x => by omega))⟩)
      clear hwf X2 hkf
      exact bodyPost_ret (v := recV q B d) (by simp [results, Tryz.results20, go_sem, k2]) rfl HPo.out
end Go.Proofs.YtbkcmnmbcldjoaaGreatDoor
