/- Contracts of the document's own answers for layer 5: Apply of an act that is done. -/
import Derived.Test.YtbkcmnmbcldjoaaGreatDoorR5XP7b
namespace Go.Proofs.YtbkcmnmbcldjoaaGreatDoor
open Go.RowKit MM
set_option linter.unusedVariables false
set_option linter.unusedSimpArgs false
set_option maxHeartbeats 4000000 in
set_option maxRecDepth 100000 in
theorem r5apply_drop (r : RC.Rc) (k : Int) (key : ByteArray) (n : Int) (x : Nat) (s : ByteArray) (m : RC.Rc) (must : Bool) (A L : Option Addr) (c cl : Nat) (w : World) (hr : r.ok) (ha : (⟨k, key, n, x, s, m, must⟩ : AC.Ac).ok) (hA : Its w A r.list) (hL : Its w L m.list) (n1 : Lim r.list.length) (n2 : Lim m.list.length) (n3 : Lim key.size) (n4 : Lim s.size) (hca : AC.chk ⟨k, key, n, x, s, m, must⟩ = 0) (hc3 : RC.chk r = 0) (hk : k = 2) :
    Calls Tryz.prog 50 #[recV r A c, .bool true, actV ⟨k, key, n, x, s, m, must⟩ L cl] w (R5Post RC.zero false (RU.err 0) w) := by
  subst hk
  have HC := Lib.hid (fun u (b : Below w.heap.size w u) => rcheck4_any ⟨2, key, n, x, s, m, must⟩ L cl u ha (hL.below b) n2 n3 n4)
  have HLm := Lib.hid hL
  have HN2 := Lib.hid n2
  have HO := Lib.hid (fun u (b : Below w.heap.size w u) => copied_any r A c u (hA.below b) n1)
  have HD := Lib.hid (fun u A' c' (h : Its u A' r.list) => rcheck_any r A' c' u hr h n1)
  have HN1 := Lib.hid n1
  have HAo := Lib.hid ha
  have HRo := Lib.hid hr
  clear hr ha hA hL n1 n2 n3 n4
  go_enter Tryz.func50, Tryz.ntmps50
  go_wp2_with fail
  refine (HO.out _ (below4 w _ _ _ _)).mono ?_
  rintro e w1 ⟨A1, k1, rfl, ho, hn, hb⟩
  have hs1 := hb.size
  simp only [World.size_alloc] at hs1 hn
  have e0 := (hb.block w.heap.size (by simp only [World.size_alloc]; omega)).trans (A5.row0 _ _ _ _ w)
  have e1 := (hb.block (w.heap.size + 1) (by simp only [World.size_alloc]; omega)).trans (A5.row1 _ _ _ _ w)
  have e2 := (hb.block (w.heap.size + 1 + 1) (by simp only [World.size_alloc]; omega)).trans (A5.row2 _ _ _ _ w)
  have e3 := (hb.block (w.heap.size + 1 + 1 + 1) (by simp only [World.size_alloc]; omega)).trans (A5.row3 _ _ _ _ w)
  have HB := Lib.hid (show Below w.heap.size w w1 from (below4 w _ _ _ _).trans (hb.mono (by simp only [World.size_alloc]; omega)))
  have E0 := Lib.hid e0
  have E1 := Lib.hid e1
  have E2 := Lib.hid e2
  have E3 := Lib.hid e3
  have HW := Lib.hid ho
  have HN := Lib.hid (show ∀ k, ob A1 = some k → w.heap.size + 4 ≤ k from fun k e => by have := hn k e; omega)
  have d0 := fun o => cell_of_row w1 _ o _ _ (0, 0) e0
  have d1 := fun o => cell_of_row w1 _ o _ _ (0, 0) e1
  have g0 : ∀ o, w1.frozen? ⟨w.heap.size, o, none⟩ = false := fun o => frozen_of_row _ _ o _ _ e0
  have z1 : w.heap.size + 1 < w1.heap.size := by omega
  clear hb e0 e1 e2 e3 ho hn
  go_wp2_with fail
  generalize hwz : World.setCell _ _ _ = wz
  have HA5 := Lib.hid (show A5 w r A1 k1 (actC ⟨2, key, n, x, s, m, must⟩ L cl) wz by
    have hkz : Kp (fun k => k = w.heap.size) w1 wz := by rw [← hwz]; exact kp8g (Kp.refl _ _) (Or.inl rfl)
    refine ⟨by rw [← hwz]; exact rec_stores E0.out, (hkz.block _ (lt_of_heap E1.out) (by omega)).trans E1.out, (hkz.block _ (lt_of_heap E2.out) (by omega)).trans E2.out, (hkz.block _ (lt_of_heap E3.out) (by omega)).trans E3.out, (Its.own HW.out).kp hkz (fun ad e x => by subst e; have := HN.out ad.block rfl; omega), HN.out, HB.out.trans (hkz.below (by omega) (fun i hi x => by omega))⟩)
  clear hwz d0 d1 g0 z1 E0 E1 E2 E3 HW HN HB hs1 HO
  refine (HC.out _ HA5.out.below).mono ?_
  rw [hca]
  rintro e w2 ⟨rfl, hb⟩
  have HA5 := Lib.hid (HA5.out.look hb)
  clear hb hca
  generalize w2 = wz at *
  have c0 := fun o => cell_of_row wz _ o _ _ (0, 0) HA5.out.r0
  have c1 := fun o => cell_of_row wz _ o _ _ (0, 0) HA5.out.r1
  go_wp2_with fail
  refine (HD.out _ _ _ HA5.out.its).mono ?_
  rw [hc3]
  rintro e w2 ⟨rfl, hb⟩
  have HA5 := Lib.hid (HA5.out.look hb)
  clear hb c0 c1 hc3
  generalize w2 = wz at *
  have c0 := fun o => cell_of_row wz _ o _ _ (0, 0) HA5.out.r0
  have c1 := fun o => cell_of_row wz _ o _ _ (0, 0) HA5.out.r1
  go_wp2_with fail
  refine (rOn_any 2 _).mono ?_
  rw [show (rowAt 2).on = 0 from rfl]
  rintro e w3 ⟨rfl, hb⟩
  have HA5 := Lib.hid (HA5.out.look hb)
  clear hb c0 c1
  generalize w3 = wz at *
  have c0 := fun o => cell_of_row wz _ o _ _ (0, 0) HA5.out.r0
  have c1 := fun o => cell_of_row wz _ o _ _ (0, 0) HA5.out.r1
  have c2 := fun o => cell_of_row wz _ o _ _ (0, 0) HA5.out.r2
  have c3 := fun o => cell_of_row wz _ o _ _ (0, 0) HA5.out.r3
  have f2 : ∀ o, wz.frozen? ⟨w.heap.size + 1 + 1, o, none⟩ = false := fun o => frozen_of_row _ _ o _ _ HA5.out.r2
  have f3 : ∀ o, wz.frozen? ⟨w.heap.size + 1 + 1 + 1, o, none⟩ = false := fun o => frozen_of_row _ _ o _ _ HA5.out.r3
  have HS2 := Lib.hid HA5.out.r2
  have HS3 := Lib.hid HA5.out.r3
  go_wp2_with fail
  generalize hwf : World.setCell _ _ _ = wf
  have X2 : wf.heap[w.heap.size + 1 + 1]? = some (.cells (recC RC.zero.kind RC.zero.num RC.zero.low RC.zero.high RC.zero.real RC.zero.cap RC.zero.text (.slice none RC.zero.list.length 0)) 25 (0, 0)) := by
    rw [← hwf]
    exact (ans_other (by omega)).trans (rec_stores HS2.out)
  have X3 : wf.heap[w.heap.size + 1 + 1 + 1]? = some (.cells (ansC (RU.err 0).code (RU.err 0).num (RU.err 0).rc none 0) 82 (0, 0)) := by
    rw [← hwf]
    exact ans_all ((rec_stores_other (by omega)).trans HS3.out)
  have hk : Kp (fun k => k = w.heap.size + 1 + 1 ∨ k = w.heap.size + 1 + 1 + 1) wz wf := by
    rw [← hwf]
    exact (kp10 (kp8g (Kp.refl _ _) (Or.inl (Or.inl rfl))) (Or.inl (Or.inr rfl)))
  have HI := Lib.hid (Its.nil wf none)
  have HJ := Lib.hid (Its.nil wf none)
  have HB := Lib.hid (HA5.out.bel hk)
  have q2 := fun o => cell_of_row wf _ o _ _ (0, 0) X2
  have q3 := fun o => cell_of_row wf _ o _ _ (0, 0) X3
  clear hwf X2 X3 hk c0 c1 c2 c3 f2 f3
  exact bodyPost_ret (v := .tuple #[recV RC.zero none 0, .bool false, ansV (RU.err 0).code (RU.err 0).num (RU.err 0).rc none 0]) (by simp [results, Tryz.results50, go_sem, q2, q3]) rfl ⟨_, _, _, _, rfl, HI.out, HJ.out, HB.out⟩
set_option maxHeartbeats 4000000 in
set_option maxRecDepth 100000 in
theorem r5apply_is_t (r : RC.Rc) (k : Int) (key : ByteArray) (n : Int) (x : Nat) (s : ByteArray) (m : RC.Rc) (must : Bool) (A L : Option Addr) (c cl : Nat) (w : World) (hr : r.ok) (ha : (⟨k, key, n, x, s, m, must⟩ : AC.Ac).ok) (hA : Its w A r.list) (hL : Its w L m.list) (n1 : Lim r.list.length) (n2 : Lim m.list.length) (n3 : Lim key.size) (n4 : Lim s.size) (hca : AC.chk ⟨k, key, n, x, s, m, must⟩ = 0) (hc3 : RC.chk r = 0) (hk : k = 3) :
    Calls Tryz.prog 50 #[recV r A c, .bool true, actV ⟨k, key, n, x, s, m, must⟩ L cl] w (R5Post r true ⟨0, r.kind, RC.zero⟩ w) := by
  subst hk
  have HC := Lib.hid (fun u (b : Below w.heap.size w u) => rcheck4_any ⟨3, key, n, x, s, m, must⟩ L cl u ha (hL.below b) n2 n3 n4)
  have HLm := Lib.hid hL
  have HN2 := Lib.hid n2
  have HO := Lib.hid (fun u (b : Below w.heap.size w u) => copied_any r A c u (hA.below b) n1)
  have HD := Lib.hid (fun u A' c' (h : Its u A' r.list) => rcheck_any r A' c' u hr h n1)
  have HN1 := Lib.hid n1
  have HAo := Lib.hid ha
  have HRo := Lib.hid hr
  clear hr ha hA hL n1 n2 n3 n4
  go_enter Tryz.func50, Tryz.ntmps50
  go_wp2_with fail
  refine (HO.out _ (below4 w _ _ _ _)).mono ?_
  rintro e w1 ⟨A1, k1, rfl, ho, hn, hb⟩
  have hs1 := hb.size
  simp only [World.size_alloc] at hs1 hn
  have e0 := (hb.block w.heap.size (by simp only [World.size_alloc]; omega)).trans (A5.row0 _ _ _ _ w)
  have e1 := (hb.block (w.heap.size + 1) (by simp only [World.size_alloc]; omega)).trans (A5.row1 _ _ _ _ w)
  have e2 := (hb.block (w.heap.size + 1 + 1) (by simp only [World.size_alloc]; omega)).trans (A5.row2 _ _ _ _ w)
  have e3 := (hb.block (w.heap.size + 1 + 1 + 1) (by simp only [World.size_alloc]; omega)).trans (A5.row3 _ _ _ _ w)
  have HB := Lib.hid (show Below w.heap.size w w1 from (below4 w _ _ _ _).trans (hb.mono (by simp only [World.size_alloc]; omega)))
  have E0 := Lib.hid e0
  have E1 := Lib.hid e1
  have E2 := Lib.hid e2
  have E3 := Lib.hid e3
  have HW := Lib.hid ho
  have HN := Lib.hid (show ∀ k, ob A1 = some k → w.heap.size + 4 ≤ k from fun k e => by have := hn k e; omega)
  have d0 := fun o => cell_of_row w1 _ o _ _ (0, 0) e0
  have d1 := fun o => cell_of_row w1 _ o _ _ (0, 0) e1
  have g0 : ∀ o, w1.frozen? ⟨w.heap.size, o, none⟩ = false := fun o => frozen_of_row _ _ o _ _ e0
  have z1 : w.heap.size + 1 < w1.heap.size := by omega
  clear hb e0 e1 e2 e3 ho hn
  go_wp2_with fail
  generalize hwz : World.setCell _ _ _ = wz
  have HA5 := Lib.hid (show A5 w r A1 k1 (actC ⟨3, key, n, x, s, m, must⟩ L cl) wz by
    have hkz : Kp (fun k => k = w.heap.size) w1 wz := by rw [← hwz]; exact kp8g (Kp.refl _ _) (Or.inl rfl)
    refine ⟨by rw [← hwz]; exact rec_stores E0.out, (hkz.block _ (lt_of_heap E1.out) (by omega)).trans E1.out, (hkz.block _ (lt_of_heap E2.out) (by omega)).trans E2.out, (hkz.block _ (lt_of_heap E3.out) (by omega)).trans E3.out, (Its.own HW.out).kp hkz (fun ad e x => by subst e; have := HN.out ad.block rfl; omega), HN.out, HB.out.trans (hkz.below (by omega) (fun i hi x => by omega))⟩)
  clear hwz d0 d1 g0 z1 E0 E1 E2 E3 HW HN HB hs1 HO
  refine (HC.out _ HA5.out.below).mono ?_
  rw [hca]
  rintro e w2 ⟨rfl, hb⟩
  have HA5 := Lib.hid (HA5.out.look hb)
  clear hb hca
  generalize w2 = wz at *
  have c0 := fun o => cell_of_row wz _ o _ _ (0, 0) HA5.out.r0
  have c1 := fun o => cell_of_row wz _ o _ _ (0, 0) HA5.out.r1
  go_wp2_with fail
  refine (HD.out _ _ _ HA5.out.its).mono ?_
  rw [hc3]
  rintro e w2 ⟨rfl, hb⟩
  have HA5 := Lib.hid (HA5.out.look hb)
  clear hb c0 c1 hc3
  generalize w2 = wz at *
  have c0 := fun o => cell_of_row wz _ o _ _ (0, 0) HA5.out.r0
  have c1 := fun o => cell_of_row wz _ o _ _ (0, 0) HA5.out.r1
  go_wp2_with fail
  refine (rOn_any 3 _).mono ?_
  rw [show (rowAt 3).on = 0 from rfl]
  rintro e w3 ⟨rfl, hb⟩
  have HA5 := Lib.hid (HA5.out.look hb)
  clear hb c0 c1
  generalize w3 = wz at *
  have c0 := fun o => cell_of_row wz _ o _ _ (0, 0) HA5.out.r0
  have c1 := fun o => cell_of_row wz _ o _ _ (0, 0) HA5.out.r1
  have c2 := fun o => cell_of_row wz _ o _ _ (0, 0) HA5.out.r2
  have c3 := fun o => cell_of_row wz _ o _ _ (0, 0) HA5.out.r3
  have f2 : ∀ o, wz.frozen? ⟨w.heap.size + 1 + 1, o, none⟩ = false := fun o => frozen_of_row _ _ o _ _ HA5.out.r2
  have f3 : ∀ o, wz.frozen? ⟨w.heap.size + 1 + 1 + 1, o, none⟩ = false := fun o => frozen_of_row _ _ o _ _ HA5.out.r3
  have HS2 := Lib.hid HA5.out.r2
  have HS3 := Lib.hid HA5.out.r3
  go_wp2_with fail
  go_region_with (fail)
  all_goals
    go_wp2_with fail
    generalize hwf : World.drew _ = wf
    have X2 : wf.heap[w.heap.size + 1 + 1]? = some (.cells (recC r.kind r.num r.low r.high r.real r.cap r.text (.slice A1 r.list.length k1)) 25 (0, 0)) := by
      rw [← hwf, heap_drew]
      exact (ans_other (by omega)).trans (rec_stores HS2.out)
    have X3 : wf.heap[w.heap.size + 1 + 1 + 1]? = some (.cells (ansC (⟨0, r.kind, RC.zero⟩ : RU.Ans).code (⟨0, r.kind, RC.zero⟩ : RU.Ans).num (⟨0, r.kind, RC.zero⟩ : RU.Ans).rc none 0) 82 (0, 0)) := by
      rw [← hwf, heap_drew]
      exact ans_all ((rec_stores_other (by omega)).trans HS3.out)
    have hk : Kp (fun k => k = w.heap.size + 1 + 1 ∨ k = w.heap.size + 1 + 1 + 1) wz wf := by
      rw [← hwf]
      exact (kp10 (kp8g (Kp.refl _ _) (Or.inl (Or.inl rfl))) (Or.inl (Or.inr rfl))).drew
    have HI := Lib.hid (HA5.out.fin hk HA5.out.its HA5.out.new)
    have HJ := Lib.hid (Its.nil wf none)
    have HB := Lib.hid (HA5.out.bel hk)
    have q2 := fun o => cell_of_row wf _ o _ _ (0, 0) X2
    have q3 := fun o => cell_of_row wf _ o _ _ (0, 0) X3
    clear hwf X2 X3 hk c0 c1 c2 c3 f2 f3
    exact bodyPost_ret (v := .tuple #[recV r A1 k1, .bool true, ansV (⟨0, r.kind, RC.zero⟩ : RU.Ans).code (⟨0, r.kind, RC.zero⟩ : RU.Ans).num (⟨0, r.kind, RC.zero⟩ : RU.Ans).rc none 0]) (by simp [results, Tryz.results50, go_sem, q2, q3]) rfl ⟨_, _, _, _, rfl, HI.out, HJ.out, HB.out⟩
set_option maxHeartbeats 4000000 in
set_option maxRecDepth 100000 in
theorem r5apply_is_f (r : RC.Rc) (k : Int) (key : ByteArray) (n : Int) (x : Nat) (s : ByteArray) (m : RC.Rc) (must : Bool) (A L : Option Addr) (c cl : Nat) (w : World) (hr : r.ok) (ha : (⟨k, key, n, x, s, m, must⟩ : AC.Ac).ok) (hA : Its w A r.list) (hL : Its w L m.list) (n1 : Lim r.list.length) (n2 : Lim m.list.length) (n3 : Lim key.size) (n4 : Lim s.size) (hca : AC.chk ⟨k, key, n, x, s, m, must⟩ = 0) (hk : k = 3) :
    Calls Tryz.prog 50 #[recV r A c, .bool false, actV ⟨k, key, n, x, s, m, must⟩ L cl] w (R5Post RC.zero false ⟨0, RC.zero.kind, RC.zero⟩ w) := by
  subst hk
  have HC := Lib.hid (fun u (b : Below w.heap.size w u) => rcheck4_any ⟨3, key, n, x, s, m, must⟩ L cl u ha (hL.below b) n2 n3 n4)
  have HLm := Lib.hid hL
  have HN2 := Lib.hid n2
  have HO := Lib.hid (fun u => copied_any RC.zero none 0 u (Its.nil _ _) (by unfold Lim; show (0 : Nat) < _; omega))
  have HAo := Lib.hid ha
  have HRo := Lib.hid hr
  clear hr ha hA hL n1 n2 n3 n4
  go_enter Tryz.func50, Tryz.ntmps50
  go_wp2_with fail
  refine (HO.out _).mono ?_
  rintro e w1 ⟨A1, k1, rfl, ho, hn, hb⟩
  have hs1 := hb.size
  simp only [World.size_alloc] at hs1 hn
  have e0 := (hb.block w.heap.size (by simp only [World.size_alloc]; omega)).trans (A5.row0 _ _ _ _ w)
  have e1 := (hb.block (w.heap.size + 1) (by simp only [World.size_alloc]; omega)).trans (A5.row1 _ _ _ _ w)
  have e2 := (hb.block (w.heap.size + 1 + 1) (by simp only [World.size_alloc]; omega)).trans (A5.row2 _ _ _ _ w)
  have e3 := (hb.block (w.heap.size + 1 + 1 + 1) (by simp only [World.size_alloc]; omega)).trans (A5.row3 _ _ _ _ w)
  have HB := Lib.hid (show Below w.heap.size w w1 from (below4 w _ _ _ _).trans (hb.mono (by simp only [World.size_alloc]; omega)))
  have E0 := Lib.hid e0
  have E1 := Lib.hid e1
  have E2 := Lib.hid e2
  have E3 := Lib.hid e3
  have HW := Lib.hid ho
  have HN := Lib.hid (show ∀ k, ob A1 = some k → w.heap.size + 4 ≤ k from fun k e => by have := hn k e; omega)
  have d0 := fun o => cell_of_row w1 _ o _ _ (0, 0) e0
  have d1 := fun o => cell_of_row w1 _ o _ _ (0, 0) e1
  have g0 : ∀ o, w1.frozen? ⟨w.heap.size, o, none⟩ = false := fun o => frozen_of_row _ _ o _ _ e0
  have z1 : w.heap.size + 1 < w1.heap.size := by omega
  clear hb e0 e1 e2 e3 ho hn
  go_wp2_with fail
  generalize hwz : World.setCell _ _ _ = wz
  have HA5 := Lib.hid (show A5 w RC.zero A1 k1 (actC ⟨3, key, n, x, s, m, must⟩ L cl) wz by
    have hkz : Kp (fun k => k = w.heap.size) w1 wz := by rw [← hwz]; exact kp8g (Kp.refl _ _) (Or.inl rfl)
    refine ⟨by rw [← hwz]; exact rec_stores E0.out, (hkz.block _ (lt_of_heap E1.out) (by omega)).trans E1.out, (hkz.block _ (lt_of_heap E2.out) (by omega)).trans E2.out, (hkz.block _ (lt_of_heap E3.out) (by omega)).trans E3.out, (Its.own HW.out).kp hkz (fun ad e x => by subst e; have := HN.out ad.block rfl; omega), HN.out, HB.out.trans (hkz.below (by omega) (fun i hi x => by omega))⟩)
  clear hwz d0 d1 g0 z1 E0 E1 E2 E3 HW HN HB hs1 HO
  refine (HC.out _ HA5.out.below).mono ?_
  rw [hca]
  rintro e w2 ⟨rfl, hb⟩
  have HA5 := Lib.hid (HA5.out.look hb)
  clear hb hca
  generalize w2 = wz at *
  have c0 := fun o => cell_of_row wz _ o _ _ (0, 0) HA5.out.r0
  have c1 := fun o => cell_of_row wz _ o _ _ (0, 0) HA5.out.r1
  go_wp2_with fail
  refine (rOn_any 3 _).mono ?_
  rw [show (rowAt 3).on = 0 from rfl]
  rintro e w3 ⟨rfl, hb⟩
  have HA5 := Lib.hid (HA5.out.look hb)
  clear hb c0 c1
  generalize w3 = wz at *
  have c0 := fun o => cell_of_row wz _ o _ _ (0, 0) HA5.out.r0
  have c1 := fun o => cell_of_row wz _ o _ _ (0, 0) HA5.out.r1
  have c2 := fun o => cell_of_row wz _ o _ _ (0, 0) HA5.out.r2
  have c3 := fun o => cell_of_row wz _ o _ _ (0, 0) HA5.out.r3
  have f2 : ∀ o, wz.frozen? ⟨w.heap.size + 1 + 1, o, none⟩ = false := fun o => frozen_of_row _ _ o _ _ HA5.out.r2
  have f3 : ∀ o, wz.frozen? ⟨w.heap.size + 1 + 1 + 1, o, none⟩ = false := fun o => frozen_of_row _ _ o _ _ HA5.out.r3
  have HS2 := Lib.hid HA5.out.r2
  have HS3 := Lib.hid HA5.out.r3
  go_wp2_with fail
  go_region_with (fail)
  all_goals
    go_wp2_with fail
    generalize hwf : World.drew _ = wf
    have X2 : wf.heap[w.heap.size + 1 + 1]? = some (.cells (recC RC.zero.kind RC.zero.num RC.zero.low RC.zero.high RC.zero.real RC.zero.cap RC.zero.text (.slice A1 RC.zero.list.length k1)) 25 (0, 0)) := by
      rw [← hwf, heap_drew]
      exact (ans_other (by omega)).trans (rec_stores HS2.out)
    have X3 : wf.heap[w.heap.size + 1 + 1 + 1]? = some (.cells (ansC (⟨0, RC.zero.kind, RC.zero⟩ : RU.Ans).code (⟨0, RC.zero.kind, RC.zero⟩ : RU.Ans).num (⟨0, RC.zero.kind, RC.zero⟩ : RU.Ans).rc none 0) 82 (0, 0)) := by
      rw [← hwf, heap_drew]
      exact ans_all ((rec_stores_other (by omega)).trans HS3.out)
    have hk : Kp (fun k => k = w.heap.size + 1 + 1 ∨ k = w.heap.size + 1 + 1 + 1) wz wf := by
      rw [← hwf]
      exact (kp10 (kp8g (Kp.refl _ _) (Or.inl (Or.inl rfl))) (Or.inl (Or.inr rfl))).drew
    have HI := Lib.hid (HA5.out.fin hk HA5.out.its HA5.out.new)
    have HJ := Lib.hid (Its.nil wf none)
    have HB := Lib.hid (HA5.out.bel hk)
    have q2 := fun o => cell_of_row wf _ o _ _ (0, 0) X2
    have q3 := fun o => cell_of_row wf _ o _ _ (0, 0) X3
    clear hwf X2 X3 hk c0 c1 c2 c3 f2 f3
    exact bodyPost_ret (v := .tuple #[recV RC.zero A1 k1, .bool false, ansV (⟨0, RC.zero.kind, RC.zero⟩ : RU.Ans).code (⟨0, RC.zero.kind, RC.zero⟩ : RU.Ans).num (⟨0, RC.zero.kind, RC.zero⟩ : RU.Ans).rc none 0]) (by simp [results, Tryz.results50, go_sem, q2, q3]) rfl ⟨_, _, _, _, rfl, HI.out, HJ.out, HB.out⟩
set_option maxHeartbeats 4000000 in
set_option maxRecDepth 100000 in
theorem r5apply_new (r : RC.Rc) (k : Int) (key : ByteArray) (n : Int) (x : Nat) (s : ByteArray) (m : RC.Rc) (must : Bool) (A L : Option Addr) (c cl : Nat) (w : World) (hr : r.ok) (ha : (⟨k, key, n, x, s, m, must⟩ : AC.Ac).ok) (hA : Its w A r.list) (hL : Its w L m.list) (n1 : Lim r.list.length) (n2 : Lim m.list.length) (n3 : Lim key.size) (n4 : Lim s.size) (hca : AC.chk ⟨k, key, n, x, s, m, must⟩ = 0) (hk : k = 1) :
    Calls Tryz.prog 50 #[recV r A c, .bool false, actV ⟨k, key, n, x, s, m, must⟩ L cl] w (R5Post m true (RU.err 0) w) := by
  subst hk
  have HC := Lib.hid (fun u (b : Below w.heap.size w u) => rcheck4_any ⟨1, key, n, x, s, m, must⟩ L cl u ha (hL.below b) n2 n3 n4)
  have HLm := Lib.hid hL
  have HN2 := Lib.hid n2
  have HO := Lib.hid (fun u => copied_any RC.zero none 0 u (Its.nil _ _) (by unfold Lim; show (0 : Nat) < _; omega))
  have HAo := Lib.hid ha
  have HRo := Lib.hid hr
  clear hr ha hA hL n1 n2 n3 n4
  go_enter Tryz.func50, Tryz.ntmps50
  go_wp2_with fail
  refine (HO.out _).mono ?_
  rintro e w1 ⟨A1, k1, rfl, ho, hn, hb⟩
  have hs1 := hb.size
  simp only [World.size_alloc] at hs1 hn
  have e0 := (hb.block w.heap.size (by simp only [World.size_alloc]; omega)).trans (A5.row0 _ _ _ _ w)
  have e1 := (hb.block (w.heap.size + 1) (by simp only [World.size_alloc]; omega)).trans (A5.row1 _ _ _ _ w)
  have e2 := (hb.block (w.heap.size + 1 + 1) (by simp only [World.size_alloc]; omega)).trans (A5.row2 _ _ _ _ w)
  have e3 := (hb.block (w.heap.size + 1 + 1 + 1) (by simp only [World.size_alloc]; omega)).trans (A5.row3 _ _ _ _ w)
  have HB := Lib.hid (show Below w.heap.size w w1 from (below4 w _ _ _ _).trans (hb.mono (by simp only [World.size_alloc]; omega)))
  have E0 := Lib.hid e0
  have E1 := Lib.hid e1
  have E2 := Lib.hid e2
  have E3 := Lib.hid e3
  have HW := Lib.hid ho
  have HN := Lib.hid (show ∀ k, ob A1 = some k → w.heap.size + 4 ≤ k from fun k e => by have := hn k e; omega)
  have d0 := fun o => cell_of_row w1 _ o _ _ (0, 0) e0
  have d1 := fun o => cell_of_row w1 _ o _ _ (0, 0) e1
  have g0 : ∀ o, w1.frozen? ⟨w.heap.size, o, none⟩ = false := fun o => frozen_of_row _ _ o _ _ e0
  have z1 : w.heap.size + 1 < w1.heap.size := by omega
  clear hb e0 e1 e2 e3 ho hn
  go_wp2_with fail
  generalize hwz : World.setCell _ _ _ = wz
  have HA5 := Lib.hid (show A5 w RC.zero A1 k1 (actC ⟨1, key, n, x, s, m, must⟩ L cl) wz by
    have hkz : Kp (fun k => k = w.heap.size) w1 wz := by rw [← hwz]; exact kp8g (Kp.refl _ _) (Or.inl rfl)
    refine ⟨by rw [← hwz]; exact rec_stores E0.out, (hkz.block _ (lt_of_heap E1.out) (by omega)).trans E1.out, (hkz.block _ (lt_of_heap E2.out) (by omega)).trans E2.out, (hkz.block _ (lt_of_heap E3.out) (by omega)).trans E3.out, (Its.own HW.out).kp hkz (fun ad e x => by subst e; have := HN.out ad.block rfl; omega), HN.out, HB.out.trans (hkz.below (by omega) (fun i hi x => by omega))⟩)
  clear hwz d0 d1 g0 z1 E0 E1 E2 E3 HW HN HB hs1 HO
  refine (HC.out _ HA5.out.below).mono ?_
  rw [hca]
  rintro e w2 ⟨rfl, hb⟩
  have HA5 := Lib.hid (HA5.out.look hb)
  clear hb hca
  generalize w2 = wz at *
  have c0 := fun o => cell_of_row wz _ o _ _ (0, 0) HA5.out.r0
  have c1 := fun o => cell_of_row wz _ o _ _ (0, 0) HA5.out.r1
  go_wp2_with fail
  refine (rOn_any 1 _).mono ?_
  rw [show (rowAt 1).on = 0 from rfl]
  rintro e w3 ⟨rfl, hb⟩
  have HA5 := Lib.hid (HA5.out.look hb)
  clear hb c0 c1
  generalize w3 = wz at *
  have c0 := fun o => cell_of_row wz _ o _ _ (0, 0) HA5.out.r0
  have c1 := fun o => cell_of_row wz _ o _ _ (0, 0) HA5.out.r1
  go_wp2_with fail
  refine (copied_any m L cl _ (HLm.out.below HA5.out.below) HN2.out).mono ?_
  rintro e w3 ⟨A2, k2, rfl, ho, hn, hb⟩
  have hsz := HA5.out.below.size
  have s3 := lt_of_heap HA5.out.r3
  have HN := Lib.hid (show ∀ k, ob A2 = some k → w.heap.size + 4 ≤ k from fun k e => by have := hn k e; omega)
  have HO2 := Lib.hid (Its.own ho)
  have HA5 := Lib.hid (HA5.out.look hb)
  clear hb c0 c1 ho hn hsz s3
  generalize w3 = wz at *
  have c0 := fun o => cell_of_row wz _ o _ _ (0, 0) HA5.out.r0
  have c1 := fun o => cell_of_row wz _ o _ _ (0, 0) HA5.out.r1
  have c2 := fun o => cell_of_row wz _ o _ _ (0, 0) HA5.out.r2
  have c3 := fun o => cell_of_row wz _ o _ _ (0, 0) HA5.out.r3
  have f2 : ∀ o, wz.frozen? ⟨w.heap.size + 1 + 1, o, none⟩ = false := fun o => frozen_of_row _ _ o _ _ HA5.out.r2
  have f3 : ∀ o, wz.frozen? ⟨w.heap.size + 1 + 1 + 1, o, none⟩ = false := fun o => frozen_of_row _ _ o _ _ HA5.out.r3
  have HS2 := Lib.hid HA5.out.r2
  have HS3 := Lib.hid HA5.out.r3
  go_wp2_with fail
  generalize hwf : World.setCell _ _ _ = wf
  have X2 : wf.heap[w.heap.size + 1 + 1]? = some (.cells (recC m.kind m.num m.low m.high m.real m.cap m.text (.slice A2 m.list.length k2)) 25 (0, 0)) := by
    rw [← hwf]
    exact (ans_other (by omega)).trans (rec_stores HS2.out)
  have X3 : wf.heap[w.heap.size + 1 + 1 + 1]? = some (.cells (ansC (RU.err 0).code (RU.err 0).num (RU.err 0).rc none 0) 82 (0, 0)) := by
    rw [← hwf]
    exact ans_all ((rec_stores_other (by omega)).trans HS3.out)
  have hk : Kp (fun k => k = w.heap.size + 1 + 1 ∨ k = w.heap.size + 1 + 1 + 1) wz wf := by
    rw [← hwf]
    exact (kp10 (kp8g (Kp.refl _ _) (Or.inl (Or.inl rfl))) (Or.inl (Or.inr rfl)))
  have HI := Lib.hid (HA5.out.fin hk HO2.out HN.out)
  have HJ := Lib.hid (Its.nil wf none)
  have HB := Lib.hid (HA5.out.bel hk)
  have q2 := fun o => cell_of_row wf _ o _ _ (0, 0) X2
  have q3 := fun o => cell_of_row wf _ o _ _ (0, 0) X3
  clear hwf X2 X3 hk c0 c1 c2 c3 f2 f3
  exact bodyPost_ret (v := .tuple #[recV m A2 k2, .bool true, ansV (RU.err 0).code (RU.err 0).num (RU.err 0).rc none 0]) (by simp [results, Tryz.results50, go_sem, q2, q3]) rfl ⟨_, _, _, _, rfl, HI.out, HJ.out, HB.out⟩
set_option maxHeartbeats 4000000 in
set_option maxRecDepth 100000 in
theorem r5apply_look (r : RC.Rc) (k : Int) (key : ByteArray) (n : Int) (x : Nat) (s : ByteArray) (m : RC.Rc) (must : Bool) (A L : Option Addr) (c cl : Nat) (w : World) (hr : r.ok) (ha : (⟨k, key, n, x, s, m, must⟩ : AC.Ac).ok) (hA : Its w A r.list) (hL : Its w L m.list) (n1 : Lim r.list.length) (n2 : Lim m.list.length) (n3 : Lim key.size) (n4 : Lim s.size) (hca : AC.chk ⟨k, key, n, x, s, m, must⟩ = 0) (hc3 : RC.chk r = 0) (hk : k = 4) :
    Calls Tryz.prog 50 #[recV r A c, .bool true, actV ⟨k, key, n, x, s, m, must⟩ L cl] w (R5Post r true ⟨0, 0, r⟩ w) := by
  subst hk
  have HC := Lib.hid (fun u (b : Below w.heap.size w u) => rcheck4_any ⟨4, key, n, x, s, m, must⟩ L cl u ha (hL.below b) n2 n3 n4)
  have HLm := Lib.hid hL
  have HN2 := Lib.hid n2
  have HO := Lib.hid (fun u (b : Below w.heap.size w u) => copied_any r A c u (hA.below b) n1)
  have HD := Lib.hid (fun u A' c' (h : Its u A' r.list) => rcheck_any r A' c' u hr h n1)
  have HN1 := Lib.hid n1
  have HAo := Lib.hid ha
  have HRo := Lib.hid hr
  clear hr ha hA hL n1 n2 n3 n4
  go_enter Tryz.func50, Tryz.ntmps50
  go_wp2_with fail
  refine (HO.out _ (below4 w _ _ _ _)).mono ?_
  rintro e w1 ⟨A1, k1, rfl, ho, hn, hb⟩
  have hs1 := hb.size
  simp only [World.size_alloc] at hs1 hn
  have e0 := (hb.block w.heap.size (by simp only [World.size_alloc]; omega)).trans (A5.row0 _ _ _ _ w)
  have e1 := (hb.block (w.heap.size + 1) (by simp only [World.size_alloc]; omega)).trans (A5.row1 _ _ _ _ w)
  have e2 := (hb.block (w.heap.size + 1 + 1) (by simp only [World.size_alloc]; omega)).trans (A5.row2 _ _ _ _ w)
  have e3 := (hb.block (w.heap.size + 1 + 1 + 1) (by simp only [World.size_alloc]; omega)).trans (A5.row3 _ _ _ _ w)
  have HB := Lib.hid (show Below w.heap.size w w1 from (below4 w _ _ _ _).trans (hb.mono (by simp only [World.size_alloc]; omega)))
  have E0 := Lib.hid e0
  have E1 := Lib.hid e1
  have E2 := Lib.hid e2
  have E3 := Lib.hid e3
  have HW := Lib.hid ho
  have HN := Lib.hid (show ∀ k, ob A1 = some k → w.heap.size + 4 ≤ k from fun k e => by have := hn k e; omega)
  have d0 := fun o => cell_of_row w1 _ o _ _ (0, 0) e0
  have d1 := fun o => cell_of_row w1 _ o _ _ (0, 0) e1
  have g0 : ∀ o, w1.frozen? ⟨w.heap.size, o, none⟩ = false := fun o => frozen_of_row _ _ o _ _ e0
  have z1 : w.heap.size + 1 < w1.heap.size := by omega
  clear hb e0 e1 e2 e3 ho hn
  go_wp2_with fail
  generalize hwz : World.setCell _ _ _ = wz
  have HA5 := Lib.hid (show A5 w r A1 k1 (actC ⟨4, key, n, x, s, m, must⟩ L cl) wz by
    have hkz : Kp (fun k => k = w.heap.size) w1 wz := by rw [← hwz]; exact kp8g (Kp.refl _ _) (Or.inl rfl)
    refine ⟨by rw [← hwz]; exact rec_stores E0.out, (hkz.block _ (lt_of_heap E1.out) (by omega)).trans E1.out, (hkz.block _ (lt_of_heap E2.out) (by omega)).trans E2.out, (hkz.block _ (lt_of_heap E3.out) (by omega)).trans E3.out, (Its.own HW.out).kp hkz (fun ad e x => by subst e; have := HN.out ad.block rfl; omega), HN.out, HB.out.trans (hkz.below (by omega) (fun i hi x => by omega))⟩)
  clear hwz d0 d1 g0 z1 E0 E1 E2 E3 HW HN HB hs1 HO
  refine (HC.out _ HA5.out.below).mono ?_
  rw [hca]
  rintro e w2 ⟨rfl, hb⟩
  have HA5 := Lib.hid (HA5.out.look hb)
  clear hb hca
  generalize w2 = wz at *
  have c0 := fun o => cell_of_row wz _ o _ _ (0, 0) HA5.out.r0
  have c1 := fun o => cell_of_row wz _ o _ _ (0, 0) HA5.out.r1
  go_wp2_with fail
  refine (HD.out _ _ _ HA5.out.its).mono ?_
  rw [hc3]
  rintro e w2 ⟨rfl, hb⟩
  have HA5 := Lib.hid (HA5.out.look hb)
  clear hb c0 c1 hc3
  generalize w2 = wz at *
  have c0 := fun o => cell_of_row wz _ o _ _ (0, 0) HA5.out.r0
  have c1 := fun o => cell_of_row wz _ o _ _ (0, 0) HA5.out.r1
  go_wp2_with fail
  refine (rOn_any 4 _).mono ?_
  rw [show (rowAt 4).on = 0 from rfl]
  rintro e w3 ⟨rfl, hb⟩
  have HA5 := Lib.hid (HA5.out.look hb)
  clear hb c0 c1
  generalize w3 = wz at *
  have c0 := fun o => cell_of_row wz _ o _ _ (0, 0) HA5.out.r0
  have c1 := fun o => cell_of_row wz _ o _ _ (0, 0) HA5.out.r1
  have hId : Its wz.drew A1 r.list := HA5.out.its.below (below_drew (Below.refl _ _))
  go_wp2_with fail
  go_region_with (go_at_call 86; refine (copied_any r A1 k1 _ hId HN1.out).mono ?_; rintro e w3 ⟨A2, k2, rfl, ho, hn, hb⟩; have hb2 : Below wz.heap.size wz w3 := (below_drew (Below.refl _ wz)).trans hb; have HH := Lib.hid (HA5.out.look hb2); have k0 := fun o => cell_of_row w3 _ o _ _ (0, 0) HH.out.r0; have k2' := fun o => cell_of_row w3 _ o _ _ (0, 0) HH.out.r2; have k3 := fun o => cell_of_row w3 _ o _ _ (0, 0) HH.out.r3; have g2 : ∀ o, w3.frozen? ⟨w.heap.size + 1 + 1, o, none⟩ = false := fun o => frozen_of_row _ _ o _ _ HH.out.r2; have g3 : ∀ o, w3.frozen? ⟨w.heap.size + 1 + 1 + 1, o, none⟩ = false := fun o => frozen_of_row _ _ o _ _ HH.out.r3)
  all_goals
    have hsz := HA5.out.below.size
    have s3 := lt_of_heap HA5.out.r3
    have HN := Lib.hid (show ∀ k, ob A2 = some k → w.heap.size + 4 ≤ k from fun k e => by have h1 : wz.heap.size ≤ k := hn k e; omega)
    have HO2 := Lib.hid (Its.own ho)
    clear hb hb2 ho hn hsz s3 c0 c1
    go_wp2_with fail
    generalize hwf : World.setCell _ _ _ = wf
    have X2 : wf.heap[w.heap.size + 1 + 1]? = some (.cells (recC r.kind r.num r.low r.high r.real r.cap r.text (.slice A1 r.list.length k1)) 25 (0, 0)) := by
      rw [← hwf]
      exact (ans_other (by omega)).trans (rec_stores HH.out.r2)
    have X3 : wf.heap[w.heap.size + 1 + 1 + 1]? = some (.cells (ansC (⟨0, 0, r⟩ : RU.Ans).code (⟨0, 0, r⟩ : RU.Ans).num (⟨0, 0, r⟩ : RU.Ans).rc A2 k2) 82 (0, 0)) := by
      rw [← hwf]
      exact ans_all ((rec_stores_other (by omega)).trans HH.out.r3)
    have hk : Kp (fun k => k = w.heap.size + 1 + 1 ∨ k = w.heap.size + 1 + 1 + 1) w3 wf := by
      rw [← hwf]
      exact (kp10 (kp8g (Kp.refl _ _) (Or.inl (Or.inl rfl))) (Or.inl (Or.inr rfl)))
    have HI := Lib.hid (HH.out.fin hk HH.out.its HH.out.new)
    have HJ := Lib.hid (HH.out.fin hk HO2.out HN.out)
    have HB := Lib.hid (HH.out.bel hk)
    have q2 := fun o => cell_of_row wf _ o _ _ (0, 0) X2
    have q3 := fun o => cell_of_row wf _ o _ _ (0, 0) X3
    clear hwf X2 X3 hk k0 k2' k3 g2 g3
    exact bodyPost_ret (v := .tuple #[recV r A1 k1, .bool true, ansV (⟨0, 0, r⟩ : RU.Ans).code (⟨0, 0, r⟩ : RU.Ans).num (⟨0, 0, r⟩ : RU.Ans).rc A2 k2]) (by simp [results, Tryz.results50, go_sem, q2, q3]) rfl ⟨_, _, _, _, rfl, HI.out, HJ.out, HB.out⟩
end Go.Proofs.YtbkcmnmbcldjoaaGreatDoor
