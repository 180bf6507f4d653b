/- Contracts of the document's own answers for layer 5: Apply, refused. -/
import Derived.Test.YtbkcmnmbcldjoaaGreatDoorR5XP7b
namespace Go.Proofs.YtbkcmnmbcldjoaaGreatDoor
open Go.RowKit MM
set_option linter.unusedVariables false
set_option linter.unusedSimpArgs false
set_option maxHeartbeats 4000000 in
set_option maxRecDepth 100000 in
theorem r5apply_bada_t (r : RC.Rc) (k : Int) (key : ByteArray) (n : Int) (x : Nat) (s : ByteArray) (m : RC.Rc) (must : Bool) (A L : Option Addr) (c cl : Nat) (w : World) (hr : r.ok) (ha : (⟨k, key, n, x, s, m, must⟩ : AC.Ac).ok) (hA : Its w A r.list) (hL : Its w L m.list) (n1 : Lim r.list.length) (n2 : Lim m.list.length) (n3 : Lim key.size) (n4 : Lim s.size) (hbad : AC.chk ⟨k, key, n, x, s, m, must⟩ ≠ 0) :
    Calls Tryz.prog 50 #[recV r A c, .bool true, actV ⟨k, key, n, x, s, m, must⟩ L cl] w (R5Post r true (RU.err (AC.chk ⟨k, key, n, x, s, m, must⟩)) w) := by
  have HC := Lib.hid (fun u (b : Below w.heap.size w u) => rcheck4_any ⟨k, key, n, x, s, m, must⟩ L cl u ha (hL.below b) n2 n3 n4)
  have HLm := Lib.hid hL
  have HN2 := Lib.hid n2
  have HO := Lib.hid (fun u (b : Below w.heap.size w u) => copied_any r A c u (hA.below b) n1)
  have HD := Lib.hid (fun u A' c' (h : Its u A' r.list) => rcheck_any r A' c' u hr h n1)
  have HN1 := Lib.hid n1
  have HAo := Lib.hid ha
  have HRo := Lib.hid hr
  clear hr ha hA hL n1 n2 n3 n4
  go_enter Tryz.func50, Tryz.ntmps50
  go_wp2_with fail
  refine (HO.out _ (below4 w _ _ _ _)).mono ?_
  rintro e w1 ⟨A1, k1, rfl, ho, hn, hb⟩
  have hs1 := hb.size
  simp only [World.size_alloc] at hs1 hn
  have e0 := (hb.block w.heap.size (by simp only [World.size_alloc]; omega)).trans (A5.row0 _ _ _ _ w)
  have e1 := (hb.block (w.heap.size + 1) (by simp only [World.size_alloc]; omega)).trans (A5.row1 _ _ _ _ w)
  have e2 := (hb.block (w.heap.size + 1 + 1) (by simp only [World.size_alloc]; omega)).trans (A5.row2 _ _ _ _ w)
  have e3 := (hb.block (w.heap.size + 1 + 1 + 1) (by simp only [World.size_alloc]; omega)).trans (A5.row3 _ _ _ _ w)
  have HB := Lib.hid (show Below w.heap.size w w1 from (below4 w _ _ _ _).trans (hb.mono (by simp only [World.size_alloc]; omega)))
  have E0 := Lib.hid e0
  have E1 := Lib.hid e1
  have E2 := Lib.hid e2
  have E3 := Lib.hid e3
  have HW := Lib.hid ho
  have HN := Lib.hid (show ∀ k, ob A1 = some k → w.heap.size + 4 ≤ k from fun k e => by have := hn k e; omega)
  have d0 := fun o => cell_of_row w1 _ o _ _ (0, 0) e0
  have d1 := fun o => cell_of_row w1 _ o _ _ (0, 0) e1
  have g0 : ∀ o, w1.frozen? ⟨w.heap.size, o, none⟩ = false := fun o => frozen_of_row _ _ o _ _ e0
  have z1 : w.heap.size + 1 < w1.heap.size := by omega
  clear hb e0 e1 e2 e3 ho hn
  go_wp2_with fail
  generalize hwz : World.setCell _ _ _ = wz
  have HA5 := Lib.hid (show A5 w r A1 k1 (actC ⟨k, key, n, x, s, m, must⟩ L cl) wz by
    have hkz : Kp (fun k => k = w.heap.size) w1 wz := by rw [← hwz]; exact kp8g (Kp.refl _ _) (Or.inl rfl)
    refine ⟨by rw [← hwz]; exact rec_stores E0.out, (hkz.block _ (lt_of_heap E1.out) (by omega)).trans E1.out, (hkz.block _ (lt_of_heap E2.out) (by omega)).trans E2.out, (hkz.block _ (lt_of_heap E3.out) (by omega)).trans E3.out, (Its.own HW.out).kp hkz (fun ad e x => by subst e; have := HN.out ad.block rfl; omega), HN.out, HB.out.trans (hkz.below (by omega) (fun i hi x => by omega))⟩)
  clear hwz d0 d1 g0 z1 E0 E1 E2 E3 HW HN HB hs1 HO
  refine (HC.out _ HA5.out.below).mono ?_
  generalize AC.chk ⟨k, key, n, x, s, m, must⟩ = E at *
  rintro e w2 ⟨rfl, hb⟩
  have HA5 := Lib.hid (HA5.out.look hb)
  have hE1 : ((E : Int) == 0) = false := by simp; omega
  have hE2 : ((E : Int) != 0) = true := by simp; omega
  clear hb
  generalize w2 = wz at *
  have c0 := fun o => cell_of_row wz _ o _ _ (0, 0) HA5.out.r0
  have c1 := fun o => cell_of_row wz _ o _ _ (0, 0) HA5.out.r1
  go_wp2_with fail
  refine (rOn_any k _).mono ?_
  generalize (rowAt k).on = on
  rintro e w3 ⟨rfl, hb⟩
  have HA5 := Lib.hid (HA5.out.look hb)
  clear hb c0 c1
  generalize w3 = wz at *
  have c0 := fun o => cell_of_row wz _ o _ _ (0, 0) HA5.out.r0
  have c1 := fun o => cell_of_row wz _ o _ _ (0, 0) HA5.out.r1
  have c2 := fun o => cell_of_row wz _ o _ _ (0, 0) HA5.out.r2
  have c3 := fun o => cell_of_row wz _ o _ _ (0, 0) HA5.out.r3
  have f2 : ∀ o, wz.frozen? ⟨w.heap.size + 1 + 1, o, none⟩ = false := fun o => frozen_of_row _ _ o _ _ HA5.out.r2
  have f3 : ∀ o, wz.frozen? ⟨w.heap.size + 1 + 1 + 1, o, none⟩ = false := fun o => frozen_of_row _ _ o _ _ HA5.out.r3
  have HS2 := Lib.hid HA5.out.r2
  have HS3 := Lib.hid HA5.out.r3
  go_wp2_with fail
  generalize hwf : World.setCell _ _ _ = wf
  have X2 : wf.heap[w.heap.size + 1 + 1]? = some (.cells (recC r.kind r.num r.low r.high r.real r.cap r.text (.slice A1 r.list.length k1)) 25 (0, 0)) := by
    rw [← hwf]
    exact (ans_other (by omega)).trans (rec_stores HS2.out)
  have X3 : wf.heap[w.heap.size + 1 + 1 + 1]? = some (.cells (ansC (RU.err E).code (RU.err E).num (RU.err E).rc none 0) 82 (0, 0)) := by
    rw [← hwf]
    exact ans_all ((rec_stores_other (by omega)).trans HS3.out)
  have hk : Kp (fun k => k = w.heap.size + 1 + 1 ∨ k = w.heap.size + 1 + 1 + 1) wz wf := by
    rw [← hwf]
    exact (kp10 (kp8g (Kp.refl _ _) (Or.inl (Or.inl rfl))) (Or.inl (Or.inr rfl)))
  have HI := Lib.hid (HA5.out.fin hk HA5.out.its HA5.out.new)
  have HJ := Lib.hid (Its.nil wf none)
  have HB := Lib.hid (HA5.out.bel hk)
  have q2 := fun o => cell_of_row wf _ o _ _ (0, 0) X2
  have q3 := fun o => cell_of_row wf _ o _ _ (0, 0) X3
  clear hwf X2 X3 hk c0 c1 c2 c3 f2 f3
  exact bodyPost_ret (v := .tuple #[recV r A1 k1, .bool true, ansV (RU.err E).code (RU.err E).num (RU.err E).rc none 0]) (by simp [results, Tryz.results50, go_sem, q2, q3]) rfl ⟨_, _, _, _, rfl, HI.out, HJ.out, HB.out⟩
set_option maxHeartbeats 4000000 in
set_option maxRecDepth 100000 in
theorem r5apply_bada_f (r : RC.Rc) (k : Int) (key : ByteArray) (n : Int) (x : Nat) (s : ByteArray) (m : RC.Rc) (must : Bool) (A L : Option Addr) (c cl : Nat) (w : World) (hr : r.ok) (ha : (⟨k, key, n, x, s, m, must⟩ : AC.Ac).ok) (hA : Its w A r.list) (hL : Its w L m.list) (n1 : Lim r.list.length) (n2 : Lim m.list.length) (n3 : Lim key.size) (n4 : Lim s.size) (hbad : AC.chk ⟨k, key, n, x, s, m, must⟩ ≠ 0) :
    Calls Tryz.prog 50 #[recV r A c, .bool false, actV ⟨k, key, n, x, s, m, must⟩ L cl] w (R5Post RC.zero false (RU.err (AC.chk ⟨k, key, n, x, s, m, must⟩)) w) := by
  have HC := Lib.hid (fun u (b : Below w.heap.size w u) => rcheck4_any ⟨k, key, n, x, s, m, must⟩ L cl u ha (hL.below b) n2 n3 n4)
  have HLm := Lib.hid hL
  have HN2 := Lib.hid n2
  have HO := Lib.hid (fun u => copied_any RC.zero none 0 u (Its.nil _ _) (by unfold Lim; show (0 : Nat) < _; omega))
  have HAo := Lib.hid ha
  have HRo := Lib.hid hr
  clear hr ha hA hL n1 n2 n3 n4
  go_enter Tryz.func50, Tryz.ntmps50
  go_wp2_with fail
  refine (HO.out _).mono ?_
  rintro e w1 ⟨A1, k1, rfl, ho, hn, hb⟩
  have hs1 := hb.size
  simp only [World.size_alloc] at hs1 hn
  have e0 := (hb.block w.heap.size (by simp only [World.size_alloc]; omega)).trans (A5.row0 _ _ _ _ w)
  have e1 := (hb.block (w.heap.size + 1) (by simp only [World.size_alloc]; omega)).trans (A5.row1 _ _ _ _ w)
  have e2 := (hb.block (w.heap.size + 1 + 1) (by simp only [World.size_alloc]; omega)).trans (A5.row2 _ _ _ _ w)
  have e3 := (hb.block (w.heap.size + 1 + 1 + 1) (by simp only [World.size_alloc]; omega)).trans (A5.row3 _ _ _ _ w)
  have HB := Lib.hid (show Below w.heap.size w w1 from (below4 w _ _ _ _).trans (hb.mono (by simp only [World.size_alloc]; omega)))
  have E0 := Lib.hid e0
  have E1 := Lib.hid e1
  have E2 := Lib.hid e2
  have E3 := Lib.hid e3
  have HW := Lib.hid ho
  have HN := Lib.hid (show ∀ k, ob A1 = some k → w.heap.size + 4 ≤ k from fun k e => by have := hn k e; omega)
  have d0 := fun o => cell_of_row w1 _ o _ _ (0, 0) e0
  have d1 := fun o => cell_of_row w1 _ o _ _ (0, 0) e1
  have g0 : ∀ o, w1.frozen? ⟨w.heap.size, o, none⟩ = false := fun o => frozen_of_row _ _ o _ _ e0
  have z1 : w.heap.size + 1 < w1.heap.size := by omega
  clear hb e0 e1 e2 e3 ho hn
  go_wp2_with fail
  generalize hwz : World.setCell _ _ _ = wz
  have HA5 := Lib.hid (show A5 w RC.zero A1 k1 (actC ⟨k, key, n, x, s, m, must⟩ L cl) wz by
    have hkz : Kp (fun k => k = w.heap.size) w1 wz := by rw [← hwz]; exact kp8g (Kp.refl _ _) (Or.inl rfl)
    refine ⟨by rw [← hwz]; exact rec_stores E0.out, (hkz.block _ (lt_of_heap E1.out) (by omega)).trans E1.out, (hkz.block _ (lt_of_heap E2.out) (by omega)).trans E2.out, (hkz.block _ (lt_of_heap E3.out) (by omega)).trans E3.out, (Its.own HW.out).kp hkz (fun ad e x => by subst e; have := HN.out ad.block rfl; omega), HN.out, HB.out.trans (hkz.below (by omega) (fun i hi x => by omega))⟩)
  clear hwz d0 d1 g0 z1 E0 E1 E2 E3 HW HN HB hs1 HO
  refine (HC.out _ HA5.out.below).mono ?_
  generalize AC.chk ⟨k, key, n, x, s, m, must⟩ = E at *
  rintro e w2 ⟨rfl, hb⟩
  have HA5 := Lib.hid (HA5.out.look hb)
  have hE1 : ((E : Int) == 0) = false := by simp; omega
  have hE2 : ((E : Int) != 0) = true := by simp; omega
  clear hb
  generalize w2 = wz at *
  have c0 := fun o => cell_of_row wz _ o _ _ (0, 0) HA5.out.r0
  have c1 := fun o => cell_of_row wz _ o _ _ (0, 0) HA5.out.r1
  go_wp2_with fail
  refine (rOn_any k _).mono ?_
  generalize (rowAt k).on = on
  rintro e w3 ⟨rfl, hb⟩
  have HA5 := Lib.hid (HA5.out.look hb)
  clear hb c0 c1
  generalize w3 = wz at *
  have c0 := fun o => cell_of_row wz _ o _ _ (0, 0) HA5.out.r0
  have c1 := fun o => cell_of_row wz _ o _ _ (0, 0) HA5.out.r1
  have c2 := fun o => cell_of_row wz _ o _ _ (0, 0) HA5.out.r2
  have c3 := fun o => cell_of_row wz _ o _ _ (0, 0) HA5.out.r3
  have f2 : ∀ o, wz.frozen? ⟨w.heap.size + 1 + 1, o, none⟩ = false := fun o => frozen_of_row _ _ o _ _ HA5.out.r2
  have f3 : ∀ o, wz.frozen? ⟨w.heap.size + 1 + 1 + 1, o, none⟩ = false := fun o => frozen_of_row _ _ o _ _ HA5.out.r3
  have HS2 := Lib.hid HA5.out.r2
  have HS3 := Lib.hid HA5.out.r3
  go_wp2_with fail
  generalize hwf : World.setCell _ _ _ = wf
  have X2 : wf.heap[w.heap.size + 1 + 1]? = some (.cells (recC RC.zero.kind RC.zero.num RC.zero.low RC.zero.high RC.zero.real RC.zero.cap RC.zero.text (.slice A1 RC.zero.list.length k1)) 25 (0, 0)) := by
    rw [← hwf]
    exact (ans_other (by omega)).trans (rec_stores HS2.out)
  have X3 : wf.heap[w.heap.size + 1 + 1 + 1]? = some (.cells (ansC (RU.err E).code (RU.err E).num (RU.err E).rc none 0) 82 (0, 0)) := by
    rw [← hwf]
    exact ans_all ((rec_stores_other (by omega)).trans HS3.out)
  have hk : Kp (fun k => k = w.heap.size + 1 + 1 ∨ k = w.heap.size + 1 + 1 + 1) wz wf := by
    rw [← hwf]
    exact (kp10 (kp8g (Kp.refl _ _) (Or.inl (Or.inl rfl))) (Or.inl (Or.inr rfl)))
  have HI := Lib.hid (HA5.out.fin hk HA5.out.its HA5.out.new)
  have HJ := Lib.hid (Its.nil wf none)
  have HB := Lib.hid (HA5.out.bel hk)
  have q2 := fun o => cell_of_row wf _ o _ _ (0, 0) X2
  have q3 := fun o => cell_of_row wf _ o _ _ (0, 0) X3
  clear hwf X2 X3 hk c0 c1 c2 c3 f2 f3
  exact bodyPost_ret (v := .tuple #[recV RC.zero A1 k1, .bool false, ansV (RU.err E).code (RU.err E).num (RU.err E).rc none 0]) (by simp [results, Tryz.results50, go_sem, q2, q3]) rfl ⟨_, _, _, _, rfl, HI.out, HJ.out, HB.out⟩
set_option maxHeartbeats 4000000 in
set_option maxRecDepth 100000 in
theorem r5apply_badr (r : RC.Rc) (k : Int) (key : ByteArray) (n : Int) (x : Nat) (s : ByteArray) (m : RC.Rc) (must : Bool) (A L : Option Addr) (c cl : Nat) (w : World) (hr : r.ok) (ha : (⟨k, key, n, x, s, m, must⟩ : AC.Ac).ok) (hA : Its w A r.list) (hL : Its w L m.list) (n1 : Lim r.list.length) (n2 : Lim m.list.length) (n3 : Lim key.size) (n4 : Lim s.size) (hca : AC.chk ⟨k, key, n, x, s, m, must⟩ = 0) (hbad : RC.chk r ≠ 0) :
    Calls Tryz.prog 50 #[recV r A c, .bool true, actV ⟨k, key, n, x, s, m, must⟩ L cl] w (R5Post r true (RU.err (RC.chk r)) w) := by
  have HC := Lib.hid (fun u (b : Below w.heap.size w u) => rcheck4_any ⟨k, key, n, x, s, m, must⟩ L cl u ha (hL.below b) n2 n3 n4)
  have HLm := Lib.hid hL
  have HN2 := Lib.hid n2
  have HO := Lib.hid (fun u (b : Below w.heap.size w u) => copied_any r A c u (hA.below b) n1)
  have HD := Lib.hid (fun u A' c' (h : Its u A' r.list) => rcheck_any r A' c' u hr h n1)
  have HN1 := Lib.hid n1
  have HAo := Lib.hid ha
  have HRo := Lib.hid hr
  clear hr ha hA hL n1 n2 n3 n4
  go_enter Tryz.func50, Tryz.ntmps50
  go_wp2_with fail
  refine (HO.out _ (below4 w _ _ _ _)).mono ?_
  rintro e w1 ⟨A1, k1, rfl, ho, hn, hb⟩
  have hs1 := hb.size
  simp only [World.size_alloc] at hs1 hn
  have e0 := (hb.block w.heap.size (by simp only [World.size_alloc]; omega)).trans (A5.row0 _ _ _ _ w)
  have e1 := (hb.block (w.heap.size + 1) (by simp only [World.size_alloc]; omega)).trans (A5.row1 _ _ _ _ w)
  have e2 := (hb.block (w.heap.size + 1 + 1) (by simp only [World.size_alloc]; omega)).trans (A5.row2 _ _ _ _ w)
  have e3 := (hb.block (w.heap.size + 1 + 1 + 1) (by simp only [World.size_alloc]; omega)).trans (A5.row3 _ _ _ _ w)
  have HB := Lib.hid (show Below w.heap.size w w1 from (below4 w _ _ _ _).trans (hb.mono (by simp only [World.size_alloc]; omega)))
  have E0 := Lib.hid e0
  have E1 := Lib.hid e1
  have E2 := Lib.hid e2
  have E3 := Lib.hid e3
  have HW := Lib.hid ho
  have HN := Lib.hid (show ∀ k, ob A1 = some k → w.heap.size + 4 ≤ k from fun k e => by have := hn k e; omega)
  have d0 := fun o => cell_of_row w1 _ o _ _ (0, 0) e0
  have d1 := fun o => cell_of_row w1 _ o _ _ (0, 0) e1
  have g0 : ∀ o, w1.frozen? ⟨w.heap.size, o, none⟩ = false := fun o => frozen_of_row _ _ o _ _ e0
  have z1 : w.heap.size + 1 < w1.heap.size := by omega
  clear hb e0 e1 e2 e3 ho hn
  go_wp2_with fail
  generalize hwz : World.setCell _ _ _ = wz
  have HA5 := Lib.hid (show A5 w r A1 k1 (actC ⟨k, key, n, x, s, m, must⟩ L cl) wz by
    have hkz : Kp (fun k => k = w.heap.size) w1 wz := by rw [← hwz]; exact kp8g (Kp.refl _ _) (Or.inl rfl)
    refine ⟨by rw [← hwz]; exact rec_stores E0.out, (hkz.block _ (lt_of_heap E1.out) (by omega)).trans E1.out, (hkz.block _ (lt_of_heap E2.out) (by omega)).trans E2.out, (hkz.block _ (lt_of_heap E3.out) (by omega)).trans E3.out, (Its.own HW.out).kp hkz (fun ad e x => by subst e; have := HN.out ad.block rfl; omega), HN.out, HB.out.trans (hkz.below (by omega) (fun i hi x => by omega))⟩)
  clear hwz d0 d1 g0 z1 E0 E1 E2 E3 HW HN HB hs1 HO
  refine (HC.out _ HA5.out.below).mono ?_
  rw [hca]
  rintro e w2 ⟨rfl, hb⟩
  have HA5 := Lib.hid (HA5.out.look hb)
  clear hb hca
  generalize w2 = wz at *
  have c0 := fun o => cell_of_row wz _ o _ _ (0, 0) HA5.out.r0
  have c1 := fun o => cell_of_row wz _ o _ _ (0, 0) HA5.out.r1
  go_wp2_with fail
  refine (HD.out _ _ _ HA5.out.its).mono ?_
  generalize RC.chk r = E at *
  rintro e w2 ⟨rfl, hb⟩
  have HA5 := Lib.hid (HA5.out.look hb)
  have hE1 : ((E : Int) == 0) = false := by simp; omega
  have hE2 : ((E : Int) != 0) = true := by simp; omega
  clear hb c0 c1
  generalize w2 = wz at *
  have c0 := fun o => cell_of_row wz _ o _ _ (0, 0) HA5.out.r0
  have c1 := fun o => cell_of_row wz _ o _ _ (0, 0) HA5.out.r1
  go_wp2_with fail
  refine (rOn_any k _).mono ?_
  generalize (rowAt k).on = on
  rintro e w3 ⟨rfl, hb⟩
  have HA5 := Lib.hid (HA5.out.look hb)
  clear hb c0 c1
  generalize w3 = wz at *
  have c0 := fun o => cell_of_row wz _ o _ _ (0, 0) HA5.out.r0
  have c1 := fun o => cell_of_row wz _ o _ _ (0, 0) HA5.out.r1
  have c2 := fun o => cell_of_row wz _ o _ _ (0, 0) HA5.out.r2
  have c3 := fun o => cell_of_row wz _ o _ _ (0, 0) HA5.out.r3
  have f2 : ∀ o, wz.frozen? ⟨w.heap.size + 1 + 1, o, none⟩ = false := fun o => frozen_of_row _ _ o _ _ HA5.out.r2
  have f3 : ∀ o, wz.frozen? ⟨w.heap.size + 1 + 1 + 1, o, none⟩ = false := fun o => frozen_of_row _ _ o _ _ HA5.out.r3
  have HS2 := Lib.hid HA5.out.r2
  have HS3 := Lib.hid HA5.out.r3
  go_wp2_with fail
  generalize hwf : World.setCell _ _ _ = wf
  have X2 : wf.heap[w.heap.size + 1 + 1]? = some (.cells (recC r.kind r.num r.low r.high r.real r.cap r.text (.slice A1 r.list.length k1)) 25 (0, 0)) := by
    rw [← hwf]
    exact (ans_other (by omega)).trans (rec_stores HS2.out)
  have X3 : wf.heap[w.heap.size + 1 + 1 + 1]? = some (.cells (ansC (RU.err E).code (RU.err E).num (RU.err E).rc none 0) 82 (0, 0)) := by
    rw [← hwf]
    exact ans_all ((rec_stores_other (by omega)).trans HS3.out)
  have hk : Kp (fun k => k = w.heap.size + 1 + 1 ∨ k = w.heap.size + 1 + 1 + 1) wz wf := by
    rw [← hwf]
    exact (kp10 (kp8g (Kp.refl _ _) (Or.inl (Or.inl rfl))) (Or.inl (Or.inr rfl)))
  have HI := Lib.hid (HA5.out.fin hk HA5.out.its HA5.out.new)
  have HJ := Lib.hid (Its.nil wf none)
  have HB := Lib.hid (HA5.out.bel hk)
  have q2 := fun o => cell_of_row wf _ o _ _ (0, 0) X2
  have q3 := fun o => cell_of_row wf _ o _ _ (0, 0) X3
  clear hwf X2 X3 hk c0 c1 c2 c3 f2 f3
  exact bodyPost_ret (v := .tuple #[recV r A1 k1, .bool true, ansV (RU.err E).code (RU.err E).num (RU.err E).rc none 0]) (by simp [results, Tryz.results50, go_sem, q2, q3]) rfl ⟨_, _, _, _, rfl, HI.out, HJ.out, HB.out⟩
set_option maxHeartbeats 4000000 in
set_option maxRecDepth 100000 in
theorem r5apply_there (r : RC.Rc) (k : Int) (key : ByteArray) (n : Int) (x : Nat) (s : ByteArray) (m : RC.Rc) (must : Bool) (A L : Option Addr) (c cl : Nat) (w : World) (hr : r.ok) (ha : (⟨k, key, n, x, s, m, must⟩ : AC.Ac).ok) (hA : Its w A r.list) (hL : Its w L m.list) (n1 : Lim r.list.length) (n2 : Lim m.list.length) (n3 : Lim key.size) (n4 : Lim s.size) (hca : AC.chk ⟨k, key, n, x, s, m, must⟩ = 0) (hc3 : RC.chk r = 0) (hk : k = 1) :
    Calls Tryz.prog 50 #[recV r A c, .bool true, actV ⟨k, key, n, x, s, m, must⟩ L cl] w (R5Post r true (RU.err 7) w) := by
  subst hk
  have HC := Lib.hid (fun u (b : Below w.heap.size w u) => rcheck4_any ⟨1, key, n, x, s, m, must⟩ L cl u ha (hL.below b) n2 n3 n4)
  have HLm := Lib.hid hL
  have HN2 := Lib.hid n2
  have HO := Lib.hid (fun u (b : Below w.heap.size w u) => copied_any r A c u (hA.below b) n1)
  have HD := Lib.hid (fun u A' c' (h : Its u A' r.list) => rcheck_any r A' c' u hr h n1)
  have HN1 := Lib.hid n1
  have HAo := Lib.hid ha
  have HRo := Lib.hid hr
  clear hr ha hA hL n1 n2 n3 n4
  go_enter Tryz.func50, Tryz.ntmps50
  go_wp2_with fail
  refine (HO.out _ (below4 w _ _ _ _)).mono ?_
  rintro e w1 ⟨A1, k1, rfl, ho, hn, hb⟩
  have hs1 := hb.size
  simp only [World.size_alloc] at hs1 hn
  have e0 := (hb.block w.heap.size (by simp only [World.size_alloc]; omega)).trans (A5.row0 _ _ _ _ w)
  have e1 := (hb.block (w.heap.size + 1) (by simp only [World.size_alloc]; omega)).trans (A5.row1 _ _ _ _ w)
  have e2 := (hb.block (w.heap.size + 1 + 1) (by simp only [World.size_alloc]; omega)).trans (A5.row2 _ _ _ _ w)
  have e3 := (hb.block (w.heap.size + 1 + 1 + 1) (by simp only [World.size_alloc]; omega)).trans (A5.row3 _ _ _ _ w)
  have HB := Lib.hid (show Below w.heap.size w w1 from (below4 w _ _ _ _).trans (hb.mono (by simp only [World.size_alloc]; omega)))
  have E0 := Lib.hid e0
  have E1 := Lib.hid e1
  have E2 := Lib.hid e2
  have E3 := Lib.hid e3
  have HW := Lib.hid ho
  have HN := Lib.hid (show ∀ k, ob A1 = some k → w.heap.size + 4 ≤ k from fun k e => by have := hn k e; omega)
  have d0 := fun o => cell_of_row w1 _ o _ _ (0, 0) e0
  have d1 := fun o => cell_of_row w1 _ o _ _ (0, 0) e1
  have g0 : ∀ o, w1.frozen? ⟨w.heap.size, o, none⟩ = false := fun o => frozen_of_row _ _ o _ _ e0
  have z1 : w.heap.size + 1 < w1.heap.size := by omega
  clear hb e0 e1 e2 e3 ho hn
  go_wp2_with fail
  generalize hwz : World.setCell _ _ _ = wz
  have HA5 := Lib.hid (show A5 w r A1 k1 (actC ⟨1, key, n, x, s, m, must⟩ L cl) wz by
    have hkz : Kp (fun k => k = w.heap.size) w1 wz := by rw [← hwz]; exact kp8g (Kp.refl _ _) (Or.inl rfl)
    refine ⟨by rw [← hwz]; exact rec_stores E0.out, (hkz.block _ (lt_of_heap E1.out) (by omega)).trans E1.out, (hkz.block _ (lt_of_heap E2.out) (by omega)).trans E2.out, (hkz.block _ (lt_of_heap E3.out) (by omega)).trans E3.out, (Its.own HW.out).kp hkz (fun ad e x => by subst e; have := HN.out ad.block rfl; omega), HN.out, HB.out.trans (hkz.below (by omega) (fun i hi x => by omega))⟩)
  clear hwz d0 d1 g0 z1 E0 E1 E2 E3 HW HN HB hs1 HO
  refine (HC.out _ HA5.out.below).mono ?_
  rw [hca]
  rintro e w2 ⟨rfl, hb⟩
  have HA5 := Lib.hid (HA5.out.look hb)
  clear hb hca
  generalize w2 = wz at *
  have c0 := fun o => cell_of_row wz _ o _ _ (0, 0) HA5.out.r0
  have c1 := fun o => cell_of_row wz _ o _ _ (0, 0) HA5.out.r1
  go_wp2_with fail
  refine (HD.out _ _ _ HA5.out.its).mono ?_
  rw [hc3]
  rintro e w2 ⟨rfl, hb⟩
  have HA5 := Lib.hid (HA5.out.look hb)
  clear hb c0 c1 hc3
  generalize w2 = wz at *
  have c0 := fun o => cell_of_row wz _ o _ _ (0, 0) HA5.out.r0
  have c1 := fun o => cell_of_row wz _ o _ _ (0, 0) HA5.out.r1
  go_wp2_with fail
  refine (rOn_any 1 _).mono ?_
  generalize (rowAt 1).on = on
  rintro e w3 ⟨rfl, hb⟩
  have HA5 := Lib.hid (HA5.out.look hb)
  clear hb c0 c1
  generalize w3 = wz at *
  have c0 := fun o => cell_of_row wz _ o _ _ (0, 0) HA5.out.r0
  have c1 := fun o => cell_of_row wz _ o _ _ (0, 0) HA5.out.r1
  have c2 := fun o => cell_of_row wz _ o _ _ (0, 0) HA5.out.r2
  have c3 := fun o => cell_of_row wz _ o _ _ (0, 0) HA5.out.r3
  have f2 : ∀ o, wz.frozen? ⟨w.heap.size + 1 + 1, o, none⟩ = false := fun o => frozen_of_row _ _ o _ _ HA5.out.r2
  have f3 : ∀ o, wz.frozen? ⟨w.heap.size + 1 + 1 + 1, o, none⟩ = false := fun o => frozen_of_row _ _ o _ _ HA5.out.r3
  have HS2 := Lib.hid HA5.out.r2
  have HS3 := Lib.hid HA5.out.r3
  go_wp2_with fail
  generalize hwf : World.setCell _ _ _ = wf
  have X2 : wf.heap[w.heap.size + 1 + 1]? = some (.cells (recC r.kind r.num r.low r.high r.real r.cap r.text (.slice A1 r.list.length k1)) 25 (0, 0)) := by
    rw [← hwf]
    exact (ans_other (by omega)).trans (rec_stores HS2.out)
  have X3 : wf.heap[w.heap.size + 1 + 1 + 1]? = some (.cells (ansC (RU.err 7).code (RU.err 7).num (RU.err 7).rc none 0) 82 (0, 0)) := by
    rw [← hwf]
    exact ans_all ((rec_stores_other (by omega)).trans HS3.out)
  have hk : Kp (fun k => k = w.heap.size + 1 + 1 ∨ k = w.heap.size + 1 + 1 + 1) wz wf := by
    rw [← hwf]
    exact (kp10 (kp8g (Kp.refl _ _) (Or.inl (Or.inl rfl))) (Or.inl (Or.inr rfl)))
  have HI := Lib.hid (HA5.out.fin hk HA5.out.its HA5.out.new)
  have HJ := Lib.hid (Its.nil wf none)
  have HB := Lib.hid (HA5.out.bel hk)
  have q2 := fun o => cell_of_row wf _ o _ _ (0, 0) X2
  have q3 := fun o => cell_of_row wf _ o _ _ (0, 0) X3
  clear hwf X2 X3 hk c0 c1 c2 c3 f2 f3
  exact bodyPost_ret (v := .tuple #[recV r A1 k1, .bool true, ansV (RU.err 7).code (RU.err 7).num (RU.err 7).rc none 0]) (by simp [results, Tryz.results50, go_sem, q2, q3]) rfl ⟨_, _, _, _, rfl, HI.out, HJ.out, HB.out⟩
set_option maxHeartbeats 4000000 in
set_option maxRecDepth 100000 in
theorem r5apply_kind (r : RC.Rc) (k : Int) (key : ByteArray) (n : Int) (x : Nat) (s : ByteArray) (m : RC.Rc) (must : Bool) (A L : Option Addr) (c cl : Nat) (w : World) (hr : r.ok) (ha : (⟨k, key, n, x, s, m, must⟩ : AC.Ac).ok) (hA : Its w A r.list) (hL : Its w L m.list) (n1 : Lim r.list.length) (n2 : Lim m.list.length) (n3 : Lim key.size) (n4 : Lim s.size) (hca : AC.chk ⟨k, key, n, x, s, m, must⟩ = 0) (hc3 : RC.chk r = 0) (hk : ¬ k = 1) (on : Int) (hon : (rowAt k).on = on) (ho0 : ¬ on = 0) (ho1 : ¬ on = r.kind) :
    Calls Tryz.prog 50 #[recV r A c, .bool true, actV ⟨k, key, n, x, s, m, must⟩ L cl] w (R5Post r true (RU.err 5) w) := by
  have b1 : (k == 1) = false := by simpa using hk
  have b2 : (on != 0) = true := by simpa using ho0
  have b3 : (on != r.kind) = true := by simpa using ho1
  clear hk ho0 ho1
  have HC := Lib.hid (fun u (b : Below w.heap.size w u) => rcheck4_any ⟨k, key, n, x, s, m, must⟩ L cl u ha (hL.below b) n2 n3 n4)
  have HLm := Lib.hid hL
  have HN2 := Lib.hid n2
  have HO := Lib.hid (fun u (b : Below w.heap.size w u) => copied_any r A c u (hA.below b) n1)
  have HD := Lib.hid (fun u A' c' (h : Its u A' r.list) => rcheck_any r A' c' u hr h n1)
  have HN1 := Lib.hid n1
  have HAo := Lib.hid ha
  have HRo := Lib.hid hr
  clear hr ha hA hL n1 n2 n3 n4
  go_enter Tryz.func50, Tryz.ntmps50
  go_wp2_with fail
  refine (HO.out _ (below4 w _ _ _ _)).mono ?_
  rintro e w1 ⟨A1, k1, rfl, ho, hn, hb⟩
  have hs1 := hb.size
  simp only [World.size_alloc] at hs1 hn
  have e0 := (hb.block w.heap.size (by simp only [World.size_alloc]; omega)).trans (A5.row0 _ _ _ _ w)
  have e1 := (hb.block (w.heap.size + 1) (by simp only [World.size_alloc]; omega)).trans (A5.row1 _ _ _ _ w)
  have e2 := (hb.block (w.heap.size + 1 + 1) (by simp only [World.size_alloc]; omega)).trans (A5.row2 _ _ _ _ w)
  have e3 := (hb.block (w.heap.size + 1 + 1 + 1) (by simp only [World.size_alloc]; omega)).trans (A5.row3 _ _ _ _ w)
  have HB := Lib.hid (show Below w.heap.size w w1 from (below4 w _ _ _ _).trans (hb.mono (by simp only [World.size_alloc]; omega)))
  have E0 := Lib.hid e0
  have E1 := Lib.hid e1
  have E2 := Lib.hid e2
  have E3 := Lib.hid e3
  have HW := Lib.hid ho
  have HN := Lib.hid (show ∀ k, ob A1 = some k → w.heap.size + 4 ≤ k from fun k e => by have := hn k e; omega)
  have d0 := fun o => cell_of_row w1 _ o _ _ (0, 0) e0
  have d1 := fun o => cell_of_row w1 _ o _ _ (0, 0) e1
  have g0 : ∀ o, w1.frozen? ⟨w.heap.size, o, none⟩ = false := fun o => frozen_of_row _ _ o _ _ e0
  have z1 : w.heap.size + 1 < w1.heap.size := by omega
  clear hb e0 e1 e2 e3 ho hn
  go_wp2_with fail
  generalize hwz : World.setCell _ _ _ = wz
  have HA5 := Lib.hid (show A5 w r A1 k1 (actC ⟨k, key, n, x, s, m, must⟩ L cl) wz by
    have hkz : Kp (fun k => k = w.heap.size) w1 wz := by rw [← hwz]; exact kp8g (Kp.refl _ _) (Or.inl rfl)
    refine ⟨by rw [← hwz]; exact rec_stores E0.out, (hkz.block _ (lt_of_heap E1.out) (by omega)).trans E1.out, (hkz.block _ (lt_of_heap E2.out) (by omega)).trans E2.out, (hkz.block _ (lt_of_heap E3.out) (by omega)).trans E3.out, (Its.own HW.out).kp hkz (fun ad e x => by subst e; have := HN.out ad.block rfl; omega), HN.out, HB.out.trans (hkz.below (by omega) (fun i hi x => by omega))⟩)
  clear hwz d0 d1 g0 z1 E0 E1 E2 E3 HW HN HB hs1 HO
  refine (HC.out _ HA5.out.below).mono ?_
  rw [hca]
  rintro e w2 ⟨rfl, hb⟩
  have HA5 := Lib.hid (HA5.out.look hb)
  clear hb hca
  generalize w2 = wz at *
  have c0 := fun o => cell_of_row wz _ o _ _ (0, 0) HA5.out.r0
  have c1 := fun o => cell_of_row wz _ o _ _ (0, 0) HA5.out.r1
  go_wp2_with fail
  refine (HD.out _ _ _ HA5.out.its).mono ?_
  rw [hc3]
  rintro e w2 ⟨rfl, hb⟩
  have HA5 := Lib.hid (HA5.out.look hb)
  clear hb c0 c1 hc3
  generalize w2 = wz at *
  have c0 := fun o => cell_of_row wz _ o _ _ (0, 0) HA5.out.r0
  have c1 := fun o => cell_of_row wz _ o _ _ (0, 0) HA5.out.r1
  go_wp2_with fail
  refine (rOn_any k _).mono ?_
  rw [hon]
  clear hon
  rintro e w3 ⟨rfl, hb⟩
  have HA5 := Lib.hid (HA5.out.look hb)
  clear hb c0 c1
  generalize w3 = wz at *
  have c0 := fun o => cell_of_row wz _ o _ _ (0, 0) HA5.out.r0
  have c1 := fun o => cell_of_row wz _ o _ _ (0, 0) HA5.out.r1
  have c2 := fun o => cell_of_row wz _ o _ _ (0, 0) HA5.out.r2
  have c3 := fun o => cell_of_row wz _ o _ _ (0, 0) HA5.out.r3
  have f2 : ∀ o, wz.frozen? ⟨w.heap.size + 1 + 1, o, none⟩ = false := fun o => frozen_of_row _ _ o _ _ HA5.out.r2
  have f3 : ∀ o, wz.frozen? ⟨w.heap.size + 1 + 1 + 1, o, none⟩ = false := fun o => frozen_of_row _ _ o _ _ HA5.out.r3
  have HS2 := Lib.hid HA5.out.r2
  have HS3 := Lib.hid HA5.out.r3
  go_wp2_with fail
  generalize hwf : World.setCell _ _ _ = wf
  have X2 : wf.heap[w.heap.size + 1 + 1]? = some (.cells (recC r.kind r.num r.low r.high r.real r.cap r.text (.slice A1 r.list.length k1)) 25 (0, 0)) := by
    rw [← hwf]
    exact (ans_other (by omega)).trans (rec_stores HS2.out)
  have X3 : wf.heap[w.heap.size + 1 + 1 + 1]? = some (.cells (ansC (RU.err 5).code (RU.err 5).num (RU.err 5).rc none 0) 82 (0, 0)) := by
    rw [← hwf]
    exact ans_all ((rec_stores_other (by omega)).trans HS3.out)
  have hk : Kp (fun k => k = w.heap.size + 1 + 1 ∨ k = w.heap.size + 1 + 1 + 1) wz wf := by
    rw [← hwf]
    exact (kp10 (kp8g (Kp.refl _ _) (Or.inl (Or.inl rfl))) (Or.inl (Or.inr rfl)))
  have HI := Lib.hid (HA5.out.fin hk HA5.out.its HA5.out.new)
  have HJ := Lib.hid (Its.nil wf none)
  have HB := Lib.hid (HA5.out.bel hk)
  have q2 := fun o => cell_of_row wf _ o _ _ (0, 0) X2
  have q3 := fun o => cell_of_row wf _ o _ _ (0, 0) X3
  clear hwf X2 X3 hk c0 c1 c2 c3 f2 f3
  exact bodyPost_ret (v := .tuple #[recV r A1 k1, .bool true, ansV (RU.err 5).code (RU.err 5).num (RU.err 5).rc none 0]) (by simp [results, Tryz.results50, go_sem, q2, q3]) rfl ⟨_, _, _, _, rfl, HI.out, HJ.out, HB.out⟩
set_option maxHeartbeats 4000000 in
set_option maxRecDepth 100000 in
theorem r5apply_none (r : RC.Rc) (k : Int) (key : ByteArray) (n : Int) (x : Nat) (s : ByteArray) (m : RC.Rc) (must : Bool) (A L : Option Addr) (c cl : Nat) (w : World) (hr : r.ok) (ha : (⟨k, key, n, x, s, m, must⟩ : AC.Ac).ok) (hA : Its w A r.list) (hL : Its w L m.list) (n1 : Lim r.list.length) (n2 : Lim m.list.length) (n3 : Lim key.size) (n4 : Lim s.size) (hca : AC.chk ⟨k, key, n, x, s, m, must⟩ = 0) (hk : ¬ k = 1) (hk3 : ¬ k = 3) :
    Calls Tryz.prog 50 #[recV r A c, .bool false, actV ⟨k, key, n, x, s, m, must⟩ L cl] w (R5Post RC.zero false (RU.err 6) w) := by
  have b1 : (k != 1) = true := by simpa using hk
  have b2 : (k != 3) = true := by simpa using hk3
  have HC := Lib.hid (fun u (b : Below w.heap.size w u) => rcheck4_any ⟨k, key, n, x, s, m, must⟩ L cl u ha (hL.below b) n2 n3 n4)
  have HLm := Lib.hid hL
  have HN2 := Lib.hid n2
  have HO := Lib.hid (fun u => copied_any RC.zero none 0 u (Its.nil _ _) (by unfold Lim; show (0 : Nat) < _; omega))
  have HAo := Lib.hid ha
  have HRo := Lib.hid hr
  clear hr ha hA hL n1 n2 n3 n4
  go_enter Tryz.func50, Tryz.ntmps50
  go_wp2_with fail
  refine (HO.out _).mono ?_
  rintro e w1 ⟨A1, k1, rfl, ho, hn, hb⟩
  have hs1 := hb.size
  simp only [World.size_alloc] at hs1 hn
  have e0 := (hb.block w.heap.size (by simp only [World.size_alloc]; omega)).trans (A5.row0 _ _ _ _ w)
  have e1 := (hb.block (w.heap.size + 1) (by simp only [World.size_alloc]; omega)).trans (A5.row1 _ _ _ _ w)
  have e2 := (hb.block (w.heap.size + 1 + 1) (by simp only [World.size_alloc]; omega)).trans (A5.row2 _ _ _ _ w)
  have e3 := (hb.block (w.heap.size + 1 + 1 + 1) (by simp only [World.size_alloc]; omega)).trans (A5.row3 _ _ _ _ w)
  have HB := Lib.hid (show Below w.heap.size w w1 from (below4 w _ _ _ _).trans (hb.mono (by simp only [World.size_alloc]; omega)))
  have E0 := Lib.hid e0
  have E1 := Lib.hid e1
  have E2 := Lib.hid e2
  have E3 := Lib.hid e3
  have HW := Lib.hid ho
  have HN := Lib.hid (show ∀ k, ob A1 = some k → w.heap.size + 4 ≤ k from fun k e => by have := hn k e; omega)
  have d0 := fun o => cell_of_row w1 _ o _ _ (0, 0) e0
  have d1 := fun o => cell_of_row w1 _ o _ _ (0, 0) e1
  have g0 : ∀ o, w1.frozen? ⟨w.heap.size, o, none⟩ = false := fun o => frozen_of_row _ _ o _ _ e0
  have z1 : w.heap.size + 1 < w1.heap.size := by omega
  clear hb e0 e1 e2 e3 ho hn
  go_wp2_with fail
  generalize hwz : World.setCell _ _ _ = wz
  have HA5 := Lib.hid (show A5 w RC.zero A1 k1 (actC ⟨k, key, n, x, s, m, must⟩ L cl) wz by
    have hkz : Kp (fun k => k = w.heap.size) w1 wz := by rw [← hwz]; exact kp8g (Kp.refl _ _) (Or.inl rfl)
    refine ⟨by rw [← hwz]; exact rec_stores E0.out, (hkz.block _ (lt_of_heap E1.out) (by omega)).trans E1.out, (hkz.block _ (lt_of_heap E2.out) (by omega)).trans E2.out, (hkz.block _ (lt_of_heap E3.out) (by omega)).trans E3.out, (Its.own HW.out).kp hkz (fun ad e x => by subst e; have := HN.out ad.block rfl; omega), HN.out, HB.out.trans (hkz.below (by omega) (fun i hi x => by omega))⟩)
  clear hwz d0 d1 g0 z1 E0 E1 E2 E3 HW HN HB hs1 HO
  refine (HC.out _ HA5.out.below).mono ?_
  rw [hca]
  rintro e w2 ⟨rfl, hb⟩
  have HA5 := Lib.hid (HA5.out.look hb)
  clear hb hca
  generalize w2 = wz at *
  have c0 := fun o => cell_of_row wz _ o _ _ (0, 0) HA5.out.r0
  have c1 := fun o => cell_of_row wz _ o _ _ (0, 0) HA5.out.r1
  go_wp2_with fail
  refine (rOn_any k _).mono ?_
  generalize (rowAt k).on = on
  rintro e w3 ⟨rfl, hb⟩
  have HA5 := Lib.hid (HA5.out.look hb)
  clear hb c0 c1
  generalize w3 = wz at *
  have c0 := fun o => cell_of_row wz _ o _ _ (0, 0) HA5.out.r0
  have c1 := fun o => cell_of_row wz _ o _ _ (0, 0) HA5.out.r1
  have c2 := fun o => cell_of_row wz _ o _ _ (0, 0) HA5.out.r2
  have c3 := fun o => cell_of_row wz _ o _ _ (0, 0) HA5.out.r3
  have f2 : ∀ o, wz.frozen? ⟨w.heap.size + 1 + 1, o, none⟩ = false := fun o => frozen_of_row _ _ o _ _ HA5.out.r2
  have f3 : ∀ o, wz.frozen? ⟨w.heap.size + 1 + 1 + 1, o, none⟩ = false := fun o => frozen_of_row _ _ o _ _ HA5.out.r3
  have HS2 := Lib.hid HA5.out.r2
  have HS3 := Lib.hid HA5.out.r3
  go_wp2_with fail
  generalize hwf : World.setCell _ _ _ = wf
  have X2 : wf.heap[w.heap.size + 1 + 1]? = some (.cells (recC RC.zero.kind RC.zero.num RC.zero.low RC.zero.high RC.zero.real RC.zero.cap RC.zero.text (.slice A1 RC.zero.list.length k1)) 25 (0, 0)) := by
    rw [← hwf]
    exact (ans_other (by omega)).trans (rec_stores HS2.out)
  have X3 : wf.heap[w.heap.size + 1 + 1 + 1]? = some (.cells (ansC (RU.err 6).code (RU.err 6).num (RU.err 6).rc none 0) 82 (0, 0)) := by
    rw [← hwf]
    exact ans_all ((rec_stores_other (by omega)).trans HS3.out)
  have hk : Kp (fun k => k = w.heap.size + 1 + 1 ∨ k = w.heap.size + 1 + 1 + 1) wz wf := by
    rw [← hwf]
    exact (kp10 (kp8g (Kp.refl _ _) (Or.inl (Or.inl rfl))) (Or.inl (Or.inr rfl)))
  have HI := Lib.hid (HA5.out.fin hk HA5.out.its HA5.out.new)
  have HJ := Lib.hid (Its.nil wf none)
  have HB := Lib.hid (HA5.out.bel hk)
  have q2 := fun o => cell_of_row wf _ o _ _ (0, 0) X2
  have q3 := fun o => cell_of_row wf _ o _ _ (0, 0) X3
  clear hwf X2 X3 hk c0 c1 c2 c3 f2 f3
  exact bodyPost_ret (v := .tuple #[recV RC.zero A1 k1, .bool false, ansV (RU.err 6).code (RU.err 6).num (RU.err 6).rc none 0]) (by simp [results, Tryz.results50, go_sem, q2, q3]) rfl ⟨_, _, _, _, rfl, HI.out, HJ.out, HB.out⟩
end Go.Proofs.YtbkcmnmbcldjoaaGreatDoor
