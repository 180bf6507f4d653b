/- Contracts of the document's own answers for layer 3: a record with a list, as parts. -/
import Derived.Test.YtaaeefndhmfceaaGreatDoorRef3i
namespace Go.Proofs.YtaaeefndhmfceaaGreatDoor
open Go.RowKit MM

theorem itsP_take (k : Int) (l : List RC.It) (i : Nat) (h : i < l.length) : itsP k (l.take (i + 1)) = itsP k (l.take i) ++ itP k l[i] := by
  unfold itsP; rw [List.take_succ_eq_append_getElem h, List.flatMap_append]; simp
theorem itsP_len (k : Int) (l : List RC.It) : (itsP k l).length ≤ 2 * l.length := by
  induction l with
  | nil => simp [itsP]
  | cons a l ih =>
    have : itsP k (a :: l) = itP k a ++ itsP k l := by simp [itsP]
    rw [this, List.length_append, List.length_cons]
    have : (itP k a).length ≤ 2 := by unfold itP; split <;> simp
    omega
/-- Parts that are new, and the record's own box. -/
structure POwn (row : Array Value) (w : World) (qs : List PK.Rp) (A1 : Option Addr) (c1 : Nat) (wr : World) : Prop where
  own : wr.ownsRow 0 115 6 (.slice A1 qs.length c1) qs.length (rpCells qs)
  new : ∀ b, ob A1 = some b → w.heap.size < b
  box : wr.heap[w.heap.size]? = some (.cells row 25 (0, 0))
  below : Below w.heap.size w wr
theorem POwn.next {row : Array Value} {w : World} {qs : List PK.Rp} {q : PK.Rp} {A1 A3 : Option Addr} {c1 c3 : Nat} {wr wm w3 : World} (h : POwn row w qs A1 c1 wr) (hk : Below wr.heap.size wr wm) (hg : wm.grownBy w3 (ob A1)) (hat : ob A3 = ob A1 ∨ ob A3 = some wm.heap.size)
    (ho : w3.ownsRow 0 115 6 (.slice A3 (qs.length + 1) c3) (qs.length + 1) (rpCells qs ++ q.cells.toList)) : POwn row w (qs ++ [q]) A3 c3 w3 := by
  have hlt := lt_of_heap h.box
  have hK : Kp (fun k => ob A1 = some k) wm w3 := (Kp.refl _ wm).grown hg (fun k e => .inl e)
  refine ⟨?_, fun b e => ?_, ?_, ?_⟩
  · rw [rpCells_snoc, List.length_append]; exact ho
  · rcases hat with x | x
    · exact h.new b (x ▸ e)
    · rw [x] at e; injection e with e; have := hk.size; omega
  · exact (hK.block _ (Nat.lt_of_lt_of_le hlt hk.size) (fun e => by have := h.new _ e; omega)).trans ((hk.block _ hlt).trans h.box)
  · exact (h.below.trans (hk.mono h.below.size)).trans (hK.below (Nat.le_trans h.below.size hk.size) (fun j hj e => by have := h.new _ e; omega))
theorem POwn.less {row : Array Value} {w : World} {qs : List PK.Rp} {A1 : Option Addr} {c1 : Nat} {wr : World} (h : POwn row w qs A1 c1 wr) {wm : World} (hk : Below wr.heap.size wr wm) : wm.ownsRow 0 115 6 (.slice A1 qs.length c1) qs.length (rpCells qs) := own_below h.own hk

set_option maxHeartbeats 4000000 in
set_option maxRecDepth 100000 in
theorem rparts_8 (n l h : Int) (x C : Nat) (t : ByteArray) (s : List RC.It) (A : Option Addr) (c : Nat) (w : World) (hC : C ≤ 32) (hs : s.length ≤ 32) (hA : Its w A s) (hw : ∀ x ∈ s, MF.W64 x.score) :
    Calls Tryz.prog 84 #[recV ⟨8, n, l, h, x, (C : Int), t, s⟩ A c] w (FreshR (recP ⟨8, n, l, h, x, (C : Int), t, s⟩) w) := by
  obtain ⟨i0, hi0, hz0, hz1, hz2⟩ := info_parts rpart_info
  go_enter Tryz.func84, Tryz.ntmps84
  go_wp2_with fail
  refine (ru3_any 8 _ (by omega)).mono ?_
  rintro e w1 ⟨rfl, hb1⟩
  have e0 := (hb1.block w.heap.size (by simp)).trans (heap_alloc_new w _)
  have hlt : w.heap.size < w1.heap.size := lt_of_heap e0
  have HB1 := Lib.hid (show Below w.heap.size w w1 from (below1 w _).trans (hb1.mono (by simp)))
  have c0 := fun o => cell_of_row w1 _ o _ _ (0, 0) e0
  have E0 := Lib.hid e0
  have ho := World.ownsRow_lit (base := 0) (e := 115) (size := 6) w1 #[.int .u8 117, .int .u64 8, .int .i64 0, .int .u64 0, .string ⟨#[]⟩, .bool false] 1 (Nat.zero_le _) (by decide) rfl
  have Ho := Lib.hid ho
  clear hb1 e0 ho
  go_wp2_with fail
  generalize hwz : w1.alloc _ = wz
  have Hoz := Lib.hid (show wz.ownsRow 0 115 6 (.slice (some ⟨w1.heap.size, 0, none⟩) 1 1) 1 [.int .u8 117, .int .u64 8, .int .i64 0, .int .u64 0, .string ⟨#[]⟩, .bool false] by rw [← hwz]; exact Ho.out)
  have hbz : Below w1.heap.size w1 wz := by rw [← hwz]; exact below1 w1 _
  have HBz := Lib.hid (HB1.out.trans (hbz.mono HB1.out.size))
  have ez := (hbz.block _ hlt).trans E0.out
  have Ez := Lib.hid ez
  have f5 : wz.cell? ⟨w.heap.size, 5, none⟩ = some (.int .i64 (C : Int)) := (cell_of_row wz _ 5 _ _ (0, 0) ez).trans rfl
  have f7 : wz.cell? ⟨w.heap.size, 7, none⟩ = some (.slice A s.length c) := (cell_of_row wz _ 7 _ _ (0, 0) ez).trans rfl
  clear hwz hbz ez c0 Ho
  have hnz : w.heap.size ≠ w1.heap.size := by omega
  go_region_held3 (fun w' => w'.cell? ⟨w.heap.size, 5, none⟩ = some (.int .i64 (C : Int)) ∧ w'.cell? ⟨w.heap.size, 7, none⟩ = some (.slice A s.length c))
    (first
      | (go_split_ands; exact ⟨grown_keep hg3 (by assumption) hnz, grown_keep hg3 (by assumption) hnz⟩)
      | (go_split_ands; exact ⟨by assumption, by assumption⟩)
      | (go_split_ands; exact ⟨below_keep hb3 (by assumption), below_keep hb3 (by assumption)⟩)
      | (go_split_ands; exact ⟨below_keep hb2 (by assumption), below_keep hb2 (by assumption)⟩)
      | (go_split_ands; exact ⟨alloc_keep (by assumption) _, alloc_keep (by assumption) _⟩))
    (first
      | (go_at_call 146; (with_reducible refine (ru3_any C _ (by omega)).mono ?_); rintro e w2 ⟨rfl, hb2⟩)
      | (go_at_call 146; (with_reducible refine (ru3_any s.length _ (by omega)).mono ?_); rintro e w3 ⟨rfl, hb3⟩)
      | (go_split_ands; refine step_append_at rfl _ _ _ _ rfl 115 i0 _ 6 56 Tryz.underlying73 hi0 hz0 hz1 hz2 rfl (some ⟨w1.heap.size, 0, none⟩) 1 1 _ (by simp [Act.eval]) ((own_below (own_below (own_drew Hoz.out) hb2) hb3).alloc _) _ 2 _ (by simp [Act.eval]) (src_newn Tryz.underlying73 _ _ 2 _ rfl rfl (by intro u hu; simp at hu; rcases hu with rfl | rfl | rfl | rfl | rfl | rfl | rfl | rfl | rfl | rfl | rfl | rfl <;> rfl)) (by unfold maxLen; omega) (by omega) ?_; intro A3 c3 w6 ho3 hg3 hat3))
  have HWZ := Lib.hid (show POwn (recC 8 n l h x (C : Int) t (.slice A s.length c)) w [pU 8] (some ⟨w1.heap.size, 0, none⟩) 1 wz from ⟨Hoz.out, (fun b e => by injection e with e; have e' : w1.heap.size = b := e; omega), Ez.out, HBz.out⟩)
  have hB4 : Below wz.heap.size wz w3 := (below_a wz).trans (hb2.trans (hb3.mono hb2.size))
  have hlt3 := Nat.lt_of_lt_of_le (lt_of_heap Ez.out) hB4.size
  have HP6 := Lib.hid (show POwn (recC 8 n l h x (C : Int) t (.slice A s.length c)) w [pU 8, pU C, pU s.length] A3 c3 w6 by
    have hK : Kp (fun k => k = w1.heap.size) (w3.alloc _) w6 := (Kp.refl _ _).grown hg3 (fun k e => .inl (by injection e with e; exact e.symm))
    have hbx := (hK.block w.heap.size (by simp; omega) (by show ¬ w.heap.size = w1.heap.size; omega)).trans ((heap_alloc_old w3 _ hlt3).trans ((hB4.block _ (lt_of_heap Ez.out)).trans Ez.out))
    refine ⟨ho3, fun b e => ?_, hbx, ?_⟩
    · rcases hat3 with y | y
      · rw [y] at e; injection e with e; have e' : w1.heap.size = b := e; omega
      · rw [y] at e; injection e with e; have e' : (w3.alloc (.cells _ _)).heap.size = b := e; simp at e'; omega
    · exact ((HBz.out.trans (hB4.mono HBz.out.size)).alloc (Nat.le_trans HBz.out.size hB4.size) _).trans (hK.below (by simp; have := HBz.out.size; have := hB4.size; omega) (fun j hj e => by have e' : j = w1.heap.size := e; omega)))
  have HA := Lib.hid hA
  have HW := Lib.hid hw
  clear hA hw hB4 hb2 hb3 ho3 hg3 hat3 HWZ Hoz hlt3
  go_wp2_with fail
  go_loopw [3, 4] (fun t3 t4 wr => ∃ (i : Nat) (qs : List PK.Rp) (A1 : Option Addr) (c1 : Nat), t3 = .slice A1 qs.length c1 ∧ t4 = .int .i64 i ∧ i ≤ s.length ∧ qs = [pU 8, pU C, pU s.length] ++ itsP 8 (s.take i) ∧ POwn (recC 8 n l h x (C : Int) t (.slice A s.length c)) w qs A1 c1 wr) (fun _ t4 _ => s.length - (intOf t4).toNat)
  case atStart => exact ⟨0, [pU 8, pU C, pU s.length], A3, c3, rfl, rfl, Nat.zero_le _, rfl, HP6.out⟩
  case round =>
    obtain ⟨i, qs, A1, c1, rfl, rfl, hi, hqs, hP⟩ := hrel
    have c0 := fun o => cell_of_row wr _ o _ _ (0, 0) hP.box
    have HP := Lib.hid hP
    have hql : qs.length ≤ 67 := by
      rw [hqs, List.length_append]
      have h1 := itsP_len 8 (s.take i)
      have h2 : (s.take i).length ≤ s.length := by rw [List.length_take]; omega
      simp only [List.length_cons, List.length_nil]
      omega
    have Hqs := Lib.hid hqs
    clear hP hqs
    by_cases hlt : i < s.length
    · rcases HA.out with hI | ⟨b, off, rfl, hb, hc⟩
      · have hI : s = [] := hI
        subst hI; simp at hlt
      replace hc : ∀ (i : Nat) (x : RC.It), s[i]? = some x → w.cell? ⟨b, off + i * 2, none⟩ = some (.float .f64 x.score) ∧ w.cell? ⟨b, off + i * 2 + 1, none⟩ = some (.string x.name) := hc
      obtain ⟨a0, a1⟩ := hc i s[i] (List.getElem?_eq_getElem hlt)
      have wa := HW.out _ (List.getElem_mem hlt)
      have Htk := Lib.hid (itsP_take 8 s i hlt)
      generalize s[i] = y at *
      obtain ⟨ys, yn⟩ := y
      have Hw1 := Lib.hid (show w.cell? ⟨b, off + i * 2 + 1, none⟩ = some (.string yn) from a1)
      replace a0 : wr.cell? ⟨b, off + i * 2, none⟩ = some (.float .f64 ys) := below_keep HP.out.below a0
      replace a1 : wr.cell? ⟨b, off + i * 2 + 1, none⟩ = some (.string yn) := below_keep HP.out.below a1
      replace wa : MF.W64 ys := wa
      have hi1 : (i : Int) < (s.length : Int) := by omega
      clear hc
      go_wp2_with fail
      refine (rs3_any yn _).mono ?_
      rintro e w7 ⟨rfl, hbp⟩
      clear c0 a0 a1
      go_wp2_with (first
        | (at_builtin
           refine wpList_append_at rfl _ _ _ _ rfl 115 i0 _ 6 56 Tryz.underlying73 hi0 hz0 hz1 hz2 rfl A1 qs.length c1 (rpCells qs) rfl ((HP.out.less hbp).alloc _) _ 1 _ rfl (src_newn Tryz.underlying73 _ _ 1 _ rfl rfl (one6 _ _ _ _ _ _ rfl rfl rfl rfl rfl rfl)) (by unfold maxLen; omega) (by omega) ?_
           intro A4 c4 w8 ho4 hg4 hat4))
      go_roundw
      case rel =>
        refine ⟨i + 1, qs ++ [pS yn], A4, c4, by simp, by go_num, by omega, ?_, ?_⟩
        · rw [Htk.out, Hqs.out, List.append_assoc]; rfl
        · exact HP.out.next (hbp.alloc hbp.size _) hg4 hat4 ho4
      case measure => simp [intOf]; omega
    · have hi' : i = s.length := by omega
      subst hi'
      go_wp2_with fail
      go_ret
      obtain ⟨h1, h2, _, h4⟩ := HP.out
      exact FreshR.mk (by rw [Hqs.out, List.take_length]; rfl) (by rw [Hqs.out, List.take_length]; rfl) h1 (fun k e => Nat.le_of_lt (h2 k e)) h4

set_option maxHeartbeats 4000000 in
set_option maxRecDepth 100000 in
theorem rparts_9 (n l h : Int) (x C : Nat) (t : ByteArray) (s : List RC.It) (A : Option Addr) (c : Nat) (w : World) (hC : C ≤ 32) (hs : s.length ≤ 32) (hA : Its w A s) (hw : ∀ x ∈ s, MF.W64 x.score) :
    Calls Tryz.prog 84 #[recV ⟨9, n, l, h, x, (C : Int), t, s⟩ A c] w (FreshR (recP ⟨9, n, l, h, x, (C : Int), t, s⟩) w) := by
  obtain ⟨i0, hi0, hz0, hz1, hz2⟩ := info_parts rpart_info
  go_enter Tryz.func84, Tryz.ntmps84
  go_wp2_with fail
  refine (ru3_any 9 _ (by omega)).mono ?_
  rintro e w1 ⟨rfl, hb1⟩
  have e0 := (hb1.block w.heap.size (by simp)).trans (heap_alloc_new w _)
  have hlt : w.heap.size < w1.heap.size := lt_of_heap e0
  have HB1 := Lib.hid (show Below w.heap.size w w1 from (below1 w _).trans (hb1.mono (by simp)))
  have c0 := fun o => cell_of_row w1 _ o _ _ (0, 0) e0
  have E0 := Lib.hid e0
  have ho := World.ownsRow_lit (base := 0) (e := 115) (size := 6) w1 #[.int .u8 117, .int .u64 9, .int .i64 0, .int .u64 0, .string ⟨#[]⟩, .bool false] 1 (Nat.zero_le _) (by decide) rfl
  have Ho := Lib.hid ho
  clear hb1 e0 ho
  go_wp2_with fail
  generalize hwz : w1.alloc _ = wz
  have Hoz := Lib.hid (show wz.ownsRow 0 115 6 (.slice (some ⟨w1.heap.size, 0, none⟩) 1 1) 1 [.int .u8 117, .int .u64 9, .int .i64 0, .int .u64 0, .string ⟨#[]⟩, .bool false] by rw [← hwz]; exact Ho.out)
  have hbz : Below w1.heap.size w1 wz := by rw [← hwz]; exact below1 w1 _
  have HBz := Lib.hid (HB1.out.trans (hbz.mono HB1.out.size))
  have ez := (hbz.block _ hlt).trans E0.out
  have Ez := Lib.hid ez
  have f5 : wz.cell? ⟨w.heap.size, 5, none⟩ = some (.int .i64 (C : Int)) := (cell_of_row wz _ 5 _ _ (0, 0) ez).trans rfl
  have f7 : wz.cell? ⟨w.heap.size, 7, none⟩ = some (.slice A s.length c) := (cell_of_row wz _ 7 _ _ (0, 0) ez).trans rfl
  clear hwz hbz ez c0 Ho
  have hnz : w.heap.size ≠ w1.heap.size := by omega
  go_region_held3 (fun w' => w'.cell? ⟨w.heap.size, 5, none⟩ = some (.int .i64 (C : Int)) ∧ w'.cell? ⟨w.heap.size, 7, none⟩ = some (.slice A s.length c))
    (first
      | (go_split_ands; exact ⟨grown_keep hg3 (by assumption) hnz, grown_keep hg3 (by assumption) hnz⟩)
      | (go_split_ands; exact ⟨by assumption, by assumption⟩)
      | (go_split_ands; exact ⟨below_keep hb3 (by assumption), below_keep hb3 (by assumption)⟩)
      | (go_split_ands; exact ⟨below_keep hb2 (by assumption), below_keep hb2 (by assumption)⟩)
      | (go_split_ands; exact ⟨alloc_keep (by assumption) _, alloc_keep (by assumption) _⟩))
    (first
      | (go_at_call 146; (with_reducible refine (ru3_any C _ (by omega)).mono ?_); rintro e w2 ⟨rfl, hb2⟩)
      | (go_at_call 146; (with_reducible refine (ru3_any s.length _ (by omega)).mono ?_); rintro e w3 ⟨rfl, hb3⟩)
      | (go_split_ands; refine step_append_at rfl _ _ _ _ rfl 115 i0 _ 6 56 Tryz.underlying73 hi0 hz0 hz1 hz2 rfl (some ⟨w1.heap.size, 0, none⟩) 1 1 _ (by simp [Act.eval]) ((own_below (own_below (own_drew Hoz.out) hb2) hb3).alloc _) _ 2 _ (by simp [Act.eval]) (src_newn Tryz.underlying73 _ _ 2 _ rfl rfl (by intro u hu; simp at hu; rcases hu with rfl | rfl | rfl | rfl | rfl | rfl | rfl | rfl | rfl | rfl | rfl | rfl <;> rfl)) (by unfold maxLen; omega) (by omega) ?_; intro A3 c3 w6 ho3 hg3 hat3))
  have HWZ := Lib.hid (show POwn (recC 9 n l h x (C : Int) t (.slice A s.length c)) w [pU 9] (some ⟨w1.heap.size, 0, none⟩) 1 wz from ⟨Hoz.out, (fun b e => by injection e with e; have e' : w1.heap.size = b := e; omega), Ez.out, HBz.out⟩)
  have hB4 : Below wz.heap.size wz w3 := (below_a wz).trans (hb2.trans (hb3.mono hb2.size))
  have hlt3 := Nat.lt_of_lt_of_le (lt_of_heap Ez.out) hB4.size
  have HP6 := Lib.hid (show POwn (recC 9 n l h x (C : Int) t (.slice A s.length c)) w [pU 9, pU C, pU s.length] A3 c3 w6 by
    have hK : Kp (fun k => k = w1.heap.size) (w3.alloc _) w6 := (Kp.refl _ _).grown hg3 (fun k e => .inl (by injection e with e; exact e.symm))
    have hbx := (hK.block w.heap.size (by simp; omega) (by show ¬ w.heap.size = w1.heap.size; omega)).trans ((heap_alloc_old w3 _ hlt3).trans ((hB4.block _ (lt_of_heap Ez.out)).trans Ez.out))
    refine ⟨ho3, fun b e => ?_, hbx, ?_⟩
    · rcases hat3 with y | y
      · rw [y] at e; injection e with e; have e' : w1.heap.size = b := e; omega
      · rw [y] at e; injection e with e; have e' : (w3.alloc (.cells _ _)).heap.size = b := e; simp at e'; omega
    · exact ((HBz.out.trans (hB4.mono HBz.out.size)).alloc (Nat.le_trans HBz.out.size hB4.size) _).trans (hK.below (by simp; have := HBz.out.size; have := hB4.size; omega) (fun j hj e => by have e' : j = w1.heap.size := e; omega)))
  have HA := Lib.hid hA
  have HW := Lib.hid hw
  clear hA hw hB4 hb2 hb3 ho3 hg3 hat3 HWZ Hoz hlt3
  go_wp2_with fail
  go_loopw [3, 4] (fun t3 t4 wr => ∃ (i : Nat) (qs : List PK.Rp) (A1 : Option Addr) (c1 : Nat), t3 = .slice A1 qs.length c1 ∧ t4 = .int .i64 i ∧ i ≤ s.length ∧ qs = [pU 9, pU C, pU s.length] ++ itsP 9 (s.take i) ∧ POwn (recC 9 n l h x (C : Int) t (.slice A s.length c)) w qs A1 c1 wr) (fun _ t4 _ => s.length - (intOf t4).toNat)
  case atStart => exact ⟨0, [pU 9, pU C, pU s.length], A3, c3, rfl, rfl, Nat.zero_le _, rfl, HP6.out⟩
  case round =>
    obtain ⟨i, qs, A1, c1, rfl, rfl, hi, hqs, hP⟩ := hrel
    have c0 := fun o => cell_of_row wr _ o _ _ (0, 0) hP.box
    have HP := Lib.hid hP
    have hql : qs.length ≤ 67 := by
      rw [hqs, List.length_append]
      have h1 := itsP_len 9 (s.take i)
      have h2 : (s.take i).length ≤ s.length := by rw [List.length_take]; omega
      simp only [List.length_cons, List.length_nil]
      omega
    have Hqs := Lib.hid hqs
    clear hP hqs
    by_cases hlt : i < s.length
    · rcases HA.out with hI | ⟨b, off, rfl, hb, hc⟩
      · have hI : s = [] := hI
        subst hI; simp at hlt
      replace hc : ∀ (i : Nat) (x : RC.It), s[i]? = some x → w.cell? ⟨b, off + i * 2, none⟩ = some (.float .f64 x.score) ∧ w.cell? ⟨b, off + i * 2 + 1, none⟩ = some (.string x.name) := hc
      obtain ⟨a0, a1⟩ := hc i s[i] (List.getElem?_eq_getElem hlt)
      have wa := HW.out _ (List.getElem_mem hlt)
      have Htk := Lib.hid (itsP_take 9 s i hlt)
      generalize s[i] = y at *
      obtain ⟨ys, yn⟩ := y
      have Hw1 := Lib.hid (show w.cell? ⟨b, off + i * 2 + 1, none⟩ = some (.string yn) from a1)
      replace a0 : wr.cell? ⟨b, off + i * 2, none⟩ = some (.float .f64 ys) := below_keep HP.out.below a0
      replace a1 : wr.cell? ⟨b, off + i * 2 + 1, none⟩ = some (.string yn) := below_keep HP.out.below a1
      replace wa : MF.W64 ys := wa
      have hi1 : (i : Int) < (s.length : Int) := by omega
      clear hc
      go_wp2_with fail
      refine (rf3_any ys _ wa).mono ?_
      rintro e w7 ⟨rfl, hbp⟩
      clear c0 a0 a1
      go_wp2_with (first
        | (at_builtin
           refine wpList_append_at rfl _ _ _ _ rfl 115 i0 _ 6 56 Tryz.underlying73 hi0 hz0 hz1 hz2 rfl A1 qs.length c1 (rpCells qs) rfl ((HP.out.less hbp).alloc _) _ 1 _ rfl (src_newn Tryz.underlying73 _ _ 1 _ rfl rfl (one6 _ _ _ _ _ _ rfl rfl rfl rfl rfl rfl)) (by unfold maxLen; omega) (by omega) ?_
           intro A4 c4 w8 ho4 hg4 hat4
           have HP8 := Lib.hid (show POwn _ w (qs ++ [pF ys]) A4 c4 w8 from HP.out.next (hbp.alloc hbp.size _) hg4 hat4 ho4)
           have c8 := fun o => cell_of_row w8 _ o _ _ (0, 0) HP8.out.box
           have a8 := below_keep HP8.out.below Hw1.out
           clear ho4 hg4 hat4))
      refine (rs3_any yn _).mono ?_
      rintro e w9 ⟨rfl, hbq⟩
      have hl8 : (qs ++ [pF ys]).length = qs.length + 1 := by simp
      have HP9 := Lib.hid (hl8 ▸ HP8.out.less hbq)
      have Hl8 := Lib.hid hl8
      clear c8 a8 hl8
      go_wp2_with (first
        | (at_builtin
           refine wpList_append_at rfl _ _ _ _ rfl 115 i0 _ 6 56 Tryz.underlying73 hi0 hz0 hz1 hz2 rfl A4 (qs.length + 1) c4 (rpCells (qs ++ [pF ys])) rfl (HP9.out.alloc _) _ 1 _ rfl (src_newn Tryz.underlying73 _ _ 1 _ rfl rfl (one6 _ _ _ _ _ _ rfl rfl rfl rfl rfl rfl)) (by unfold maxLen; omega) (by omega) ?_
           intro A5 c5 w10 ho5 hg5 hat5))
      go_roundw
      case rel =>
        refine ⟨i + 1, (qs ++ [pF ys]) ++ [pS yn], A5, c5, by simp, by go_num, by omega, ?_, ?_⟩
        · rw [Htk.out, Hqs.out]; simp [itP]
        · exact HP8.out.next (hbq.alloc hbq.size _) hg5 hat5 (by rw [Hl8.out]; exact ho5)
      case measure => simp [intOf]; omega
    · have hi' : i = s.length := by omega
      subst hi'
      go_wp2_with fail
      go_ret
      obtain ⟨h1, h2, _, h4⟩ := HP.out
      exact FreshR.mk (by rw [Hqs.out, List.take_length]; rfl) (by rw [Hqs.out, List.take_length]; rfl) h1 (fun k e => Nat.le_of_lt (h2 k e)) h4

end Go.Proofs.YtaaeefndhmfceaaGreatDoor
