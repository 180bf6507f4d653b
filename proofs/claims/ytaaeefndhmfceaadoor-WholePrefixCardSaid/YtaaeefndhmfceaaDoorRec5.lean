/- Contracts of package rec: records are written. -/
import Derived.Test.YtaaeefndhmfceaaDoorRec1
namespace Go.Proofs.YtaaeefndhmfceaaDoor
open Go.RowKit MM

theorem WPost.two {E : TypeId} {p : Nat} {A A1 : Option Addr} {xs : List UInt8} {w w1 : World} {e : Ending} {w' : World} (h : WPost E p A1 xs w1 e w') (hs : WS p A A1 w w1) : WPost E p A xs w e w' := by
  obtain ⟨rfl, A2, c2, h2, h3⟩ := h
  exact ⟨rfl, A2, c2, h2, hs.trans h3⟩
theorem wrap_nat (n : Nat) (h : n ≤ 1000) : IntKind.u64.wrap (n : Int) = (n : Int) := by rw [IntKind.wrap_u64]; omega
theorem itsB_len (k : Int) : ∀ l : List RC.It, (∀ x ∈ l, x.name.size ≤ 16) → (RC.itsB k l).length ≤ 34 * l.length
  | [], _ => by simp [RC.itsB]
  | x :: l, h => by
    have h1 := itsB_len k l (fun y hy => h y (List.mem_cons_of_mem _ hy))
    have h2 : (RC.itB k x).length ≤ 34 := by
      unfold RC.itB PK.textB
      have h3 := h x (List.mem_cons_self ..)
      have h4 : (PK.digits x.name.data.toList.length).length ≤ 10 := PK.digits_length (by rw [sz_list]; omega)
      have h5 : x.name.data.toList.length = x.name.size := rfl
      rw [List.length_append, List.length_append]
      split
      · rw [PK.placeB_length]; omega
      · simp only [List.length_nil]; omega
    show (RC.itB k x ++ RC.itsB k l).length ≤ _
    rw [List.length_append, List.length_cons]
    omega

theorem box_keep {p : Nat} {A A1 : Option Addr} {w w1 : World} {o : Obj} (hs : WS p A A1 (w.alloc o) w1) (hp : p < w.heap.size) (hA : ∀ k, ob A = some k → k < w.heap.size) : w1.heap[w.heap.size]? = some o := by
  refine (hs.kp.block _ (by simp) ?_).trans (heap_alloc_new w o)
  rintro (h | h)
  · omega
  · have := hA _ h; omega
theorem wr_in {E : TypeId} {w : World} {p : Nat} {A : Option Addr} {c : Nat} {xs : List UInt8} (h : Wr E w p A c xs) : ∀ k, ob A = some k → k < w.heap.size := by
  intro k e
  cases A with
  | none => cases e
  | some ad =>
    have := own_inside h.own ad rfl
    injection e with e
    have e' : ad.block = k := e
    omega
/-- The list of a record lies beside what is written. -/
def Beside (s : List RC.It) (L : Option Addr) (p : Nat) (A : Option Addr) : Prop := s = [] ∨ ∀ ad, L = some ad → ad.block ≠ p ∧ ob A ≠ some ad.block
theorem Its.ws {p : Nat} {A A1 L : Option Addr} {w w1 : World} {s : List RC.It} (h : Its w L s) (hs : WS p A A1 w w1) (hb : Beside s L p A) : Its w1 L s := by
  rcases hb with rfl | hb
  · exact Its.nil _ _
  · refine h.kp hs.kp fun ad e x => ?_
    have := hb ad e
    rcases x with x | x
    · exact this.1 x
    · exact this.2 x
theorem Beside.ws {p : Nat} {A A1 L : Option Addr} {w w1 : World} {s : List RC.It} (hb : Beside s L p A) (h : Its w L s) (hs : WS p A A1 w w1) : Beside s L p A1 := by
  rcases hb with rfl | hb
  · exact .inl rfl
  · rcases h with rfl | ⟨b, off, rfl, hl, _⟩
    · exact .inl rfl
    · refine .inr fun ad e => ?_
      have h1 := hb ad e
      refine ⟨h1.1, fun x => ?_⟩
      rcases hs.at_ with y | ⟨k, y, hk⟩
      · exact h1.2 (y ▸ x)
      · rw [y] at x
        injection x with x
        injection e with e
        subst e
        have x' : k = b := x
        omega

set_option maxHeartbeats 2000000 in
set_option maxRecDepth 100000 in
theorem putList_any (r : RC.Rc) (L : Option Addr) (cl : Nat) (p : Nat) (A : Option Addr) (c : Nat) (xs : List UInt8) (w : World) (hr : ∀ x ∈ r.list, MF.W64 x.score) (hI : Its w L r.list) (hw : Wr 5 w p A c xs)
    (hcap : 0 ≤ r.cap ∧ r.cap ≤ 32) (hlen : r.list.length ≤ 32) (hl : Lim (xs.length + (RC.listB r).length)) (hL : Beside r.list L p A) :
    Calls Tryd.prog 114 #[.pointer (some ⟨p, 0, none⟩), recV r L cl] w (WPost 5 p A (xs ++ RC.listB r) w) := by
  obtain ⟨k, n, l, h, x, cap, t, s⟩ := r
  replace hr : ∀ x ∈ s, MF.W64 x.score := hr
  replace hlen : s.length ≤ 32 := hlen
  obtain ⟨C, rfl⟩ : ∃ C : Nat, cap = (C : Int) := ⟨cap.toNat, by have h1 : 0 ≤ cap := hcap.1; omega⟩
  have hC : C ≤ 32 := by have h1 : (C : Int) ≤ 32 := hcap.2; omega
  have Hb := Lib.hid (show RC.listB ⟨k, n, l, h, x, (C : Int), t, s⟩ = PK.digits C ++ (PK.digits s.length ++ RC.itsB k s) from rfl)
  have hl' : Lim (xs.length + ((PK.digits C).length + ((PK.digits s.length).length + (RC.itsB k s).length))) := by
    rw [Hb.out, List.length_append, List.length_append] at hl; exact hl
  have HC := Lib.hid (wrap_nat C (by omega))
  have HN := Lib.hid (wrap_nat s.length (by omega))
  have hp := hw.lt
  have hin := wr_in hw
  have HL := Lib.hid hL
  have HI := Lib.hid hI
  have Hin := Lib.hid hin
  have hn' : (s.length : Int) ≤ 4294967296 := by omega
  clear hcap hl hL hI hin
  generalize hzs : xs ++ RC.listB ⟨k, n, l, h, x, (C : Int), t, s⟩ = zs
  have Hzs := Lib.hid (show zs = xs ++ PK.digits C ++ PK.digits s.length ++ RC.itsB k s by rw [← hzs, Hb.out]; simp)
  clear hzs Hb
  go_enter Tryd.func114, Tryd.ntmps114
  go_wp2_with fail
  try rw [HC.out]
  refine (wu_any p A c xs C _ (hw.alloc _) (hl'.le (by omega))).mono ?_
  rintro e w1 ⟨rfl, A1, c1, hw1, hs1⟩
  have e1 := box_keep hs1 hp Hin.out
  have b7 : w1.cell? ⟨w.heap.size, 7, none⟩ = some (.slice L s.length cl) := (cell_of_row w1 _ 7 _ _ (0, 0) e1).trans rfl
  clear e1
  go_wp2_with fail
  try rw [HN.out]
  refine (wu_any p A1 c1 (xs ++ PK.digits C) s.length w1 hw1 (hl'.le (by rw [List.length_append]; omega))).mono ?_
  rintro e w2 ⟨rfl, A2, c2, hw2, hs2⟩
  have hs12 := hs1.trans hs2
  have e2 := box_keep hs12 hp Hin.out
  have d7 : w2.cell? ⟨w.heap.size, 7, none⟩ = some (.slice L s.length cl) := (cell_of_row w2 _ 7 _ _ (0, 0) e2).trans rfl
  clear e2 b7
  generalize hps : xs ++ PK.digits C ++ PK.digits s.length = ps at *
  have hpl : ps.length = xs.length + (PK.digits C).length + (PK.digits s.length).length := by rw [← hps]; simp only [List.length_append]
  have Hpl := Lib.hid hpl
  have Hps := Lib.hid hps
  have Hs12 := Lib.hid hs12
  clear hpl hps hs1 hs2 hs12 hw1
  go_wp2_with fail
  go_loopw [20] (fun t20 wr => ∃ (i : Nat) (A3 : Option Addr) (c3 : Nat), t20 = .int .i64 i ∧ i ≤ s.length ∧ Wr 5 wr p A3 c3 (ps ++ RC.itsB k (s.take i)) ∧ WS p A A3 (w.alloc (.cells #[.int .i64 k, .int .i64 n, .int .i64 l, .int .i64 h, .float .f64 x, .int .i64 (C : Int), .string t, .slice L s.length cl] 25)) wr) (fun t20 _ => s.length - (intOf t20).toNat)
  case atStart => exact ⟨0, A2, c2, rfl, Nat.zero_le _, by rw [List.take_zero]; show Wr _ _ _ _ _ (ps ++ []); rw [List.append_nil]; exact hw2, Hs12.out⟩
  case round =>
    obtain ⟨i, A3, c3, rfl, hi, hw3, hs3⟩ := hrel
    have e3 := box_keep hs3 hp Hin.out
    have f0 : wr.cell? ⟨w.heap.size, 0, none⟩ = some (.int .i64 k) := (cell_of_row wr _ 0 _ _ (0, 0) e3).trans rfl
    have f7 : wr.cell? ⟨w.heap.size, 7, none⟩ = some (.slice L s.length cl) := (cell_of_row wr _ 7 _ _ (0, 0) e3).trans rfl
    have hsz : w.heap.size < wr.heap.size := World.block_lt_of_cell? wr _ f0
    by_cases hlt : i < s.length
    · have hI3 := (HI.out.alloc (.cells #[.int .i64 k, .int .i64 n, .int .i64 l, .int .i64 h, .float .f64 x, .int .i64 (C : Int), .string t, .slice L s.length cl] 25)).ws hs3 HL.out
      rcases hI3 with hI3 | ⟨ba, oa, rfl, hba, hca⟩
      · replace hI3 : s = [] := hI3
        subst hI3; simp at hlt
      obtain ⟨a0, a1⟩ := hca i s[i] (List.getElem?_eq_getElem hlt)
      have hit := RC.itsB_take k s i hlt
      have hle := RC.itsB_le k s (i + 1)
      have wa := hr _ (List.getElem_mem hlt)
      generalize s[i] = y at *
      obtain ⟨ys, yn⟩ := y
      replace a0 : wr.cell? ⟨ba, oa + i * 2, none⟩ = some (.float .f64 ys) := a0
      replace a1 : wr.cell? ⟨ba, oa + i * 2 + 1, none⟩ = some (.string yn) := a1
      replace wa : MF.W64 ys := wa
      rw [hit] at hle
      have Hit := Lib.hid hit
      have hi1 : (i : Int) < (s.length : Int) := by omega
      have hlm : Lim (ps.length + ((RC.itsB k (s.take i)).length + (RC.itB k ⟨ys, yn⟩).length)) := hl'.le (by rw [Hpl.out]; rw [List.length_append] at hle; omega)
      clear hit hca e3 hle
      by_cases hk : k = 9
      · subst hk
        have hB : RC.itB 9 ⟨ys, yn⟩ = PK.placeB (MF.key ys) ++ PK.textB yn.data.toList := rfl
        rw [hB, List.length_append, PK.placeB_length] at hlm
        rw [hB] at Hit
        clear hB
        go_wp2_with fail
        refine (wf_any p A3 c3 (ps ++ RC.itsB 9 (s.take i)) ys _ wa (hw3.alloc _) (hlm.le (by rw [List.length_append]; omega))).mono ?_
        rintro e w4 ⟨rfl, A4, c4, hw4, hs4⟩
        have e4 := box_keep hs4 hw3.lt (wr_in hw3)
        have g1 : w4.cell? ⟨wr.heap.size, 1, none⟩ = some (.string yn) := (cell_of_row w4 _ 1 _ _ (0, 0) e4).trans rfl
        clear e4 a0 a1
        go_wp2_with fail
        refine (ws_any p A4 c4 (ps ++ RC.itsB 9 (s.take i) ++ PK.placeB (MF.key ys)) yn w4 hw4 (hlm.le (by rw [List.length_append, List.length_append, PK.placeB_length]; omega))).mono ?_
        rintro e w5 ⟨rfl, A5, c5, hw5, hs5⟩
        go_wp2_with fail
        go_roundw
        case rel => exact ⟨i + 1, A5, c5, by go_num, by omega, by rw [Hit.out, ← List.append_assoc, ← List.append_assoc]; exact hw5, hs3.trans ((hs4.pre ((Kp.refl _ wr).alloc _)).trans hs5)⟩
        case measure => simp [intOf]; omega
      · have hk' : (k == 9) = false := by simpa using hk
        have hB : RC.itB k ⟨ys, yn⟩ = PK.textB yn.data.toList := by unfold RC.itB; rw [if_neg hk]; rfl
        rw [hB] at hlm Hit
        clear hB hk
        go_wp2_with fail
        refine (ws_any p A3 c3 (ps ++ RC.itsB k (s.take i)) yn _ (hw3.alloc _) (hlm.le (by rw [List.length_append]; omega))).mono ?_
        rintro e w5 ⟨rfl, A5, c5, hw5, hs5⟩
        go_wp2_with fail
        go_roundw
        case rel => exact ⟨i + 1, A5, c5, by go_num, by omega, by rw [Hit.out, ← List.append_assoc]; exact hw5, hs3.trans (hs5.pre ((Kp.refl _ wr).alloc _))⟩
        case measure => simp [intOf]; omega
    · have hi' : i = s.length := by omega
      subst hi'
      rw [List.take_length] at hw3
      clear e3
      go_wp2_with fail
      go_end0
      exact ⟨rfl, A3, c3, by rw [Hzs.out]; exact hw3, hs3.pre ((Kp.refl _ w).alloc _)⟩


set_option maxHeartbeats 2000000 in
set_option maxRecDepth 100000 in
theorem put_1 (n l h : Int) (x : Nat) (cap : Int) (t : ByteArray) (s : List RC.It) (L : Option Addr) (cl : Nat) (p : Nat) (A : Option Addr) (c : Nat) (xs : List UInt8) (w : World) (hr : RC.Rc.ok ⟨1, n, l, h, x, cap, t, s⟩) (hm : RC.May ⟨1, n, l, h, x, cap, t, s⟩) (hI : Its w L s) (hw : Wr 5 w p A c xs)
    (hl : Lim (xs.length + (RC.recB ⟨1, n, l, h, x, cap, t, s⟩).length)) (hL : Beside s L p A) :
    Calls Tryd.prog 64 #[.pointer (some ⟨p, 0, none⟩), recV ⟨1, n, l, h, x, cap, t, s⟩ L cl] w (WPost 5 p A (xs ++ RC.recB ⟨1, n, l, h, x, cap, t, s⟩) w) := by
  have HB := Lib.hid (show RC.recB ⟨1, n, l, h, x, cap, t, s⟩ = PK.digits 1 ++ PK.textB t.data.toList from rfl)
  rw [HB.out] at hl ⊢
  have HL := Lib.hid hL
  have HI := Lib.hid hI
  have hp := hw.lt
  have Hin := Lib.hid (wr_in hw)
  have HM := Lib.hid hm
  have HR := Lib.hid hr
  clear hL hI hm hr HB
  have hl' := hl
  simp only [List.length_append] at hl'
  generalize hzs : xs ++ (PK.digits 1 ++ PK.textB t.data.toList) = zs
  have Hzs := Lib.hid hzs
  clear hzs hl
  go_enter Tryd.func64, Tryd.ntmps64
  go_wp2_with fail
  refine (wu_any p A c xs 1 _ (hw.alloc _) (hl'.le (by omega))).mono ?_
  rintro e w1 ⟨rfl, A1, c1, hw1, hs1⟩
  have e1 := box_keep hs1 hp Hin.out
  have b1_6 : w1.cell? ⟨w.heap.size, 6, none⟩ = some (.string t) := (cell_of_row w1 _ 6 _ _ (0, 0) e1).trans rfl
  have b1_0 : w1.cell? ⟨w.heap.size, 0, none⟩ = some (.int .i64 1) := (cell_of_row w1 _ 0 _ _ (0, 0) e1).trans rfl
  clear e1
  go_wp2_with fail
  refine (ws_any p A1 c1 (xs ++ PK.digits 1) t w1 hw1 (hl'.le (by simp only [List.length_append]; omega))).mono ?_
  rintro e w2 ⟨rfl, A2, c2, hw2, hs2⟩
  have hq2 := hs1.trans hs2
  clear b1_6 b1_0
  go_wp2_with fail
  go_end0
  exact ⟨rfl, A2, c2, by rw [← Hzs.out]; simpa only [List.append_assoc] using hw2, hq2.pre ((Kp.refl _ w).alloc _)⟩

set_option maxHeartbeats 2000000 in
set_option maxRecDepth 100000 in
theorem put_2 (n l h : Int) (x : Nat) (cap : Int) (t : ByteArray) (s : List RC.It) (L : Option Addr) (cl : Nat) (p : Nat) (A : Option Addr) (c : Nat) (xs : List UInt8) (w : World) (hr : RC.Rc.ok ⟨2, n, l, h, x, cap, t, s⟩) (hm : RC.May ⟨2, n, l, h, x, cap, t, s⟩) (hI : Its w L s) (hw : Wr 5 w p A c xs)
    (hl : Lim (xs.length + (RC.recB ⟨2, n, l, h, x, cap, t, s⟩).length)) (hL : Beside s L p A) :
    Calls Tryd.prog 64 #[.pointer (some ⟨p, 0, none⟩), recV ⟨2, n, l, h, x, cap, t, s⟩ L cl] w (WPost 5 p A (xs ++ RC.recB ⟨2, n, l, h, x, cap, t, s⟩) w) := by
  have HB := Lib.hid (show RC.recB ⟨2, n, l, h, x, cap, t, s⟩ = PK.digits 2 ++ PK.digits (PK.zig n) from rfl)
  rw [HB.out] at hl ⊢
  have HL := Lib.hid hL
  have HI := Lib.hid hI
  have hp := hw.lt
  have Hin := Lib.hid (wr_in hw)
  have HM := Lib.hid hm
  have HR := Lib.hid hr
  clear hL hI hm hr HB
  have hl' := hl
  simp only [List.length_append] at hl'
  generalize hzs : xs ++ (PK.digits 2 ++ PK.digits (PK.zig n)) = zs
  have Hzs := Lib.hid hzs
  clear hzs hl
  go_enter Tryd.func64, Tryd.ntmps64
  go_wp2_with fail
  refine (wu_any p A c xs 2 _ (hw.alloc _) (hl'.le (by omega))).mono ?_
  rintro e w1 ⟨rfl, A1, c1, hw1, hs1⟩
  have e1 := box_keep hs1 hp Hin.out
  have b1_1 : w1.cell? ⟨w.heap.size, 1, none⟩ = some (.int .i64 n) := (cell_of_row w1 _ 1 _ _ (0, 0) e1).trans rfl
  have b1_0 : w1.cell? ⟨w.heap.size, 0, none⟩ = some (.int .i64 2) := (cell_of_row w1 _ 0 _ _ (0, 0) e1).trans rfl
  clear e1
  go_wp2_with fail
  refine (wi_any p A1 c1 (xs ++ PK.digits 2) n w1 hw1 HR.out.num (hl'.le (by simp only [List.length_append]; omega))).mono ?_
  rintro e w2 ⟨rfl, A2, c2, hw2, hs2⟩
  have hq2 := hs1.trans hs2
  clear b1_1 b1_0
  go_wp2_with fail
  go_end0
  exact ⟨rfl, A2, c2, by rw [← Hzs.out]; simpa only [List.append_assoc] using hw2, hq2.pre ((Kp.refl _ w).alloc _)⟩

set_option maxHeartbeats 2000000 in
set_option maxRecDepth 100000 in
theorem put_3 (n l h : Int) (x : Nat) (cap : Int) (t : ByteArray) (s : List RC.It) (L : Option Addr) (cl : Nat) (p : Nat) (A : Option Addr) (c : Nat) (xs : List UInt8) (w : World) (hr : RC.Rc.ok ⟨3, n, l, h, x, cap, t, s⟩) (hm : RC.May ⟨3, n, l, h, x, cap, t, s⟩) (hI : Its w L s) (hw : Wr 5 w p A c xs)
    (hl : Lim (xs.length + (RC.recB ⟨3, n, l, h, x, cap, t, s⟩).length)) (hL : Beside s L p A) :
    Calls Tryd.prog 64 #[.pointer (some ⟨p, 0, none⟩), recV ⟨3, n, l, h, x, cap, t, s⟩ L cl] w (WPost 5 p A (xs ++ RC.recB ⟨3, n, l, h, x, cap, t, s⟩) w) := by
  have HB := Lib.hid (show RC.recB ⟨3, n, l, h, x, cap, t, s⟩ = PK.digits 3 ++ PK.digits (PK.zig n) from rfl)
  rw [HB.out] at hl ⊢
  have HL := Lib.hid hL
  have HI := Lib.hid hI
  have hp := hw.lt
  have Hin := Lib.hid (wr_in hw)
  have HM := Lib.hid hm
  have HR := Lib.hid hr
  clear hL hI hm hr HB
  have hl' := hl
  simp only [List.length_append] at hl'
  generalize hzs : xs ++ (PK.digits 3 ++ PK.digits (PK.zig n)) = zs
  have Hzs := Lib.hid hzs
  clear hzs hl
  go_enter Tryd.func64, Tryd.ntmps64
  go_wp2_with fail
  refine (wu_any p A c xs 3 _ (hw.alloc _) (hl'.le (by omega))).mono ?_
  rintro e w1 ⟨rfl, A1, c1, hw1, hs1⟩
  have e1 := box_keep hs1 hp Hin.out
  have b1_1 : w1.cell? ⟨w.heap.size, 1, none⟩ = some (.int .i64 n) := (cell_of_row w1 _ 1 _ _ (0, 0) e1).trans rfl
  have b1_0 : w1.cell? ⟨w.heap.size, 0, none⟩ = some (.int .i64 3) := (cell_of_row w1 _ 0 _ _ (0, 0) e1).trans rfl
  clear e1
  go_wp2_with fail
  refine (wi_any p A1 c1 (xs ++ PK.digits 3) n w1 hw1 HR.out.num (hl'.le (by simp only [List.length_append]; omega))).mono ?_
  rintro e w2 ⟨rfl, A2, c2, hw2, hs2⟩
  have hq2 := hs1.trans hs2
  clear b1_1 b1_0
  go_wp2_with fail
  go_end0
  exact ⟨rfl, A2, c2, by rw [← Hzs.out]; simpa only [List.append_assoc] using hw2, hq2.pre ((Kp.refl _ w).alloc _)⟩

set_option maxHeartbeats 2000000 in
set_option maxRecDepth 100000 in
theorem put_4 (n l h : Int) (x : Nat) (cap : Int) (t : ByteArray) (s : List RC.It) (L : Option Addr) (cl : Nat) (p : Nat) (A : Option Addr) (c : Nat) (xs : List UInt8) (w : World) (hr : RC.Rc.ok ⟨4, n, l, h, x, cap, t, s⟩) (hm : RC.May ⟨4, n, l, h, x, cap, t, s⟩) (hI : Its w L s) (hw : Wr 5 w p A c xs)
    (hl : Lim (xs.length + (RC.recB ⟨4, n, l, h, x, cap, t, s⟩).length)) (hL : Beside s L p A) :
    Calls Tryd.prog 64 #[.pointer (some ⟨p, 0, none⟩), recV ⟨4, n, l, h, x, cap, t, s⟩ L cl] w (WPost 5 p A (xs ++ RC.recB ⟨4, n, l, h, x, cap, t, s⟩) w) := by
  have HB := Lib.hid (show RC.recB ⟨4, n, l, h, x, cap, t, s⟩ = PK.digits 4 ++ (PK.digits (PK.zig l) ++ (PK.digits (PK.zig h) ++ PK.digits (PK.zig n))) from rfl)
  rw [HB.out] at hl ⊢
  have HL := Lib.hid hL
  have HI := Lib.hid hI
  have hp := hw.lt
  have Hin := Lib.hid (wr_in hw)
  have HM := Lib.hid hm
  have HR := Lib.hid hr
  clear hL hI hm hr HB
  have hl' := hl
  simp only [List.length_append] at hl'
  generalize hzs : xs ++ (PK.digits 4 ++ (PK.digits (PK.zig l) ++ (PK.digits (PK.zig h) ++ PK.digits (PK.zig n)))) = zs
  have Hzs := Lib.hid hzs
  clear hzs hl
  go_enter Tryd.func64, Tryd.ntmps64
  go_wp2_with fail
  refine (wu_any p A c xs 4 _ (hw.alloc _) (hl'.le (by omega))).mono ?_
  rintro e w1 ⟨rfl, A1, c1, hw1, hs1⟩
  have e1 := box_keep hs1 hp Hin.out
  have b1_2 : w1.cell? ⟨w.heap.size, 2, none⟩ = some (.int .i64 l) := (cell_of_row w1 _ 2 _ _ (0, 0) e1).trans rfl
  have b1_0 : w1.cell? ⟨w.heap.size, 0, none⟩ = some (.int .i64 4) := (cell_of_row w1 _ 0 _ _ (0, 0) e1).trans rfl
  clear e1
  go_wp2_with fail
  refine (wi_any p A1 c1 (xs ++ PK.digits 4) l w1 hw1 HR.out.low (hl'.le (by simp only [List.length_append]; omega))).mono ?_
  rintro e w2 ⟨rfl, A2, c2, hw2, hs2⟩
  have hq2 := hs1.trans hs2
  clear b1_2 b1_0
  have e2 := box_keep hq2 hp Hin.out
  have b2_3 : w2.cell? ⟨w.heap.size, 3, none⟩ = some (.int .i64 h) := (cell_of_row w2 _ 3 _ _ (0, 0) e2).trans rfl
  clear e2
  go_wp2_with fail
  refine (wi_any p A2 c2 (xs ++ PK.digits 4 ++ PK.digits (PK.zig l)) h w2 hw2 HR.out.high (hl'.le (by simp only [List.length_append]; omega))).mono ?_
  rintro e w3 ⟨rfl, A3, c3, hw3, hs3⟩
  have hq3 := hq2.trans hs3
  clear b2_3
  have e3 := box_keep hq3 hp Hin.out
  have b3_1 : w3.cell? ⟨w.heap.size, 1, none⟩ = some (.int .i64 n) := (cell_of_row w3 _ 1 _ _ (0, 0) e3).trans rfl
  clear e3
  go_wp2_with fail
  refine (wi_any p A3 c3 (xs ++ PK.digits 4 ++ PK.digits (PK.zig l) ++ PK.digits (PK.zig h)) n w3 hw3 HR.out.num (hl'.le (by simp only [List.length_append]; omega))).mono ?_
  rintro e w4 ⟨rfl, A4, c4, hw4, hs4⟩
  have hq4 := hq3.trans hs4
  clear b3_1
  go_wp2_with fail
  go_end0
  exact ⟨rfl, A4, c4, by rw [← Hzs.out]; simpa only [List.append_assoc] using hw4, hq4.pre ((Kp.refl _ w).alloc _)⟩

set_option maxHeartbeats 2000000 in
set_option maxRecDepth 100000 in
theorem put_5 (n l h : Int) (x : Nat) (cap : Int) (t : ByteArray) (s : List RC.It) (L : Option Addr) (cl : Nat) (p : Nat) (A : Option Addr) (c : Nat) (xs : List UInt8) (w : World) (hr : RC.Rc.ok ⟨5, n, l, h, x, cap, t, s⟩) (hm : RC.May ⟨5, n, l, h, x, cap, t, s⟩) (hI : Its w L s) (hw : Wr 5 w p A c xs)
    (hl : Lim (xs.length + (RC.recB ⟨5, n, l, h, x, cap, t, s⟩).length)) (hL : Beside s L p A) :
    Calls Tryd.prog 64 #[.pointer (some ⟨p, 0, none⟩), recV ⟨5, n, l, h, x, cap, t, s⟩ L cl] w (WPost 5 p A (xs ++ RC.recB ⟨5, n, l, h, x, cap, t, s⟩) w) := by
  have HB := Lib.hid (show RC.recB ⟨5, n, l, h, x, cap, t, s⟩ = PK.digits 5 ++ PK.placeB (MF.key x) from rfl)
  rw [HB.out] at hl ⊢
  have HL := Lib.hid hL
  have HI := Lib.hid hI
  have hp := hw.lt
  have Hin := Lib.hid (wr_in hw)
  have HM := Lib.hid hm
  have HR := Lib.hid hr
  clear hL hI hm hr HB
  have hl' := hl
  simp only [List.length_append] at hl'
  generalize hzs : xs ++ (PK.digits 5 ++ PK.placeB (MF.key x)) = zs
  have Hzs := Lib.hid hzs
  clear hzs hl
  go_enter Tryd.func64, Tryd.ntmps64
  go_wp2_with fail
  refine (wu_any p A c xs 5 _ (hw.alloc _) (hl'.le (by omega))).mono ?_
  rintro e w1 ⟨rfl, A1, c1, hw1, hs1⟩
  have e1 := box_keep hs1 hp Hin.out
  have b1_4 : w1.cell? ⟨w.heap.size, 4, none⟩ = some (.float .f64 x) := (cell_of_row w1 _ 4 _ _ (0, 0) e1).trans rfl
  have b1_0 : w1.cell? ⟨w.heap.size, 0, none⟩ = some (.int .i64 5) := (cell_of_row w1 _ 0 _ _ (0, 0) e1).trans rfl
  clear e1
  go_wp2_with fail
  refine (wf_any p A1 c1 (xs ++ PK.digits 5) x w1 HR.out.real hw1 (hl'.le (by simp only [List.length_append, PK.placeB_length]; omega))).mono ?_
  rintro e w2 ⟨rfl, A2, c2, hw2, hs2⟩
  have hq2 := hs1.trans hs2
  clear b1_4 b1_0
  go_wp2_with fail
  go_end0
  exact ⟨rfl, A2, c2, by rw [← Hzs.out]; simpa only [List.append_assoc] using hw2, hq2.pre ((Kp.refl _ w).alloc _)⟩

set_option maxHeartbeats 2000000 in
set_option maxRecDepth 100000 in
theorem put_6 (n l h : Int) (x : Nat) (cap : Int) (t : ByteArray) (s : List RC.It) (L : Option Addr) (cl : Nat) (p : Nat) (A : Option Addr) (c : Nat) (xs : List UInt8) (w : World) (hr : RC.Rc.ok ⟨6, n, l, h, x, cap, t, s⟩) (hm : RC.May ⟨6, n, l, h, x, cap, t, s⟩) (hI : Its w L s) (hw : Wr 5 w p A c xs)
    (hl : Lim (xs.length + (RC.recB ⟨6, n, l, h, x, cap, t, s⟩).length)) (hL : Beside s L p A) :
    Calls Tryd.prog 64 #[.pointer (some ⟨p, 0, none⟩), recV ⟨6, n, l, h, x, cap, t, s⟩ L cl] w (WPost 5 p A (xs ++ RC.recB ⟨6, n, l, h, x, cap, t, s⟩) w) := by
  have HB := Lib.hid (show RC.recB ⟨6, n, l, h, x, cap, t, s⟩ = PK.digits 6 ++ PK.placeB (MF.key x) from rfl)
  rw [HB.out] at hl ⊢
  have HL := Lib.hid hL
  have HI := Lib.hid hI
  have hp := hw.lt
  have Hin := Lib.hid (wr_in hw)
  have HM := Lib.hid hm
  have HR := Lib.hid hr
  clear hL hI hm hr HB
  have hl' := hl
  simp only [List.length_append] at hl'
  generalize hzs : xs ++ (PK.digits 6 ++ PK.placeB (MF.key x)) = zs
  have Hzs := Lib.hid hzs
  clear hzs hl
  go_enter Tryd.func64, Tryd.ntmps64
  go_wp2_with fail
  refine (wu_any p A c xs 6 _ (hw.alloc _) (hl'.le (by omega))).mono ?_
  rintro e w1 ⟨rfl, A1, c1, hw1, hs1⟩
  have e1 := box_keep hs1 hp Hin.out
  have b1_4 : w1.cell? ⟨w.heap.size, 4, none⟩ = some (.float .f64 x) := (cell_of_row w1 _ 4 _ _ (0, 0) e1).trans rfl
  have b1_0 : w1.cell? ⟨w.heap.size, 0, none⟩ = some (.int .i64 6) := (cell_of_row w1 _ 0 _ _ (0, 0) e1).trans rfl
  clear e1
  go_wp2_with fail
  refine (wf_any p A1 c1 (xs ++ PK.digits 6) x w1 HR.out.real hw1 (hl'.le (by simp only [List.length_append, PK.placeB_length]; omega))).mono ?_
  rintro e w2 ⟨rfl, A2, c2, hw2, hs2⟩
  have hq2 := hs1.trans hs2
  clear b1_4 b1_0
  go_wp2_with fail
  go_end0
  exact ⟨rfl, A2, c2, by rw [← Hzs.out]; simpa only [List.append_assoc] using hw2, hq2.pre ((Kp.refl _ w).alloc _)⟩

set_option maxHeartbeats 2000000 in
set_option maxRecDepth 100000 in
theorem put_7 (n l h : Int) (x : Nat) (cap : Int) (t : ByteArray) (s : List RC.It) (L : Option Addr) (cl : Nat) (p : Nat) (A : Option Addr) (c : Nat) (xs : List UInt8) (w : World) (hr : RC.Rc.ok ⟨7, n, l, h, x, cap, t, s⟩) (hm : RC.May ⟨7, n, l, h, x, cap, t, s⟩) (hI : Its w L s) (hw : Wr 5 w p A c xs)
    (hl : Lim (xs.length + (RC.recB ⟨7, n, l, h, x, cap, t, s⟩).length)) (hL : Beside s L p A) :
    Calls Tryd.prog 64 #[.pointer (some ⟨p, 0, none⟩), recV ⟨7, n, l, h, x, cap, t, s⟩ L cl] w (WPost 5 p A (xs ++ RC.recB ⟨7, n, l, h, x, cap, t, s⟩) w) := by
  have HB := Lib.hid (show RC.recB ⟨7, n, l, h, x, cap, t, s⟩ = PK.digits 7 ++ PK.placeB (MF.key x) from rfl)
  rw [HB.out] at hl ⊢
  have HL := Lib.hid hL
  have HI := Lib.hid hI
  have hp := hw.lt
  have Hin := Lib.hid (wr_in hw)
  have HM := Lib.hid hm
  have HR := Lib.hid hr
  clear hL hI hm hr HB
  have hl' := hl
  simp only [List.length_append] at hl'
  generalize hzs : xs ++ (PK.digits 7 ++ PK.placeB (MF.key x)) = zs
  have Hzs := Lib.hid hzs
  clear hzs hl
  go_enter Tryd.func64, Tryd.ntmps64
  go_wp2_with fail
  refine (wu_any p A c xs 7 _ (hw.alloc _) (hl'.le (by omega))).mono ?_
  rintro e w1 ⟨rfl, A1, c1, hw1, hs1⟩
  have e1 := box_keep hs1 hp Hin.out
  have b1_4 : w1.cell? ⟨w.heap.size, 4, none⟩ = some (.float .f64 x) := (cell_of_row w1 _ 4 _ _ (0, 0) e1).trans rfl
  have b1_0 : w1.cell? ⟨w.heap.size, 0, none⟩ = some (.int .i64 7) := (cell_of_row w1 _ 0 _ _ (0, 0) e1).trans rfl
  clear e1
  go_wp2_with fail
  refine (wf_any p A1 c1 (xs ++ PK.digits 7) x w1 HR.out.real hw1 (hl'.le (by simp only [List.length_append, PK.placeB_length]; omega))).mono ?_
  rintro e w2 ⟨rfl, A2, c2, hw2, hs2⟩
  have hq2 := hs1.trans hs2
  clear b1_4 b1_0
  go_wp2_with fail
  go_end0
  exact ⟨rfl, A2, c2, by rw [← Hzs.out]; simpa only [List.append_assoc] using hw2, hq2.pre ((Kp.refl _ w).alloc _)⟩

set_option maxHeartbeats 2000000 in
set_option maxRecDepth 100000 in
theorem put_8 (n l h : Int) (x : Nat) (cap : Int) (t : ByteArray) (s : List RC.It) (L : Option Addr) (cl : Nat) (p : Nat) (A : Option Addr) (c : Nat) (xs : List UInt8) (w : World) (hr : RC.Rc.ok ⟨8, n, l, h, x, cap, t, s⟩) (hm : RC.May ⟨8, n, l, h, x, cap, t, s⟩) (hI : Its w L s) (hw : Wr 5 w p A c xs)
    (hl : Lim (xs.length + (RC.recB ⟨8, n, l, h, x, cap, t, s⟩).length)) (hL : Beside s L p A) :
    Calls Tryd.prog 64 #[.pointer (some ⟨p, 0, none⟩), recV ⟨8, n, l, h, x, cap, t, s⟩ L cl] w (WPost 5 p A (xs ++ RC.recB ⟨8, n, l, h, x, cap, t, s⟩) w) := by
  have HB := Lib.hid (show RC.recB ⟨8, n, l, h, x, cap, t, s⟩ = PK.digits 8 ++ RC.listB ⟨8, n, l, h, x, cap, t, s⟩ from rfl)
  rw [HB.out] at hl ⊢
  have HL := Lib.hid hL
  have HI := Lib.hid hI
  have hp := hw.lt
  have Hin := Lib.hid (wr_in hw)
  have HM := Lib.hid hm
  have HR := Lib.hid hr
  clear hL hI hm hr HB
  have hl' := hl
  simp only [List.length_append] at hl'
  generalize hzs : xs ++ (PK.digits 8 ++ RC.listB ⟨8, n, l, h, x, cap, t, s⟩) = zs
  have Hzs := Lib.hid hzs
  clear hzs hl
  go_enter Tryd.func64, Tryd.ntmps64
  go_wp2_with fail
  refine (wu_any p A c xs 8 _ (hw.alloc _) (hl'.le (by omega))).mono ?_
  rintro e w1 ⟨rfl, A1, c1, hw1, hs1⟩
  have e1 := box_keep hs1 hp Hin.out
  have b1_1 : w1.cell? ⟨w.heap.size, 1, none⟩ = some (.int .i64 n) := (cell_of_row w1 _ 1 _ _ (0, 0) e1).trans rfl
  have b1_2 : w1.cell? ⟨w.heap.size, 2, none⟩ = some (.int .i64 l) := (cell_of_row w1 _ 2 _ _ (0, 0) e1).trans rfl
  have b1_3 : w1.cell? ⟨w.heap.size, 3, none⟩ = some (.int .i64 h) := (cell_of_row w1 _ 3 _ _ (0, 0) e1).trans rfl
  have b1_4 : w1.cell? ⟨w.heap.size, 4, none⟩ = some (.float .f64 x) := (cell_of_row w1 _ 4 _ _ (0, 0) e1).trans rfl
  have b1_5 : w1.cell? ⟨w.heap.size, 5, none⟩ = some (.int .i64 cap) := (cell_of_row w1 _ 5 _ _ (0, 0) e1).trans rfl
  have b1_6 : w1.cell? ⟨w.heap.size, 6, none⟩ = some (.string t) := (cell_of_row w1 _ 6 _ _ (0, 0) e1).trans rfl
  have b1_7 : w1.cell? ⟨w.heap.size, 7, none⟩ = some (.slice L s.length cl) := (cell_of_row w1 _ 7 _ _ (0, 0) e1).trans rfl
  have b1_0 : w1.cell? ⟨w.heap.size, 0, none⟩ = some (.int .i64 8) := (cell_of_row w1 _ 0 _ _ (0, 0) e1).trans rfl
  clear e1
  go_wp2_with fail
  refine (putList_any ⟨8, n, l, h, x, cap, t, s⟩ L cl p A1 c1 (xs ++ PK.digits 8) w1 HR.out.list ((HI.out.alloc _).ws hs1 HL.out) hw1 HM.out.cap HM.out.len (hl'.le (by simp only [List.length_append]; omega)) (HL.out.ws (HI.out.alloc _) hs1)).mono ?_
  rintro e w2 ⟨rfl, A2, c2, hw2, hs2⟩
  have hq2 := hs1.trans hs2
  clear b1_1 b1_2 b1_3 b1_4 b1_5 b1_6 b1_7 b1_0
  go_wp2_with fail
  go_end0
  exact ⟨rfl, A2, c2, by rw [← Hzs.out]; simpa only [List.append_assoc] using hw2, hq2.pre ((Kp.refl _ w).alloc _)⟩

set_option maxHeartbeats 2000000 in
set_option maxRecDepth 100000 in
theorem put_9 (n l h : Int) (x : Nat) (cap : Int) (t : ByteArray) (s : List RC.It) (L : Option Addr) (cl : Nat) (p : Nat) (A : Option Addr) (c : Nat) (xs : List UInt8) (w : World) (hr : RC.Rc.ok ⟨9, n, l, h, x, cap, t, s⟩) (hm : RC.May ⟨9, n, l, h, x, cap, t, s⟩) (hI : Its w L s) (hw : Wr 5 w p A c xs)
    (hl : Lim (xs.length + (RC.recB ⟨9, n, l, h, x, cap, t, s⟩).length)) (hL : Beside s L p A) :
    Calls Tryd.prog 64 #[.pointer (some ⟨p, 0, none⟩), recV ⟨9, n, l, h, x, cap, t, s⟩ L cl] w (WPost 5 p A (xs ++ RC.recB ⟨9, n, l, h, x, cap, t, s⟩) w) := by
  have HB := Lib.hid (show RC.recB ⟨9, n, l, h, x, cap, t, s⟩ = PK.digits 9 ++ RC.listB ⟨9, n, l, h, x, cap, t, s⟩ from rfl)
  rw [HB.out] at hl ⊢
  have HL := Lib.hid hL
  have HI := Lib.hid hI
  have hp := hw.lt
  have Hin := Lib.hid (wr_in hw)
  have HM := Lib.hid hm
  have HR := Lib.hid hr
  clear hL hI hm hr HB
  have hl' := hl
  simp only [List.length_append] at hl'
  generalize hzs : xs ++ (PK.digits 9 ++ RC.listB ⟨9, n, l, h, x, cap, t, s⟩) = zs
  have Hzs := Lib.hid hzs
  clear hzs hl
  go_enter Tryd.func64, Tryd.ntmps64
  go_wp2_with fail
  refine (wu_any p A c xs 9 _ (hw.alloc _) (hl'.le (by omega))).mono ?_
  rintro e w1 ⟨rfl, A1, c1, hw1, hs1⟩
  have e1 := box_keep hs1 hp Hin.out
  have b1_1 : w1.cell? ⟨w.heap.size, 1, none⟩ = some (.int .i64 n) := (cell_of_row w1 _ 1 _ _ (0, 0) e1).trans rfl
  have b1_2 : w1.cell? ⟨w.heap.size, 2, none⟩ = some (.int .i64 l) := (cell_of_row w1 _ 2 _ _ (0, 0) e1).trans rfl
  have b1_3 : w1.cell? ⟨w.heap.size, 3, none⟩ = some (.int .i64 h) := (cell_of_row w1 _ 3 _ _ (0, 0) e1).trans rfl
  have b1_4 : w1.cell? ⟨w.heap.size, 4, none⟩ = some (.float .f64 x) := (cell_of_row w1 _ 4 _ _ (0, 0) e1).trans rfl
  have b1_5 : w1.cell? ⟨w.heap.size, 5, none⟩ = some (.int .i64 cap) := (cell_of_row w1 _ 5 _ _ (0, 0) e1).trans rfl
  have b1_6 : w1.cell? ⟨w.heap.size, 6, none⟩ = some (.string t) := (cell_of_row w1 _ 6 _ _ (0, 0) e1).trans rfl
  have b1_7 : w1.cell? ⟨w.heap.size, 7, none⟩ = some (.slice L s.length cl) := (cell_of_row w1 _ 7 _ _ (0, 0) e1).trans rfl
  have b1_0 : w1.cell? ⟨w.heap.size, 0, none⟩ = some (.int .i64 9) := (cell_of_row w1 _ 0 _ _ (0, 0) e1).trans rfl
  clear e1
  go_wp2_with fail
  refine (putList_any ⟨9, n, l, h, x, cap, t, s⟩ L cl p A1 c1 (xs ++ PK.digits 9) w1 HR.out.list ((HI.out.alloc _).ws hs1 HL.out) hw1 HM.out.cap HM.out.len (hl'.le (by simp only [List.length_append]; omega)) (HL.out.ws (HI.out.alloc _) hs1)).mono ?_
  rintro e w2 ⟨rfl, A2, c2, hw2, hs2⟩
  have hq2 := hs1.trans hs2
  clear b1_1 b1_2 b1_3 b1_4 b1_5 b1_6 b1_7 b1_0
  go_wp2_with fail
  go_end0
  exact ⟨rfl, A2, c2, by rw [← Hzs.out]; simpa only [List.append_assoc] using hw2, hq2.pre ((Kp.refl _ w).alloc _)⟩

theorem put_any (r : RC.Rc) (L : Option Addr) (cl : Nat) (p : Nat) (A : Option Addr) (c : Nat) (xs : List UInt8) (w : World) (hr : r.ok) (hm : RC.May r) (hI : Its w L r.list) (hw : Wr 5 w p A c xs)
    (hl : Lim (xs.length + (RC.recB r).length)) (hL : Beside r.list L p A) :
    Calls Tryd.prog 64 #[.pointer (some ⟨p, 0, none⟩), recV r L cl] w (WPost 5 p A (xs ++ RC.recB r) w) := by
  obtain ⟨k, n, l, h, x, cap, t, s⟩ := r
  rcases RC.kind9 hm.known with e | e | e | e | e | e | e | e | e <;> (replace e : k = _ := e; subst e)
  · exact put_1 n l h x cap t s L cl p A c xs w hr hm hI hw hl hL
  · exact put_2 n l h x cap t s L cl p A c xs w hr hm hI hw hl hL
  · exact put_3 n l h x cap t s L cl p A c xs w hr hm hI hw hl hL
  · exact put_4 n l h x cap t s L cl p A c xs w hr hm hI hw hl hL
  · exact put_5 n l h x cap t s L cl p A c xs w hr hm hI hw hl hL
  · exact put_6 n l h x cap t s L cl p A c xs w hr hm hI hw hl hL
  · exact put_7 n l h x cap t s L cl p A c xs w hr hm hI hw hl hL
  · exact put_8 n l h x cap t s L cl p A c xs w hr hm hI hw hl hL
  · exact put_9 n l h x cap t s L cl p A c xs w hr hm hI hw hl hL

end Go.Proofs.YtaaeefndhmfceaaDoor
