/- What the laws of layer 6 want: big; may. -/
import Derived.Test.YtlpecaldodganaaGreatDoorPrBq
import Derived.Test.YtlpecaldodganaaGreatDoorSpFq
import Derived.Test.YtlpecaldodganaaGreatDoorRef4bmq
import Derived.Test.YtlpecaldodganaaGreatDoorRefMq
namespace Go.Proofs.YtlpecaldodganaaGreatDoor
open Go.RowKit MM
set_option linter.unusedVariables false
set_option linter.unusedSimpArgs false
set_option maxHeartbeats 4000000 in
set_option maxRecDepth 100000 in
theorem big6_any (r : RC.Rc) (A L : Option Addr) (c cl : Nat) (l : List Al) (w : World) (hI : Its w A r.list) (hM : r.list.length ≤ maxLen) (hl : ActsIn w L l) :
    Calls Tryz.prog 14 #[recV r A c, .slice L l.length cl] w fun e w' => e = .returned (.bool (big5 r l)) ∧ Below w.heap.size w w' := by
  have HG := Lib.hid (fun u (h : Its u A r.list) => big3_any r A c u h hM)
  have HI := Lib.hid hI
  have HL := Lib.hid hl
  have hlen := hl.len
  unfold maxLen at hlen
  have Hb := Lib.hid (show big5 r l = (RC.big r || (decide (30 < l.length) || l.any fun x => AC.big x.r)) from rfl)
  clear hI hM hl
  go_enter Tryz.func14, Tryz.ntmps14
  go_wp2_with fail
  refine (HG.out _ (HI.out.alloc _)).mono ?_
  rintro e w1 ⟨rfl, hb1⟩
  have HB1 := Lib.hid (show Below w.heap.size w w1 from (below1 w _).trans (hb1.mono (by simp)))
  clear hb1
  cases hb : RC.big r
  case true =>
    have He := Lib.hid hb
    clear hb
    go_wp2_with fail
    go_ret
    exact ⟨ret_bool (by rw [Hb.out, He.out]; rfl), HB1.out⟩
  have He := Lib.hid hb
  clear hb
  by_cases h30 : 30 < l.length
  · have q1 : (30 : Int) < (l.length : Int) := by omega
    have H3 := Lib.hid h30
    clear h30
    go_wp2_with fail
    go_ret
    exact ⟨ret_bool (by rw [Hb.out, He.out, decide_eq_true H3.out]; rfl), HB1.out⟩
  have q1 : ¬ (30 : Int) < (l.length : Int) := by omega
  have H3 := Lib.hid h30
  go_wp2_with fail
  go_loopw [17] (fun t17 wr => ∃ (i : Nat), t17 = .int .i64 i ∧ i ≤ l.length ∧ (∀ x ∈ l.take i, AC.big x.r = false) ∧ Below w.heap.size w wr) (fun t17 _ => l.length - (intOf t17).toNat)
  case atStart => exact ⟨0, rfl, Nat.zero_le _, (fun x hx => by cases hx), HB1.out⟩
  case round =>
    obtain ⟨i, rfl, hi, hno, hbr⟩ := hrel
    have HBr := Lib.hid hbr
    have HNo := Lib.hid hno
    clear hbr hno
    by_cases hlt : i < l.length
    · have hin := HL.out.all _ (List.getElem_mem hlt)
      have HMem := Lib.hid (List.getElem_mem hlt)
      have HTk := Lib.hid (List.take_succ_eq_append_getElem hlt)
      rcases HL.out.rows with hA | ⟨b, off, rfl, hbl, hrows⟩
      · subst hA; simp at hlt
      have hrow := hrows i l[i] (List.getElem?_eq_getElem hlt)
      clear hrows
      generalize l[i] = y at *
      obtain ⟨⟨k, key, n, x, s, m, must⟩, RA, rc⟩ := y
      have r0 : wr.cell? ⟨b, off + i * 14, none⟩ = some (.int .i64 k) := below_keep HBr.out (hrow 0 _ rfl)
      have r1 : wr.cell? ⟨b, off + i * 14 + 1, none⟩ = some (.string key) := below_keep HBr.out (hrow 1 _ rfl)
      have r2 : wr.cell? ⟨b, off + i * 14 + 2, none⟩ = some (.int .i64 n) := below_keep HBr.out (hrow 2 _ rfl)
      have r3 : wr.cell? ⟨b, off + i * 14 + 3, none⟩ = some (.float .f64 x) := below_keep HBr.out (hrow 3 _ rfl)
      have r4 : wr.cell? ⟨b, off + i * 14 + 4, none⟩ = some (.string s) := below_keep HBr.out (hrow 4 _ rfl)
      have r5 : wr.cell? ⟨b, off + i * 14 + 5, none⟩ = some (.int .i64 m.kind) := below_keep HBr.out (hrow 5 _ rfl)
      have r6 : wr.cell? ⟨b, off + i * 14 + 6, none⟩ = some (.int .i64 m.num) := below_keep HBr.out (hrow 6 _ rfl)
      have r7 : wr.cell? ⟨b, off + i * 14 + 7, none⟩ = some (.int .i64 m.low) := below_keep HBr.out (hrow 7 _ rfl)
      have r8 : wr.cell? ⟨b, off + i * 14 + 8, none⟩ = some (.int .i64 m.high) := below_keep HBr.out (hrow 8 _ rfl)
      have r9 : wr.cell? ⟨b, off + i * 14 + 9, none⟩ = some (.float .f64 m.real) := below_keep HBr.out (hrow 9 _ rfl)
      have r10 : wr.cell? ⟨b, off + i * 14 + 10, none⟩ = some (.int .i64 m.cap) := below_keep HBr.out (hrow 10 _ rfl)
      have r11 : wr.cell? ⟨b, off + i * 14 + 11, none⟩ = some (.string m.text) := below_keep HBr.out (hrow 11 _ rfl)
      have r12 : wr.cell? ⟨b, off + i * 14 + 12, none⟩ = some (.slice RA m.list.length rc) := below_keep HBr.out (hrow 12 _ rfl)
      have r13 : wr.cell? ⟨b, off + i * 14 + 13, none⟩ = some (.bool must) := below_keep HBr.out (hrow 13 _ rfl)
      have HG4 := Lib.hid (fun u (b : Below w.heap.size w u) => big4_any ⟨k, key, n, x, s, m, must⟩ RA rc u (hin.make.its.below b) hin.make.len)
      have hi1 : (i : Int) < (l.length : Int) := by omega
      clear hin hrow hbl
      go_wp2_with fail
      refine (HG4.out _ (HBr.out.trans ((below1 wr _).mono HBr.out.size))).mono ?_
      rintro e w2 ⟨rfl, hb2⟩
      have HB2 := Lib.hid (show Below w.heap.size w w2 from (HBr.out.trans ((below1 wr _).mono HBr.out.size)).trans (hb2.mono (by have := HBr.out.size; simp; omega)))
      clear hb2 r0 r1 r2 r3 r4 r5 r6 r7 r8 r9 r10 r11 r12 r13 HG4
      cases hg : AC.big ⟨k, key, n, x, s, m, must⟩
      · have Hg := Lib.hid hg
        clear hg
        go_wp2_with fail
        go_roundw
        case rel =>
          refine ⟨i + 1, by go_num, by omega, fun z hz => ?_, HB2.out⟩
          rw [HTk.out] at hz
          rcases List.mem_append.1 hz with hz | hz
          · exact HNo.out z hz
          · simp at hz; subst hz; exact Hg.out
        case measure => simp [intOf]; omega
      · have Hg := Lib.hid hg
        clear hg
        go_wp2_with fail
        go_ret
        exact ⟨ret_bool (by rw [Hb.out, He.out, decide_eq_false H3.out, List.any_eq_true.2 ⟨_, HMem.out, Hg.out⟩]; rfl), HB2.out⟩
    · have hi' : i = l.length := by omega
      subst hi'
      have hi1 : ¬ (l.length : Int) < (l.length : Int) := by omega
      go_wp2_with fail
      go_ret
      refine ⟨ret_bool ?_, HBr.out⟩
      rw [Hb.out, He.out, decide_eq_false H3.out]
      symm
      show l.any _ = false
      rw [List.any_eq_false]
      intro x hx
      have := HNo.out x (by rw [List.take_length]; exact hx)
      simpa using this
def RU.may6 (r : RC.Rc) (t : Bool) (l : List AC.Ac) : Bool := (l.all fun a => AC.chk a == 0) && (!t || RC.chk r == 0)
set_option maxHeartbeats 4000000 in
set_option maxRecDepth 100000 in
theorem may6_any (r : RC.Rc) (t : Bool) (l : List Al) (A L : Option Addr) (c cl : Nat) (w : World) (hr : r.ok) (hA : Its w A r.list) (n1 : Lim r.list.length) (hl : ActsIn w L l) (nl : l.length ≤ 1000) (hs : ∀ x ∈ l, Lim x.r.make.list.length ∧ Lim x.r.key.size ∧ Lim x.r.s.size) :
    Calls Tryz.prog 17 #[recV r A c, .bool t, .slice L l.length cl] w fun e w' => e = .returned (.bool (RU.may6 r t (l.map (·.r)))) ∧ Below w.heap.size w w' := by
  have HL := Lib.hid hl
  have HD := Lib.hid (fun u (h : Below w.heap.size w u) => rcheck_any r A c u hr (hA.below h) n1)
  have HC := Lib.hid (fun (x : Al) (hx : x ∈ l) u (h : Below w.heap.size w u) => rcheck4_any x.r x.A x.c u (hl.all x hx).ok ((hl.all x hx).make.its.below h) (hs x hx).1 (hs x hx).2.1 (hs x hx).2.2)
  have HV := Lib.hid (show RU.may6 r t (l.map (·.r)) = ((l.all fun a => AC.chk a.r == 0) && (!t || RC.chk r == 0)) by unfold RU.may6; rw [List.all_map]; rfl)
  clear hr hA n1 hl hs
  generalize RU.may6 r t (l.map (·.r)) = V at *
  generalize RC.chk r = E at *
  go_enter Tryz.func17, Tryz.ntmps17
  go_wp2_with fail
  generalize hwa : World.alloc w _ = wa
  have R3 := Lib.hid (show wa.heap[w.heap.size]? = some (.cells (recC r.kind r.num r.low r.high r.real r.cap r.text (.slice A r.list.length c)) 25 (0, 0)) by rw [← hwa]; exact heap_alloc_new w _)
  have B1 := Lib.hid (show Below w.heap.size w wa by rw [← hwa]; exact below1 w _)
  clear hwa
  go_loopw [11] (fun t11 wr => ∃ i : Nat, t11 = .int .i64 i ∧ i ≤ l.length ∧ ((l.take i).all fun a => AC.chk a.r == 0) = true ∧ Below wa.heap.size wa wr) (fun t11 _ => l.length - (intOf t11).toNat)
  case atStart => exact ⟨0, rfl, Nat.zero_le _, rfl, Below.refl _ _⟩
  case round =>
    obtain ⟨i, rfl, hi, hyes, hbr⟩ := hrel
    have HY := Lib.hid hyes
    have BR := Lib.hid hbr
    clear hyes hbr
    by_cases hlt : i < l.length
    · have hi1 : (i : Int) < (l.length : Int) := by omega
      obtain ⟨b1, o1, rfl, hr1⟩ := acts_range9 HL.out hlt
      have hmem := List.getElem_mem hlt
      have HT := Lib.hid (fun (h : (AC.chk l[i].r == 0) = true) => all_take hlt (f := fun a : Al => AC.chk a.r == 0) HY.out h)
      have HF := Lib.hid (fun (h : (AC.chk l[i].r == 0) = false) => all_no hlt (f := fun a : Al => AC.chk a.r == 0) h)
      generalize l[i] = a at *
      have HMe := Lib.hid hmem
      have BW := Lib.hid (B1.out.trans (BR.out.mono B1.out.size))
      have HR1 := Lib.hid (range_keep9 BW.out hr1)
      clear hr1 hmem
      go_upto_region 4 with (first
        | (refine wpList_load_mid rfl _ _ rfl b1 (o1 + i * 14) rfl (actC a.r a.A a.c).toList _ HR1.out Tryz.underlying27 rfl act_inf9 ?_)
        | (refine wpList_store_row rfl _ _ _ rfl _ (actC a.r a.A a.c) rfl rfl 27 _ (heap_alloc_new _ _) act_inf9 rfl (by kernel_rfl) ?_))
      rw [World.setRow_alloc_new]
      generalize hwb : World.alloc wr _ = wb
      have R8 := Lib.hid (show wb.heap[wr.heap.size]? = some (.cells (actC a.r a.A a.c) 27 (0, 0)) by rw [← hwb]; exact heap_alloc_new wr _)
      have BB := Lib.hid (show Below wa.heap.size wa wb by rw [← hwb]; exact BR.out.trans ((below1 wr _).mono BR.out.size))
      have BBw := Lib.hid (B1.out.trans (BB.out.mono B1.out.size))
      generalize hg6 : wr.heap.size = g6 at *
      clear hwb HR1 hg6
      go_wp2_with (first
        | (refine wpList_load_row rfl _ _ rfl g6 rfl 27 _ (0, 0) _ R8.out Tryz.underlying27 rfl act_inf9 ?_))
      refine (HC.out a HMe.out _ BBw.out).mono ?_
      generalize AC.chk a.r = Ea at *
      rintro e w9 ⟨rfl, hb9⟩
      have B9 := Lib.hid (BB.out.trans (hb9.mono BB.out.size))
      clear hb9
      rcases Nat.eq_zero_or_pos Ea with h | h
      case inr =>
        have hE1 : ((Ea : Int) != 0) = true := by simp; omega
        have HVf := Lib.hid (show V = false by rw [HV.out, HF.out (by simp; omega)]; rfl)
        have BZ := Lib.hid (B1.out.trans (B9.out.mono B1.out.size))
        clear HV h
        go_wp2_with fail
        go_ret
        exact ⟨by rw [HVf.out]; rfl, BZ.out⟩
      subst h
      go_wp2_with fail
      go_roundw
      case rel => exact ⟨i + 1, by go_num, by omega, HT.out rfl, B9.out⟩
      case measure => simp [intOf]; omega
    · have hi' : i = l.length := by omega
      have hi1 : ¬ (i : Int) < (l.length : Int) := by omega
      have HVt := Lib.hid (show V = (!t || E == 0) by rw [HV.out]; have := HY.out; rw [hi', List.take_length] at this; rw [this]; rfl)
      have R3r := Lib.hid ((BR.out.block _ (lt_of_heap R3.out)).trans R3.out)
      have BW := Lib.hid (B1.out.trans (BR.out.mono B1.out.size))
      clear hlt hi hi' HV
      cases t
      · go_wp2_with fail
        go_ret
        exact ⟨by rw [HVt.out]; rfl, BW.out⟩
      have k3 := fun o => cell_of_row wr _ o _ _ (0, 0) R3r.out
      go_wp2_with fail
      refine (HD.out _ BW.out).mono ?_
      rintro e w9 ⟨rfl, hb9⟩
      have B9 := Lib.hid (BW.out.trans (hb9.mono BW.out.size))
      clear hb9 k3
      rcases Nat.eq_zero_or_pos E with h | h
      · subst h
        go_wp2_with fail
        go_ret
        exact ⟨by rw [HVt.out]; rfl, B9.out⟩
      · have hE1 : ((E : Int) == 0) = false := by simp; omega
        have HVf := Lib.hid (show V = false by rw [HVt.out]; simp; omega)
        clear h
        go_wp2_with fail
        go_ret
        exact ⟨by rw [HVf.out]; rfl, B9.out⟩
end Go.Proofs.YtlpecaldodganaaGreatDoor
