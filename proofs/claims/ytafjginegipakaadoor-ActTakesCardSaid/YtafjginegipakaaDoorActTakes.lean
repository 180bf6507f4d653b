/- The walk of ActTakes. -/
import Derived.Test.YtafjginegipakaaDoorOpn4r
import Derived.Test.YtafjginegipakaaDoorActChecks
import Derived.Deep.RegionHeld3
namespace Go.Proofs.YtafjginegipakaaDoor
open Go.RowKit MM

def actsB : List Al → List UInt8
  | [] => []
  | x :: l => AC.actB x.r ++ actsB l
theorem actsB_append : ∀ (a b : List Al), actsB (a ++ b) = actsB a ++ actsB b
  | [], b => rfl
  | x :: a, b => by show AC.actB x.r ++ actsB (a ++ b) = (AC.actB x.r ++ actsB a) ++ actsB b; rw [actsB_append a b, List.append_assoc]
theorem actsB_take (l : List Al) (i : Nat) (h : i < l.length) : actsB (l.take (i + 1)) = actsB (l.take i) ++ AC.actB l[i].r := by
  rw [List.take_succ_eq_append_getElem h, actsB_append]
  show _ ++ (AC.actB l[i].r ++ []) = _
  rw [List.append_nil]
theorem actsB_len (l : List Al) (h : ∀ x ∈ l, (AC.actB x.r).length ≤ 2200) : (actsB l).length ≤ 2200 * l.length := by
  induction l with
  | nil => simp [actsB]
  | cons x l ih =>
    have h1 := ih (fun y hy => h y (List.mem_cons_of_mem _ hy))
    have h2 := h x (List.mem_cons_self ..)
    show (AC.actB x.r ++ actsB l).length ≤ _
    rw [List.length_append, List.length_cons]; omega

/-- What holds while records are written. -/
structure TInvA (l : List Al) (w : World) (p i : Nat) (A1 : Option Addr) (c1 : Nat) (wr : World) : Prop where
  ok : ∀ x ∈ l.take i, AC.chk x.r = 0
  wrt : Wr 5 wr p A1 c1 (actsB (l.take i))
  new : ∀ k, ob A1 = some k → w.heap.size ≤ k
  below : Below w.heap.size w wr
theorem ActIn.beside {w : World} {r : AC.Ac} {L : Option Addr} {c p : Nat} {A1 : Option Addr} (h : ActIn w r L c) (hp : w.heap.size ≤ p) (hA : ∀ k, ob A1 = some k → w.heap.size ≤ k) : Beside r.make.list L p A1 := by
  rcases h.make.its with e | ⟨b, off, e, hb, _⟩
  · exact .inl e
  · refine .inr fun ad e2 => ?_
    rw [e] at e2
    injection e2 with e2
    subst e2
    exact ⟨by show b ≠ p; omega, fun e3 => by have := hA _ e3; have h3 : w.heap.size ≤ b := this; omega⟩
theorem TInvA.bytes {l : List Al} {w : World} {p i : Nat} {A1 : Option Addr} {c1 : Nat} {wr : World} (h : TInvA l w p i A1 c1 wr) (hl : ∀ x ∈ l, ActIn w x.r x.A x.c) (h20 : l.length ≤ 20) : (actsB (l.take i)).length ≤ 44000 := by
  have h1 := actsB_len (l.take i) (fun x hx => actB_len x.r (hl x (List.mem_of_mem_take hx)).ok (AC.chk_may (hl x (List.mem_of_mem_take hx)).ok (h.ok x hx)))
  have h2 : (l.take i).length ≤ 20 := by rw [List.length_take]; omega
  omega
theorem TInvA.next {l : List Al} {w : World} {p i : Nat} {A1 A2 : Option Addr} {c1 c2 : Nat} {wr w' w'' : World} (h : TInvA l w p i A1 c1 wr) (hi : i < l.length) (hp : w.heap.size ≤ p) (hc : AC.chk l[i].r = 0) (hb : Below wr.heap.size wr w') (hw : Wr 5 w'' p A2 c2 (actsB (l.take i) ++ AC.actB l[i].r)) (hs : WS p A1 A2 w' w'') : TInvA l w p (i + 1) A2 c2 w'' := by
  have hb2 := h.below.trans (hb.mono h.below.size)
  obtain ⟨hB, hN⟩ := hs.below hb2.size hp h.new
  refine ⟨fun x hx => ?_, by rw [actsB_take l i hi]; exact hw, hN, hb2.trans hB⟩
  rw [List.take_succ_eq_append_getElem hi] at hx
  rcases List.mem_append.1 hx with hx | hx
  · exact h.ok x hx
  · simp at hx; subst hx; exact hc

theorem take_atA (l : List Al) (i : Nat) (hi : i < l.length) (hr : l[i].r.ok) (hc : AC.chk l[i].r = 0) : actR ((actsB l).drop (actsB (l.take i)).length) = .ok l[i].r (AC.actB l[i].r).length := by
  have h1 : actsB l = actsB (l.take i) ++ (AC.actB l[i].r ++ actsB (l.drop (i + 1))) := by
    have h2 := actsB_append (l.take (i + 1)) (l.drop (i + 1))
    rw [List.take_append_drop, actsB_take l i hi, List.append_assoc] at h2
    exact h2
  rw [h1, List.drop_left]
  exact actR_actB _ _ hr hc

set_option maxHeartbeats 4000000 in
set_option maxRecDepth 100000 in
theorem actTakes_any (A : Option Addr) (c : Nat) (l : List Al) (w : World) (hl : ActsIn w A l) (hN : RowsAt w) :
    Calls Tryd.prog 7 #[.slice A l.length c] w fun e w' => e = .returned (.bool true) ∧ Below w.heap.size w w' := by
  have HS := Lib.hid (fun w hN => speaks4_any w hN)
  have HN := Lib.hid hN
  have HL := Lib.hid hl
  have hlen := hl.len
  unfold maxLen at hlen
  clear hN hl
  by_cases h20 : 20 < l.length
  · go_enter Tryd.func7, Tryd.ntmps7
    go_wp2_with fail
    refine (HS.out _ HN.out).mono ?_
    rintro e w1 ⟨rfl, hb1⟩
    go_wp2_with fail
    go_ret
    exact ⟨rfl, hb1⟩
  · go_enter Tryd.func7, Tryd.ntmps7
    go_wp2_with fail
    refine (HS.out _ HN.out).mono ?_
    rintro e w1 ⟨rfl, hb1⟩
    have HB1 := Lib.hid hb1
    have hz1 := hb1.size
    clear hb1
    go_wp2_with fail
    go_loopw [16] (fun t16 wr => ∃ (i : Nat) (A1 : Option Addr) (c1 : Nat), t16 = .int .i64 i ∧ i ≤ l.length ∧ TInvA l w w1.heap.size i A1 c1 wr) (fun t16 _ => l.length - (intOf t16).toNat)
    case atStart => exact ⟨0, none, 0, rfl, Nat.zero_le _, (fun x hx => by cases hx), Wr.new _ _ _, (fun k e => by cases e), HB1.out.alloc hz1 _⟩
    case round =>
      obtain ⟨i, A1, c1, rfl, hi, hv⟩ := hrel
      have HV := Lib.hid hv
      have hzr := hv.below.size
      have hp1 := hv.wrt.lt
      clear hv
      by_cases hlt : i < l.length
      · have hin := HL.out.all _ (List.getElem_mem hlt)
        have hby := HV.out.bytes HL.out.all (by omega)
        have hnx := fun w' w'' A2 c2 hc hb hw hs => HV.out.next (A2 := A2) (c2 := c2) (w' := w') (w'' := w'') hlt hz1 hc hb hw hs
        rcases HL.out.rows with hA | ⟨b, off, rfl, hb, hrows⟩
        · subst hA; simp at hlt
        have hrow := hrows i l[i] (List.getElem?_eq_getElem hlt)
        have Hnx := Lib.hid hnx
        clear hnx hrows
        generalize l[i] = y at *
        obtain ⟨⟨k, key, n, x, s, m, must⟩, RA, rc⟩ := y
        have r0 : wr.cell? ⟨b, off + i * 14, none⟩ = some (.int .i64 k) := below_keep HV.out.below (hrow 0 _ rfl)
        have r1 : wr.cell? ⟨b, off + i * 14 + 1, none⟩ = some (.string key) := below_keep HV.out.below (hrow 1 _ rfl)
        have r2 : wr.cell? ⟨b, off + i * 14 + 2, none⟩ = some (.int .i64 n) := below_keep HV.out.below (hrow 2 _ rfl)
        have r3 : wr.cell? ⟨b, off + i * 14 + 3, none⟩ = some (.float .f64 x) := below_keep HV.out.below (hrow 3 _ rfl)
        have r4 : wr.cell? ⟨b, off + i * 14 + 4, none⟩ = some (.string s) := below_keep HV.out.below (hrow 4 _ rfl)
        have r5 : wr.cell? ⟨b, off + i * 14 + 5, none⟩ = some (.int .i64 m.kind) := below_keep HV.out.below (hrow 5 _ rfl)
        have r6 : wr.cell? ⟨b, off + i * 14 + 6, none⟩ = some (.int .i64 m.num) := below_keep HV.out.below (hrow 6 _ rfl)
        have r7 : wr.cell? ⟨b, off + i * 14 + 7, none⟩ = some (.int .i64 m.low) := below_keep HV.out.below (hrow 7 _ rfl)
        have r8 : wr.cell? ⟨b, off + i * 14 + 8, none⟩ = some (.int .i64 m.high) := below_keep HV.out.below (hrow 8 _ rfl)
        have r9 : wr.cell? ⟨b, off + i * 14 + 9, none⟩ = some (.float .f64 m.real) := below_keep HV.out.below (hrow 9 _ rfl)
        have r10 : wr.cell? ⟨b, off + i * 14 + 10, none⟩ = some (.int .i64 m.cap) := below_keep HV.out.below (hrow 10 _ rfl)
        have r11 : wr.cell? ⟨b, off + i * 14 + 11, none⟩ = some (.string m.text) := below_keep HV.out.below (hrow 11 _ rfl)
        have r12 : wr.cell? ⟨b, off + i * 14 + 12, none⟩ = some (.slice RA m.list.length rc) := below_keep HV.out.below (hrow 12 _ rfl)
        have r13 : wr.cell? ⟨b, off + i * 14 + 13, none⟩ = some (.bool must) := below_keep HV.out.below (hrow 13 _ rfl)
        have Hin := Lib.hid hin
        have HG := Lib.hid (fun w hA => big4_any ⟨k, key, n, x, s, m, must⟩ RA rc w hA hin.make.len)
        have HC := Lib.hid (fun (h : AC.big ⟨k, key, n, x, s, m, must⟩ = false) w hI => rcheck4_any ⟨k, key, n, x, s, m, must⟩ RA rc w hin.ok hI (act_small hin h).1 (act_small hin h).2.1 (act_small hin h).2.2)
        have HP := Lib.hid (fun (hc : AC.chk ⟨k, key, n, x, s, m, must⟩ = 0) w' hA hw hR => write_any4 ⟨k, key, n, x, s, m, must⟩ RA rc w1.heap.size A1 c1 (actsB (l.take i)) w' hin.ok (AC.chk_may hin.ok hc) hA hw (by omega) (hin.beside hz1 HV.out.new) hR (by have := rows_lt HN.out; omega) (fun e => by have := rows_lt HN.out; have := HV.out.new _ e; omega))
        have hi1 : (i : Int) < (l.length : Int) := by omega
        have hne : w1.heap.size ≠ wr.heap.size := by omega
        clear hin hrow
        generalize AC.big ⟨k, key, n, x, s, m, must⟩ = g at *
        go_wp2_with fail
        refine (HG.out _ ((Hin.out.make.its.below HV.out.below).alloc _)).mono ?_
        rintro e w2 ⟨rfl, hb2⟩
        have e2 := (hb2.block wr.heap.size (by simp)).trans (heap_alloc_new wr _)
        have HB2 := Lib.hid (show Below wr.heap.size wr w2 from (below1 wr _).trans (hb2.mono (by simp)))
        have c2 := fun o => cell_of_row w2 _ o _ _ (0, 0) e2
        have E2 := Lib.hid e2
        clear hb2 e2
        cases g
        · go_wp2_with fail
          refine (HC.out (by trivial) _ (Hin.out.make.its.below (HV.out.below.trans (HB2.out.mono HV.out.below.size)))).mono ?_
          rintro e w3 ⟨rfl, hb3⟩
          have E3 := Lib.hid ((hb3.block _ (lt_of_heap E2.out)).trans E2.out)
          have HB3 := Lib.hid (HB2.out.trans (hb3.mono HB2.out.size))
          clear hb3 c2
          have c3 := fun o => cell_of_row w3 _ o _ _ (0, 0) E3.out
          rcases Nat.eq_zero_or_pos (AC.chk ⟨k, key, n, x, s, m, must⟩) with hE | hE
          · have HE := Lib.hid hE
            rw [hE]
            clear hE
            go_wp2_with fail
            refine (HP.out HE.out _ (Hin.out.make.its.below (HV.out.below.trans (HB3.out.mono HV.out.below.size))) (HV.out.wrt.keep (Kp.of_below HB3.out (fun _ => False)) (fun h => h) (fun _ _ h => h)) (HN.out.below (HV.out.below.trans (HB3.out.mono HV.out.below.size)))).mono ?_
            rintro e w4 ⟨rfl, A2, c4, hw4, hs4⟩
            have HT := Lib.hid (Hnx.out w3 w4 A2 c4 HE.out HB3.out hw4 hs4)
            clear hw4 hs4 c3
            go_wp2_with fail
            go_roundw
            case rel => exact ⟨i + 1, A2, c4, by go_num, by omega, HT.out⟩
            case measure => simp [intOf]; omega
          · generalize AC.chk ⟨k, key, n, x, s, m, must⟩ = E at *
            have hE' : ((E : Int) != 0) = true := by simp; omega
            go_wp2_with fail
            go_ret
            exact ⟨rfl, HV.out.below.trans (HB3.out.mono HV.out.below.size)⟩
        · go_wp2_with fail
          go_ret
          exact ⟨rfl, HV.out.below.trans (HB2.out.mono HV.out.below.size)⟩
      · have hi' : i = l.length := by omega
        subst hi'
        have hok : ∀ x ∈ l, AC.chk x.r = 0 := fun x hx => HV.out.ok x (by rw [List.take_length]; exact hx)
        have hwr := HV.out.wrt
        have hby := HV.out.bytes HL.out.all (by omega)
        rw [List.take_length] at hwr hby
        have Hok := Lib.hid hok
        have Hta := Lib.hid (fun i hi => take_atA l i hi (HL.out.all _ (List.getElem_mem hi)).ok (hok _ (List.getElem_mem hi)))
        have Htk := Lib.hid (fun i hi => actsB_take l i hi)
        have Hall := Lib.hid (show actsB (l.take l.length) = actsB l by rw [List.take_length])
        have hlb : Lim (actsB l).length := by unfold Lim; omega
        clear hok
        go_wp2_with fail
        refine (bytes_any w1.heap.size A1 c1 (actsB l) _ hwr hlb).mono ?_
        rintro e w5 ⟨A5, c5, rfl, ho5, hn5, hb5⟩
        have HB5 := Lib.hid (HV.out.below.trans (hb5.mono hzr))
        clear hb5 hwr
        go_wp2_with fail
        refine (new_any A5 c5 (actsB l) _ (Bts.own ho5) hlb).mono ?_
        rintro e w6 ⟨q, A6, c6, rfl, hr6, hq6, ha6, hb6⟩
        have HB6 := Lib.hid (HB5.out.trans (hb6.mono HB5.out.size))
        have hq : w.heap.size ≤ q := Nat.le_trans HB5.out.size hq6
        have Hr6 := Lib.hid hr6
        clear hb6 ho5 hn5 ha6 hr6 hq6
        go_wp2_with fail
        clear HV hzr hp1
        go_loopw [35] (fun t35 wq => ∃ i : Nat, t35 = .int .i64 i ∧ i ≤ l.length ∧ Rd 5 wq q A6 c6 (actsB l) (actsB (l.take i)).length ∧ Below w.heap.size w wq) (fun t35 _ => l.length - (intOf t35).toNat)
        case atStart => exact ⟨0, rfl, Nat.zero_le _, Hr6.out, HB6.out⟩
        case round =>
          obtain ⟨i, rfl, hi, hrd, hbq⟩ := hrel
          have HBq := Lib.hid hbq
          have Hrd := Lib.hid hrd
          have hqr := hrd.lt
          clear hbq hrd
          by_cases hlt2 : i < l.length
          · have hin := HL.out.all _ (List.getElem_mem hlt2)
            have hta := Hta.out i hlt2
            have htk := Htk.out i hlt2
            have hck := Hok.out _ (List.getElem_mem hlt2)
            rcases HL.out.rows with hA | ⟨b, off, rfl, hb, hrows⟩
            · subst hA; simp at hlt2
            have hrow := hrows i l[i] (List.getElem?_eq_getElem hlt2)
            clear hrows
            generalize l[i] = y at *
            obtain ⟨⟨k, key, n, x, s, m, must⟩, RA, rc⟩ := y
            have r0 : wr.cell? ⟨b, off + i * 14, none⟩ = some (.int .i64 k) := below_keep HBq.out (hrow 0 _ rfl)
            have r1 : wr.cell? ⟨b, off + i * 14 + 1, none⟩ = some (.string key) := below_keep HBq.out (hrow 1 _ rfl)
            have r2 : wr.cell? ⟨b, off + i * 14 + 2, none⟩ = some (.int .i64 n) := below_keep HBq.out (hrow 2 _ rfl)
            have r3 : wr.cell? ⟨b, off + i * 14 + 3, none⟩ = some (.float .f64 x) := below_keep HBq.out (hrow 3 _ rfl)
            have r4 : wr.cell? ⟨b, off + i * 14 + 4, none⟩ = some (.string s) := below_keep HBq.out (hrow 4 _ rfl)
            have r5 : wr.cell? ⟨b, off + i * 14 + 5, none⟩ = some (.int .i64 m.kind) := below_keep HBq.out (hrow 5 _ rfl)
            have r6 : wr.cell? ⟨b, off + i * 14 + 6, none⟩ = some (.int .i64 m.num) := below_keep HBq.out (hrow 6 _ rfl)
            have r7 : wr.cell? ⟨b, off + i * 14 + 7, none⟩ = some (.int .i64 m.low) := below_keep HBq.out (hrow 7 _ rfl)
            have r8 : wr.cell? ⟨b, off + i * 14 + 8, none⟩ = some (.int .i64 m.high) := below_keep HBq.out (hrow 8 _ rfl)
            have r9 : wr.cell? ⟨b, off + i * 14 + 9, none⟩ = some (.float .f64 m.real) := below_keep HBq.out (hrow 9 _ rfl)
            have r10 : wr.cell? ⟨b, off + i * 14 + 10, none⟩ = some (.int .i64 m.cap) := below_keep HBq.out (hrow 10 _ rfl)
            have r11 : wr.cell? ⟨b, off + i * 14 + 11, none⟩ = some (.string m.text) := below_keep HBq.out (hrow 11 _ rfl)
            have r12 : wr.cell? ⟨b, off + i * 14 + 12, none⟩ = some (.slice RA m.list.length rc) := below_keep HBq.out (hrow 12 _ rfl)
            have r13 : wr.cell? ⟨b, off + i * 14 + 13, none⟩ = some (.bool must) := below_keep HBq.out (hrow 13 _ rfl)
            have Hin := Lib.hid hin
            have HX := Lib.hid (show ∀ w', Rd 5 w' q A6 c6 (actsB l) (actsB (l.take i)).length → RowsAt w' → Calls Tryd.prog 33 #[.pointer (some ⟨q, 0, none⟩)] w' (APost q A6 c6 (actsB l) (actsB (l.take i)).length (.ok ⟨k, key, n, x, s, m, must⟩ (AC.actB ⟨k, key, n, x, s, m, must⟩).length) w') from fun w' hr hR => by
              have := actTake_any q A6 c6 (actsB l) (actsB (l.take i)).length w' hr hR (by have := rows_lt HN.out; omega)
              rw [hta] at this
              exact this)
            have Hlen := Lib.hid (show (actsB (l.take (i + 1))).length = (actsB (l.take i)).length + (AC.actB ⟨k, key, n, x, s, m, must⟩).length by rw [htk, List.length_append])
            have hls : m.list.length ≤ 32 := by
              have hmm := AC.chk_may hin.ok hck
              cases e : AC.hasM k with
              | true => exact (RC.chk_may hin.ok.make (hmm.made e)).len
              | false => have h0 : m = RC.zero := hmm.m e; rw [h0]; exact Nat.zero_le _
            have hlim : Lim m.list.length := by unfold Lim; omega
            have HQ := Lib.hid (show ∀ w A' c', Its w A' m.list → Its w RA m.list → Calls Tryd.prog 27 #[actV ⟨k, key, n, x, s, m, must⟩ A' c', actV ⟨k, key, n, x, s, m, must⟩ RA rc] w (fun e w' => e = .returned (.bool true) ∧ Below w.heap.size w w') from fun w A' c' hA' hA => by rw [← AC.same_refl' ⟨k, key, n, x, s, m, must⟩]; exact rsame4_any ⟨k, key, n, x, s, m, must⟩ ⟨k, key, n, x, s, m, must⟩ A' RA c' rc w hin.ok hin.ok hA' hA hlim hlim)
            have hi1 : (i : Int) < (l.length : Int) := by omega
            have hnq : ¬ wr.heap.size = q := by omega
            clear hin hrow hta htk hck
            go_wp2_with fail
            generalize hwb : wr.alloc _ = wb
            have eb : wb.heap[wr.heap.size]? = some (.cells (actC ⟨k, key, n, x, s, m, must⟩ RA rc) 44 (0, 0)) := by rw [← hwb]; exact heap_alloc_new _ _
            have hbb : Below wr.heap.size wr wb := by rw [← hwb]; exact below1 wr _
            have hrb : Rd 5 wb.drew q A6 c6 (actsB l) (actsB (l.take i)).length := by rw [← hwb]; exact (Hrd.out.alloc _).drew
            have b0 : wb.cell? ⟨wr.heap.size, 0, none⟩ = some (.int .i64 k) := (cell_of_row wb _ 0 _ _ (0, 0) eb).trans rfl
            have b1 : wb.cell? ⟨wr.heap.size, 1, none⟩ = some (.string key) := (cell_of_row wb _ 1 _ _ (0, 0) eb).trans rfl
            have b2 : wb.cell? ⟨wr.heap.size, 2, none⟩ = some (.int .i64 n) := (cell_of_row wb _ 2 _ _ (0, 0) eb).trans rfl
            have b3 : wb.cell? ⟨wr.heap.size, 3, none⟩ = some (.float .f64 x) := (cell_of_row wb _ 3 _ _ (0, 0) eb).trans rfl
            have b4 : wb.cell? ⟨wr.heap.size, 4, none⟩ = some (.string s) := (cell_of_row wb _ 4 _ _ (0, 0) eb).trans rfl
            have b5 : wb.cell? ⟨wr.heap.size, 5, none⟩ = some (.int .i64 m.kind) := (cell_of_row wb _ 5 _ _ (0, 0) eb).trans rfl
            have b6 : wb.cell? ⟨wr.heap.size, 6, none⟩ = some (.int .i64 m.num) := (cell_of_row wb _ 6 _ _ (0, 0) eb).trans rfl
            have b7 : wb.cell? ⟨wr.heap.size, 7, none⟩ = some (.int .i64 m.low) := (cell_of_row wb _ 7 _ _ (0, 0) eb).trans rfl
            have b8 : wb.cell? ⟨wr.heap.size, 8, none⟩ = some (.int .i64 m.high) := (cell_of_row wb _ 8 _ _ (0, 0) eb).trans rfl
            have b9 : wb.cell? ⟨wr.heap.size, 9, none⟩ = some (.float .f64 m.real) := (cell_of_row wb _ 9 _ _ (0, 0) eb).trans rfl
            have b10 : wb.cell? ⟨wr.heap.size, 10, none⟩ = some (.int .i64 m.cap) := (cell_of_row wb _ 10 _ _ (0, 0) eb).trans rfl
            have b11 : wb.cell? ⟨wr.heap.size, 11, none⟩ = some (.string m.text) := (cell_of_row wb _ 11 _ _ (0, 0) eb).trans rfl
            have b12 : wb.cell? ⟨wr.heap.size, 12, none⟩ = some (.slice RA m.list.length rc) := (cell_of_row wb _ 12 _ _ (0, 0) eb).trans rfl
            have b13 : wb.cell? ⟨wr.heap.size, 13, none⟩ = some (.bool must) := (cell_of_row wb _ 13 _ _ (0, 0) eb).trans rfl
            have HBb := Lib.hid (HBq.out.trans (hbb.mono HBq.out.size))
            have Hbb := Lib.hid hbb
            clear hwb eb hbb r0 r1 r2 r3 r4 r5 r6 r7 r8 r9 r10 r11 r12 r13
            have hRb : RowsAt wb.drew := HN.out.below (below_drew HBb.out)
            go_region_held3 (fun w' => w'.cell? ⟨wr.heap.size, 0, none⟩ = some (.int .i64 k) ∧ w'.cell? ⟨wr.heap.size, 1, none⟩ = some (.string key) ∧ w'.cell? ⟨wr.heap.size, 2, none⟩ = some (.int .i64 n) ∧ w'.cell? ⟨wr.heap.size, 3, none⟩ = some (.float .f64 x) ∧ w'.cell? ⟨wr.heap.size, 4, none⟩ = some (.string s) ∧ w'.cell? ⟨wr.heap.size, 5, none⟩ = some (.int .i64 m.kind) ∧ w'.cell? ⟨wr.heap.size, 6, none⟩ = some (.int .i64 m.num) ∧ w'.cell? ⟨wr.heap.size, 7, none⟩ = some (.int .i64 m.low) ∧ w'.cell? ⟨wr.heap.size, 8, none⟩ = some (.int .i64 m.high) ∧ w'.cell? ⟨wr.heap.size, 9, none⟩ = some (.float .f64 m.real) ∧ w'.cell? ⟨wr.heap.size, 10, none⟩ = some (.int .i64 m.cap) ∧ w'.cell? ⟨wr.heap.size, 11, none⟩ = some (.string m.text) ∧ w'.cell? ⟨wr.heap.size, 12, none⟩ = some (.slice RA m.list.length rc) ∧ w'.cell? ⟨wr.heap.size, 13, none⟩ = some (.bool must))
              (first
                | (go_split_ands; exact ⟨below_keep hb8 (by assumption), below_keep hb8 (by assumption), below_keep hb8 (by assumption), below_keep hb8 (by assumption), below_keep hb8 (by assumption), below_keep hb8 (by assumption), below_keep hb8 (by assumption), below_keep hb8 (by assumption), below_keep hb8 (by assumption), below_keep hb8 (by assumption), below_keep hb8 (by assumption), below_keep hb8 (by assumption), below_keep hb8 (by assumption), below_keep hb8 (by assumption)⟩)
                | (go_split_ands; exact ⟨hk7.cell (by assumption) hnq, hk7.cell (by assumption) hnq, hk7.cell (by assumption) hnq, hk7.cell (by assumption) hnq, hk7.cell (by assumption) hnq, hk7.cell (by assumption) hnq, hk7.cell (by assumption) hnq, hk7.cell (by assumption) hnq, hk7.cell (by assumption) hnq, hk7.cell (by assumption) hnq, hk7.cell (by assumption) hnq, hk7.cell (by assumption) hnq, hk7.cell (by assumption) hnq, hk7.cell (by assumption) hnq⟩)
                | (go_split_ands; exact ⟨by assumption, by assumption, by assumption, by assumption, by assumption, by assumption, by assumption, by assumption, by assumption, by assumption, by assumption, by assumption, by assumption, by assumption⟩))
              (first
                | (go_at_call 33; refine (HX.out _ hrb hRb).mono ?_; rintro e w7 ⟨A7, c7, rfl, ho7, hn7, hr7, hk7⟩; have hB7 : Below w.heap.size w w7 := (below_drew HBb.out).trans (hk7.below (Below.size (below_drew HBb.out)) (fun j hj e => by have e' : j = q := e; omega)))
                | (go_at_call 27; refine (HQ.out _ A7 c7 (Its.own ho7) (Hin.out.make.its.below hB7)).mono ?_; rintro e w8 ⟨rfl, hb8⟩))
            go_wp2_with fail
            go_roundw
            case rel => exact ⟨i + 1, by go_num, by omega, by rw [Hlen.out]; exact hr7.keep (Kp.of_below hb8 (fun _ => False)) (fun h => h) (fun _ _ h => h), hB7.trans (hb8.mono hB7.size)⟩
            case measure => simp [intOf]; omega
          · have hi2 : i = l.length := by omega
            subst hi2
            have hz : (actsB l).length - (actsB (l.take l.length)).length = 0 := by rw [Hall.out]; omega
            have Hz := Lib.hid hz
            clear hz
            go_wp2_with fail
            refine (left_any q A6 c6 (actsB l) _ _ Hrd.out).mono ?_
            rw [Hz.out]
            rintro e w9 ⟨rfl, m, rfl⟩
            go_wp2_with fail
            go_ret
            exact ⟨rfl, below_drewN HBq.out _⟩

end Go.Proofs.YtafjginegipakaaDoor
