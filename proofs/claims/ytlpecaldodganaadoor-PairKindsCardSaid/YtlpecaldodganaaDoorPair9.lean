/- Contracts of package pair: which acts, and rows of acts, change places. -/
import Derived.Test.YtlpecaldodganaaDoorPair1
import Derived.Test.YtlpecaldodganaaDoorOpn4rm
import Derived.Deep.MidRow
import Derived.Deep.WholeRow
import Derived.Laws.Rows
namespace Go.Proofs.YtlpecaldodganaaDoor
open Go.RowKit MM
set_option linter.unusedVariables false
set_option linter.unusedSimpArgs false

def RU.comm (a b : AC.Ac) : Bool := !RC.strEq a.key b.key || RU.kinds6 a.kind b.kind

set_option maxHeartbeats 2000000 in
theorem pcommute_any (a b : AC.Ac) (A B : Option Addr) (c d : Nat) (w : World) (hR : RowsAt w) :
    Calls Tryd.prog 9 #[actV a A c, actV b B d] w fun e w' => e = .returned (.bool (RU.comm a b)) ∧ Below w.heap.size w w' := by
  have HS := Lib.hid (fun u (h : Below w.heap.size w u) => pairKinds_any a.kind b.kind u (hR.below h))
  clear hR
  go_enter Tryd.func9, Tryd.ntmps9
  cases he : RC.strEq a.key b.key
  · have he' : (a.key.toList == b.key.toList) = false := he
    have HV := Lib.hid (show RU.comm a b = true by unfold RU.comm; rw [he]; rfl)
    clear he
    go_wp2_with fail
    go_ret
    exact ⟨by rw [HV.out]; rfl, below2 w _ _⟩
  · have he' : (a.key.toList == b.key.toList) = true := he
    have HV := Lib.hid (show RU.comm a b = RU.kinds6 a.kind b.kind by unfold RU.comm; rw [he]; rfl)
    clear he
    go_wp2_with fail
    refine (HS.out _ (below2 w _ _)).mono ?_
    rintro e w' ⟨rfl, hb⟩
    have HB := Lib.hid (show Below w.heap.size w w' from (below2 w _ _).trans (hb.mono (by simp only [World.size_alloc]; omega)))
    clear hb
    go_wp2_with fail
    go_ret
    exact ⟨by rw [HV.out]; rfl, HB.out⟩

theorem act_inf9 : (Tryd.prog.info? 33).map (fun i => i.size) = some 14 := by kernel_rfl
theorem range_keep9 {w w' : World} {b o : Nat} {cs : List Value} (hb : Below w.heap.size w w') (h : w.rangeAt b o cs) : w'.rangeAt b o cs := fun j v hv => below_keep hb (h j v hv)
theorem acts_range9 {w : World} {L : Option Addr} {P : List Al} (h : ActsIn w L P) {i : Nat} (hi : i < P.length) : ∃ b off, L = some ⟨b, off, none⟩ ∧ w.rangeAt b (off + i * 14) (actC P[i].r P[i].A P[i].c).toList := by
  rcases h.rows with h0 | ⟨b, off, rfl, hb, hr⟩
  · subst h0
    simp at hi
  · exact ⟨b, off, rfl, fun j v hv => hr i P[i] (List.getElem?_eq_getElem hi) j v (by show (actC P[i].r P[i].A P[i].c)[j]? = some v; rw [← Array.getElem?_toList]; exact hv)⟩
def RU.rows6 (l m : List AC.Ac) : Bool := l.all fun a => m.all fun b => RU.comm a b
theorem all_take {α : Type} {l : List α} {i : Nat} (hi : i < l.length) {f : α → Bool} (h : (l.take i).all f = true) (h2 : f l[i] = true) : (l.take (i + 1)).all f = true := by
  rw [List.take_add_one, List.getElem?_eq_getElem hi, List.all_append, h]
  simp [h2]
theorem all_no {α : Type} {l : List α} {i : Nat} (hi : i < l.length) {f : α → Bool} (h2 : f l[i] = false) : l.all f = false := by
  rw [List.all_eq_false]
  exact ⟨l[i], List.getElem_mem hi, by rw [h2]; simp⟩

set_option maxHeartbeats 8000000 in
set_option maxRecDepth 100000 in
theorem prows_any (l m : List Al) (L M : Option Addr) (cl cm : Nat) (w : World) (hl : ActsIn w L l) (hm : ActsIn w M m) (nl : l.length ≤ 1000) (nm : m.length ≤ 1000) (hR : RowsAt w) :
    Calls Tryd.prog 7 #[.slice L l.length cl, .slice M m.length cm] w fun e w' => e = .returned (.bool (RU.rows6 (l.map (·.r)) (m.map (·.r)))) ∧ Below w.heap.size w w' := by
  have HL := Lib.hid hl
  have HM := Lib.hid hm
  have HC := Lib.hid (fun a b A B c d u (h : Below w.heap.size w u) => pcommute_any a b A B c d u (hR.below h))
  have HV := Lib.hid (show RU.rows6 (l.map (·.r)) (m.map (·.r)) = l.all fun a => m.all fun b => RU.comm a.r b.r by unfold RU.rows6; rw [List.all_map]; congr 1; funext a; show (m.map (·.r)).all _ = _; rw [List.all_map]; rfl)
  clear hl hm hR
  generalize RU.rows6 (l.map (·.r)) (m.map (·.r)) = V at *
  go_enter Tryd.func7, Tryd.ntmps7
  go_wp2_with fail
  go_loopw [11] (fun t11 wr => ∃ i : Nat, t11 = .int .i64 i ∧ i ≤ l.length ∧ ((l.take i).all fun a => m.all fun b => RU.comm a.r b.r) = true ∧ Below w.heap.size w wr) (fun t11 _ => l.length - (intOf t11).toNat)
  case atStart => exact ⟨0, rfl, Nat.zero_le _, rfl, Below.refl _ _⟩
  case round =>
    obtain ⟨i, rfl, hi, hyes, hbr⟩ := hrel
    have HY := Lib.hid hyes
    have BR := Lib.hid hbr
    clear hyes hbr
    by_cases hlt : i < l.length
    · have hi1 : (i : Int) < (l.length : Int) := by omega
      obtain ⟨b1, o1, rfl, hr1⟩ := acts_range9 HL.out hlt
      have HT := Lib.hid (fun (h : (m.all fun b => RU.comm l[i].r b.r) = true) => all_take hlt (f := fun a : Al => m.all fun b => RU.comm a.r b.r) HY.out h)
      have HF := Lib.hid (fun (h : (m.all fun b => RU.comm l[i].r b.r) = false) => all_no hlt (f := fun a : Al => m.all fun b => RU.comm a.r b.r) h)
      generalize l[i] = a at *
      have HR1 := Lib.hid (range_keep9 BR.out hr1)
      clear hr1
      go_wp2_with (first
        | (refine wpList_load_mid rfl _ _ rfl b1 (o1 + i * 14) rfl (actC a.r a.A a.c).toList _ HR1.out Tryd.underlying33 rfl act_inf9 ?_)
        | (refine wpList_store_row rfl _ _ _ rfl _ (actC a.r a.A a.c) rfl rfl 33 _ (heap_alloc_new _ _) act_inf9 rfl (by kernel_rfl) ?_))
      rw [World.setRow_alloc_new]
      generalize hwb : World.alloc wr _ = wb
      have R6 := Lib.hid (show wb.heap[wr.heap.size]? = some (.cells (actC a.r a.A a.c) 33 (0, 0)) by rw [← hwb]; exact heap_alloc_new wr _)
      have BB := Lib.hid (show Below w.heap.size w wb by rw [← hwb]; exact BR.out.trans ((below1 wr _).mono BR.out.size))
      generalize hg6 : wr.heap.size = g6 at *
      clear hwb HR1 hg6
      go_loopw [17] (fun t17 wr => ∃ j : Nat, t17 = .int .i64 j ∧ j ≤ m.length ∧ ((m.take j).all fun b => RU.comm a.r b.r) = true ∧ Below wb.heap.size wb wr) (fun t17 _ => m.length - (intOf t17).toNat)
      case atStart => exact ⟨0, rfl, Nat.zero_le _, rfl, Below.refl _ _⟩
      case round =>
        obtain ⟨j, rfl, hj, hyes, hbr⟩ := hrel
        generalize wr = ws at *
        have HY2 := Lib.hid hyes
        have BR2 := Lib.hid hbr
        clear hyes hbr
        by_cases hlt2 : j < m.length
        · have hj1 : (j : Int) < (m.length : Int) := by omega
          obtain ⟨b2, o2, rfl, hr2⟩ := acts_range9 HM.out hlt2
          have HT2 := Lib.hid (fun (h : RU.comm a.r m[j].r = true) => all_take hlt2 (f := fun b : Al => RU.comm a.r b.r) HY2.out h)
          have HF2 := Lib.hid (fun (h : RU.comm a.r m[j].r = false) => all_no hlt2 (f := fun b : Al => RU.comm a.r b.r) h)
          generalize m[j] = b at *
          have BW := Lib.hid (BB.out.trans (BR2.out.mono BB.out.size))
          have HR2 := Lib.hid (range_keep9 BW.out hr2)
          have R6s := Lib.hid ((BR2.out.block _ (lt_of_heap R6.out)).trans R6.out)
          clear hr2
          go_upto_region 7 with (first
            | (refine wpList_load_mid rfl _ _ rfl b2 (o2 + j * 14) rfl (actC b.r b.A b.c).toList _ HR2.out Tryd.underlying33 rfl act_inf9 ?_)
            | (refine wpList_store_row rfl _ _ _ rfl _ (actC b.r b.A b.c) rfl rfl 33 _ (heap_alloc_new _ _) act_inf9 rfl (by kernel_rfl) ?_))
          rw [World.setRow_alloc_new]
          generalize hwc : World.alloc ws _ = wc
          have R8 := Lib.hid (show wc.heap[ws.heap.size]? = some (.cells (actC b.r b.A b.c) 33 (0, 0)) by rw [← hwc]; exact heap_alloc_new ws _)
          have hbc : Below ws.heap.size ws wc := by rw [← hwc]; exact below1 ws _
          have R6c := Lib.hid ((hbc.block _ (lt_of_heap R6s.out)).trans R6s.out)
          have BC := Lib.hid (BR2.out.trans (hbc.mono BR2.out.size))
          have BWc := Lib.hid (BB.out.trans (BC.out.mono BB.out.size))
          generalize hg8 : ws.heap.size = g8 at *
          clear hwc hbc HR2 hg8 R6s
          go_wp2_with (first
            | (refine wpList_load_row rfl _ _ rfl g6 rfl 33 _ (0, 0) _ R6c.out Tryd.underlying33 rfl act_inf9 ?_)
            | (refine wpList_load_row rfl _ _ rfl g8 rfl 33 _ (0, 0) _ R8.out Tryd.underlying33 rfl act_inf9 ?_))
          refine (HC.out a.r b.r a.A b.A a.c b.c _ BWc.out).mono ?_
          generalize hv : RU.comm a.r b.r = v at *
          rintro e w9 ⟨rfl, hb9⟩
          have B9 := Lib.hid (BC.out.trans (hb9.mono BC.out.size))
          clear hb9
          cases v
          case false =>
            have HVf := Lib.hid (show V = false by rw [HV.out]; exact HF.out (HF2.out (by simp)))
            have BZ := Lib.hid (BB.out.trans (B9.out.mono BB.out.size))
            clear HV
            go_wp2_with fail
            go_ret
            exact ⟨by rw [HVf.out]; rfl, BZ.out⟩
          go_wp2_with fail
          go_roundw
          case rel => exact ⟨j + 1, by go_num, by omega, HT2.out (by simp), B9.out⟩
          case measure => simp [intOf]; omega
        · have hj' : j = m.length := by omega
          have hj1 : ¬ (j : Int) < (m.length : Int) := by omega
          have HAll := Lib.hid (show (m.all fun b => RU.comm a.r b.r) = true by have := HY2.out; rw [hj', List.take_length] at this; exact this)
          have BZ := Lib.hid (BB.out.trans (BR2.out.mono BB.out.size))
          clear hlt2 hj hj'
          go_wp2_with fail
          go_roundw
          case rel => exact ⟨i + 1, by go_num, by omega, HT.out HAll.out, BZ.out⟩
          case measure => simp [intOf]; omega
    · have hi' : i = l.length := by omega
      have hi1 : ¬ (i : Int) < (l.length : Int) := by omega
      have HVt := Lib.hid (show V = true by rw [HV.out]; have := HY.out; rw [hi', List.take_length] at this; exact this)
      clear hlt hi hi' HV
      go_wp2_with fail
      go_ret
      exact ⟨by rw [HVt.out]; rfl, BR.out⟩

end Go.Proofs.YtlpecaldodganaaDoor
