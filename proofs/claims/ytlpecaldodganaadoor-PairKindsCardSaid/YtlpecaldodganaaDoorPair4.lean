/- Contracts of package pair: acts and records among which a case is sought. -/
import Derived.Test.YtlpecaldodganaaDoorRuW
import Derived.Test.YtlpecaldodganaaDoorSpF
namespace Go.Proofs.YtlpecaldodganaaDoor
open Go.RowKit MM
set_option linter.unusedVariables false
set_option linter.unusedSimpArgs false

def RU.sA : ByteArray := ⟨#[97]⟩
def RU.sB : ByteArray := ⟨#[98]⟩
/-- An act without a kind and a key. -/
def RU.bar (n : Int) (x : Nat) (s : ByteArray) (m : RC.Rc) : AC.Ac := ⟨0, ⟨#[]⟩, n, x, s, m, false⟩
def RU.bareP (k : Int) : List AC.Ac :=
  if k = 1 then [RU.bar 0 0 ⟨#[]⟩ ⟨1, 0, 0, 0, 0, 0, ⟨#[]⟩, []⟩]
  else if k = 5 ∨ k = 6 ∨ k = 18 then [RU.bar 0 0 RU.sA RC.zero, RU.bar 0 0 RU.sB RC.zero]
  else if k = 19 ∨ k = 20 then [RU.bar 0 0 RU.sA RC.zero]
  else if k = 8 then [RU.bar 1 0 ⟨#[]⟩ RC.zero, RU.bar (-1) 0 ⟨#[]⟩ RC.zero]
  else if k = 9 then [RU.bar 9223372036854775807 0 ⟨#[]⟩ RC.zero]
  else if k = 7 ∨ k = 10 ∨ k = 11 ∨ k = 12 then [RU.bar 1 0 ⟨#[]⟩ RC.zero]
  else if k = 13 then [RU.bar 0 4607182418800017408 ⟨#[]⟩ RC.zero]
  else if k = 14 then [RU.bar 0 13830554455654793216 ⟨#[]⟩ RC.zero]
  else if k = 15 then [RU.bar 0 9218868437227405311 ⟨#[]⟩ RC.zero, RU.bar 0 18442240474082181119 ⟨#[]⟩ RC.zero]
  else if k = 16 ∨ k = 17 then [RU.bar 0 4611686018427387904 ⟨#[]⟩ RC.zero, RU.bar 0 4602678819172646912 ⟨#[]⟩ RC.zero]
  else if k = 21 then [RU.bar 0 4607182418800017408 RU.sA RC.zero]
  else [RU.bar 0 0 ⟨#[]⟩ RC.zero]
def RU.named (k : Int) (a : AC.Ac) : AC.Ac := { a with kind := k, key := RU.sA }
def RU.pacts (k : Int) : List AC.Ac := (RU.bareP k).map (RU.named k)
/-- What bare answers. -/
def BarePost (l : List AC.Ac) (w : World) (e : Ending) (w' : World) : Prop :=
  (∃ a, l = [a] ∧ e = .returned (.slice (some ⟨w.heap.size, 0, none⟩) 1 1) ∧ w' = w.alloc (.cells (actC a none 0) 33)) ∨ (∃ a b, l = [a, b] ∧ e = .returned (.slice (some ⟨w.heap.size, 0, none⟩) 2 2) ∧ w' = w.alloc (.cells (actC2 a none 0 b none 0) 33))

set_option maxHeartbeats 4000000 in
set_option maxRecDepth 100000 in
theorem pbare_any (k : Int) (w : World) (hk : 1 ≤ k ∧ k ≤ 21) : Calls Tryd.prog 27 #[.int .i64 k] w (BarePost (RU.bareP k) w) := by
  have hx : k = 1 ∨ k = 2 ∨ k = 3 ∨ k = 4 ∨ k = 5 ∨ k = 6 ∨ k = 7 ∨ k = 8 ∨ k = 9 ∨ k = 10 ∨ k = 11 ∨ k = 12 ∨ k = 13 ∨ k = 14 ∨ k = 15 ∨ k = 16 ∨ k = 17 ∨ k = 18 ∨ k = 19 ∨ k = 20 ∨ k = 21 := by omega
  clear hk
  rcases hx with rfl | rfl | rfl | rfl | rfl | rfl | rfl | rfl | rfl | rfl | rfl | rfl | rfl | rfl | rfl | rfl | rfl | rfl | rfl | rfl | rfl
  · go_enter Tryd.func27, Tryd.ntmps27
    go_wp2_with fail
    go_ret
    exact .inl ⟨_, rfl, rfl, rfl⟩
  · go_enter Tryd.func27, Tryd.ntmps27
    go_wp2_with fail
    go_ret
    exact .inl ⟨_, rfl, rfl, rfl⟩
  · go_enter Tryd.func27, Tryd.ntmps27
    go_wp2_with fail
    go_ret
    exact .inl ⟨_, rfl, rfl, rfl⟩
  · go_enter Tryd.func27, Tryd.ntmps27
    go_wp2_with fail
    go_ret
    exact .inl ⟨_, rfl, rfl, rfl⟩
  · go_enter Tryd.func27, Tryd.ntmps27
    go_wp2_with fail
    go_ret
    exact .inr ⟨_, _, rfl, rfl, rfl⟩
  · go_enter Tryd.func27, Tryd.ntmps27
    go_wp2_with fail
    go_ret
    exact .inr ⟨_, _, rfl, rfl, rfl⟩
  · go_enter Tryd.func27, Tryd.ntmps27
    go_wp2_with fail
    go_ret
    exact .inl ⟨_, rfl, rfl, rfl⟩
  · go_enter Tryd.func27, Tryd.ntmps27
    go_wp2_with fail
    go_ret
    exact .inr ⟨_, _, rfl, rfl, rfl⟩
  · go_enter Tryd.func27, Tryd.ntmps27
    go_wp2_with fail
    go_ret
    exact .inl ⟨_, rfl, rfl, rfl⟩
  · go_enter Tryd.func27, Tryd.ntmps27
    go_wp2_with fail
    go_ret
    exact .inl ⟨_, rfl, rfl, rfl⟩
  · go_enter Tryd.func27, Tryd.ntmps27
    go_wp2_with fail
    go_ret
    exact .inl ⟨_, rfl, rfl, rfl⟩
  · go_enter Tryd.func27, Tryd.ntmps27
    go_wp2_with fail
    go_ret
    exact .inl ⟨_, rfl, rfl, rfl⟩
  · go_enter Tryd.func27, Tryd.ntmps27
    go_wp2_with fail
    go_ret
    exact .inl ⟨_, rfl, rfl, rfl⟩
  · go_enter Tryd.func27, Tryd.ntmps27
    go_wp2_with fail
    go_ret
    exact .inl ⟨_, rfl, rfl, rfl⟩
  · go_enter Tryd.func27, Tryd.ntmps27
    go_wp2_with fail
    go_ret
    exact .inr ⟨_, _, rfl, rfl, rfl⟩
  · go_enter Tryd.func27, Tryd.ntmps27
    go_wp2_with fail
    go_ret
    exact .inr ⟨_, _, rfl, rfl, rfl⟩
  · go_enter Tryd.func27, Tryd.ntmps27
    go_wp2_with fail
    go_ret
    exact .inr ⟨_, _, rfl, rfl, rfl⟩
  · go_enter Tryd.func27, Tryd.ntmps27
    go_wp2_with fail
    go_ret
    exact .inr ⟨_, _, rfl, rfl, rfl⟩
  · go_enter Tryd.func27, Tryd.ntmps27
    go_wp2_with fail
    go_ret
    exact .inl ⟨_, rfl, rfl, rfl⟩
  · go_enter Tryd.func27, Tryd.ntmps27
    go_wp2_with fail
    go_ret
    exact .inl ⟨_, rfl, rfl, rfl⟩
  · go_enter Tryd.func27, Tryd.ntmps27
    go_wp2_with fail
    go_ret
    exact .inl ⟨_, rfl, rfl, rfl⟩

/-- Acts without lists. -/
def okA (a : AC.Ac) : Bool := (Lit.int .i64 a.kind).wf && (Lit.int .i64 a.n).wf && decide (a.x < 18446744073709551616) && (decide (a.make.kind = 0 ∨ a.make.kind = 1) && decide (a.make.num = 0 ∧ a.make.low = 0 ∧ a.make.high = 0 ∧ a.make.real = 0 ∧ a.make.cap = 0 ∧ a.make.text.size = 0 ∧ a.make.list.length = 0)) && decide (a.key.size ≤ 24) && decide (a.s.size ≤ 24)
theorem okA_in {a : AC.Ac} (h : okA a = true) (w : World) : ActIn w a none 0 ∧ Lim a.make.list.length ∧ Lim a.key.size ∧ Lim a.s.size := by
  unfold okA at h
  simp only [Bool.and_eq_true, decide_eq_true_eq] at h
  obtain ⟨⟨⟨⟨⟨h1, h2⟩, h3⟩, h4, m1, m2, m3, m4, m5, m6, m7⟩, h5⟩, h6⟩ := h
  have m7 := List.length_eq_zero_iff.1 m7
  have hm : a.make.ok ∧ a.make.list = [] ∧ a.make.text.size = 0 := by
    refine ⟨⟨?_, by rw [m1]; rfl, by rw [m2]; rfl, by rw [m3]; rfl, by rw [m4]; unfold MF.W64; decide, by rw [m5]; rfl, fun x h => by rw [m7] at h; cases h⟩, m7, m6⟩
    rcases h4 with h4 | h4 <;> rw [h4] <;> rfl
  refine ⟨⟨⟨h1, h2, by unfold MF.W64; omega, hm.1⟩, ⟨hm.1, .inl hm.2.1, by rw [hm.2.1]; exact Nat.zero_le _, by rw [hm.2.2]; exact Nat.zero_le _, fun x hx => by rw [hm.2.1] at hx; cases hx⟩, by unfold maxLen; omega, by unfold maxLen; omega⟩, by rw [hm.2.1]; unfold Lim; show (0 : Nat) < _; omega, by unfold Lim; omega, by unfold Lim; omega⟩
theorem pacts_okA {k : Int} (hk : 1 ≤ k ∧ k ≤ 21) : ∀ a ∈ RU.pacts k, okA a = true := by
  have hx : k = 1 ∨ k = 2 ∨ k = 3 ∨ k = 4 ∨ k = 5 ∨ k = 6 ∨ k = 7 ∨ k = 8 ∨ k = 9 ∨ k = 10 ∨ k = 11 ∨ k = 12 ∨ k = 13 ∨ k = 14 ∨ k = 15 ∨ k = 16 ∨ k = 17 ∨ k = 18 ∨ k = 19 ∨ k = 20 ∨ k = 21 := by omega
  refine List.all_eq_true.1 ?_
  rcases hx with rfl | rfl | rfl | rfl | rfl | rfl | rfl | rfl | rfl | rfl | rfl | rfl | rfl | rfl | rfl | rfl | rfl | rfl | rfl | rfl | rfl <;> decide +kernel
theorem pacts_len {k : Int} : (RU.pacts k).length ≤ 2 := by
  unfold RU.pacts RU.bareP
  rw [List.length_map]
  repeat' split
  all_goals simp
/-- What acts answers. -/
def PActsPost (l : List AC.Ac) (w : World) (e : Ending) (w' : World) : Prop :=
  ∃ L cl, e = .returned (.slice L l.length cl) ∧ ActsIn w' L (l.map fun a => ⟨a, none, 0⟩) ∧ Below w.heap.size w w'

set_option maxHeartbeats 4000000 in
set_option maxRecDepth 100000 in
theorem pacts_any (k : Int) (w : World) (hk : 1 ≤ k ∧ k ≤ 21) : Calls Tryd.prog 21 #[.int .i64 k] w (PActsPost (RU.pacts k) w) := by
  have HB := Lib.hid (pbare_any k w hk)
  have HO := Lib.hid (pacts_okA hk)
  have HL := Lib.hid (show RU.pacts k = (RU.bareP k).map (RU.named k) from rfl)
  clear hk
  generalize RU.pacts k = P at *
  generalize RU.bareP k = l at *
  go_enter Tryd.func21, Tryd.ntmps21
  go_wp2_with fail
  refine HB.out.mono ?_
  rintro e w1 (⟨a, rfl, rfl, rfl⟩ | ⟨a, b, rfl, rfl, rfl⟩)
  · have e1 := heap_alloc_new w (.cells (actC a none 0) 33)
    have hb1 := below1 w (.cells (actC a none 0) 33)
    generalize World.alloc w _ = w1 at *
    have E1 := Lib.hid e1
    have HB1 := Lib.hid hb1
    clear e1 hb1 HB
    go_wp2_with fail
    go_loopw [9] (fun t9 wr => ∃ i : Nat, t9 = .int .i64 i ∧ i ≤ 1 ∧ wr.heap[w.heap.size]? = some (.cells (if i = 0 then actC a none 0 else actC (RU.named k a) none 0) 33 (0, 0)) ∧ Kp (fun j => j = w.heap.size) w1 wr) (fun t9 _ => 1 - (intOf t9).toNat)
    case atStart => exact ⟨0, rfl, by omega, E1.out, Kp.refl _ _⟩
    case round =>
      obtain ⟨i, rfl, hi, hrow, hk⟩ := hrel
      have HR := Lib.hid hrow
      have HK := Lib.hid hk
      rcases i with _ | _ | i
      · have f0 : ∀ o, wr.frozen? ⟨w.heap.size, o, none⟩ = false := fun o => frozen_of_row _ _ o _ _ hrow
        have d0 := fun o => cell_of_row wr _ o _ _ (0, 0) hrow
        rw [if_pos rfl] at d0
        clear hrow hk
        go_wp2_with fail
        go_roundw
        case rel => exact ⟨1, by go_num, by omega, (heap_setCell_same _ _ _ _ _ _ (heap_setCell_same _ _ _ _ _ _ HR.out)).trans rfl, (HK.out.setCell (Or.inl rfl) _).setCell (Or.inl rfl) _⟩
        case measure => simp [intOf]
      · clear hrow hk
        go_wp2_with fail
        go_ret
        have ho := (okA_in (HO.out _ (by rw [HL.out]; exact List.mem_cons_self ..)) wr).1
        rw [HL.out]
        refine ⟨_, _, rfl, ⟨.inr ⟨w.heap.size, 0, rfl, lt_of_heap HR.out, fun j x hj i v hv => ?_⟩, fun x hx => ?_, by unfold maxLen; simp⟩, ?_⟩
        · rcases j with _ | j
          · simp at hj
            subst hj
            rw [show 0 + 0 * 14 + i = i by omega, cell_of_row _ _ i _ _ (0, 0) HR.out]
            exact hv
          · simp at hj
        · simp at hx
          subst hx
          exact ho
        · exact HB1.out.trans (HK.out.below HB1.out.size (fun i hi x => by omega))
      · omega
  · have e1 := heap_alloc_new w (.cells (actC2 a none 0 b none 0) 33)
    have hb1 := below1 w (.cells (actC2 a none 0 b none 0) 33)
    generalize World.alloc w _ = w1 at *
    have E1 := Lib.hid e1
    have HB1 := Lib.hid hb1
    clear e1 hb1 HB
    go_wp2_with fail
    go_loopw [9] (fun t9 wr => ∃ i : Nat, t9 = .int .i64 i ∧ i ≤ 2 ∧ wr.heap[w.heap.size]? = some (.cells (if i = 0 then actC2 a none 0 b none 0 else if i = 1 then actC2 (RU.named k a) none 0 b none 0 else actC2 (RU.named k a) none 0 (RU.named k b) none 0) 33 (0, 0)) ∧ Kp (fun j => j = w.heap.size) w1 wr) (fun t9 _ => 2 - (intOf t9).toNat)
    case atStart => exact ⟨0, rfl, by omega, E1.out, Kp.refl _ _⟩
    case round =>
      obtain ⟨i, rfl, hi, hrow, hk⟩ := hrel
      have HR := Lib.hid hrow
      have HK := Lib.hid hk
      rcases i with _ | _ | _ | i
      · have f0 : ∀ o, wr.frozen? ⟨w.heap.size, o, none⟩ = false := fun o => frozen_of_row _ _ o _ _ hrow
        have d0 := fun o => cell_of_row wr _ o _ _ (0, 0) hrow
        rw [if_pos rfl] at d0
        clear hrow hk
        go_wp2_with fail
        go_roundw
        case rel => exact ⟨1, by go_num, by omega, (heap_setCell_same _ _ _ _ _ _ (heap_setCell_same _ _ _ _ _ _ HR.out)).trans rfl, (HK.out.setCell (Or.inl rfl) _).setCell (Or.inl rfl) _⟩
        case measure => simp [intOf]
      · have f0 : ∀ o, wr.frozen? ⟨w.heap.size, o, none⟩ = false := fun o => frozen_of_row _ _ o _ _ hrow
        have d0 := fun o => cell_of_row wr _ o _ _ (0, 0) hrow
        rw [if_neg (by omega), if_pos rfl] at d0
        clear hrow hk
        go_wp2_with fail
        go_roundw
        case rel => exact ⟨2, by go_num, by omega, (heap_setCell_same _ _ _ _ _ _ (heap_setCell_same _ _ _ _ _ _ HR.out)).trans rfl, (HK.out.setCell (Or.inl rfl) _).setCell (Or.inl rfl) _⟩
        case measure => simp [intOf]
      · clear hrow hk
        go_wp2_with fail
        go_ret
        have ho := (okA_in (HO.out (RU.named k a) (by rw [HL.out]; simp)) wr).1
        have ho2 := (okA_in (HO.out (RU.named k b) (by rw [HL.out]; simp)) wr).1
        rw [HL.out]
        refine ⟨_, _, rfl, ⟨.inr ⟨w.heap.size, 0, rfl, lt_of_heap HR.out, fun j x hj i v hv => ?_⟩, fun x hx => ?_, by unfold maxLen; simp⟩, ?_⟩
        · rcases j with _ | _ | j
          · simp at hj
            subst hj
            have hi := (Array.getElem?_eq_some_iff.1 hv).1
            have hi : i < 14 := hi
            rw [show 0 + 0 * 14 + i = i by omega, cell_of_row _ _ i _ _ (0, 0) HR.out]
            rcases i with _ | _ | _ | _ | _ | _ | _ | _ | _ | _ | _ | _ | _ | _ | i <;> first | exact hv | omega
          · simp at hj
            subst hj
            have hi := (Array.getElem?_eq_some_iff.1 hv).1
            have hi : i < 14 := hi
            rw [show 0 + (0 + 1) * 14 + i = i + 14 by omega, cell_of_row _ _ _ _ _ (0, 0) HR.out]
            rcases i with _ | _ | _ | _ | _ | _ | _ | _ | _ | _ | _ | _ | _ | _ | i <;> first | exact hv | omega
          · simp at hj
        · simp at hx
          rcases hx with rfl | rfl
          · exact ho
          · exact ho2
        · exact HB1.out.trans (HK.out.below HB1.out.size (fun i hi x => by omega))
      · omega

end Go.Proofs.YtlpecaldodganaaDoor
