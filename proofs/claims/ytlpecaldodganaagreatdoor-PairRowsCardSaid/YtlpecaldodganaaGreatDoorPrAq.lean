/- Contracts of package pair: acts and records among which a case is sought. -/
import Derived.Test.YtlpecaldodganaaGreatDoorRuWq
import Derived.Test.YtlpecaldodganaaGreatDoorSpFq
import Derived.Test.YtlpecaldodganaaGreatDoorActMq
namespace Go.Proofs.YtlpecaldodganaaGreatDoor
open Go.RowKit MM
set_option linter.unusedVariables false
set_option linter.unusedSimpArgs false
def RU.sA : ByteArray := ⟨#[97]⟩
def RU.sB : ByteArray := ⟨#[98]⟩
/-- An act without a kind and a key. -/
def RU.bar (n : Int) (x : Nat) (s : ByteArray) (m : RC.Rc) : AC.Ac := ⟨0, ⟨#[]⟩, n, x, s, m, false⟩
def RU.bareP (k : Int) : List AC.Ac :=
  if k = 1 then [RU.bar 0 0 ⟨#[]⟩ ⟨1, 0, 0, 0, 0, 0, ⟨#[]⟩, []⟩]
  else if k = 5 ∨ k = 6 ∨ k = 18 then [RU.bar 0 0 RU.sA RC.zero, RU.bar 0 0 RU.sB RC.zero]
  else if k = 19 ∨ k = 20 then [RU.bar 0 0 RU.sA RC.zero]
  else if k = 8 then [RU.bar 1 0 ⟨#[]⟩ RC.zero, RU.bar (-1) 0 ⟨#[]⟩ RC.zero]
  else if k = 9 then [RU.bar 9223372036854775807 0 ⟨#[]⟩ RC.zero]
  else if k = 7 ∨ k = 10 ∨ k = 11 ∨ k = 12 then [RU.bar 1 0 ⟨#[]⟩ RC.zero]
  else if k = 13 then [RU.bar 0 4607182418800017408 ⟨#[]⟩ RC.zero]
  else if k = 14 then [RU.bar 0 13830554455654793216 ⟨#[]⟩ RC.zero]
  else if k = 15 then [RU.bar 0 9218868437227405311 ⟨#[]⟩ RC.zero, RU.bar 0 18442240474082181119 ⟨#[]⟩ RC.zero]
  else if k = 16 ∨ k = 17 then [RU.bar 0 4611686018427387904 ⟨#[]⟩ RC.zero, RU.bar 0 4602678819172646912 ⟨#[]⟩ RC.zero]
  else if k = 21 then [RU.bar 0 4607182418800017408 RU.sA RC.zero]
  else [RU.bar 0 0 ⟨#[]⟩ RC.zero]
def RU.named (k : Int) (a : AC.Ac) : AC.Ac := { a with kind := k, key := RU.sA }
def RU.pacts (k : Int) : List AC.Ac := (RU.bareP k).map (RU.named k)
/-- What bare answers. -/
def BarePost (l : List AC.Ac) (w : World) (e : Ending) (w' : World) : Prop :=
  (∃ a, l = [a] ∧ e = .returned (.slice (some ⟨w.heap.size, 0, none⟩) 1 1) ∧ w' = w.alloc (.cells (actC a none 0) 27)) ∨ (∃ a b, l = [a, b] ∧ e = .returned (.slice (some ⟨w.heap.size, 0, none⟩) 2 2) ∧ w' = w.alloc (.cells (actC2 a none 0 b none 0) 27))
set_option maxHeartbeats 4000000 in
set_option maxRecDepth 100000 in
theorem pbare_any (k : Int) (w : World) (hk : 1 ≤ k ∧ k ≤ 21) : Calls Tryz.prog 106 #[.int .i64 k] w (BarePost (RU.bareP k) w) := by
  have hx : k = 1 ∨ k = 2 ∨ k = 3 ∨ k = 4 ∨ k = 5 ∨ k = 6 ∨ k = 7 ∨ k = 8 ∨ k = 9 ∨ k = 10 ∨ k = 11 ∨ k = 12 ∨ k = 13 ∨ k = 14 ∨ k = 15 ∨ k = 16 ∨ k = 17 ∨ k = 18 ∨ k = 19 ∨ k = 20 ∨ k = 21 := by omega
  clear hk
  rcases hx with rfl | rfl | rfl | rfl | rfl | rfl | rfl | rfl | rfl | rfl | rfl | rfl | rfl | rfl | rfl | rfl | rfl | rfl | rfl | rfl | rfl
  · go_enter Tryz.func106, Tryz.ntmps106
    go_wp2_with fail
    go_ret
    exact .inl ⟨_, rfl, rfl, rfl⟩
  · go_enter Tryz.func106, Tryz.ntmps106
    go_wp2_with fail
    go_ret
    exact .inl ⟨_, rfl, rfl, rfl⟩
  · go_enter Tryz.func106, Tryz.ntmps106
    go_wp2_with fail
    go_ret
    exact .inl ⟨_, rfl, rfl, rfl⟩
  · go_enter Tryz.func106, Tryz.ntmps106
    go_wp2_with fail
    go_ret
    exact .inl ⟨_, rfl, rfl, rfl⟩
  · go_enter Tryz.func106, Tryz.ntmps106
    go_wp2_with fail
    go_ret
    exact .inr ⟨_, _, rfl, rfl, rfl⟩
  · go_enter Tryz.func106, Tryz.ntmps106
    go_wp2_with fail
    go_ret
    exact .inr ⟨_, _, rfl, rfl, rfl⟩
  · go_enter Tryz.func106, Tryz.ntmps106
    go_wp2_with fail
    go_ret
    exact .inl ⟨_, rfl, rfl, rfl⟩
  · go_enter Tryz.func106, Tryz.ntmps106
    go_wp2_with fail
    go_ret
    exact .inr ⟨_, _, rfl, rfl, rfl⟩
  · go_enter Tryz.func106, Tryz.ntmps106
    go_wp2_with fail
    go_ret
    exact .inl ⟨_, rfl, rfl, rfl⟩
  · go_enter Tryz.func106, Tryz.ntmps106
    go_wp2_with fail
    go_ret
    exact .inl ⟨_, rfl, rfl, rfl⟩
  · go_enter Tryz.func106, Tryz.ntmps106
    go_wp2_with fail
    go_ret
    exact .inl ⟨_, rfl, rfl, rfl⟩
  · go_enter Tryz.func106, Tryz.ntmps106
    go_wp2_with fail
    go_ret
    exact .inl ⟨_, rfl, rfl, rfl⟩
  · go_enter Tryz.func106, Tryz.ntmps106
    go_wp2_with fail
    go_ret
    exact .inl ⟨_, rfl, rfl, rfl⟩
  · go_enter Tryz.func106, Tryz.ntmps106
    go_wp2_with fail
    go_ret
    exact .inl ⟨_, rfl, rfl, rfl⟩
  · go_enter Tryz.func106, Tryz.ntmps106
    go_wp2_with fail
    go_ret
    exact .inr ⟨_, _, rfl, rfl, rfl⟩
  · go_enter Tryz.func106, Tryz.ntmps106
    go_wp2_with fail
    go_ret
    exact .inr ⟨_, _, rfl, rfl, rfl⟩
  · go_enter Tryz.func106, Tryz.ntmps106
    go_wp2_with fail
    go_ret
    exact .inr ⟨_, _, rfl, rfl, rfl⟩
  · go_enter Tryz.func106, Tryz.ntmps106
    go_wp2_with fail
    go_ret
    exact .inr ⟨_, _, rfl, rfl, rfl⟩
  · go_enter Tryz.func106, Tryz.ntmps106
    go_wp2_with fail
    go_ret
    exact .inl ⟨_, rfl, rfl, rfl⟩
  · go_enter Tryz.func106, Tryz.ntmps106
    go_wp2_with fail
    go_ret
    exact .inl ⟨_, rfl, rfl, rfl⟩
  · go_enter Tryz.func106, Tryz.ntmps106
    go_wp2_with fail
    go_ret
    exact .inl ⟨_, rfl, rfl, rfl⟩
/-- Acts without lists. -/
def okA (a : AC.Ac) : Bool := (Lit.int .i64 a.kind).wf && (Lit.int .i64 a.n).wf && decide (a.x < 18446744073709551616) && (decide (a.make.kind = 0 ∨ a.make.kind = 1) && decide (a.make.num = 0 ∧ a.make.low = 0 ∧ a.make.high = 0 ∧ a.make.real = 0 ∧ a.make.cap = 0 ∧ a.make.text.size = 0 ∧ a.make.list.length = 0)) && decide (a.key.size ≤ 24) && decide (a.s.size ≤ 24)
theorem okA_in {a : AC.Ac} (h : okA a = true) (w : World) : ActIn w a none 0 ∧ Lim a.make.list.length ∧ Lim a.key.size ∧ Lim a.s.size := by
  unfold okA at h
  simp only [Bool.and_eq_true, decide_eq_true_eq] at h
  obtain ⟨⟨⟨⟨⟨h1, h2⟩, h3⟩, h4, m1, m2, m3, m4, m5, m6, m7⟩, h5⟩, h6⟩ := h
  have m7 := List.length_eq_zero_iff.1 m7
  have hm : a.make.ok ∧ a.make.list = [] ∧ a.make.text.size = 0 := by
    refine ⟨⟨?_, by rw [m1]; rfl, by rw [m2]; rfl, by rw [m3]; rfl, by rw [m4]; unfold MF.W64; decide, by rw [m5]; rfl, fun x h => by rw [m7] at h; cases h⟩, m7, m6⟩
    rcases h4 with h4 | h4 <;> rw [h4] <;> rfl
  refine ⟨⟨⟨h1, h2, by unfold MF.W64; omega, hm.1⟩, ⟨hm.1, .inl hm.2.1, by rw [hm.2.1]; exact Nat.zero_le _, by rw [hm.2.2]; exact Nat.zero_le _, fun x hx => by rw [hm.2.1] at hx; cases hx⟩, by unfold maxLen; omega, by unfold maxLen; omega⟩, by rw [hm.2.1]; unfold Lim; show (0 : Nat) < _; omega, by unfold Lim; omega, by unfold Lim; omega⟩
theorem pacts_okA {k : Int} (hk : 1 ≤ k ∧ k ≤ 21) : ∀ a ∈ RU.pacts k, okA a = true := by
  have hx : k = 1 ∨ k = 2 ∨ k = 3 ∨ k = 4 ∨ k = 5 ∨ k = 6 ∨ k = 7 ∨ k = 8 ∨ k = 9 ∨ k = 10 ∨ k = 11 ∨ k = 12 ∨ k = 13 ∨ k = 14 ∨ k = 15 ∨ k = 16 ∨ k = 17 ∨ k = 18 ∨ k = 19 ∨ k = 20 ∨ k = 21 := by omega
  refine List.all_eq_true.1 ?_
  rcases hx with rfl | rfl | rfl | rfl | rfl | rfl | rfl | rfl | rfl | rfl | rfl | rfl | rfl | rfl | rfl | rfl | rfl | rfl | rfl | rfl | rfl <;> decide +kernel
theorem pacts_len {k : Int} : (RU.pacts k).length ≤ 2 := by
  unfold RU.pacts RU.bareP
  rw [List.length_map]
  repeat' split
  all_goals simp
/-- What acts answers. -/
def PActsPost (l : List AC.Ac) (w : World) (e : Ending) (w' : World) : Prop :=
  ∃ L cl, e = .returned (.slice L l.length cl) ∧ ActsIn w' L (l.map fun a => ⟨a, none, 0⟩) ∧ Below w.heap.size w w'
set_option maxHeartbeats 4000000 in
set_option maxRecDepth 100000 in
theorem pacts_any (k : Int) (w : World) (hk : 1 ≤ k ∧ k ≤ 21) : Calls Tryz.prog 61 #[.int .i64 k] w (PActsPost (RU.pacts k) w) := by
  have HB := Lib.hid (pbare_any k w hk)
  have HO := Lib.hid (pacts_okA hk)
  have HL := Lib.hid (show RU.pacts k = (RU.bareP k).map (RU.named k) from rfl)
  clear hk
  generalize RU.pacts k = P at *
  generalize RU.bareP k = l at *
  go_enter Tryz.func61, Tryz.ntmps61
  go_wp2_with fail
  refine HB.out.mono ?_
  rintro e w1 (⟨a, rfl, rfl, rfl⟩ | ⟨a, b, rfl, rfl, rfl⟩)
  · have e1 := heap_alloc_new w (.cells (actC a none 0) 27)
    have hb1 := below1 w (.cells (actC a none 0) 27)
    generalize World.alloc w _ = w1 at *
    have E1 := Lib.hid e1
    have HB1 := Lib.hid hb1
    clear e1 hb1 HB
    go_wp2_with fail
    go_loopw [9] (fun t9 wr => ∃ i : Nat, t9 = .int .i64 i ∧ i ≤ 1 ∧ wr.heap[w.heap.size]? = some (.cells (if i = 0 then actC a none 0 else actC (RU.named k a) none 0) 27 (0, 0)) ∧ Kp (fun j => j = w.heap.size) w1 wr) (fun t9 _ => 1 - (intOf t9).toNat)
    case atStart => exact ⟨0, rfl, by omega, E1.out, Kp.refl _ _⟩
    case round =>
      obtain ⟨i, rfl, hi, hrow, hk⟩ := hrel
      have HR := Lib.hid hrow
      have HK := Lib.hid hk
      rcases i with _ | _ | i
      · have f0 : ∀ o, wr.frozen? ⟨w.heap.size, o, none⟩ = false := fun o => frozen_of_row _ _ o _ _ hrow
        have d0 := fun o => cell_of_row wr _ o _ _ (0, 0) hrow
        rw [if_pos rfl] at d0
        clear hrow hk
        go_wp2_with fail
        go_roundw
        case rel => exact ⟨1, by go_num, by omega, (heap_setCell_same _ _ _ _ _ _ (heap_setCell_same _ _ _ _ _ _ HR.out)).trans rfl, (HK.out.setCell (Or.inl rfl) _).setCell (Or.inl rfl) _⟩
        case measure => simp [intOf]
      · clear hrow hk
        go_wp2_with fail
        go_ret
        have ho := (okA_in (HO.out _ (by rw [HL.out]; exact List.mem_cons_self ..)) wr).1
        rw [HL.out]
        refine ⟨_, _, rfl, ⟨.inr ⟨w.heap.size, 0, rfl, lt_of_heap HR.out, fun j x hj i v hv => ?_⟩, fun x hx => ?_, by unfold maxLen; simp⟩, ?_⟩
        · rcases j with _ | j
          · simp at hj
            subst hj
            rw [show 0 + 0 * 14 + i = i by omega, cell_of_row _ _ i _ _ (0, 0) HR.out]
            exact hv
          · simp at hj
        · simp at hx
          subst hx
          exact ho
        · exact HB1.out.trans (HK.out.below HB1.out.size (fun i hi x => by omega))
      · omega
  · have e1 := heap_alloc_new w (.cells (actC2 a none 0 b none 0) 27)
    have hb1 := below1 w (.cells (actC2 a none 0 b none 0) 27)
    generalize World.alloc w _ = w1 at *
    have E1 := Lib.hid e1
    have HB1 := Lib.hid hb1
    clear e1 hb1 HB
    go_wp2_with fail
    go_loopw [9] (fun t9 wr => ∃ i : Nat, t9 = .int .i64 i ∧ i ≤ 2 ∧ wr.heap[w.heap.size]? = some (.cells (if i = 0 then actC2 a none 0 b none 0 else if i = 1 then actC2 (RU.named k a) none 0 b none 0 else actC2 (RU.named k a) none 0 (RU.named k b) none 0) 27 (0, 0)) ∧ Kp (fun j => j = w.heap.size) w1 wr) (fun t9 _ => 2 - (intOf t9).toNat)
    case atStart => exact ⟨0, rfl, by omega, E1.out, Kp.refl _ _⟩
    case round =>
      obtain ⟨i, rfl, hi, hrow, hk⟩ := hrel
      have HR := Lib.hid hrow
      have HK := Lib.hid hk
      rcases i with _ | _ | _ | i
      · have f0 : ∀ o, wr.frozen? ⟨w.heap.size, o, none⟩ = false := fun o => frozen_of_row _ _ o _ _ hrow
        have d0 := fun o => cell_of_row wr _ o _ _ (0, 0) hrow
        rw [if_pos rfl] at d0
        clear hrow hk
        go_wp2_with fail
        go_roundw
        case rel => exact ⟨1, by go_num, by omega, (heap_setCell_same _ _ _ _ _ _ (heap_setCell_same _ _ _ _ _ _ HR.out)).trans rfl, (HK.out.setCell (Or.inl rfl) _).setCell (Or.inl rfl) _⟩
        case measure => simp [intOf]
      · have f0 : ∀ o, wr.frozen? ⟨w.heap.size, o, none⟩ = false := fun o => frozen_of_row _ _ o _ _ hrow
        have d0 := fun o => cell_of_row wr _ o _ _ (0, 0) hrow
        rw [if_neg (by omega), if_pos rfl] at d0
        clear hrow hk
        go_wp2_with fail
        go_roundw
        case rel => exact ⟨2, by go_num, by omega, (heap_setCell_same _ _ _ _ _ _ (heap_setCell_same _ _ _ _ _ _ HR.out)).trans rfl, (HK.out.setCell (Or.inl rfl) _).setCell (Or.inl rfl) _⟩
        case measure => simp [intOf]
      · clear hrow hk
        go_wp2_with fail
        go_ret
        have ho := (okA_in (HO.out (RU.named k a) (by rw [HL.out]; simp)) wr).1
        have ho2 := (okA_in (HO.out (RU.named k b) (by rw [HL.out]; simp)) wr).1
        rw [HL.out]
        refine ⟨_, _, rfl, ⟨.inr ⟨w.heap.size, 0, rfl, lt_of_heap HR.out, fun j x hj i v hv => ?_⟩, fun x hx => ?_, by unfold maxLen; simp⟩, ?_⟩
        · rcases j with _ | _ | j
          · simp at hj
            subst hj
            have hi := (Array.getElem?_eq_some_iff.1 hv).1
            have hi : i < 14 := hi
            rw [show 0 + 0 * 14 + i = i by omega, cell_of_row _ _ i _ _ (0, 0) HR.out]
            rcases i with _ | _ | _ | _ | _ | _ | _ | _ | _ | _ | _ | _ | _ | _ | i <;> first | exact hv | omega
          · simp at hj
            subst hj
            have hi := (Array.getElem?_eq_some_iff.1 hv).1
            have hi : i < 14 := hi
            rw [show 0 + (0 + 1) * 14 + i = i + 14 by omega, cell_of_row _ _ _ _ _ (0, 0) HR.out]
            rcases i with _ | _ | _ | _ | _ | _ | _ | _ | _ | _ | _ | _ | _ | _ | i <;> first | exact hv | omega
          · simp at hj
        · simp at hx
          rcases hx with rfl | rfl
          · exact ho
          · exact ho2
        · exact HB1.out.trans (HK.out.below HB1.out.size (fun i hi x => by omega))
      · omega
end Go.Proofs.YtlpecaldodganaaGreatDoor
namespace Go.Proofs.YtlpecaldodganaaGreatDoor
open Go.RowKit MM
set_option linter.unusedVariables false
set_option linter.unusedSimpArgs false
def RU.recsP (k : Int) : List RC.Rc :=
  if k = 3 then [⟨3, 9223372036854775807, 0, 0, 0, 0, ⟨#[]⟩, []⟩]
  else if k = 4 then [⟨4, 0, 0, 1, 0, 0, ⟨#[]⟩, []⟩, ⟨4, 1, 0, 1, 0, 0, ⟨#[]⟩, []⟩]
  else if k = 7 then [⟨7, 0, 0, 0, 9218868437227405311, 0, ⟨#[]⟩, []⟩]
  else if k = 8 then [⟨8, 0, 0, 0, 0, 1, ⟨#[]⟩, []⟩, ⟨8, 0, 0, 0, 0, 1, ⟨#[]⟩, [⟨0, RU.sA⟩]⟩]
  else if k = 9 then [⟨9, 0, 0, 0, 0, 1, ⟨#[]⟩, []⟩]
  else if k = 0 then [⟨1, 0, 0, 0, 0, 0, ⟨#[]⟩, []⟩]
  else [⟨k, 0, 0, 0, 0, 0, ⟨#[]⟩, []⟩]
/-- A record in a row, and where its list lies. -/
structure Rw where
  r : RC.Rc
  A : Option Addr
  c : Nat
def Rw.cells (x : Rw) : Array Value := recC x.r.kind x.r.num x.r.low x.r.high x.r.real x.r.cap x.r.text (.slice x.A x.r.list.length x.c)
/-- Records in a row. -/
def RowsOf (w : World) (L : Option Addr) (l : List Rw) : Prop :=
  ∃ b off, L = some ⟨b, off, none⟩ ∧ b < w.heap.size ∧ ∀ i x, l[i]? = some x → (∀ j v, x.cells[j]? = some v → w.cell? ⟨b, off + i * 8 + j, none⟩ = some v) ∧ Its w x.A x.r.list
def PRecsPost (l : List RC.Rc) (w : World) (e : Ending) (w' : World) : Prop :=
  ∃ L cl rows, e = .returned (.slice L l.length cl) ∧ rows.map (·.r) = l ∧ RowsOf w' L rows ∧ (∀ x ∈ rows, ∀ k, ob x.A = some k → w.heap.size ≤ k ∧ k < w'.heap.size) ∧ (∀ k, ob L = some k → w.heap.size ≤ k) ∧ rows.length ≤ 2 ∧ Below w.heap.size w w'
theorem rows_one (w : World) (r : RC.Rc) (hl : r.list = []) : RowsOf (w.alloc (.cells (recC r.kind r.num r.low r.high r.real r.cap r.text (.slice none r.list.length 0)) 25)) (some ⟨w.heap.size, 0, none⟩) [⟨r, none, 0⟩] := by
  refine ⟨w.heap.size, 0, rfl, by simp, fun i x hi => ?_⟩
  rcases i with _ | i
  · simp at hi
    subst hi
    refine ⟨fun j v hv => ?_, .inl hl⟩
    rw [show 0 + 0 * 8 + j = j by omega, cell_of_row _ _ j _ _ (0, 0) (heap_alloc_new w _)]
    exact hv
  · simp at hi
abbrev recC2 (r : RC.Rc) (A : Option Addr) (c : Nat) (q : RC.Rc) (B : Option Addr) (d : Nat) : Array Value := #[.int .i64 r.kind, .int .i64 r.num, .int .i64 r.low, .int .i64 r.high, .float .f64 r.real, .int .i64 r.cap, .string r.text, .slice A r.list.length c, .int .i64 q.kind, .int .i64 q.num, .int .i64 q.low, .int .i64 q.high, .float .f64 q.real, .int .i64 q.cap, .string q.text, .slice B q.list.length d]
theorem rows_two (w : World) (r q : RC.Rc) (A B : Option Addr) (c d : Nat) (h1 : Its w A r.list) (h2 : Its w B q.list) : RowsOf (w.alloc (.cells (recC2 r A c q B d) 25)) (some ⟨w.heap.size, 0, none⟩) [⟨r, A, c⟩, ⟨q, B, d⟩] := by
  refine ⟨w.heap.size, 0, rfl, by simp, fun i x hi => ?_⟩
  rcases i with _ | _ | i
  · simp at hi
    subst hi
    refine ⟨fun j v hv => ?_, h1.alloc _⟩
    have hj := (Array.getElem?_eq_some_iff.1 hv).1
    have hj : j < 8 := hj
    rw [show 0 + 0 * 8 + j = j by omega, cell_of_row _ _ j _ _ (0, 0) (heap_alloc_new w _)]
    rcases j with _ | _ | _ | _ | _ | _ | _ | _ | j <;> first | exact hv | omega
  · simp at hi
    subst hi
    refine ⟨fun j v hv => ?_, h2.alloc _⟩
    have hj := (Array.getElem?_eq_some_iff.1 hv).1
    have hj : j < 8 := hj
    rw [show 0 + (0 + 1) * 8 + j = j + 8 by omega, cell_of_row _ _ _ _ _ (0, 0) (heap_alloc_new w _)]
    rcases j with _ | _ | _ | _ | _ | _ | _ | _ | j <;> first | exact hv | omega
  · simp at hi
set_option maxHeartbeats 4000000 in
set_option maxRecDepth 100000 in
theorem precords_any (k : Int) (w : World) (hk : 0 ≤ k ∧ k ≤ 9) : Calls Tryz.prog 105 #[.int .i64 k] w (PRecsPost (RU.recsP k) w) := by
  have hx : k = 0 ∨ k = 1 ∨ k = 2 ∨ k = 3 ∨ k = 4 ∨ k = 5 ∨ k = 6 ∨ k = 7 ∨ k = 8 ∨ k = 9 := by omega
  clear hk
  rcases hx with rfl | rfl | rfl | rfl | rfl | rfl | rfl | rfl | rfl | rfl
  · go_enter Tryz.func105, Tryz.ntmps105
    go_wp2_with fail
    go_ret
    exact ⟨_, _, [⟨⟨1, 0, 0, 0, 0, 0, ⟨#[]⟩, []⟩, none, 0⟩], rfl, rfl, rows_one w ⟨1, 0, 0, 0, 0, 0, ⟨#[]⟩, []⟩ rfl, (fun x hx k e => by simp at hx; subst hx; cases e), (fun k e => by injection e with e; have e : w.heap.size = k := e; omega), by simp, below1 w _⟩
  · go_enter Tryz.func105, Tryz.ntmps105
    go_wp2_with fail
    go_ret
    exact ⟨_, _, [⟨⟨1, 0, 0, 0, 0, 0, ⟨#[]⟩, []⟩, none, 0⟩], rfl, rfl, rows_one w ⟨1, 0, 0, 0, 0, 0, ⟨#[]⟩, []⟩ rfl, (fun x hx k e => by simp at hx; subst hx; cases e), (fun k e => by injection e with e; have e : w.heap.size = k := e; omega), by simp, below1 w _⟩
  · go_enter Tryz.func105, Tryz.ntmps105
    go_wp2_with fail
    go_ret
    exact ⟨_, _, [⟨⟨2, 0, 0, 0, 0, 0, ⟨#[]⟩, []⟩, none, 0⟩], rfl, rfl, rows_one w ⟨2, 0, 0, 0, 0, 0, ⟨#[]⟩, []⟩ rfl, (fun x hx k e => by simp at hx; subst hx; cases e), (fun k e => by injection e with e; have e : w.heap.size = k := e; omega), by simp, below1 w _⟩
  · go_enter Tryz.func105, Tryz.ntmps105
    go_wp2_with fail
    go_ret
    exact ⟨_, _, [⟨⟨3, 9223372036854775807, 0, 0, 0, 0, ⟨#[]⟩, []⟩, none, 0⟩], rfl, rfl, rows_one w ⟨3, 9223372036854775807, 0, 0, 0, 0, ⟨#[]⟩, []⟩ rfl, (fun x hx k e => by simp at hx; subst hx; cases e), (fun k e => by injection e with e; have e : w.heap.size = k := e; omega), by simp, below1 w _⟩
  · go_enter Tryz.func105, Tryz.ntmps105
    go_wp2_with fail
    go_ret
    exact ⟨_, _, [⟨⟨4, 0, 0, 1, 0, 0, ⟨#[]⟩, []⟩, none, 0⟩, ⟨⟨4, 1, 0, 1, 0, 0, ⟨#[]⟩, []⟩, none, 0⟩], rfl, rfl, rows_two w ⟨4, 0, 0, 1, 0, 0, ⟨#[]⟩, []⟩ ⟨4, 1, 0, 1, 0, 0, ⟨#[]⟩, []⟩ none none 0 0 (.inl rfl) (.inl rfl), (fun x hx k e => by simp at hx; rcases hx with rfl | rfl <;> cases e), (fun k e => by injection e with e; have e : w.heap.size = k := e; omega), by simp, below1 w _⟩
  · go_enter Tryz.func105, Tryz.ntmps105
    go_wp2_with fail
    go_ret
    exact ⟨_, _, [⟨⟨5, 0, 0, 0, 0, 0, ⟨#[]⟩, []⟩, none, 0⟩], rfl, rfl, rows_one w ⟨5, 0, 0, 0, 0, 0, ⟨#[]⟩, []⟩ rfl, (fun x hx k e => by simp at hx; subst hx; cases e), (fun k e => by injection e with e; have e : w.heap.size = k := e; omega), by simp, below1 w _⟩
  · go_enter Tryz.func105, Tryz.ntmps105
    go_wp2_with fail
    go_ret
    exact ⟨_, _, [⟨⟨6, 0, 0, 0, 0, 0, ⟨#[]⟩, []⟩, none, 0⟩], rfl, rfl, rows_one w ⟨6, 0, 0, 0, 0, 0, ⟨#[]⟩, []⟩ rfl, (fun x hx k e => by simp at hx; subst hx; cases e), (fun k e => by injection e with e; have e : w.heap.size = k := e; omega), by simp, below1 w _⟩
  · go_enter Tryz.func105, Tryz.ntmps105
    go_wp2_with fail
    go_ret
    exact ⟨_, _, [⟨⟨7, 0, 0, 0, 9218868437227405311, 0, ⟨#[]⟩, []⟩, none, 0⟩], rfl, rfl, rows_one w ⟨7, 0, 0, 0, 9218868437227405311, 0, ⟨#[]⟩, []⟩ rfl, (fun x hx k e => by simp at hx; subst hx; cases e), (fun k e => by injection e with e; have e : w.heap.size = k := e; omega), by simp, below1 w _⟩
  · go_enter Tryz.func105, Tryz.ntmps105
    go_wp2_with fail
    go_ret
    refine ⟨_, _, [⟨⟨8, 0, 0, 0, 0, 1, ⟨#[]⟩, []⟩, none, 0⟩, ⟨⟨8, 0, 0, 0, 0, 1, ⟨#[]⟩, [⟨0, RU.sA⟩]⟩, some ⟨w.heap.size, 0, none⟩, 1⟩], rfl, rfl, ?_, (fun x hx k e => by simp at hx; rcases hx with rfl | rfl; cases e; (injection e with e; have e : w.heap.size = k := e; simp only [World.size_alloc]; omega)), (fun k e => by injection e with e; have e : w.heap.size + 1 = k := e; omega), by simp, below2 w _ _⟩
    have h := rows_two (w.alloc (.cells #[.float .f64 0, .string RU.sA] 108)) ⟨8, 0, 0, 0, 0, 1, ⟨#[]⟩, []⟩ ⟨8, 0, 0, 0, 0, 1, ⟨#[]⟩, [⟨0, RU.sA⟩]⟩ none (some ⟨w.heap.size, 0, none⟩) 0 1 (.inl rfl) (.inr ⟨w.heap.size, 0, rfl, by simp, fun i x hi => by
      rcases i with _ | i
      · simp at hi
        subst hi
        exact ⟨(cell_of_row _ _ _ _ _ (0, 0) (heap_alloc_new w _)).trans rfl, (cell_of_row _ _ _ _ _ (0, 0) (heap_alloc_new w _)).trans rfl⟩
      · simp at hi⟩)
    rw [World.size_alloc] at h
    exact h
  · go_enter Tryz.func105, Tryz.ntmps105
    go_wp2_with fail
    go_ret
    exact ⟨_, _, [⟨⟨9, 0, 0, 0, 0, 1, ⟨#[]⟩, []⟩, none, 0⟩], rfl, rfl, rows_one w ⟨9, 0, 0, 0, 0, 1, ⟨#[]⟩, []⟩ rfl, (fun x hx k e => by simp at hx; subst hx; cases e), (fun k e => by injection e with e; have e : w.heap.size = k := e; omega), by simp, below1 w _⟩
end Go.Proofs.YtlpecaldodganaaGreatDoor
namespace Go.Proofs.YtlpecaldodganaaGreatDoor
open Go.RowKit MM
set_option linter.unusedVariables false
set_option linter.unusedSimpArgs false
abbrev caseC (r : RC.Rc) (A : Option Addr) (c : Nat) (t : Bool) : Array Value := #[.int .i64 r.kind, .int .i64 r.num, .int .i64 r.low, .int .i64 r.high, .float .f64 r.real, .int .i64 r.cap, .string r.text, .slice A r.list.length c, .bool t, .int .i64 0, .string ⟨#[]⟩, .int .i64 0, .float .f64 0, .string ⟨#[]⟩, .int .i64 0, .int .i64 0, .int .i64 0, .int .i64 0, .float .f64 0, .int .i64 0, .string ⟨#[]⟩, .slice none 0 0, .bool false, .int .i64 0, .string ⟨#[]⟩, .int .i64 0, .float .f64 0, .string ⟨#[]⟩, .int .i64 0, .int .i64 0, .int .i64 0, .int .i64 0, .float .f64 0, .int .i64 0, .string ⟨#[]⟩, .slice none 0 0, .bool false]
/-- A case without acts, and where its list lies. -/
structure Cs where
  r : RC.Rc
  A : Option Addr
  c : Nat
  t : Bool
def Cs.cells (y : Cs) : List Value := (caseC y.r y.A y.c y.t).toList
def csCells : List Cs → List Value
  | [] => []
  | y :: l => y.cells ++ csCells l
theorem csCells_append : ∀ a b : List Cs, csCells (a ++ b) = csCells a ++ csCells b
  | [], _ => rfl
  | y :: a, b => by show y.cells ++ csCells (a ++ b) = (y.cells ++ csCells a) ++ csCells b; rw [csCells_append a b, List.append_assoc]
theorem csCells_at : ∀ (ys : List Cs) (i : Nat) (y : Cs), ys[i]? = some y → ∀ j v, y.cells[j]? = some v → (csCells ys)[i * 37 + j]? = some v
  | [], i, y, h, _, _, _ => by simp at h
  | z :: l, 0, y, h, j, v, hv => by
    simp at h
    subst h
    show (z.cells ++ csCells l)[0 * 37 + j]? = some v
    have hj : j < z.cells.length := (List.getElem?_eq_some_iff.1 hv).1
    rw [show 0 * 37 + j = j by omega, List.getElem?_append_left hj]
    exact hv
  | z :: l, i + 1, y, h, j, v, hv => by
    have h' : l[i]? = some y := by simpa using h
    show (z.cells ++ csCells l)[(i + 1) * 37 + j]? = some v
    have hz : z.cells.length = 37 := rfl
    rw [List.getElem?_append_right (by omega), hz, show (i + 1) * 37 + j - 37 = i * 37 + j by omega]
    exact csCells_at l i y h' j v hv
def RU.onMax (k l : Int) : Int := max (rowAt k).on (rowAt l).on
def RU.pgrounds (k l : Int) : List (RC.Rc × Bool) := (RC.zero, false) :: (RU.recsP (RU.onMax k l)).map fun r => (r, true)
/-- Cases in a row. -/
def CasesOf (w : World) (L : Option Addr) (l : List Cs) : Prop :=
  ∃ b off, L = some ⟨b, off, none⟩ ∧ b < w.heap.size ∧ ∀ i y, l[i]? = some y → (∀ j v, y.cells[j]? = some v → w.cell? ⟨b, off + i * 37 + j, none⟩ = some v) ∧ Its w y.A y.r.list
def GroundsPost (l : List (RC.Rc × Bool)) (w : World) (e : Ending) (w' : World) : Prop :=
  ∃ L cl ys, e = .returned (.slice L ys.length cl) ∧ ys.map (fun y : Cs => (y.r, y.t)) = l ∧ CasesOf w' L ys ∧ (∀ y ∈ ys, ∀ k, ob y.A = some k → w.heap.size ≤ k) ∧ Below w.heap.size w w'
/-- How things stand while cases are laid in a row: w1 is the world behind the records. -/
structure GrAt (w w1 : World) (rows : List Rw) (i : Nat) (ys : List Cs) (B : Option Addr) (cb : Nat) (wr : World) : Prop where
  own : wr.ownsRow 0 37 37 (.slice B (i + 1) cb) (i + 1) (csCells ys)
  is : ys.map (fun y => (y.r, y.t)) = (RC.zero, false) :: (rows.take i).map fun x => (x.r, true)
  its : ∀ y ∈ ys, Its wr y.A y.r.list
  far : ∀ y ∈ ys, ∀ k, ob y.A = some k → w.heap.size < k ∧ k < w1.heap.size
  at_ : ∀ k, ob B = some k → k = w.heap.size ∨ w1.heap.size ≤ k
  keep : Kp (fun k => k = w.heap.size) w1 wr
section
variable {w w1 wr : World} {rows : List Rw} {i : Nat} {ys : List Cs} {B : Option Addr} {cb : Nat}
theorem GrAt.next (h : GrAt w w1 rows i ys B cb wr) (hs : w.heap.size < w1.heap.size) {x : Rw} (hx : rows[i]? = some x) (hI : Its w1 x.A x.r.list) (hF : ∀ k, ob x.A = some k → w.heap.size < k ∧ k < w1.heap.size) {X Y : Obj} {w4 : World} {B2 : Option Addr} {cb2 : Nat} (hg : ((wr.alloc X).alloc Y).grownBy w4 (ob B)) (hat : ob B2 = ob B ∨ ob B2 = some ((wr.alloc X).alloc Y).heap.size) (ho : w4.ownsRow 0 37 37 (.slice B2 (i + 1 + 1) cb2) (i + 1 + 1) (csCells ys ++ (caseC x.r x.A x.c true).toList)) : GrAt w w1 rows (i + 1) (ys ++ [⟨x.r, x.A, x.c, true⟩]) B2 cb2 w4 := by
  have hk4 : Kp (fun k => ob B = some k) ((wr.alloc X).alloc Y) w4 := Kp.grown (Kp.refl _ _) hg (fun k e => .inl e)
  have hsr := h.keep.size
  have hapart : ∀ k, w.heap.size < k ∧ k < w1.heap.size → ¬ ob B = some k := fun k hk e => by have := h.at_ k e; omega
  refine ⟨?_, ?_, ?_, ?_, ?_, ?_⟩
  · rw [csCells_append]
    show w4.ownsRow _ _ _ _ _ (csCells ys ++ (Cs.cells _ ++ []))
    rw [List.append_nil]
    exact ho
  · rw [List.map_append, h.is, List.take_add_one, hx]
    simp
  · intro y hy
    rcases List.mem_append.1 hy with hy | hy
    · exact ((h.its y hy).below (below2 wr X Y)).kp hk4 (fun ad e => hapart _ (h.far y hy ad.block (by rw [e]; rfl)))
    · simp at hy
      subst hy
      exact ((hI.kp h.keep (fun ad e x => by have := hF ad.block (by rw [e]; rfl); omega)).below (below2 wr X Y)).kp hk4 (fun ad e => hapart _ (hF ad.block (by have e : x.A = some ad := e; rw [e]; rfl)))
  · intro y hy
    rcases List.mem_append.1 hy with hy | hy
    · exact h.far y hy
    · simp at hy
      subst hy
      exact hF
  · intro k e
    rcases hat with h1 | h1
    · exact h.at_ k (h1 ▸ e)
    · rw [h1] at e
      injection e with e
      simp only [World.size_alloc] at e
      exact .inr (by omega)
  · exact (h.keep.trans (Kp.of_below (below2 wr X Y) (fun k => k = w.heap.size)) (fun _ _ x => x)).trans hk4 (fun i hi e => by have := h.at_ i e; omega)
theorem GrAt.post (h : GrAt w w1 rows i ys B cb wr) (hi : i = rows.length) (hb : Below w.heap.size w w1) (hs : w.heap.size < w1.heap.size) : GroundsPost ((RC.zero, false) :: (rows.map (·.r)).map fun r => (r, true)) w (.returned (.slice B ((i + 1 : Nat)) cb)) wr := by
  have hl : ys.length = i + 1 := by
    have := congrArg List.length h.is
    simp at this
    omega
  obtain ⟨g, hg, hgl, hc⟩ := own_cell h.own (by omega)
  refine ⟨B, cb, ys, by rw [hl], ?_, ⟨g, 0, hg, hgl, fun j y hy => ⟨fun o v hv => ?_, h.its y (List.mem_of_getElem? hy)⟩⟩, (fun y hy k e => by have := h.far y hy k e; omega), hb.trans (h.keep.below hb.size (fun i hi x => by omega))⟩
  · rw [h.is, hi, List.take_length, List.map_map]
    rfl
  · rw [Nat.zero_add]
    exact hc _ v (csCells_at ys j y hy o v hv)
end
theorem on_bd (k : Int) : 0 ≤ (rowAt k).on ∧ (rowAt k).on ≤ 9 := by
  by_cases h : 0 ≤ k ∧ k < 22
  · have hx : k = 0 ∨ k = 1 ∨ k = 2 ∨ k = 3 ∨ k = 4 ∨ k = 5 ∨ k = 6 ∨ k = 7 ∨ k = 8 ∨ k = 9 ∨ k = 10 ∨ k = 11 ∨ k = 12 ∨ k = 13 ∨ k = 14 ∨ k = 15 ∨ k = 16 ∨ k = 17 ∨ k = 18 ∨ k = 19 ∨ k = 20 ∨ k = 21 := by omega
    rcases hx with rfl | rfl | rfl | rfl | rfl | rfl | rfl | rfl | rfl | rfl | rfl | rfl | rfl | rfl | rfl | rfl | rfl | rfl | rfl | rfl | rfl | rfl <;> decide
  · unfold rowAt; rw [if_neg h]; decide
theorem case_info : (Tryz.prog.info? 37).map (fun i => (i.zero, i.size, i.bytes)) = some (some (.agg #[.int .i64 0, .int .i64 0, .int .i64 0, .int .i64 0, .float .f64 0, .int .i64 0, .string ⟨#[]⟩, .slice none 0 0, .bool false, .int .i64 0, .string ⟨#[]⟩, .int .i64 0, .float .f64 0, .string ⟨#[]⟩, .int .i64 0, .int .i64 0, .int .i64 0, .int .i64 0, .float .f64 0, .int .i64 0, .string ⟨#[]⟩, .slice none 0 0, .bool false, .int .i64 0, .string ⟨#[]⟩, .int .i64 0, .float .f64 0, .string ⟨#[]⟩, .int .i64 0, .int .i64 0, .int .i64 0, .int .i64 0, .float .f64 0, .int .i64 0, .string ⟨#[]⟩, .slice none 0 0, .bool false]), 37, 400) := by kernel_rfl
set_option maxHeartbeats 4000000 in
set_option maxRecDepth 100000 in
theorem pgrounds_any (k l : Int) (w : World) (hR : RowsAt w) : Calls Tryz.prog 60 #[.int .i64 k, .int .i64 l] w (GroundsPost (RU.pgrounds k l) w) := by
  obtain ⟨i0, hi0, hz0, hz1, hz2⟩ := info_parts case_info
  have HO1 := Lib.hid (fun u (b : Below w.heap.size w u) => actOn_any k u (hR.below b))
  have HO2 := Lib.hid (fun u (b : Below w.heap.size w u) => actOn_any l u (hR.below b))
  have HP := Lib.hid (fun u => precords_any (RU.onMax k l) u (by have := on_bd k; have := on_bd l; unfold RU.onMax; omega))
  clear hR
  go_enter Tryz.func60, Tryz.ntmps60
  go_wp2_with fail
  generalize hwa : World.alloc w _ = wa
  have H0 := Lib.hid (show wa.ownsRow 0 37 37 (.slice (some ⟨w.heap.size, 0, none⟩) 1 1) 1 (csCells [⟨RC.zero, none, 0, false⟩]) by rw [← hwa]; exact World.ownsRow_lit w (caseC RC.zero none 0 false) 1 (Nat.zero_le _) (by unfold maxLen; omega) rfl)
  have HB0 := Lib.hid (show Below w.heap.size w wa by rw [← hwa]; exact below1 w _)
  have hs0 : wa.heap.size = w.heap.size + 1 := by rw [← hwa]; simp
  clear hwa
  refine (HO1.out _ HB0.out).mono ?_
  rintro e wb ⟨rfl, hb⟩
  have H1 := Lib.hid (own_below H0.out hb)
  have HB1 := Lib.hid (HB0.out.trans (hb.mono HB0.out.size))
  have hsb := hb.size
  clear hb H0 HO1
  go_wp2_with fail
  refine (HO2.out _ HB1.out).mono ?_
  rintro e wc ⟨rfl, hb⟩
  have H2 := Lib.hid (own_below H1.out hb)
  have HB2 := Lib.hid (HB1.out.trans (hb.mono HB1.out.size))
  have hsc := hb.size
  clear hb H1 HO2 HB1
  go_wp2_with fail
  refine (HP.out wc).mono ?_
  generalize hm : RU.onMax k l = m at *
  generalize hlr0 : RU.recsP m = lr at *
  have HPG := Lib.hid (show RU.recsP (RU.onMax k l) = lr by rw [hm, hlr0])
  rintro e w1 ⟨L, cl, rows, rfl, hrl, hrw, hfr, hLn, hlr, hb⟩
  have hs1 := hb.size
  have H3 := Lib.hid (own_below H2.out hb)
  have HB3 := Lib.hid (HB2.out.trans (hb.mono HB2.out.size))
  have HRW := Lib.hid hrw
  have HRL := Lib.hid hrl
  have HG0 := Lib.hid (show GrAt w w1 rows 0 [⟨RC.zero, none, 0, false⟩] (some ⟨w.heap.size, 0, none⟩) 1 w1 from ⟨H3.out, rfl, (fun y hy => by simp at hy; subst hy; exact .inl rfl), (fun y hy k e => by simp at hy; subst hy; cases e), (fun k e => by injection e with e; exact .inl e.symm), Kp.refl _ _⟩)
  have HFR := Lib.hid (show ∀ x ∈ rows, ∀ k, ob x.A = some k → w.heap.size < k ∧ k < w1.heap.size from fun x hx k e => by have := hfr x hx k e; omega)
  have HLN := Lib.hid (show ∀ k, ob L = some k → w.heap.size < k from fun k e => by have := hLn k e; omega)
  have S1 := Lib.hid (show w.heap.size < w1.heap.size by omega)
  have hln : lr.length = rows.length := by rw [← hrl]; simp
  clear hb hrw hfr hLn H2 H3 HB2 hs0 hsb hsc hs1 HP hlr0 hrl hm
  rw [hln]
  clear hln
  go_wp2_with fail
  go_loopw [5, 17] (fun t5 t17 wr => ∃ (i : Nat) (ys : List Cs) (B : Option Addr) (cb : Nat), t17 = .int .i64 i ∧ t5 = .slice B ((i + 1 : Nat)) cb ∧ i ≤ rows.length ∧ GrAt w w1 rows i ys B cb wr) (fun _ t17 _ => rows.length - (intOf t17).toNat)
  case atStart => exact ⟨0, _, _, _, rfl, rfl, Nat.zero_le _, HG0.out⟩
  case round =>
    obtain ⟨i, ys, B, cb, rfl, rfl, hi, hv⟩ := hrel
    have HV := Lib.hid hv
    clear hv HG0
    by_cases hlt : i < rows.length
    · obtain ⟨b, off, rfl, hbl, hrows⟩ := HRW.out
      have hrow := (hrows i rows[i] (List.getElem?_eq_getElem hlt)).1
      have hitx := (hrows i rows[i] (List.getElem?_eq_getElem hlt)).2
      have hfx := HFR.out rows[i] (List.getElem_mem hlt)
      have htk := List.getElem?_eq_getElem hlt
      clear hrows
      generalize rows[i] = x at *
      obtain ⟨r, RA, rc⟩ := x
      have hbn : ¬ b = w.heap.size := by have := HLN.out b rfl; omega
      have r0 : wr.cell? ⟨b, off + i * 8, none⟩ = some (.int .i64 r.kind) := HV.out.keep.cell (hrow 0 _ rfl) hbn
      have r1 : wr.cell? ⟨b, off + i * 8 + 1, none⟩ = some (.int .i64 r.num) := HV.out.keep.cell (hrow 1 _ rfl) hbn
      have r2 : wr.cell? ⟨b, off + i * 8 + 2, none⟩ = some (.int .i64 r.low) := HV.out.keep.cell (hrow 2 _ rfl) hbn
      have r3 : wr.cell? ⟨b, off + i * 8 + 3, none⟩ = some (.int .i64 r.high) := HV.out.keep.cell (hrow 3 _ rfl) hbn
      have r4 : wr.cell? ⟨b, off + i * 8 + 4, none⟩ = some (.float .f64 r.real) := HV.out.keep.cell (hrow 4 _ rfl) hbn
      have r5 : wr.cell? ⟨b, off + i * 8 + 5, none⟩ = some (.int .i64 r.cap) := HV.out.keep.cell (hrow 5 _ rfl) hbn
      have r6 : wr.cell? ⟨b, off + i * 8 + 6, none⟩ = some (.string r.text) := HV.out.keep.cell (hrow 6 _ rfl) hbn
      have r7 : wr.cell? ⟨b, off + i * 8 + 7, none⟩ = some (.slice RA r.list.length rc) := HV.out.keep.cell (hrow 7 _ rfl) hbn
      have hi1 : (i : Int) < (rows.length : Int) := by omega
      have HITX := Lib.hid (show Its w1 RA r.list from hitx)
      have HFX := Lib.hid (show ∀ k, ob RA = some k → w.heap.size < k ∧ k < w1.heap.size from hfx)
      have HTK := Lib.hid htk
      have hsr := HV.out.keep.size
      have KO := Lib.hid (show ∀ X Y, ((wr.alloc X).alloc Y).ownsRow 0 37 37 (.slice B (i + 1) cb) (i + 1) (csCells ys) from fun X Y => own_below HV.out.own (below2 wr X Y))
      clear hrow hitx hfx htk
      go_wp2_with (first
        | (at_builtin
           refine wpList_append_at rfl _ _ _ _ rfl 37 i0 _ 37 400 Tryz.underlying103 hi0 hz0 hz1 hz2 rfl B (i + 1) cb (csCells ys) rfl (KO.out _ _) _ 1 _ rfl (src_row Tryz.underlying103 _ (caseC r RA rc true) _ (by simp) rfl (List.all_eq_true.1 rfl)) (by unfold maxLen; omega) (by omega) ?_
           intro B2 cb2 w4 ho4 hg4 hat4))
      have HT := Lib.hid (HV.out.next S1.out HTK.out HITX.out HFX.out hg4 hat4 ho4)
      go_roundw
      case rel => exact ⟨i + 1, _, B2, cb2, by go_num, rfl, by omega, HT.out⟩
      case measure => simp [intOf]; omega
    · have hi' : i = rows.length := by omega
      have hi1 : ¬ (i : Int) < (rows.length : Int) := by omega
      have HT := Lib.hid (HV.out.post hi' HB3.out S1.out)
      clear hlt hi hi'
      go_wp2_with fail
      go_ret
      rw [show RU.pgrounds k l = (RC.zero, false) :: (rows.map (·.r)).map fun r => (r, true) by unfold RU.pgrounds; rw [HPG.out, HRL.out]]
      exact HT.out
end Go.Proofs.YtlpecaldodganaaGreatDoor
