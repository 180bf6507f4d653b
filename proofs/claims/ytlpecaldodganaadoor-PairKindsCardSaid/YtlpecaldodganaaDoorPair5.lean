/- Contracts of package pair: cases without acts. -/
import Derived.Test.YtlpecaldodganaaDoorPair4
namespace Go.Proofs.YtlpecaldodganaaDoor
open Go.RowKit MM
set_option linter.unusedVariables false
set_option linter.unusedSimpArgs false

def RU.recsP (k : Int) : List RC.Rc :=
  if k = 3 then [⟨3, 9223372036854775807, 0, 0, 0, 0, ⟨#[]⟩, []⟩]
  else if k = 4 then [⟨4, 0, 0, 1, 0, 0, ⟨#[]⟩, []⟩, ⟨4, 1, 0, 1, 0, 0, ⟨#[]⟩, []⟩]
  else if k = 7 then [⟨7, 0, 0, 0, 9218868437227405311, 0, ⟨#[]⟩, []⟩]
  else if k = 8 then [⟨8, 0, 0, 0, 0, 1, ⟨#[]⟩, []⟩, ⟨8, 0, 0, 0, 0, 1, ⟨#[]⟩, [⟨0, RU.sA⟩]⟩]
  else if k = 9 then [⟨9, 0, 0, 0, 0, 1, ⟨#[]⟩, []⟩]
  else if k = 0 then [⟨1, 0, 0, 0, 0, 0, ⟨#[]⟩, []⟩]
  else [⟨k, 0, 0, 0, 0, 0, ⟨#[]⟩, []⟩]
/-- A record in a row, and where its list lies. -/
structure Rw where
  r : RC.Rc
  A : Option Addr
  c : Nat
def Rw.cells (x : Rw) : Array Value := recC x.r.kind x.r.num x.r.low x.r.high x.r.real x.r.cap x.r.text (.slice x.A x.r.list.length x.c)
/-- Records in a row. -/
def RowsOf (w : World) (L : Option Addr) (l : List Rw) : Prop :=
  ∃ b off, L = some ⟨b, off, none⟩ ∧ b < w.heap.size ∧ ∀ i x, l[i]? = some x → (∀ j v, x.cells[j]? = some v → w.cell? ⟨b, off + i * 8 + j, none⟩ = some v) ∧ Its w x.A x.r.list
def PRecsPost (l : List RC.Rc) (w : World) (e : Ending) (w' : World) : Prop :=
  ∃ L cl rows, e = .returned (.slice L l.length cl) ∧ rows.map (·.r) = l ∧ RowsOf w' L rows ∧ (∀ x ∈ rows, ∀ k, ob x.A = some k → w.heap.size ≤ k ∧ k < w'.heap.size) ∧ (∀ k, ob L = some k → w.heap.size ≤ k) ∧ rows.length ≤ 2 ∧ Below w.heap.size w w'
theorem rows_one (w : World) (r : RC.Rc) (hl : r.list = []) : RowsOf (w.alloc (.cells (recC r.kind r.num r.low r.high r.real r.cap r.text (.slice none r.list.length 0)) 31)) (some ⟨w.heap.size, 0, none⟩) [⟨r, none, 0⟩] := by
  refine ⟨w.heap.size, 0, rfl, by simp, fun i x hi => ?_⟩
  rcases i with _ | i
  · simp at hi
    subst hi
    refine ⟨fun j v hv => ?_, .inl hl⟩
    rw [show 0 + 0 * 8 + j = j by omega, cell_of_row _ _ j _ _ (0, 0) (heap_alloc_new w _)]
    exact hv
  · simp at hi
abbrev recC2 (r : RC.Rc) (A : Option Addr) (c : Nat) (q : RC.Rc) (B : Option Addr) (d : Nat) : Array Value := #[.int .i64 r.kind, .int .i64 r.num, .int .i64 r.low, .int .i64 r.high, .float .f64 r.real, .int .i64 r.cap, .string r.text, .slice A r.list.length c, .int .i64 q.kind, .int .i64 q.num, .int .i64 q.low, .int .i64 q.high, .float .f64 q.real, .int .i64 q.cap, .string q.text, .slice B q.list.length d]
theorem rows_two (w : World) (r q : RC.Rc) (A B : Option Addr) (c d : Nat) (h1 : Its w A r.list) (h2 : Its w B q.list) : RowsOf (w.alloc (.cells (recC2 r A c q B d) 31)) (some ⟨w.heap.size, 0, none⟩) [⟨r, A, c⟩, ⟨q, B, d⟩] := by
  refine ⟨w.heap.size, 0, rfl, by simp, fun i x hi => ?_⟩
  rcases i with _ | _ | i
  · simp at hi
    subst hi
    refine ⟨fun j v hv => ?_, h1.alloc _⟩
    have hj := (Array.getElem?_eq_some_iff.1 hv).1
    have hj : j < 8 := hj
    rw [show 0 + 0 * 8 + j = j by omega, cell_of_row _ _ j _ _ (0, 0) (heap_alloc_new w _)]
    rcases j with _ | _ | _ | _ | _ | _ | _ | _ | j <;> first | exact hv | omega
  · simp at hi
    subst hi
    refine ⟨fun j v hv => ?_, h2.alloc _⟩
    have hj := (Array.getElem?_eq_some_iff.1 hv).1
    have hj : j < 8 := hj
    rw [show 0 + (0 + 1) * 8 + j = j + 8 by omega, cell_of_row _ _ _ _ _ (0, 0) (heap_alloc_new w _)]
    rcases j with _ | _ | _ | _ | _ | _ | _ | _ | j <;> first | exact hv | omega
  · simp at hi

set_option maxHeartbeats 4000000 in
set_option maxRecDepth 100000 in
theorem precords_any (k : Int) (w : World) (hk : 0 ≤ k ∧ k ≤ 9) : Calls Tryd.prog 26 #[.int .i64 k] w (PRecsPost (RU.recsP k) w) := by
  have hx : k = 0 ∨ k = 1 ∨ k = 2 ∨ k = 3 ∨ k = 4 ∨ k = 5 ∨ k = 6 ∨ k = 7 ∨ k = 8 ∨ k = 9 := by omega
  clear hk
  rcases hx with rfl | rfl | rfl | rfl | rfl | rfl | rfl | rfl | rfl | rfl
  · go_enter Tryd.func26, Tryd.ntmps26
    go_wp2_with fail
    go_ret
    exact ⟨_, _, [⟨⟨1, 0, 0, 0, 0, 0, ⟨#[]⟩, []⟩, none, 0⟩], rfl, rfl, rows_one w ⟨1, 0, 0, 0, 0, 0, ⟨#[]⟩, []⟩ rfl, (fun x hx k e => by simp at hx; subst hx; cases e), (fun k e => by injection e with e; have e : w.heap.size = k := e; omega), by simp, below1 w _⟩
  · go_enter Tryd.func26, Tryd.ntmps26
    go_wp2_with fail
    go_ret
    exact ⟨_, _, [⟨⟨1, 0, 0, 0, 0, 0, ⟨#[]⟩, []⟩, none, 0⟩], rfl, rfl, rows_one w ⟨1, 0, 0, 0, 0, 0, ⟨#[]⟩, []⟩ rfl, (fun x hx k e => by simp at hx; subst hx; cases e), (fun k e => by injection e with e; have e : w.heap.size = k := e; omega), by simp, below1 w _⟩
  · go_enter Tryd.func26, Tryd.ntmps26
    go_wp2_with fail
    go_ret
    exact ⟨_, _, [⟨⟨2, 0, 0, 0, 0, 0, ⟨#[]⟩, []⟩, none, 0⟩], rfl, rfl, rows_one w ⟨2, 0, 0, 0, 0, 0, ⟨#[]⟩, []⟩ rfl, (fun x hx k e => by simp at hx; subst hx; cases e), (fun k e => by injection e with e; have e : w.heap.size = k := e; omega), by simp, below1 w _⟩
  · go_enter Tryd.func26, Tryd.ntmps26
    go_wp2_with fail
    go_ret
    exact ⟨_, _, [⟨⟨3, 9223372036854775807, 0, 0, 0, 0, ⟨#[]⟩, []⟩, none, 0⟩], rfl, rfl, rows_one w ⟨3, 9223372036854775807, 0, 0, 0, 0, ⟨#[]⟩, []⟩ rfl, (fun x hx k e => by simp at hx; subst hx; cases e), (fun k e => by injection e with e; have e : w.heap.size = k := e; omega), by simp, below1 w _⟩
  · go_enter Tryd.func26, Tryd.ntmps26
    go_wp2_with fail
    go_ret
    exact ⟨_, _, [⟨⟨4, 0, 0, 1, 0, 0, ⟨#[]⟩, []⟩, none, 0⟩, ⟨⟨4, 1, 0, 1, 0, 0, ⟨#[]⟩, []⟩, none, 0⟩], rfl, rfl, rows_two w ⟨4, 0, 0, 1, 0, 0, ⟨#[]⟩, []⟩ ⟨4, 1, 0, 1, 0, 0, ⟨#[]⟩, []⟩ none none 0 0 (.inl rfl) (.inl rfl), (fun x hx k e => by simp at hx; rcases hx with rfl | rfl <;> cases e), (fun k e => by injection e with e; have e : w.heap.size = k := e; omega), by simp, below1 w _⟩
  · go_enter Tryd.func26, Tryd.ntmps26
    go_wp2_with fail
    go_ret
    exact ⟨_, _, [⟨⟨5, 0, 0, 0, 0, 0, ⟨#[]⟩, []⟩, none, 0⟩], rfl, rfl, rows_one w ⟨5, 0, 0, 0, 0, 0, ⟨#[]⟩, []⟩ rfl, (fun x hx k e => by simp at hx; subst hx; cases e), (fun k e => by injection e with e; have e : w.heap.size = k := e; omega), by simp, below1 w _⟩
  · go_enter Tryd.func26, Tryd.ntmps26
    go_wp2_with fail
    go_ret
    exact ⟨_, _, [⟨⟨6, 0, 0, 0, 0, 0, ⟨#[]⟩, []⟩, none, 0⟩], rfl, rfl, rows_one w ⟨6, 0, 0, 0, 0, 0, ⟨#[]⟩, []⟩ rfl, (fun x hx k e => by simp at hx; subst hx; cases e), (fun k e => by injection e with e; have e : w.heap.size = k := e; omega), by simp, below1 w _⟩
  · go_enter Tryd.func26, Tryd.ntmps26
    go_wp2_with fail
    go_ret
    exact ⟨_, _, [⟨⟨7, 0, 0, 0, 9218868437227405311, 0, ⟨#[]⟩, []⟩, none, 0⟩], rfl, rfl, rows_one w ⟨7, 0, 0, 0, 9218868437227405311, 0, ⟨#[]⟩, []⟩ rfl, (fun x hx k e => by simp at hx; subst hx; cases e), (fun k e => by injection e with e; have e : w.heap.size = k := e; omega), by simp, below1 w _⟩
  · go_enter Tryd.func26, Tryd.ntmps26
    go_wp2_with fail
    go_ret
    refine ⟨_, _, [⟨⟨8, 0, 0, 0, 0, 1, ⟨#[]⟩, []⟩, none, 0⟩, ⟨⟨8, 0, 0, 0, 0, 1, ⟨#[]⟩, [⟨0, RU.sA⟩]⟩, some ⟨w.heap.size, 0, none⟩, 1⟩], rfl, rfl, ?_, (fun x hx k e => by simp at hx; rcases hx with rfl | rfl; cases e; (injection e with e; have e : w.heap.size = k := e; simp only [World.size_alloc]; omega)), (fun k e => by injection e with e; have e : w.heap.size + 1 = k := e; omega), by simp, below2 w _ _⟩
    have h := rows_two (w.alloc (.cells #[.float .f64 0, .string RU.sA] 65)) ⟨8, 0, 0, 0, 0, 1, ⟨#[]⟩, []⟩ ⟨8, 0, 0, 0, 0, 1, ⟨#[]⟩, [⟨0, RU.sA⟩]⟩ none (some ⟨w.heap.size, 0, none⟩) 0 1 (.inl rfl) (.inr ⟨w.heap.size, 0, rfl, by simp, fun i x hi => by
      rcases i with _ | i
      · simp at hi
        subst hi
        exact ⟨(cell_of_row _ _ _ _ _ (0, 0) (heap_alloc_new w _)).trans rfl, (cell_of_row _ _ _ _ _ (0, 0) (heap_alloc_new w _)).trans rfl⟩
      · simp at hi⟩)
    rw [World.size_alloc] at h
    exact h
  · go_enter Tryd.func26, Tryd.ntmps26
    go_wp2_with fail
    go_ret
    exact ⟨_, _, [⟨⟨9, 0, 0, 0, 0, 1, ⟨#[]⟩, []⟩, none, 0⟩], rfl, rfl, rows_one w ⟨9, 0, 0, 0, 0, 1, ⟨#[]⟩, []⟩ rfl, (fun x hx k e => by simp at hx; subst hx; cases e), (fun k e => by injection e with e; have e : w.heap.size = k := e; omega), by simp, below1 w _⟩

end Go.Proofs.YtlpecaldodganaaDoor
