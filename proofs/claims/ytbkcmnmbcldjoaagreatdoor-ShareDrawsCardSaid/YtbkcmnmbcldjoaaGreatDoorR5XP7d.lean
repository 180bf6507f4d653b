/- Contracts of the document's own answers for layer 5: a list with an item more. -/
import Derived.Test.YtbkcmnmbcldjoaaGreatDoorR5AP7d
import Derived.Test.YtbkcmnmbcldjoaaGreatDoorRuWP7d
import Derived.Deep.RegionWith
import Derived.Deep.DeepCutAuto
import Derived.Deep.QuietTactic
import Derived.BigQuiet
import Derived.Test.YtbkcmnmbcldjoaaGreatDoorRef4bmP7d
namespace Go.Proofs.YtbkcmnmbcldjoaaGreatDoor
open Go.RowKit MM
/-- How things stand while a list is laid anew. -/
structure LdAt (w : World) (x : RC.It) (B : Option Addr) (cb : Nat) (out : List RC.It) (wr : World) : Prop where
  box : wr.heap[w.heap.size]? = some (.cells #[.float .f64 x.score, .string x.name] 91 (0, 0))
  own : wr.ownsRow 0 91 2 (.slice B out.length cb) out.length (itCells out)
  new : ∀ k, ob B = some k → w.heap.size + 1 ≤ k
  below : Below w.heap.size w wr
section
variable {w : World} {x : RC.It} {B : Option Addr} {cb : Nat} {out : List RC.It} {wr wx : World}
theorem LdAt.more (h : LdAt w x B cb out wr) {n : Nat} (hn : out.length = n) {y : RC.It} {w3 : World} {B2 : Option Addr} {c2 : Nat} {o : Obj} (hg : (wr.alloc o).grownBy w3 (ob B)) (hat : ob B2 = ob B ∨ ob B2 = some (wr.alloc o).heap.size) (ho : w3.ownsRow 0 91 2 (.slice B2 (n + 1) c2) (n + 1) (itCells out ++ [.float .f64 y.score, .string y.name])) : LdAt w x B2 c2 (out ++ [y]) w3 := by
  subst hn
  have hk : Kp (fun k => ob B = some k) (wr.alloc o) w3 := Kp.grown (Kp.refl _ _) hg (fun k e => .inl e)
  have hs := lt_of_heap h.box
  refine ⟨(hk.block _ (by simp only [World.size_alloc]; omega) (fun e => by have := h.new _ e; omega)).trans ((heap_alloc_old wr o hs).trans h.box), ?_, fun k e => ?_, (h.below.alloc h.below.size o).trans (hk.below (by simp only [World.size_alloc]; omega) (fun i hi e => by have := h.new i e; omega))⟩
  · rw [itCells_append, show (out ++ [y]).length = out.length + 1 by simp]
    exact ho
  · rcases hat with h1 | h1
    · rw [h1] at e; exact h.new k e
    · rw [h1] at e; injection e with e; simp only [World.size_alloc] at e; omega
end
end Go.Proofs.YtbkcmnmbcldjoaaGreatDoor

namespace Go.Proofs.YtbkcmnmbcldjoaaGreatDoor
open Go.RowKit MM
/-- How things stand while a list is gone through. -/
structure LvAt (w : World) (r : RC.Rc) (A : Option Addr) (c : Nat) (ac : Array Value) (B : Option Addr) (cb : Nat) (out : List RC.It) (wr : World) : Prop where
  d5 : D5 w r A c (RU.err 0) none 0 wr
  act : wr.heap[w.heap.size + 1]? = some (.cells ac 37 (0, 0))
  own : wr.ownsRow 0 91 2 (.slice B out.length cb) out.length (itCells out)
  new : ∀ k, ob B = some k → w.heap.size + 5 ≤ k
section
variable {w : World} {r : RC.Rc} {A : Option Addr} {c : Nat} {ac : Array Value} {B : Option Addr} {cb : Nat} {out : List RC.It} {wr wx : World}
theorem LvAt.more (h : LvAt w r A c ac B cb out wr) {y : RC.It} {w3 : World} {B2 : Option Addr} {c2 : Nat} {o : Obj} (hg : (wr.alloc o).grownBy w3 (ob B)) (hat : ob B2 = ob B ∨ ob B2 = some (wr.alloc o).heap.size) (ho : w3.ownsRow 0 91 2 (.slice B2 (out.length + 1) c2) (out.length + 1) (itCells out ++ [.float .f64 y.score, .string y.name])) : LvAt w r A c ac B2 c2 (out ++ [y]) w3 := by
  have hk : Kp (fun k => ob B = some k) (wr.alloc o) w3 := Kp.grown (Kp.refl _ _) hg (fun k e => .inl e)
  have s0 := lt_of_heap h.d5.r0
  have s1 := lt_of_heap h.act
  have s2 := lt_of_heap h.d5.r2
  have s3 := lt_of_heap h.d5.r3
  have s4 := lt_of_heap h.d5.r4
  have keep : ∀ k, k < w.heap.size + 5 → k < wr.heap.size → w3.heap[k]? = wr.heap[k]? := fun k h1 h2 => (hk.block k (by simp only [World.size_alloc]; omega) (fun e => by have := h.new _ e; omega)).trans (heap_alloc_old wr o h2)
  refine ⟨⟨(keep _ (by omega) s0).trans h.d5.r0, (keep _ (by omega) s2).trans h.d5.r2, (keep _ (by omega) s3).trans h.d5.r3, (keep _ (by omega) s4).trans h.d5.r4, (h.d5.below.alloc h.d5.below.size o).trans (hk.below (by simp only [World.size_alloc]; have := h.d5.below.size; omega) (fun i hi e => by have := h.new i e; omega))⟩, (keep _ (by omega) s1).trans h.act, ?_, fun k e => ?_⟩
  · rw [itCells_append, show (out ++ [y]).length = out.length + 1 by simp]
    exact ho
  · rcases hat with h1 | h1
    · rw [h1] at e; exact h.new k e
    · rw [h1] at e; injection e with e; simp only [World.size_alloc] at e; omega
end
end Go.Proofs.YtbkcmnmbcldjoaaGreatDoor

namespace Go.Proofs.YtbkcmnmbcldjoaaGreatDoor
open Go.RowKit MM
set_option linter.unusedVariables false
set_option linter.unusedSimpArgs false
theorem Its.take {w : World} {A : Option Addr} {xs : List RC.It} (h : Its w A xs) (n : Nat) : Its w A (xs.take n) := by
  rcases h with rfl | ⟨b, off, rfl, hb, hc⟩
  · exact .inl (by simp)
  · refine .inr ⟨b, off, rfl, hb, fun i x hx => hc i x ?_⟩
    rw [List.getElem?_take] at hx
    split at hx
    · exact hx
    · cases hx
end Go.Proofs.YtbkcmnmbcldjoaaGreatDoor

namespace Go.Proofs.YtbkcmnmbcldjoaaGreatDoor
open Go.RowKit MM
set_option linter.unusedVariables false
set_option linter.unusedSimpArgs false
/-- How things stand while it goes on. -/
structure A5 (w : World) (q : RC.Rc) (A : Option Addr) (c : Nat) (ac : Array Value) (W : World) : Prop where
  r0 : W.heap[w.heap.size]? = some (.cells (recC q.kind q.num q.low q.high q.real q.cap q.text (.slice A q.list.length c)) 25 (0, 0))
  r1 : W.heap[w.heap.size + 1]? = some (.cells ac 37 (0, 0))
  r2 : W.heap[w.heap.size + 1 + 1]? = some (.cells (recC 0 0 0 0 0 0 ⟨#[]⟩ (.slice none 0 0)) 25 (0, 0))
  r3 : W.heap[w.heap.size + 1 + 1 + 1]? = some (.cells (ansC 0 0 RC.zero none 0) 82 (0, 0))
  its : Its W A q.list
  new : ∀ k, ob A = some k → w.heap.size + 4 ≤ k
  below : Below w.heap.size w W
section
variable {w W W' : World} {q : RC.Rc} {A : Option Addr} {c : Nat} {ac : Array Value}
theorem A5.bel (h : A5 w q A c ac W) {wf : World} (hk : Kp (fun k => k = w.heap.size + 1 + 1 ∨ k = w.heap.size + 1 + 1 + 1) W wf) : Below w.heap.size w wf :=
  h.below.trans (hk.below h.below.size (fun i hi x => by rcases x with x | x <;> omega))
end
/-- A list that reads as items doesn't lie in a row in which no text is behind a floating number. -/
theorem its_apart {w : World} {A : Option Addr} {l : List RC.It} {k : Nat} {cs : Array Value} {t : TypeId} (h : Its w A l) (hr : w.heap[k]? = some (.cells cs t (0, 0))) (hno : ∀ o x s, cs[o]? = some (.float .f64 x) → cs[o + 1]? = some (.string s) → False) : l = [] ∨ ∀ ad, A = some ad → ad.block ≠ k := by
  rcases h with h | ⟨b, off, rfl, hb, hc⟩
  · exact .inl h
  · cases l with
    | nil => exact .inl rfl
    | cons y l =>
      refine .inr fun ad e hk => ?_
      injection e with e
      subst e
      have hk : b = k := hk
      subst hk
      obtain ⟨h1, h2⟩ := hc 0 y rfl
      rw [cell_of_row _ _ _ _ _ (0, 0) hr] at h1 h2
      simp only [Nat.zero_mul, Nat.add_zero] at h1 h2
      exact hno _ _ _ h1 h2
theorem rec_no (k n lo hi : Int) (x : Nat) (c : Int) (tx : ByteArray) (A : Option Addr) (m cc : Nat) : ∀ o y s, (recC k n lo hi x c tx (.slice A m cc))[o]? = some (.float .f64 y) → (recC k n lo hi x c tx (.slice A m cc))[o + 1]? = some (.string s) → False := by
  intro o y s h1 h2
  rcases o with _ | _ | _ | _ | _ | _ | _ | _ | o
  · simp at h1
  · simp at h1
  · simp at h1
  · simp at h1
  · simp at h2
  · simp at h1
  · simp at h1
  · simp at h1
  · simp at h1
theorem ans_no (cd : Nat) (n : Int) (r : RC.Rc) (A : Option Addr) (cc : Nat) : ∀ o y s, (ansC cd n r A cc)[o]? = some (.float .f64 y) → (ansC cd n r A cc)[o + 1]? = some (.string s) → False := by
  intro o y s h1 h2
  rcases o with _ | _ | _ | _ | _ | _ | _ | _ | _ | _ | o
  · simp at h1
  · simp at h1
  · simp at h1
  · simp at h1
  · simp at h1
  · simp at h1
  · simp at h2
  · simp at h1
  · simp at h1
  · simp at h1
  · simp at h1
theorem its_keep {w w' : World} {A : Option Addr} {l : List RC.It} {S : Nat → Prop} (h : Its w A l) (hk : Kp S w w') (hn : l = [] ∨ ∀ ad, A = some ad → ¬ S ad.block) : Its w' A l := by
  rcases hn with rfl | hn
  · exact Its.nil _ _
  · exact h.kp hk hn
section
variable {w W : World} {q : RC.Rc} {A : Option Addr} {c : Nat} {ac : Array Value}
/-- A list of one knows not where. -/
theorem A5.lay (h : A5 w q A c ac W) {wf : World} (hk : Kp (fun k => k = w.heap.size + 1 + 1 ∨ k = w.heap.size + 1 + 1 + 1) W wf) {l : List RC.It} {B : Option Addr} (hB : Its W B l) : Its wf B l := by
  refine its_keep hB hk ?_
  rcases its_apart hB h.r2 (rec_no 0 0 0 0 0 0 ⟨#[]⟩ none 0 0) with h1 | h1
  · exact .inl h1
  rcases its_apart hB h.r3 (ans_no 0 0 RC.zero none 0) with h2 | h2
  · exact .inl h2
  exact .inr fun ad e x => by rcases x with x | x; exact h1 ad e x; exact h2 ad e x
end
end Go.Proofs.YtbkcmnmbcldjoaaGreatDoor

namespace Go.Proofs.YtbkcmnmbcldjoaaGreatDoor
open Go.RowKit MM
set_option linter.unusedVariables false
set_option linter.unusedSimpArgs false
/-- What is known of a record, and of an act that is done to it. -/
structure Do5 (q : RC.Rc) (a : AC.Ac) : Prop where
  hq : q.ok
  ha : a.ok
  c : RC.chk q = 0
  ca : AC.chk a = 0
  on : (rowAt a.kind).on = q.kind
theorem Do5.set {q : RC.Rc} {a : AC.Ac} (h : Do5 q a) (hk : q.kind = 8) : (∀ y ∈ q.list, y.score = 0) ∧ RC.itemsE 8 none q.list = 0 ∧ RU.hasN q.list a.s = RU.at_ q.list ⟨0, a.s⟩ := by
  have hs := (list_of h.c (.inl hk)).1
  rw [hk] at hs
  have h0 : ∀ y ∈ q.list, y.score = 0 := fun y hy => (RC.fits_proper (h.hq.list y hy) ((RC.itemsE_zero hs y hy).2)).2 rfl
  exact ⟨h0, hs, RU.has_sorted a.s q.list none h0 hs⟩
end Go.Proofs.YtbkcmnmbcldjoaaGreatDoor
namespace Go.Proofs.YtbkcmnmbcldjoaaGreatDoor
open Go.RowKit MM
set_option linter.unusedVariables false
set_option linter.unusedSimpArgs false
end Go.Proofs.YtbkcmnmbcldjoaaGreatDoor
namespace Go.Proofs.YtbkcmnmbcldjoaaGreatDoor
open Go.RowKit MM
set_option linter.unusedVariables false
set_option linter.unusedSimpArgs false
end Go.Proofs.YtbkcmnmbcldjoaaGreatDoor
