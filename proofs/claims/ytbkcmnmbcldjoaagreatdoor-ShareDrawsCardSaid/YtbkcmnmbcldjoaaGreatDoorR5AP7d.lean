/- Contracts of the document's own answers for layer 5: a record with a list of its own; has a list a name; is a sum beyond what 64 bits hold; are two answers the same? -/
import Derived.Test.YtbkcmnmbcldjoaaGreatDoorRuNP7d
import Derived.Test.YtbkcmnmbcldjoaaGreatDoorRef3gmP7d
namespace Go.Proofs.YtbkcmnmbcldjoaaGreatDoor
open Go.RowKit MM
def RU.hasN (l : List RC.It) (s : ByteArray) : Bool := l.any fun x => RC.strEq x.name s
end Go.Proofs.YtbkcmnmbcldjoaaGreatDoor
namespace Go.Proofs.YtbkcmnmbcldjoaaGreatDoor
open Go.RowKit MM
end Go.Proofs.YtbkcmnmbcldjoaaGreatDoor
namespace Go.Proofs.YtbkcmnmbcldjoaaGreatDoor
open Go.RowKit MM
/-- How things stand while it goes on: the record, what is answered, and the places of both results. -/
structure D5 (w : World) (q : RC.Rc) (A : Option Addr) (c : Nat) (x : RU.Ans) (B : Option Addr) (cb : Nat) (W : World) : Prop where
  r0 : W.heap[w.heap.size]? = some (.cells (recC q.kind q.num q.low q.high q.real q.cap q.text (.slice A q.list.length c)) 25 (0, 0))
  r2 : W.heap[w.heap.size + 1 + 1]? = some (.cells (recC 0 0 0 0 0 0 ⟨#[]⟩ (.slice none 0 0)) 25 (0, 0))
  r3 : W.heap[w.heap.size + 1 + 1 + 1]? = some (.cells (ansC 0 0 RC.zero none 0) 82 (0, 0))
  r4 : W.heap[w.heap.size + 1 + 1 + 1 + 1]? = some (.cells (ansC x.code x.num x.rc B cb) 82 (0, 0))
  below : Below w.heap.size w W
/-- The places of both results. -/
def S23 (w : World) (k : Nat) : Prop := k = w.heap.size + 1 + 1 ∨ k = w.heap.size + 1 + 1 + 1
section
variable {w W W' : World} {q : RC.Rc} {A B : Option Addr} {c cb : Nat} {x : RU.Ans}
theorem D5.start (q : RC.Rc) (A : Option Addr) (c : Nat) (oa : Obj) (x : RU.Ans) (B : Option Addr) (cb : Nat) (w : World) : D5 w q A c x B cb (((((w.alloc (.cells (recC q.kind q.num q.low q.high q.real q.cap q.text (.slice A q.list.length c)) 25)).alloc oa).alloc (.cells (recC 0 0 0 0 0 0 ⟨#[]⟩ (.slice none 0 0)) 25)).alloc (.cells (ansC 0 0 RC.zero none 0) 82)).alloc (.cells (ansC x.code x.num x.rc B cb) 82)) :=
  ⟨(heap_alloc_old _ _ (by simp only [World.size_alloc]; omega)).trans ((heap_alloc_old _ _ (by simp only [World.size_alloc]; omega)).trans ((heap_alloc_old _ _ (by simp only [World.size_alloc]; omega)).trans (heap_alloc2_old w _ _))), (heap_alloc_old _ _ (by simp only [World.size_alloc]; omega)).trans ((heap_alloc_old _ _ (by simp only [World.size_alloc]; omega)).trans (heap_new _ _ _ (by simp))), (heap_alloc_old _ _ (by simp only [World.size_alloc]; omega)).trans (heap_new _ _ _ (by simp)), heap_new _ _ _ (by simp), (below4 w _ _ _ _).alloc (by simp only [World.size_alloc]; omega) _⟩
/-- A list that was handed in. -/
theorem D5.old (h : D5 w q A c x B cb W) {l : List RC.It} {L : Option Addr} (hL : Its w L l) : ∀ wf, Kp (S23 w) W wf → Its wf L l := fun wf hk =>
  hL.below (h.below.trans (hk.below h.below.size (fun i hi x => by rcases x with x | x <;> omega)))
/-- A list that was made meanwhile. -/
theorem D5.new {l : List RC.It} {L : Option Addr} (hL : Its W L l) (hn : ∀ k, ob L = some k → w.heap.size + 5 ≤ k) : ∀ wf, Kp (S23 w) W wf → Its wf L l := fun wf hk =>
  hL.kp hk (fun ad e x => by subst e; have := hn ad.block rfl; rcases x with x | x <;> omega)
end
end Go.Proofs.YtbkcmnmbcldjoaaGreatDoor
