/- Contracts of the document's own answers for layer 5: how things stand while Apply goes on. -/
import Derived.Test.YtlpecaldodganaaGreatDoorRef5hq
import Derived.Test.YtlpecaldodganaaGreatDoorRef4bmq
namespace Go.Proofs.YtlpecaldodganaaGreatDoor
open Go.RowKit MM
set_option linter.unusedVariables false
set_option linter.unusedSimpArgs false
/-- What the document's own Apply answers. -/
def R5Post (p : RC.Rc) (t : Bool) (x : RU.Ans) (w : World) (e : Ending) (w' : World) : Prop :=
  ∃ A' c' B cb, e = .returned (.tuple #[recV p A' c', .bool t, ansV x.code x.num x.rc B cb]) ∧ Its w' A' p.list ∧ Its w' B x.rc.list ∧ Below w.heap.size w w'
/-- How things stand while it goes on. -/
structure A5 (w : World) (q : RC.Rc) (A : Option Addr) (c : Nat) (ac : Array Value) (W : World) : Prop where
  r0 : W.heap[w.heap.size]? = some (.cells (recC q.kind q.num q.low q.high q.real q.cap q.text (.slice A q.list.length c)) 25 (0, 0))
  r1 : W.heap[w.heap.size + 1]? = some (.cells ac 27 (0, 0))
  r2 : W.heap[w.heap.size + 1 + 1]? = some (.cells (recC 0 0 0 0 0 0 ⟨#[]⟩ (.slice none 0 0)) 25 (0, 0))
  r3 : W.heap[w.heap.size + 1 + 1 + 1]? = some (.cells (ansC 0 0 RC.zero none 0) 49 (0, 0))
  its : Its W A q.list
  new : ∀ k, ob A = some k → w.heap.size + 4 ≤ k
  below : Below w.heap.size w W
section
variable {w W W' : World} {q : RC.Rc} {A : Option Addr} {c : Nat} {ac : Array Value}
theorem A5.look (h : A5 w q A c ac W) (hb : Below W.heap.size W W') : A5 w q A c ac W' :=
  ⟨(hb.block _ (lt_of_heap h.r0)).trans h.r0, (hb.block _ (lt_of_heap h.r1)).trans h.r1, (hb.block _ (lt_of_heap h.r2)).trans h.r2, (hb.block _ (lt_of_heap h.r3)).trans h.r3, h.its.below hb, h.new, h.below.trans (hb.mono h.below.size)⟩
/-- Both results' places alone turned, or such as are new. -/
theorem A5.fin (h : A5 w q A c ac W) {wf : World} (hk : Kp (fun k => k = w.heap.size + 1 + 1 ∨ k = w.heap.size + 1 + 1 + 1) W wf) {l : List RC.It} {B : Option Addr} (hB : Its W B l) (hn : ∀ k, ob B = some k → w.heap.size + 4 ≤ k) : Its wf B l :=
  hB.kp hk (fun ad e x => by subst e; have := hn ad.block rfl; rcases x with x | x <;> omega)
theorem A5.bel (h : A5 w q A c ac W) {wf : World} (hk : Kp (fun k => k = w.heap.size + 1 + 1 ∨ k = w.heap.size + 1 + 1 + 1) W wf) : Below w.heap.size w wf :=
  h.below.trans (hk.below h.below.size (fun i hi x => by rcases x with x | x <;> omega))
end
/-- A list that reads as items doesn't lie in a row in which no text is behind a floating number. -/
theorem its_apart {w : World} {A : Option Addr} {l : List RC.It} {k : Nat} {cs : Array Value} {t : TypeId} (h : Its w A l) (hr : w.heap[k]? = some (.cells cs t (0, 0))) (hno : ∀ o x s, cs[o]? = some (.float .f64 x) → cs[o + 1]? = some (.string s) → False) : l = [] ∨ ∀ ad, A = some ad → ad.block ≠ k := by
  rcases h with h | ⟨b, off, rfl, hb, hc⟩
  · exact .inl h
  · cases l with
    | nil => exact .inl rfl
    | cons y l =>
      refine .inr fun ad e hk => ?_
      injection e with e
      subst e
      have hk : b = k := hk
      subst hk
      obtain ⟨h1, h2⟩ := hc 0 y rfl
      rw [cell_of_row _ _ _ _ _ (0, 0) hr] at h1 h2
      simp only [Nat.zero_mul, Nat.add_zero] at h1 h2
      exact hno _ _ _ h1 h2
theorem rec_no (k n lo hi : Int) (x : Nat) (c : Int) (tx : ByteArray) (A : Option Addr) (m cc : Nat) : ∀ o y s, (recC k n lo hi x c tx (.slice A m cc))[o]? = some (.float .f64 y) → (recC k n lo hi x c tx (.slice A m cc))[o + 1]? = some (.string s) → False := by
  intro o y s h1 h2
  rcases o with _ | _ | _ | _ | _ | _ | _ | _ | o
  · simp at h1
  · simp at h1
  · simp at h1
  · simp at h1
  · simp at h2
  · simp at h1
  · simp at h1
  · simp at h1
  · simp at h1
theorem ans_no (cd : Nat) (n : Int) (r : RC.Rc) (A : Option Addr) (cc : Nat) : ∀ o y s, (ansC cd n r A cc)[o]? = some (.float .f64 y) → (ansC cd n r A cc)[o + 1]? = some (.string s) → False := by
  intro o y s h1 h2
  rcases o with _ | _ | _ | _ | _ | _ | _ | _ | _ | _ | o
  · simp at h1
  · simp at h1
  · simp at h1
  · simp at h1
  · simp at h1
  · simp at h1
  · simp at h2
  · simp at h1
  · simp at h1
  · simp at h1
  · simp at h1
theorem its_keep {w w' : World} {A : Option Addr} {l : List RC.It} {S : Nat → Prop} (h : Its w A l) (hk : Kp S w w') (hn : l = [] ∨ ∀ ad, A = some ad → ¬ S ad.block) : Its w' A l := by
  rcases hn with rfl | hn
  · exact Its.nil _ _
  · exact h.kp hk hn
section
variable {w W : World} {q : RC.Rc} {A : Option Addr} {c : Nat} {ac : Array Value}
/-- A list of one knows not where. -/
theorem A5.lay (h : A5 w q A c ac W) {wf : World} (hk : Kp (fun k => k = w.heap.size + 1 + 1 ∨ k = w.heap.size + 1 + 1 + 1) W wf) {l : List RC.It} {B : Option Addr} (hB : Its W B l) : Its wf B l := by
  refine its_keep hB hk ?_
  rcases its_apart hB h.r2 (rec_no 0 0 0 0 0 0 ⟨#[]⟩ none 0 0) with h1 | h1
  · exact .inl h1
  rcases its_apart hB h.r3 (ans_no 0 0 RC.zero none 0) with h2 | h2
  · exact .inl h2
  exact .inr fun ad e x => by rcases x with x | x; exact h1 ad e x; exact h2 ad e x
end
theorem A5.row0 (o0 o1 o2 o3 : Obj) (w : World) : ((((w.alloc o0).alloc o1).alloc o2).alloc o3).heap[w.heap.size]? = some o0 := (heap_alloc_old _ _ (by simp only [World.size_alloc]; omega)).trans ((heap_alloc_old _ _ (by simp only [World.size_alloc]; omega)).trans (heap_alloc2_old w _ _))
theorem A5.row1 (o0 o1 o2 o3 : Obj) (w : World) : ((((w.alloc o0).alloc o1).alloc o2).alloc o3).heap[w.heap.size + 1]? = some o1 := (heap_alloc_old _ _ (by simp only [World.size_alloc]; omega)).trans ((heap_alloc_old _ _ (by simp only [World.size_alloc]; omega)).trans (heap_alloc2_new w _ _))
theorem A5.row2 (o0 o1 o2 o3 : Obj) (w : World) : ((((w.alloc o0).alloc o1).alloc o2).alloc o3).heap[w.heap.size + 1 + 1]? = some o2 := (heap_alloc_old _ _ (by simp only [World.size_alloc]; omega)).trans (heap_new _ _ _ (by simp))
theorem A5.row3 (o0 o1 o2 o3 : Obj) (w : World) : ((((w.alloc o0).alloc o1).alloc o2).alloc o3).heap[w.heap.size + 1 + 1 + 1]? = some o3 := heap_new _ _ _ (by simp)
end Go.Proofs.YtlpecaldodganaaGreatDoor
