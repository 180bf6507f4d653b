/- Contracts of package rule: Apply of an act that is done: how things stand while its order is drawn. -/
import Derived.Test.YtofaonknfihaiaaDoorRule22m
namespace Go.Proofs.YtofaonknfihaiaaDoor
open Go.RowKit MM

/-- Boxes that were made behind w2; of what was there nothing turned. -/
structure Bx (A : Option Addr) (w2 W : World) (gs : List (Nat × Obj)) : Prop where
  bel : Below w2.heap.size w2 W
  inn : ∀ k, ob A = some k → k < w2.heap.size
  row : ∀ x ∈ gs, w2.heap.size ≤ x.1 ∧ W.heap[x.1]? = some x.2
  apart : gs.Pairwise fun x y => x.1 ≠ y.1
theorem Bx.start {A : Option Addr} {w2 : World} (h : ∀ k, ob A = some k → k < w2.heap.size) : Bx A w2 w2.drew [] :=
  ⟨below_drew (Below.refl _ _), h, fun _ h => (by cases h), List.Pairwise.nil⟩
theorem Bx.base {A : Option Addr} {w2 : World} (h : ∀ k, ob A = some k → k < w2.heap.size) : Bx A w2 w2 [] :=
  ⟨Below.refl _ _, h, fun _ h => (by cases h), List.Pairwise.nil⟩
theorem Bx.drew {A : Option Addr} {w2 W : World} {gs : List (Nat × Obj)} (h : Bx A w2 W gs) : Bx A w2 W.drew gs :=
  ⟨below_drew h.bel, h.inn, h.row, h.apart⟩
theorem Bx.alloc {A : Option Addr} {w2 W : World} {gs : List (Nat × Obj)} {o : Obj} (h : Bx A w2 W gs) : Bx A w2 (W.alloc o) ((W.heap.size, o) :: gs) := by
  refine ⟨h.bel.alloc h.bel.size _, h.inn, fun x hx => ?_, List.Pairwise.cons (fun y hy => ?_) h.apart⟩
  · rcases List.mem_cons.1 hx with rfl | hx
    · exact ⟨h.bel.size, heap_alloc_new W o⟩
    · have := h.row x hx
      exact ⟨this.1, (heap_alloc_old W o (lt_of_heap this.2)).trans this.2⟩
  · have := lt_of_heap (h.row y hy).2
    show W.heap.size ≠ y.1
    omega
theorem Bx.kp {A : Option Addr} {w2 W : World} {gs : List (Nat × Obj)} (h : Bx A w2 W gs) : Kp (fun k => ob A = some k) w2 W := Kp.of_below h.bel _
theorem Bx.below {A : Option Addr} {w2 W v : World} {gs : List (Nat × Obj)} (h : Bx A w2 W gs) (hb : Below W.heap.size W v) : Bx A w2 v gs :=
  ⟨h.bel.trans (hb.mono h.bel.size), h.inn, fun x hx => ⟨(h.row x hx).1, (hb.block _ (lt_of_heap (h.row x hx).2)).trans (h.row x hx).2⟩, h.apart⟩

/-- The same behind what the act did: the lists of what it answered. -/
structure Bz (p : RC.Rc) (x : RU.Ans) (A : Option Addr) (w2 : World) (A1 : Option Addr) (c1 : Nat) (B : Option Addr) (cb : Nat) (W : World) (gs : List (Nat × Obj)) : Prop where
  kp : Kp (fun k => ob A = some k) w2 W
  inn : ∀ k, ob A = some k → k < w2.heap.size
  row : ∀ x ∈ gs, w2.heap.size ≤ x.1 ∧ W.heap[x.1]? = some x.2
  apart : gs.Pairwise fun x y => x.1 ≠ y.1
  own1 : W.ownsRow 0 49 2 (.slice A1 p.list.length c1) p.list.length (itCells p.list)
  own2 : W.ownsRow 0 49 2 (.slice B x.rc.list.length cb) x.rc.list.length (itCells x.rc.list)
  new1 : ∀ k, ob A1 = some k → (ob A = some k ∨ w2.heap.size ≤ k) ∧ ∀ y ∈ gs, y.1 ≠ k
  new2 : ∀ k, ob B = some k → w2.heap.size ≤ k ∧ ob A1 ≠ some k ∧ ∀ y ∈ gs, y.1 ≠ k
section
variable {p : RC.Rc} {x : RU.Ans} {A : Option Addr} {w2 : World} {A1 : Option Addr} {c1 : Nat} {B : Option Addr} {cb : Nat} {W : World} {gs : List (Nat × Obj)}
theorem in_own1 (h : Bz p x A w2 A1 c1 B cb W gs) : ∀ k, ob A1 = some k → k < W.heap.size := in_of_own h.own1
theorem in_own2 (h : Bz p x A w2 A1 c1 B cb W gs) : ∀ k, ob B = some k → k < W.heap.size := in_of_own h.own2
theorem Bz.alloc {o : Obj} (h : Bz p x A w2 A1 c1 B cb W gs) : Bz p x A w2 A1 c1 B cb (W.alloc o) ((W.heap.size, o) :: gs) := by
  refine ⟨h.kp.alloc o, h.inn, fun x hx => ?_, List.Pairwise.cons (fun y hy => ?_) h.apart, own_below h.own1 (below1 W o), own_below h.own2 (below1 W o), fun k e => ⟨(h.new1 k e).1, fun y hy => ?_⟩, fun k e => ⟨(h.new2 k e).1, (h.new2 k e).2.1, fun y hy => ?_⟩⟩
  · rcases List.mem_cons.1 hx with rfl | hx
    · exact ⟨h.kp.size, heap_alloc_new W o⟩
    · have := h.row x hx
      exact ⟨this.1, (heap_alloc_old W o (lt_of_heap this.2)).trans this.2⟩
  · have := lt_of_heap (h.row y hy).2
    show W.heap.size ≠ y.1
    omega
  · rcases List.mem_cons.1 hy with rfl | hy
    · have := in_own1 h k e
      show W.heap.size ≠ k
      omega
    · exact (h.new1 k e).2 y hy
  · rcases List.mem_cons.1 hy with rfl | hy
    · have := in_own2 h k e
      show W.heap.size ≠ k
      omega
    · exact (h.new2 k e).2.2 y hy
theorem Bz.allocG {o : Obj} {g : Nat} (h : Bz p x A w2 A1 c1 B cb W gs) (hg : W.heap.size = g) : Bz p x A w2 A1 c1 B cb (W.alloc o) ((g, o) :: gs) := by subst hg; exact h.alloc
theorem Bz.ne {g g' : Nat} {o o' : Obj} (h : Bz p x A w2 A1 c1 B cb W ((g, o) :: (g', o') :: gs)) : g ≠ g' := (List.pairwise_cons.1 h.apart).1 (g', o') (List.mem_cons_self ..)
theorem Bz.swap {y z : Nat × Obj} (h : Bz p x A w2 A1 c1 B cb W [y, z]) : Bz p x A w2 A1 c1 B cb W [z, y] := by
  have hm : ∀ u, u ∈ [z, y] → u ∈ [y, z] := fun u hu => by
    rcases List.mem_cons.1 hu with rfl | hu
    · simp
    · simp at hu; subst hu; simp
  refine ⟨h.kp, h.inn, fun u hu => h.row u (hm u hu), ?_, h.own1, h.own2, fun k e => ⟨(h.new1 k e).1, fun u hu => (h.new1 k e).2 u (hm u hu)⟩, fun k e => ⟨(h.new2 k e).1, (h.new2 k e).2.1, fun u hu => (h.new2 k e).2.2 u (hm u hu)⟩⟩
  have := h.apart
  simp at this ⊢
  exact fun e => this e.symm
/-- A box is written: W' is W but for that box. -/
theorem Bz.wrote {W' : World} {g : Nat} {o o' : Obj} (h : Bz p x A w2 A1 c1 B cb W ((g, o) :: gs)) (hk : Kp (fun k => k = g) W W') (hg : W'.heap[g]? = some o') : Bz p x A w2 A1 c1 B cb W' ((g, o') :: gs) := by
  have hg2 := (h.row (g, o) (List.mem_cons_self ..)).1
  refine ⟨h.kp.trans (hk.mono (S' := fun k => w2.heap.size ≤ k) fun i _ e => by subst e; exact hg2) (fun i hi x => by omega), h.inn, fun u hu => ?_, ?_, hk.own h.own1 (fun k e x => ?_), hk.own h.own2 (fun k e x => ?_), fun k e => ⟨(h.new1 k e).1, fun u hu => ?_⟩, fun k e => ⟨(h.new2 k e).1, (h.new2 k e).2.1, fun u hu => ?_⟩⟩
  · rcases List.mem_cons.1 hu with rfl | hu
    · exact ⟨hg2, hg⟩
    · have h1 := h.row u (List.mem_cons_of_mem _ hu)
      have h2 := (List.pairwise_cons.1 h.apart).1 u hu
      exact ⟨h1.1, (hk.block _ (lt_of_heap h1.2) (fun e => h2 e.symm)).trans h1.2⟩
  · have h2 := List.pairwise_cons.1 h.apart
    exact List.pairwise_cons.2 ⟨fun u hu => h2.1 u hu, h2.2⟩
  · rw [ownBlock_slice] at e
    exact (h.new1 k e).2 _ (List.mem_cons_self ..) x.symm
  · rw [ownBlock_slice] at e
    exact (h.new2 k e).2.2 _ (List.mem_cons_self ..) x.symm
  · rcases List.mem_cons.1 hu with rfl | hu
    · exact (h.new1 k e).2 (g, o) (List.mem_cons_self ..)
    · exact (h.new1 k e).2 u (List.mem_cons_of_mem _ hu)
  · rcases List.mem_cons.1 hu with rfl | hu
    · exact (h.new2 k e).2.2 (g, o) (List.mem_cons_self ..)
    · exact (h.new2 k e).2.2 u (List.mem_cons_of_mem _ hu)
theorem Bz.cells {g : Nat} {cs : Array Value} {t : TypeId} (h : Bz p x A w2 A1 c1 B cb W ((g, .cells cs t (0, 0)) :: gs)) : ∀ o, W.cell? ⟨g, o, none⟩ = cs[o]? :=
  fun o => cell_of_row W _ o _ _ (0, 0) (h.row _ (List.mem_cons_self ..)).2
theorem Bz.froz {g : Nat} {cs : Array Value} {t : TypeId} (h : Bz p x A w2 A1 c1 B cb W ((g, .cells cs t (0, 0)) :: gs)) : ∀ o, W.frozen? ⟨g, o, none⟩ = false :=
  fun o => frozen_of_row _ _ o _ _ (h.row _ (List.mem_cons_self ..)).2
theorem Bz.low {g : Nat} {o : Obj} (h : Bz p x A w2 A1 c1 B cb W ((g, o) :: gs)) : w2.heap.size ≤ g := (h.row (g, o) (List.mem_cons_self ..)).1
theorem Bz.lt {g : Nat} {o : Obj} (h : Bz p x A w2 A1 c1 B cb W ((g, o) :: gs)) : g < W.heap.size := lt_of_heap (h.row (g, o) (List.mem_cons_self ..)).2
end
section
variable {p : RC.Rc} {x : RU.Ans} {A : Option Addr} {w2 : World} {A1 : Option Addr} {n1 : Nat} {B : Option Addr} {cb : Nat} {W : World} {gs : List (Nat × Obj)} {g : Nat} {t : TypeId} {y : Nat × Obj}
theorem Bz.recA {x0 x1 x2 x3 x4 x5 x6 x7 c0 c1 c2 c3 c4 c5 c6 c7 : Value} (h : Bz p x A w2 A1 n1 B cb W ((g, .cells #[x0, x1, x2, x3, x4, x5, x6, x7] t (0, 0)) :: gs)) : Bz p x A w2 A1 n1 B cb ((((((((W.setCell ⟨g, 0, none⟩ c0).setCell ⟨g, 1, none⟩ c1).setCell ⟨g, 2, none⟩ c2).setCell ⟨g, 3, none⟩ c3).setCell ⟨g, 4, none⟩ c4).setCell ⟨g, 5, none⟩ c5).setCell ⟨g, 6, none⟩ c6).setCell ⟨g, 7, none⟩ c7) ((g, .cells #[c0, c1, c2, c3, c4, c5, c6, c7] t (0, 0)) :: gs) :=
  h.wrote (kp8g (Kp.refl _ _) (.inl rfl)) (rec_stores (h.row _ (List.mem_cons_self ..)).2)
theorem Bz.recB {x0 x1 x2 x3 x4 x5 x6 x7 c0 c1 c2 c3 c4 c5 c6 c7 : Value} (h : Bz p x A w2 A1 n1 B cb W [y, (g, .cells #[x0, x1, x2, x3, x4, x5, x6, x7] t (0, 0))]) : Bz p x A w2 A1 n1 B cb ((((((((W.setCell ⟨g, 0, none⟩ c0).setCell ⟨g, 1, none⟩ c1).setCell ⟨g, 2, none⟩ c2).setCell ⟨g, 3, none⟩ c3).setCell ⟨g, 4, none⟩ c4).setCell ⟨g, 5, none⟩ c5).setCell ⟨g, 6, none⟩ c6).setCell ⟨g, 7, none⟩ c7) [y, (g, .cells #[c0, c1, c2, c3, c4, c5, c6, c7] t (0, 0))] :=
  h.swap.recA.swap
theorem Bz.ansA {x0 x1 x2 x3 x4 x5 x6 x7 x8 x9 c0 c1 c2 c3 c4 c5 c6 c7 c8 c9 : Value} (h : Bz p x A w2 A1 n1 B cb W ((g, .cells #[x0, x1, x2, x3, x4, x5, x6, x7, x8, x9] t (0, 0)) :: gs)) : Bz p x A w2 A1 n1 B cb ((((((((((W.setCell ⟨g, 0, none⟩ c0).setCell ⟨g, 1, none⟩ c1).setCell ⟨g, 2, none⟩ c2).setCell ⟨g, 3, none⟩ c3).setCell ⟨g, 4, none⟩ c4).setCell ⟨g, 5, none⟩ c5).setCell ⟨g, 6, none⟩ c6).setCell ⟨g, 7, none⟩ c7).setCell ⟨g, 8, none⟩ c8).setCell ⟨g, 9, none⟩ c9) ((g, .cells #[c0, c1, c2, c3, c4, c5, c6, c7, c8, c9] t (0, 0)) :: gs) :=
  h.wrote (kp10 (Kp.refl _ _) (.inl rfl)) (ans_all (h.row _ (List.mem_cons_self ..)).2)
theorem Bz.ansB {x0 x1 x2 x3 x4 x5 x6 x7 x8 x9 c0 c1 c2 c3 c4 c5 c6 c7 c8 c9 : Value} (h : Bz p x A w2 A1 n1 B cb W [y, (g, .cells #[x0, x1, x2, x3, x4, x5, x6, x7, x8, x9] t (0, 0))]) : Bz p x A w2 A1 n1 B cb ((((((((((W.setCell ⟨g, 0, none⟩ c0).setCell ⟨g, 1, none⟩ c1).setCell ⟨g, 2, none⟩ c2).setCell ⟨g, 3, none⟩ c3).setCell ⟨g, 4, none⟩ c4).setCell ⟨g, 5, none⟩ c5).setCell ⟨g, 6, none⟩ c6).setCell ⟨g, 7, none⟩ c7).setCell ⟨g, 8, none⟩ c8).setCell ⟨g, 9, none⟩ c9) [y, (g, .cells #[c0, c1, c2, c3, c4, c5, c6, c7, c8, c9] t (0, 0))] :=
  h.swap.ansA.swap
end

theorem doings_bx {A : Option Addr} {w2 W : World} {gs : List (Nat × Obj)} (h : Bx A w2 W gs) :
    Calls Tryd.prog 27 #[] W fun e v => ∃ b, e = .returned (.agg (doingsV b)) ∧ Doings b w2 v ∧ Bx A w2 v gs :=
  (doings_any W).mono fun _ _ ⟨b, he, hD⟩ => ⟨b, he, ⟨hD.c1, hD.c2, hD.c3, hD.c4, hD.c5, hD.c6, hD.c7, hD.c8, hD.c9, hD.c10, hD.c11, hD.c12, hD.c13, hD.c14, hD.c15, hD.c16, hD.c17, hD.c18, hD.c19, hD.c20, hD.c21, hD.c22, hD.c23, (h.below hD.below).bel⟩, h.below hD.below⟩

/-- What the act did, behind boxes. -/
theorem bz_of_call {p : RC.Rc} {x : RU.Ans} {A : Option Addr} {w2 V w' : World} {gs : List (Nat × Obj)} {e : Ending} (h : Bx A w2 V gs) (hp : DPost p x A V e w') :
    ∃ A1 c1 B cb, e = .returned (.tuple #[recV p A1 c1, ansV x.code x.num x.rc B cb]) ∧ Bz p x A w2 A1 c1 B cb w' gs := by
  obtain ⟨A1, c1, B, cb, rfl, o1, o2, n1, n2, hk⟩ := hp
  have hs := h.bel.size
  have hlt : ∀ y ∈ gs, y.1 < V.heap.size := fun y hy => lt_of_heap (h.row y hy).2
  refine ⟨A1, c1, B, cb, rfl, ⟨(Kp.of_below h.bel _).same hk, h.inn, fun y hy => ⟨(h.row y hy).1, (hk.block _ (hlt y hy) (fun e => ?_)).trans (h.row y hy).2⟩, h.apart, o1, o2, fun k e => ⟨?_, fun y hy x => ?_⟩, fun k e => ⟨?_, (n2 k e).2, fun y hy x => ?_⟩⟩⟩
  · have h1 := h.inn _ e
    have h2 := (h.row y hy).1
    omega
  · rcases n1 k e with h1 | h1
    · exact .inl h1
    · exact .inr (by omega)
  · have h1 := hlt y hy
    have h2 := (h.row y hy).1
    rcases n1 k e with h3 | h3
    · have := h.inn _ h3; omega
    · omega
  · have := (n2 k e).1; omega
  · have h1 := hlt y hy
    have := (n2 k e).1; omega

end Go.Proofs.YtofaonknfihaiaaDoor
