/- Two disks side by side: the program's, and the document's; what is done to both. -/
import Derived.Test.YtlaecnggbcagcaaRk6
namespace Go.Proofs.Ytlaecnggbcagcaa
open Go.RowKit MM
set_option linter.unusedVariables false
set_option linter.unusedSimpArgs false

/-- Two disks that lie apart, in blocks of B, of C, and in new ones since w0. -/
def Duo (w0 : World) (B C : Nat → Prop) (w : World) (p q : Nat) (x y : Dk) : Prop :=
  ∃ B' C', Dsk w p B' x ∧ Rsk w q C' y ∧ (∀ k, B' k → (B k ∨ w0.heap.size ≤ k) ∧ k < w.heap.size) ∧ (∀ k, C' k → (C k ∨ w0.heap.size ≤ k) ∧ k < w.heap.size) ∧ (∀ k, B' k → ¬ C' k) ∧ Kp (fun k => B k ∨ C k) w0 w
section
variable {w0 w w' : World} {B C : Nat → Prop} {p q : Nat} {x y x' y' : Dk}
theorem Duo.start (h1 : Dsk w p B x) (h2 : Rsk w q C y) (hb : ∀ k, B k → k < w.heap.size) (hc : ∀ k, C k → k < w.heap.size) (hd : ∀ k, B k → ¬ C k) : Duo w B C w p q x y :=
  ⟨B, C, h1, h2, fun k hk => ⟨.inl hk, hb k hk⟩, fun k hk => ⟨.inl hk, hc k hk⟩, hd, Kp.refl _ _⟩
theorem Duo.kp (h : Duo w0 B C w p q x y) : Kp (fun k => B k ∨ C k) w0 w := by obtain ⟨_, _, _, _, _, _, _, h⟩ := h; exact h
theorem Duo.okx (h : Duo w0 B C w p q x y) : x.ok := by obtain ⟨_, _, h, _⟩ := h; exact h.ok
theorem Duo.oky (h : Duo w0 B C w p q x y) : y.ok := by obtain ⟨_, _, _, h, _⟩ := h; exact h.ok
theorem Duo.dsk (h : Duo w0 B C w p q x y) : Dsk w p (fun _ => True) x := by obtain ⟨_, _, h, _⟩ := h; exact h.mono fun _ _ _ => trivial
theorem Duo.rsk (h : Duo w0 B C w p q x y) : Rsk w q (fun _ => True) y := by obtain ⟨_, _, _, h, _⟩ := h; exact h.mono fun _ _ _ => trivial
theorem Duo.below (h : Duo w0 B C w p q x y) (hb : Below w.heap.size w w') : Duo w0 B C w' p q x y := by
  obtain ⟨B', C', h1, h2, h3, h4, h5, h6⟩ := h
  exact ⟨B', C', h1.below hb, h2.below hb, fun k hk => ⟨(h3 k hk).1, Nat.lt_of_lt_of_le (h3 k hk).2 hb.size⟩, fun k hk => ⟨(h4 k hk).1, Nat.lt_of_lt_of_le (h4 k hk).2 hb.size⟩, h5, h6.trans (Kp.of_below hb (fun _ => False)) (fun _ _ x => x.elim)⟩
/-- What is done to the program's. -/
theorem Duo.callD (h : Duo w0 B C w p q x y) {P : Program} {f : FuncId} {args : Array Value} {R : Ending → Prop}
    (hc : ∀ B', Dsk w p B' x → (∀ k, B' k → B k ∨ w0.heap.size ≤ k) → Calls P f args w fun e w' => R e ∧ DkPost p B' x' w w') : Calls P f args w fun e w' => R e ∧ Duo w0 B C w' p q x' y := by
  obtain ⟨B', C', h1, h2, h3, h4, h5, h6⟩ := h
  refine (hc B' h1 fun k hk => (h3 k hk).1).mono ?_
  rintro e w' ⟨hr, hd, hk⟩
  refine ⟨hr, Up B' w w', C', hd, h2.keep hk (fun k _ hc hb => h5 k hb hc), fun k hu => ?_, fun k hu => ⟨(h4 k hu).1, Nat.lt_of_lt_of_le (h4 k hu).2 hk.size⟩, fun k hu hc => ?_, h6.trans hk fun k hl hb => ?_⟩
  · rcases hu with z | z
    · exact ⟨(h3 k z).1, Nat.lt_of_lt_of_le (h3 k z).2 hk.size⟩
    · exact ⟨.inr (Nat.le_trans h6.size z.1), z.2⟩
  · rcases hu with z | z
    · exact h5 k z hc
    · have := (h4 k hc).2; omega
  · rcases (h3 k hb).1 with z | z
    · exact .inl z
    · omega
/-- What is done to the document's. -/
theorem Duo.callR (h : Duo w0 B C w p q x y) {P : Program} {f : FuncId} {args : Array Value} {R : Ending → Prop}
    (hc : ∀ C', Rsk w q C' y → (∀ k, C' k → C k ∨ w0.heap.size ≤ k) → Calls P f args w fun e w' => R e ∧ RkPost q C' y' w w') : Calls P f args w fun e w' => R e ∧ Duo w0 B C w' p q x y' := by
  obtain ⟨B', C', h1, h2, h3, h4, h5, h6⟩ := h
  refine (hc C' h2 fun k hk => (h4 k hk).1).mono ?_
  rintro e w' ⟨hr, hd, hk⟩
  refine ⟨hr, B', Up C' w w', h1.keep hk (fun k _ hb hc => h5 k hb hc), hd, fun k hu => ⟨(h3 k hu).1, Nat.lt_of_lt_of_le (h3 k hu).2 hk.size⟩, fun k hu => ?_, fun k hb hu => ?_, h6.trans hk fun k hl hb => ?_⟩
  · rcases hu with z | z
    · exact ⟨(h4 k z).1, Nat.lt_of_lt_of_le (h4 k z).2 hk.size⟩
    · exact ⟨.inr (Nat.le_trans h6.size z.1), z.2⟩
  · rcases hu with z | z
    · exact h5 k hb z
    · have := (h3 k hb).2; omega
  · rcases (h4 k hb).1 with z | z
    · exact .inr z
    · omega
/-- From one world on, and then from another one on. -/
theorem Duo.comp {w1 : World} {B1 C1 : Nat → Prop} (h6 : Kp (fun k => B k ∨ C k) w0 w) (h3 : ∀ k, B1 k → (B k ∨ w0.heap.size ≤ k) ∧ k < w.heap.size) (h4 : ∀ k, C1 k → (C k ∨ w0.heap.size ≤ k) ∧ k < w.heap.size) (hb : Below w.heap.size w w1) (h : Duo w1 B1 C1 w' p q x y) : Duo w0 B C w' p q x y := by
  obtain ⟨B', C', g1, g2, g3, g4, g5, g6⟩ := h
  have h0 := h6.size
  have h00 := hb.size
  refine ⟨B', C', g1, g2, fun k hk => ⟨?_, (g3 k hk).2⟩, fun k hk => ⟨?_, (g4 k hk).2⟩, g5, (h6.trans (Kp.of_below hb (fun _ => False)) (fun _ _ z => z.elim)).trans g6 fun k hl hk => ?_⟩
  · rcases (g3 k hk).1 with z | z
    · exact (h3 k z).1
    · exact .inr (by omega)
  · rcases (g4 k hk).1 with z | z
    · exact (h4 k z).1
    · exact .inr (by omega)
  · rcases hk with z | z
    · rcases (h3 k z).1 with z | z
      · exact .inl z
      · omega
    · rcases (h4 k z).1 with z | z
      · exact .inr z
      · omega
end

/-- What an op makes of a disk. -/
def stepD (x : Dk) (o : Od) : Dk :=
  if o.kind = 0 then (x.write o.n (filL o.fill)).1 else if o.kind = 1 then x.sync.1 else if o.kind = 2 then x.brk o.n else if o.kind = 3 then x.crash o.kept else x
theorem stepD_few (x : Dk) (o : Od) : (stepD x o).pend.length ≤ x.pend.length + 1 := by
  unfold stepD
  split
  · unfold Dk.write
    split
    · have hw : ∀ e : Dk, e.wear.1.pend = e.pend := fun e => by unfold Dk.wear; split; rfl; split <;> rfl
      rw [hw]
      show (x.pend ++ [_]).length ≤ _
      simp
    · exact Nat.le_succ _
  · split
    · unfold Dk.sync
      split
      · exact Nat.le_succ _
      · exact Nat.zero_le _
    · split
      · exact Nat.le_succ _
      · split
        · exact Nat.zero_le _
        · exact Nat.le_succ _

end Go.Proofs.Ytlaecnggbcagcaa
