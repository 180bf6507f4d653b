/- The document's disk (package moietyref17) in memory. -/
import Derived.Test.YtlaecnggbcagcaaDk10
namespace Go.Proofs.Ytlaecnggbcagcaa
open Go.RowKit MM
set_option linter.unusedVariables false
set_option linter.unusedSimpArgs false

def atV (l : List (Nat × List UInt8)) : List Value := l.map fun x => Value.int .i64 (x.1 : Int)
def whL (l : List (Nat × List UInt8)) : List (List UInt8) := l.map (·.2)
theorem atV_len (l : List (Nat × List UInt8)) : (atV l).length = l.length := List.length_map ..
theorem whL_len (l : List (Nat × List UInt8)) : (whL l).length = l.length := List.length_map ..
theorem atV_snoc (l : List (Nat × List UInt8)) (x : Nat × List UInt8) : atV (l ++ [x]) = atV l ++ [Value.int .i64 (x.1 : Int)] := by simp [atV]
theorem whL_snoc (l : List (Nat × List UInt8)) (x : Nat × List UInt8) : whL (l ++ [x]) = whL l ++ [x.2] := by simp [whL]
theorem whL_ok {d : Dk} (h : d.ok) : ∀ s ∈ whL d.pend, s.length = 64 := fun s hs => by
  obtain ⟨x, hx, rfl⟩ := List.mem_map.1 hs
  exact (h.pend x hx).2
theorem secR_snoc (l : List (List UInt8)) (s : List UInt8) : (secR (l ++ [s])).flatten = (secR l).flatten ++ bc s := by simp [secR]

/-- The document's disk in memory: where its four rows lie, and what they are. -/
structure RkG (w : World) (q : Nat) (F N A H : Value) (lf : Int) (dn : Bool) (wr : Int) (g n : List (List UInt8)) (al : List Value) (hs : List (List UInt8)) : Prop where
  box : w.heap[q]? = some (.cells #[F, N, A, H, .int .i64 lf, .bool dn, .int .i64 wr] 88 (0, 0))
  firm : w.ownsRow 0 40 64 F g.length (secR g).flatten
  now : w.ownsRow 0 40 64 N n.length (secR n).flatten
  ats : w.ownsRow 0 3 1 A al.length al
  what : w.ownsRow 0 40 64 H hs.length (secR hs).flatten
  fs : ∀ k, F.ownBlock = some k → N.ownBlock ≠ some k ∧ A.ownBlock ≠ some k ∧ H.ownBlock ≠ some k ∧ k ≠ q
  ns : ∀ k, N.ownBlock = some k → A.ownBlock ≠ some k ∧ H.ownBlock ≠ some k ∧ k ≠ q
  sa : ∀ k, A.ownBlock = some k → H.ownBlock ≠ some k ∧ k ≠ q
  sh : ∀ k, H.ownBlock = some k → k ≠ q
abbrev RkAt (w : World) (q : Nat) (F N A H : Value) (d : Dk) : Prop := RkG w q F N A H d.left d.down d.writes d.good d.now (atV d.pend) (whL d.pend)
def Rlk (q : Nat) (F N A H : Value) (k : Nat) : Prop := k = q ∨ F.ownBlock = some k ∨ N.ownBlock = some k ∨ A.ownBlock = some k ∨ H.ownBlock = some k
/-- The document's disk in memory, within some blocks. -/
def Rsk (w : World) (q : Nat) (B : Nat → Prop) (d : Dk) : Prop := ∃ F N A H, RkAt w q F N A H d ∧ (∀ k, Rlk q F N A H k → B k) ∧ d.ok

section
variable {w w' : World} {q : Nat} {F N A H : Value} {lf : Int} {dn : Bool} {wr : Int} {g n : List (List UInt8)} {al : List Value} {hs : List (List UInt8)}
theorem RkG.keep {S : Nat → Prop} (h : RkG w q F N A H lf dn wr g n al hs) (hk : Kp S w w') (hn : ∀ k, Rlk q F N A H k → ¬ S k) : RkG w' q F N A H lf dn wr g n al hs :=
  ⟨(hk.block _ (lt_of_heap h.box) (hn q (.inl rfl))).trans h.box, own_kp h.firm hk fun b e => hn b (.inr (.inl e)), own_kp h.now hk fun b e => hn b (.inr (.inr (.inl e))), own_kp h.ats hk fun b e => hn b (.inr (.inr (.inr (.inl e)))), own_kp h.what hk fun b e => hn b (.inr (.inr (.inr (.inr e)))), h.fs, h.ns, h.sa, h.sh⟩
theorem RkG.lt (h : RkG w q F N A H lf dn wr g n al hs) : ∀ k, Rlk q F N A H k → k < w.heap.size := fun k hk => by
  rcases hk with rfl | e | e | e | e
  · exact lt_of_heap h.box
  · exact (h.firm.lt k e).2
  · exact (h.now.lt k e).2
  · exact (h.ats.lt k e).2
  · exact (h.what.lt k e).2
theorem RkG.alloc (h : RkG w q F N A H lf dn wr g n al hs) (o : Obj) : RkG (w.alloc o) q F N A H lf dn wr g n al hs :=
  h.keep (Kp.of_below ((Below.refl _ w).alloc (Nat.le_refl _) o) (fun _ => False)) (fun _ _ x => x)
theorem RkG.drew (h : RkG w q F N A H lf dn wr g n al hs) : RkG (World.drew w) q F N A H lf dn wr g n al hs :=
  h.keep (Kp.drew (Kp.refl (fun _ => False) w)) (fun _ _ x => x)
section
variable (h : RkG w q F N A H lf dn wr g n al hs)
include h
theorem RkG.c0 : w.cell? ⟨q, 0, none⟩ = some F := cell_of_row w q 0 _ _ (0, 0) h.box
theorem RkG.c1 : w.cell? ⟨q, 1, none⟩ = some N := cell_of_row w q 1 _ _ (0, 0) h.box
theorem RkG.c2 : w.cell? ⟨q, 2, none⟩ = some A := cell_of_row w q 2 _ _ (0, 0) h.box
theorem RkG.c3 : w.cell? ⟨q, 3, none⟩ = some H := cell_of_row w q 3 _ _ (0, 0) h.box
theorem RkG.c4 : w.cell? ⟨q, 4, none⟩ = some (.int .i64 lf) := cell_of_row w q 4 _ _ (0, 0) h.box
theorem RkG.c5 : w.cell? ⟨q, 5, none⟩ = some (.bool dn) := cell_of_row w q 5 _ _ (0, 0) h.box
theorem RkG.c6 : w.cell? ⟨q, 6, none⟩ = some (.int .i64 wr) := cell_of_row w q 6 _ _ (0, 0) h.box
theorem RkG.fr (i : Nat) : w.frozen? ⟨q, i, none⟩ = false := frozen_of_row w q i _ _ h.box
end
/-- A field that holds no row turns. -/
theorem RkG.upd (h : RkG w q F N A H lf dn wr g n al hs) (i : Nat) (v : Value) (lf' : Int) (dn' : Bool) (wr' : Int) (hb : (#[F, N, A, H, .int .i64 lf, .bool dn, .int .i64 wr] : Array Value).setIfInBounds i v = #[F, N, A, H, .int .i64 lf', .bool dn', .int .i64 wr']) :
    RkG (w.setCell ⟨q, i, none⟩ v) q F N A H lf' dn' wr' g n al hs := by
  have hk : Kp (fun k => k = q) w (w.setCell ⟨q, i, none⟩ v) := Kp.setCell (S := fun k => k = q) (p := ⟨q, i, none⟩) (Kp.refl _ w) (.inl rfl) v
  exact ⟨by rw [← hb]; exact heap_setCell_same w q i _ _ v h.box, own_kp h.firm hk fun b e x => (h.fs b e).2.2.2 x, own_kp h.now hk fun b e x => (h.ns b e).2.2 x, own_kp h.ats hk fun b e x => (h.sa b e).2 x, own_kp h.what hk fun b e x => h.sh b e x, h.fs, h.ns, h.sa, h.sh⟩
theorem RkG.updL (h : RkG w q F N A H lf dn wr g n al hs) (x : Int) : RkG (w.setCell ⟨q, 4, none⟩ (.int .i64 x)) q F N A H x dn wr g n al hs := h.upd 4 _ _ _ _ rfl
theorem RkG.updD (h : RkG w q F N A H lf dn wr g n al hs) (x : Bool) : RkG (w.setCell ⟨q, 5, none⟩ (.bool x)) q F N A H lf x wr g n al hs := h.upd 5 _ _ _ _ rfl
theorem RkG.updW (h : RkG w q F N A H lf dn wr g n al hs) (x : Int) : RkG (w.setCell ⟨q, 6, none⟩ (.int .i64 x)) q F N A H lf dn x g n al hs := h.upd 6 _ _ _ _ rfl
/-- No writes are pending any more: the one row, the other one. -/
theorem RkG.noA (h : RkG w q F N A H lf dn wr g n al hs) : RkG (w.setCell ⟨q, 2, none⟩ (.slice none 0 0)) q F N (.slice none 0 0) H lf dn wr g n [] hs := by
  have hk : Kp (fun k => k = q) w (w.setCell ⟨q, 2, none⟩ (.slice none 0 0)) := Kp.setCell (S := fun k => k = q) (p := ⟨q, 2, none⟩) (Kp.refl _ w) (.inl rfl) _
  exact ⟨heap_setCell_same w q 2 _ _ _ h.box, own_kp h.firm hk fun b e x => (h.fs b e).2.2.2 x, own_kp h.now hk fun b e x => (h.ns b e).2.2 x, World.ownsRow_nil _ _ _ _, own_kp h.what hk fun b e x => h.sh b e x, fun k e => ⟨(h.fs k e).1, fun e2 => (by cases e2), (h.fs k e).2.2⟩, fun k e => ⟨fun e2 => (by cases e2), (h.ns k e).2⟩, fun k e => (by cases e), h.sh⟩
theorem RkG.noH (h : RkG w q F N A H lf dn wr g n al hs) : RkG (w.setCell ⟨q, 3, none⟩ (.slice none 0 0)) q F N A (.slice none 0 0) lf dn wr g n al [] := by
  have hk : Kp (fun k => k = q) w (w.setCell ⟨q, 3, none⟩ (.slice none 0 0)) := Kp.setCell (S := fun k => k = q) (p := ⟨q, 3, none⟩) (Kp.refl _ w) (.inl rfl) _
  exact ⟨heap_setCell_same w q 3 _ _ _ h.box, own_kp h.firm hk fun b e x => (h.fs b e).2.2.2 x, own_kp h.now hk fun b e x => (h.ns b e).2.2 x, own_kp h.ats hk fun b e x => (h.sa b e).2 x, World.ownsRow_nil _ _ _ _, fun k e => ⟨(h.fs k e).1, (h.fs k e).2.1, fun e2 => (by cases e2), (h.fs k e).2.2.2⟩, fun k e => ⟨(h.ns k e).1, fun e2 => (by cases e2), (h.ns k e).2.2⟩, fun k e => ⟨fun e2 => (by cases e2), (h.sa k e).2⟩, fun k e => (by cases e)⟩
/-- A sector is read anew. -/
theorem RkG.storeN {b c : Nat} (h : RkG w q F (.slice (some ⟨b, 0, none⟩) n.length c) A H lf dn wr g n al hs) (hn : ∀ s ∈ n, s.length = 64) {j : Nat} (hj : j < n.length) (s : List UInt8) (hl : s.length = 64) :
    RkG (w.setCells b (j * 64) (bc s)) q F (.slice (some ⟨b, 0, none⟩) n.length c) A H lf dn wr g (n.set j s) al hs := by
  have hk := setCells_kp1 b (j * 64) (bc s) w
  refine ⟨(hk.block _ (lt_of_heap h.box) (fun e => (h.ns b rfl).2.2 e.symm)).trans h.box, own_kp h.firm hk fun k e x => (h.fs k e).1 (by rw [x]; rfl), ?_, own_kp h.ats hk fun k e x => (h.ns b rfl).1 (by rw [e, x]), own_kp h.what hk fun k e x => (h.ns b rfl).2.1 (by rw [e, x]), h.fs, h.ns, h.sa, h.sh⟩
  have ho := own_store h.now (secR_ok hn) (by simp [secR]) (i := j) (by simpa [secR] using hj) (bc s) (by rw [bc_length, hl])
  rw [secR_set, List.length_set]
  exact ho
/-- A sector is there for good. -/
theorem RkG.storeF {b c : Nat} (h : RkG w q (.slice (some ⟨b, 0, none⟩) g.length c) N A H lf dn wr g n al hs) (hg : ∀ s ∈ g, s.length = 64) {j : Nat} (hj : j < g.length) (s : List UInt8) (hl : s.length = 64) :
    RkG (w.setCells b (j * 64) (bc s)) q (.slice (some ⟨b, 0, none⟩) g.length c) N A H lf dn wr (g.set j s) n al hs := by
  have hk := setCells_kp1 b (j * 64) (bc s) w
  refine ⟨(hk.block _ (lt_of_heap h.box) (fun e => (h.fs b rfl).2.2.2 e.symm)).trans h.box, ?_, own_kp h.now hk fun k e x => (h.fs b rfl).1 (by rw [e, x]), own_kp h.ats hk fun k e x => (h.fs b rfl).2.1 (by rw [e, x]), own_kp h.what hk fun k e x => (h.fs b rfl).2.2.1 (by rw [e, x]), h.fs, h.ns, h.sa, h.sh⟩
  have ho := own_store h.firm (secR_ok hg) (by simp [secR]) (i := j) (by simpa [secR] using hj) (bc s) (by rw [bc_length, hl])
  rw [secR_set, List.length_set]
  exact ho
/-- A byte of a sector is there for good. -/
theorem RkG.byteF {b c : Nat} (h : RkG w q (.slice (some ⟨b, 0, none⟩) g.length c) N A H lf dn wr g n al hs) (i : Nat) (v : Value) (g' : List (List UInt8)) (hl : g'.length = g.length) (hv : (secR g').flatten = (secR g).flatten.set i v) :
    RkG (w.setCell ⟨b, i, none⟩ v) q (.slice (some ⟨b, 0, none⟩) g.length c) N A H lf dn wr g' n al hs := by
  have hk : Kp (fun k => k = b) w (w.setCell ⟨b, i, none⟩ v) := Kp.setCell (S := fun k => k = b) (p := ⟨b, i, none⟩) (Kp.refl _ w) (.inl rfl) v
  refine ⟨(hk.block _ (lt_of_heap h.box) (fun e => (h.fs b rfl).2.2.2 e.symm)).trans h.box, ?_, own_kp h.now hk fun k e x => (h.fs b rfl).1 (by rw [e, x]), own_kp h.ats hk fun k e x => (h.fs b rfl).2.1 (by rw [e, x]), own_kp h.what hk fun k e x => (h.fs b rfl).2.2.1 (by rw [e, x]), h.fs, h.ns, h.sa, h.sh⟩
  rw [hl, hv]
  exact (h.firm.stored i v).1
/-- Behind an append onto where it was written. -/
theorem RkG.pushA {w3 : World} {Pa A2 : Option Addr} {pc c2 m : Nat} {x : Value} (hm : al.length = m) (h : RkG w q F N (.slice Pa m pc) H lf dn wr g n al hs) (hg : w.grownBy w3 (ob Pa)) (hat : ob A2 = ob Pa ∨ ob A2 = some w.heap.size)
    (ho : w3.ownsRow 0 3 1 (.slice A2 (m + 1) c2) (m + 1) (al ++ [x])) :
    RkG (w3.setCell ⟨q, 2, none⟩ (.slice A2 (m + 1) c2)) q F N (.slice A2 (m + 1) c2) H lf dn wr g n (al ++ [x]) hs := by
  have hk := (Kp.refl (fun k => ob Pa = some k) w).grown hg (fun k e => .inl e)
  have hp := lt_of_heap h.box
  have hne : ∀ b, ob Pa = some b → b ≠ q := fun b e => (h.sa b (by rw [ownBlock_slice]; exact e)).2
  have hx := (hk.block q hp (fun e => hne q e rfl)).trans h.box
  have hA : ∀ k, ob A2 = some k → ob Pa = some k ∨ k = w.heap.size := fun k e => by
    rcases hat with y | y
    · rw [y] at e; exact .inl e
    · rw [y] at e; injection e with e; exact .inr e.symm
  have hAp : ∀ k, ob A2 = some k → k ≠ q := fun k e => by
    rcases hA k e with y | y
    · exact hne k y
    · omega
  have hk2 : Kp (fun k => k = q) w3 (w3.setCell ⟨q, 2, none⟩ (.slice A2 (m + 1) c2)) := Kp.setCell (S := fun k => k = q) (p := ⟨q, 2, none⟩) (Kp.refl _ w3) (.inl rfl) _
  refine ⟨heap_setCell_same w3 q 2 _ _ _ hx, ?_, ?_, ?_, ?_, fun k e => ⟨(h.fs k e).1, ?_, (h.fs k e).2.2⟩, fun k e => ⟨?_, (h.ns k e).2⟩, fun k e => ⟨?_, hAp k (by rw [ownBlock_slice] at e; exact e)⟩, h.sh⟩
  · exact own_kp (own_kp h.firm hk fun b e x => (h.fs b e).2.1 (by rw [ownBlock_slice]; exact x)) hk2 fun b e x => (h.fs b e).2.2.2 x
  · exact own_kp (own_kp h.now hk fun b e x => (h.ns b e).1 (by rw [ownBlock_slice]; exact x)) hk2 fun b e x => (h.ns b e).2.2 x
  · have := own_kp ho hk2 fun b e x => hAp b (by rw [ownBlock_slice] at e; exact e) x
    rw [List.length_append, hm]
    exact this
  · exact own_kp (own_kp h.what hk fun b e x => (h.sa b (by rw [ownBlock_slice]; exact x)).1 e) hk2 fun b e x => h.sh b e x
  · rw [ownBlock_slice]
    intro y
    rcases hA k y with z | z
    · exact (h.fs k e).2.1 (by rw [ownBlock_slice]; exact z)
    · have := h.lt k (.inr (.inl e)); omega
  · rw [ownBlock_slice]
    intro y
    rcases hA k y with z | z
    · exact (h.ns k e).1 (by rw [ownBlock_slice]; exact z)
    · have := h.lt k (.inr (.inr (.inl e))); omega
  · rw [ownBlock_slice] at e
    intro y
    rcases hA k e with z | z
    · exact (h.sa k (by rw [ownBlock_slice]; exact z)).1 y
    · have := h.lt k (.inr (.inr (.inr (.inr y)))); omega
/-- Behind an append onto what was written. -/
theorem RkG.pushH {w3 : World} {Pa A2 : Option Addr} {pc c2 m : Nat} {s : List UInt8} (hm : hs.length = m) (h : RkG w q F N A (.slice Pa m pc) lf dn wr g n al hs) (hg : w.grownBy w3 (ob Pa)) (hat : ob A2 = ob Pa ∨ ob A2 = some w.heap.size)
    (ho : w3.ownsRow 0 40 64 (.slice A2 (m + 1) c2) (m + 1) ((secR hs).flatten ++ bc s)) :
    RkG (w3.setCell ⟨q, 3, none⟩ (.slice A2 (m + 1) c2)) q F N A (.slice A2 (m + 1) c2) lf dn wr g n al (hs ++ [s]) := by
  have hk := (Kp.refl (fun k => ob Pa = some k) w).grown hg (fun k e => .inl e)
  have hp := lt_of_heap h.box
  have hne : ∀ b, ob Pa = some b → b ≠ q := fun b e => h.sh b (by rw [ownBlock_slice]; exact e)
  have hx := (hk.block q hp (fun e => hne q e rfl)).trans h.box
  have hA : ∀ k, ob A2 = some k → ob Pa = some k ∨ k = w.heap.size := fun k e => by
    rcases hat with y | y
    · rw [y] at e; exact .inl e
    · rw [y] at e; injection e with e; exact .inr e.symm
  have hAp : ∀ k, ob A2 = some k → k ≠ q := fun k e => by
    rcases hA k e with y | y
    · exact hne k y
    · omega
  have hk2 : Kp (fun k => k = q) w3 (w3.setCell ⟨q, 3, none⟩ (.slice A2 (m + 1) c2)) := Kp.setCell (S := fun k => k = q) (p := ⟨q, 3, none⟩) (Kp.refl _ w3) (.inl rfl) _
  have hO : ∀ k X, (∀ b, X = some b → ∃ e : Rlk q F N A (.slice Pa m pc) b, ob Pa ≠ some b) → X = some k → ob A2 ≠ some k := fun k X hX e y => by
    obtain ⟨e1, e2⟩ := hX k e
    rcases hA k y with z | z
    · exact e2 z
    · have := h.lt k e1; omega
  refine ⟨heap_setCell_same w3 q 3 _ _ _ hx, ?_, ?_, ?_, ?_, fun k e => ⟨(h.fs k e).1, (h.fs k e).2.1, ?_, (h.fs k e).2.2.2⟩, fun k e => ⟨(h.ns k e).1, ?_, (h.ns k e).2.2⟩, fun k e => ⟨?_, (h.sa k e).2⟩, fun k e => hAp k (by rw [ownBlock_slice] at e; exact e)⟩
  · exact own_kp (own_kp h.firm hk fun b e x => (h.fs b e).2.2.1 (by rw [ownBlock_slice]; exact x)) hk2 fun b e x => (h.fs b e).2.2.2 x
  · exact own_kp (own_kp h.now hk fun b e x => (h.ns b e).2.1 (by rw [ownBlock_slice]; exact x)) hk2 fun b e x => (h.ns b e).2.2 x
  · exact own_kp (own_kp h.ats hk fun b e x => (h.sa b e).1 (by rw [ownBlock_slice]; exact x)) hk2 fun b e x => (h.sa b e).2 x
  · have := own_kp ho hk2 fun b e x => hAp b (by rw [ownBlock_slice] at e; exact e) x
    rw [secR_snoc, List.length_append, hm]
    exact this
  · rw [ownBlock_slice]
    exact hO k _ (fun b eb => ⟨.inr (.inl eb), fun y => (h.fs b eb).2.2.1 (by rw [ownBlock_slice]; exact y)⟩) e
  · rw [ownBlock_slice]
    exact hO k _ (fun b eb => ⟨.inr (.inr (.inl eb)), fun y => (h.ns b eb).2.1 (by rw [ownBlock_slice]; exact y)⟩) e
  · rw [ownBlock_slice]
    exact hO k _ (fun b eb => ⟨.inr (.inr (.inr (.inl eb))), fun y => (h.sa b eb).1 (by rw [ownBlock_slice]; exact y)⟩) e
theorem RkG.grownA {w3 : World} {Pa : Option Addr} {pc m : Nat} (h : RkG w q F N (.slice Pa m pc) H lf dn wr g n al hs) (hg : w.grownBy w3 (ob Pa)) :
    w3.cell? ⟨q, 2, none⟩ = some (.slice Pa m pc) ∧ w3.frozen? ⟨q, 2, none⟩ = false := by
  have hk := (Kp.refl (fun k => ob Pa = some k) w).grown hg (fun k e => .inl e)
  have hx := (hk.block q (lt_of_heap h.box) (fun e => (h.sa q (by rw [ownBlock_slice]; exact e)).2 rfl)).trans h.box
  exact ⟨cell_of_row w3 q 2 _ _ (0, 0) hx, frozen_of_row w3 q 2 _ _ hx⟩
theorem RkG.grownH {w3 : World} {Pa : Option Addr} {pc m : Nat} (h : RkG w q F N A (.slice Pa m pc) lf dn wr g n al hs) (hg : w.grownBy w3 (ob Pa)) :
    w3.cell? ⟨q, 3, none⟩ = some (.slice Pa m pc) ∧ w3.frozen? ⟨q, 3, none⟩ = false := by
  have hk := (Kp.refl (fun k => ob Pa = some k) w).grown hg (fun k e => .inl e)
  have hx := (hk.block q (lt_of_heap h.box) (fun e => h.sh q (by rw [ownBlock_slice]; exact e) rfl)).trans h.box
  exact ⟨cell_of_row w3 q 3 _ _ (0, 0) hx, frozen_of_row w3 q 3 _ _ hx⟩
end
theorem Rsk.keep {w w' : World} {q : Nat} {d : Dk} {S B : Nat → Prop} (h : Rsk w q B d) (hk : Kp S w w') (hn : ∀ k, k < w.heap.size → B k → ¬ S k) : Rsk w' q B d := by
  obtain ⟨F, N, A, H, h1, h2, h3⟩ := h
  exact ⟨F, N, A, H, h1.keep hk fun k hb => hn k (h1.lt k hb) (h2 k hb), h2, h3⟩
theorem Rsk.mono {w : World} {q : Nat} {d : Dk} {B B' : Nat → Prop} (h : Rsk w q B d) (hb : ∀ k, k < w.heap.size → B k → B' k) : Rsk w q B' d := by
  obtain ⟨F, N, A, H, h1, h2, h3⟩ := h
  exact ⟨F, N, A, H, h1, fun k hk => hb k (h1.lt k hk) (h2 k hk), h3⟩
theorem Rsk.below {w w' : World} {q : Nat} {d : Dk} {B : Nat → Prop} (h : Rsk w q B d) (hb : Below w.heap.size w w') : Rsk w' q B d := h.keep (Kp.of_below hb (fun _ => False)) fun _ _ _ x => x
theorem Rsk.ok {w : World} {q : Nat} {d : Dk} {B : Nat → Prop} (h : Rsk w q B d) : d.ok := by obtain ⟨_, _, _, _, _, _, h1⟩ := h; exact h1
/-- What a call does to it: nothing else turns. -/
def RkPost (q : Nat) (B : Nat → Prop) (d : Dk) (w w' : World) : Prop := Rsk w' q (Up B w w') d ∧ Kp B w w'
theorem rk_box {w : World} {q : Nat} {F N A H : Value} {B : Nat → Prop} (hB : ∀ k, Rlk q F N A H k → B k) (i : Nat) (v : Value) : Kp B w (w.setCell ⟨q, i, none⟩ v) := Kp.setCell (p := ⟨q, i, none⟩) (Kp.refl _ w) (.inl (hB q (.inl rfl))) v

end Go.Proofs.Ytlaecnggbcagcaa
