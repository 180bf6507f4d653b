/- Words for memory: what a call may have turned, and a buffer of bytes behind a pointer. Plain facts on worlds; no program. -/
import Derived.WalkKit
import Derived.WalkSpells
import Derived.WalkLawsBesides
import Derived.Lib.Hide
import Derived.Lib.UnsafeStr
import Derived.Maps.AppendAt
import Derived.Deep.Draws
import Derived.Deep.AppendSrc
import Derived.Laws.IdiomStrings
namespace MM
open Go Go.RowKit

/-- Of what was there, only blocks of S may have turned. -/
structure Kp (S : Nat → Prop) (w w' : World) : Prop where
  os : w'.os = w.os
  tape : w'.tape = w.tape
  output : w'.output = w.output
  size : w.heap.size ≤ w'.heap.size
  block : ∀ k, k < w.heap.size → ¬ S k → w'.heap[k]? = w.heap[k]?

section
variable {S S' : Nat → Prop} {a b c w w' : World}
theorem Kp.refl (S : Nat → Prop) (w : World) : Kp S w w := ⟨rfl, rfl, rfl, Nat.le_refl _, fun _ _ _ => rfl⟩
theorem Kp.trans (h : Kp S a b) (k : Kp S' b c) (hs : ∀ i, i < a.heap.size → S' i → S i) : Kp S a c :=
  ⟨k.os.trans h.os, k.tape.trans h.tape, k.output.trans h.output, Nat.le_trans h.size k.size,
    fun i hi hn => (k.block i (Nat.lt_of_lt_of_le hi h.size) (fun x => hn (hs i hi x))).trans (h.block i hi hn)⟩
theorem Kp.mono (h : Kp S a b) (hs : ∀ i, i < a.heap.size → S i → S' i) : Kp S' a b :=
  ⟨h.os, h.tape, h.output, h.size, fun i hi hn => h.block i hi (fun x => hn (hs i hi x))⟩
theorem Kp.drew (h : Kp S a w) : Kp S a w.drew := ⟨h.os, h.tape, h.output, h.size, h.block⟩
theorem Kp.drewN (h : Kp S a w) (n : Nat) : Kp S a (w.drewN n) := ⟨h.os, h.tape, h.output, h.size, h.block⟩
theorem Kp.alloc (h : Kp S a w) (o : Obj) : Kp S a (w.alloc o) :=
  ⟨h.os, h.tape, h.output, Nat.le_trans h.size (by simp), fun i hi hn => (Below.heap_alloc w o i (Nat.lt_of_lt_of_le hi h.size)).trans (h.block i hi hn)⟩
theorem Kp.setCell (h : Kp S a w) {p : Addr} (hp : S p.block ∨ a.heap.size ≤ p.block) (u : Value) : Kp S a (w.setCell p u) :=
  ⟨h.os, h.tape, h.output, by simpa [World.setCell] using h.size, fun i hi hn => (Below.heap_setCell w p u i (by
    rintro rfl
    rcases hp with hp | hp
    · exact hn hp
    · omega)).trans (h.block i hi hn)⟩
theorem Kp.grown {row : Option Nat} (h : Kp S a w) (g : w.grownBy w' row) (hr : ∀ k, row = some k → S k ∨ a.heap.size ≤ k) : Kp S a w' :=
  ⟨g.os.trans h.os, g.tape.trans h.tape, g.output.trans h.output, Nat.le_trans h.size g.size,
    fun i hi hn => (g.block i (Nat.lt_of_lt_of_le hi h.size) (by
      intro e
      rcases hr i e.symm with x | x
      · exact hn x
      · omega)).trans (h.block i hi hn)⟩
theorem Kp.cell (h : Kp S w w') {p : Addr} {v : Value} (hc : w.cell? p = some v) (hn : ¬ S p.block) : w'.cell? p = some v :=
  (World.cell?_of_block (h.block p.block (World.block_lt_of_cell? w p hc) hn)).trans hc
theorem Kp.frozen (h : Kp S w w') {p : Addr} (hl : p.block < w.heap.size) (hn : ¬ S p.block) : w'.frozen? p = w.frozen? p :=
  World.frozen?_of_block (h.block p.block hl hn)
theorem Kp.below (h : Kp S w w') {B : Nat} (hB : B ≤ w.heap.size) (hs : ∀ i, i < B → ¬ S i) : Below B w w' :=
  ⟨h.os, h.tape, h.output, h.size, fun i hi => h.block i (by omega) (hs i hi)⟩
theorem Kp.of_below (h : Below w.heap.size w w') (S : Nat → Prop) : Kp S w w' := ⟨h.os, h.tape, h.output, h.size, fun i hi _ => h.block i hi⟩
theorem Kp.own {base : Nat} {e : TypeId} {size n : Nat} {v : Value} {xs : List Value} (h : Kp S w w') (ho : w.ownsRow base e size v n xs) (hn : ∀ k, v.ownBlock = some k → ¬ S k) : w'.ownsRow base e size v n xs := by
  refine ⟨ho.1, ?_⟩
  rcases ho.2 with x | ⟨g, cap, cur, rfl, hb, hg, r⟩
  · exact .inl x
  · exact .inr ⟨g, cap, cur, rfl, hb, (h.block g (Array.getElem?_eq_some_iff.1 hg).1 (hn g rfl)).trans hg, r⟩
end

@[go_sem] theorem store_float (P : Program) (w : World) (a : Addr) (m : Mode) (k : FloatKind) (b : Nat) : (store a (.float k b) m).run P w = stored P w a (.float k b) m := run_store P w a _ m rfl

/-- The bytes of a list, as cells. -/
def bc (l : List UInt8) : List Value := l.map fun c => Value.int .u8 c.toNat
theorem bc_length (l : List UInt8) : (bc l).length = l.length := by simp [bc]
theorem bc_append (a b : List UInt8) : bc (a ++ b) = bc a ++ bc b := by simp [bc]
theorem bc_one (l : List UInt8) : ∀ v ∈ bc l, v.oneCell' = true := by
  intro v hv
  simp only [bc, List.mem_map] at hv
  obtain ⟨c, _, rfl⟩ := hv
  rfl
theorem bc_get (l : List UInt8) (j : Nat) (h : j < l.length) : (bc l)[j]? = some (Value.int .u8 (l[j]).toNat) := by
  simp [bc, h]

/-- No more bytes than 2^32: behind a name, as the walk takes no great numbers. -/
def Lim (n : Nat) : Prop := n < 4294967296
theorem Lim.len {n m : Nat} (h : Lim (n + m)) : n + m ≤ maxLen := by unfold Lim at h; unfold maxLen; omega
theorem Lim.fits {n m : Nat} (h : Lim (n + m)) : (n + m) * 1 ≤ 140737488355328 := by unfold Lim at h; omega
theorem Lim.fit {n m : Nat} (h : Lim (n + m)) (k : Nat) (hk : k ≤ 4096) : (n + m) * k ≤ 140737488355328 := by
  unfold Lim at h
  calc (n + m) * k ≤ 4294967296 * 4096 := Nat.mul_le_mul (by omega) hk
    _ ≤ _ := by decide
theorem Lim.le {n m : Nat} (h : Lim m) (hn : n ≤ m) : Lim n := by unfold Lim at *; omega

theorem one_cell {x : Value} (h : x.oneCell' = true) : ∀ u ∈ [x], u.oneCell' = true := by
  intro u hu
  simp only [List.mem_singleton] at hu
  subst hu
  exact h

/-- The block of an address, if there is one. -/
def ob (A : Option Addr) : Option Nat := A.map (·.block)
theorem ownBlock_slice (A : Option Addr) (n c : Nat) : (Value.slice A n c).ownBlock = ob A := by cases A <;> rfl
theorem own_form {w : World} {base : Nat} {e : TypeId} {size n : Nat} {v : Value} {xs : List Value} (h : w.ownsRow base e size v n xs) : ∃ A c, v = .slice A n c := by
  rcases h.2 with ⟨rfl, rfl⟩ | ⟨g, cap, _, rfl, _⟩
  · exact ⟨none, 0, rfl⟩
  · exact ⟨_, _, rfl⟩

section
variable {P : Program}
/-- append onto a slice that is nobody else's, of whatever source: the new slice lies in the old one's block, or in a new one. -/
theorem run_append_at (w : World) (t tx ty e : TypeId) (i : TypeInfo) (z : Value) (size bytes : Nat) (ht : P.underlying t = some (.slice e)) (hi : P.info? e = some i) (hz : i.zero = some z)
    (hsize : i.size = size) (hby : i.bytes = bytes) (hzs : z.cells.size = size) (A : Option Addr) (n c : Nat) (xs : List Value) (hown : w.ownsRow 0 e size (.slice A n c) n xs)
    (x : Value) (m : Nat) (news : List Value) (hs : Src P size tx x m news w) (h63 : n + m ≤ maxLen) (hbytes : (n + m) * bytes ≤ 140737488355328) :
    ∃ A' c' w', (Builtin.append_ #[t, tx] ty #[.slice A n c, x]).run P w = .ok (.slice A' (n + m) c') w' ∧ w'.ownsRow 0 e size (.slice A' (n + m) c') (n + m) (xs ++ news) ∧ w.grownBy w' (ob A) ∧
      (ob A' = ob A ∨ ob A' = some w.heap.size) := by
  subst hsize hby
  have h63' : ((n + m : Nat) : Int) ≤ 9223372036854775807 := by simp only [maxLen] at h63; omega
  have hlen : (xs ++ news).length = (n + m) * i.size := by rw [List.length_append, hown.1, hs.newsLen, Nat.add_mul]
  have hgrow : ∀ (hc : c < n + m) (hold : (Builtin.firstCells i.size n (.slice A n c)).run P w.drew = .ok xs.toArray w.drew),
      ∃ A' c' w', (Builtin.append_ #[t, tx] ty #[.slice A n c, x]).run P w = .ok (.slice A' (n + m) c') w' ∧ w'.ownsRow 0 e i.size (.slice A' (n + m) c') (n + m) (xs ++ news) ∧ w.grownBy w' (ob A) ∧
      (ob A' = ob A ∨ ob A' = some w.heap.size) := by
    intro hc hold
    have hr := run_append_grow_src (P := P) w t tx ty e i z ht hi hz A n c xs hold x m news hs hc h63' (growslice_fits hc hbytes)
    refine ⟨_, _, _, hr, ⟨hlen, .inr ⟨w.heap.size, _, _, rfl, Nat.zero_le _, heap_alloc_new w.drew _, grownCap_ge w (n + m) c e, grownCap_le_maxLen w (n + m) c e h63, ?_, ?_⟩⟩, ⟨rfl, rfl, rfl, by simp, fun k hk _ => Below.heap_alloc w.drew _ k hk⟩, .inr rfl⟩
    · have := grownCap_ge w (n + m) c e
      simp only [Array.size_append, List.size_toArray, size_zeroCells, hzs, hlen]
      rw [← Nat.add_mul]
      congr 1
      omega
    · rw [Array.toList_append, ← hlen]
      exact List.take_left
  rcases hown.2 with ⟨hv, rfl⟩ | ⟨g, cap, cur, hv, _, hg, hnc, hcm, hcs, htake⟩
  · injection hv with hA _ hc
    subst hA hc
    have hx : xs = [] := List.eq_nil_of_length_eq_zero (by simpa using hown.1)
    subst hx
    by_cases hm : m = 0
    · subst hm
      have hn : news = [] := List.eq_nil_of_length_eq_zero (by simpa using hs.newsLen)
      subst hn
      refine ⟨none, 0, w, ?_, World.ownsRow_nil w 0 e i.size, ⟨rfl, rfl, rfl, Nat.le_refl _, fun _ _ _ => rfl⟩, .inl rfl⟩
      have hl := hs.len
      have hc := hs.cells
      rcases hs.kind with ⟨e', hk⟩ | hk <;> simp [Builtin.append_, run_underlying ht, run_underlying hk, Go.sizeOf, typeInfo, hi, hl, hc]
    · exact hgrow (by omega) (run_firstCells_none w.drew i.size 0 0 0)
  · injection hv with hA _ hc
    subst hA hc
    by_cases hroom : n + m ≤ c
    · have hfit : n * i.size + news.length ≤ cur.size := by rw [hs.newsLen, hcs, ← Nat.add_mul]; exact Nat.mul_le_mul_right _ hroom
      have hst := run_storeCells_at P g (n * i.size) e news 0 cur w hg (by simpa using hfit) hs.one
      simp only [Nat.add_zero] at hst
      have hl := hs.len
      have hc := hs.cells
      have hr : (Builtin.append_ #[t, tx] ty #[.slice (some ⟨g, 0, none⟩) n c, x]).run P w = .ok (.slice (some ⟨g, 0, none⟩) (n + m) c) (w.setRow g (cur.toList.take (n * i.size) ++ news ++ cur.toList.drop (n * i.size + news.length)).toArray) := by
        rcases hs.kind with ⟨e', hk⟩ | hk <;> simp [Builtin.append_, run_underlying ht, run_underlying hk, Go.sizeOf, typeInfo, hi, hl, hroom, hc, Addr.add_lit, hst]
      refine ⟨some ⟨g, 0, none⟩, c, _, hr, ⟨hlen, .inr ⟨g, c, _, rfl, Nat.zero_le _, setRow_heap w g cur _ e _ hg, hroom, hcm, ?_, ?_⟩⟩, ⟨rfl, rfl, rfl, by simp, fun k _ hk => setRow_other w g k _ (fun e => hk (by simp [ob, e]))⟩, .inl rfl⟩
      · simp only [List.size_toArray, List.length_append, List.length_take, List.length_drop, Array.length_toList]
        omega
      · rw [htake, ← hlen]
        exact List.take_left
    · exact hgrow (by omega) (run_firstCells_some w.drew i.size n ⟨g, 0, none⟩ n c xs hown.1 (by simpa using hown.cells (g := g) rfl))

/-- The same at the operation, for the walk. -/
theorem wp_append_at {w : World} {o : Oper} {a : Act} {K : Act → World → Prop} {Q : Exit → Act → World → Prop} (s x : Operand) (t tx : TypeId)
    (ho : o.op = .call { callee := .builtin .append, args := #[s, x], argTypes := #[t, tx] })
    (e : TypeId) (i : TypeInfo) (z : Value) (size bytes : Nat) (ht : P.underlying t = some (.slice e)) (hi : P.info? e = some i) (hz : i.zero = some z)
    (hsize : i.size = size) (hby : i.bytes = bytes) (hzs : z.cells.size = size) (A : Option Addr) (n c : Nat) (xs : List Value) (hA : a.eval s = .slice A n c) (hown : w.ownsRow 0 e size (.slice A n c) n xs)
    (xv : Value) (m : Nat) (news : List Value) (hx : a.eval x = xv) (hs : Src P size tx xv m news w) (h63 : n + m ≤ maxLen) (hbytes : (n + m) * bytes ≤ 140737488355328)
    (h : ∀ A' c' w', w'.ownsRow 0 e size (.slice A' (n + m) c') (n + m) (xs ++ news) → w.grownBy w' (ob A) → (ob A' = ob A ∨ ob A' = some w.heap.size) → K (a.put o.dst (.slice A' (n + m) c')) w') : o.wp P a w K Q := by
  obtain ⟨A', c', w', hr, h2, h3, h4⟩ := run_append_at (P := P) w t tx o.type e i z size bytes ht hi hz hsize hby hzs A n c xs hown xv m news hs h63 hbytes
  unfold Oper.wp execOp
  simp only [ho, resolve, invoke, builtin, Sem.run_bind, Sem.run_pure, Result.andThen_ok, List.map_toArray, List.map_cons, List.map_nil, hA, hx, hr]
  exact h A' c' w' h2 h3 h4
theorem wpList_append_at {w : World} {ops : Array Oper} {rest : List Oper} {o : Oper} {a : Act} {Q : Exit → Act → World → Prop} (hgd : o.guard = none) (s x : Operand) (t tx : TypeId)
    (ho : o.op = .call { callee := .builtin .append, args := #[s, x], argTypes := #[t, tx] })
    (e : TypeId) (i : TypeInfo) (z : Value) (size bytes : Nat) (ht : P.underlying t = some (.slice e)) (hi : P.info? e = some i) (hz : i.zero = some z)
    (hsize : i.size = size) (hby : i.bytes = bytes) (hzs : z.cells.size = size) (A : Option Addr) (n c : Nat) (xs : List Value) (hA : a.eval s = .slice A n c) (hown : w.ownsRow 0 e size (.slice A n c) n xs)
    (xv : Value) (m : Nat) (news : List Value) (hx : a.eval x = xv) (hs : Src P size tx xv m news w) (h63 : n + m ≤ maxLen) (hbytes : (n + m) * bytes ≤ 140737488355328)
    (h : ∀ A' c' w', w'.ownsRow 0 e size (.slice A' (n + m) c') (n + m) (xs ++ news) → w.grownBy w' (ob A) → (ob A' = ob A ∨ ob A' = some w.heap.size) → wpList P ops Q rest (a.put o.dst (.slice A' (n + m) c')) w') : wpList P ops Q (o :: rest) a w :=
  wpList_plain hgd fun _ hK => wp_append_at s x t tx ho e i z size bytes ht hi hz hsize hby hzs A n c xs hA hown xv m news hx hs h63 hbytes fun A' c' w' h2 h3 h4 => hK _ _ (h A' c' w' h2 h3 h4)
theorem step_append_at {w : World} {ops : Array Oper} {o : Oper} {a : Act} {K : Act → World → Prop} {Q : Exit → Act → World → Prop} {F : Prop} (hgd : o.guard = none) (s x : Operand) (t tx : TypeId)
    (ho : o.op = .call { callee := .builtin .append, args := #[s, x], argTypes := #[t, tx] })
    (e : TypeId) (i : TypeInfo) (z : Value) (size bytes : Nat) (ht : P.underlying t = some (.slice e)) (hi : P.info? e = some i) (hz : i.zero = some z)
    (hsize : i.size = size) (hby : i.bytes = bytes) (hzs : z.cells.size = size) (A : Option Addr) (n c : Nat) (xs : List Value) (hA : a.eval s = .slice A n c) (hown : w.ownsRow 0 e size (.slice A n c) n xs)
    (xv : Value) (m : Nat) (news : List Value) (hx : a.eval x = xv) (hs : Src P size tx xv m news w) (h63 : n + m ≤ maxLen) (hbytes : (n + m) * bytes ≤ 140737488355328)
    (h : ∀ A' c' w', w'.ownsRow 0 e size (.slice A' (n + m) c') (n + m) (xs ++ news) → w.grownBy w' (ob A) → (ob A' = ob A ∨ ob A' = some w.heap.size) → K (a.put o.dst (.slice A' (n + m) c')) w') :
    if Region.wanted o (yielded ops a.tmps) = true then Oper.wp P o a w K Q else F := by
  have hw : Region.wanted o (yielded ops a.tmps) = true := by simp [Region.wanted, hgd]
  rw [if_pos hw]
  exact wp_append_at s x t tx ho e i z size bytes ht hi hz hsize hby hzs A n c xs hA hown xv m news hx hs h63 hbytes h

theorem src_one {tx e' t : TypeId} (hk : P.underlying tx = some (.slice e')) (w : World) (x : Value) (h1 : x.oneCell' = true) :
    Src P 1 tx (.slice (some ⟨w.heap.size, 0, none⟩) 1 1) 1 [x] (w.alloc (.cells #[x] t)) :=
  Src.ofSlice _ hk _ 1 1 [x] rfl (cell_one_new w x t) (one_cell h1)
theorem src_one_drew {tx e' t : TypeId} (hk : P.underlying tx = some (.slice e')) (w : World) (x : Value) (h1 : x.oneCell' = true) :
    Src P 1 tx (.slice (some ⟨w.heap.size, 0, none⟩) 1 1) 1 [x] (w.alloc (.cells #[x] t)).drew :=
  Src.ofSlice _ hk _ 1 1 [x] rfl (fun j u hu => cell_one_new w x t j u hu) (one_cell h1)
theorem own_drew {w : World} {base : Nat} {e : TypeId} {size n : Nat} {v : Value} {xs : List Value} (h : w.ownsRow base e size v n xs) : w.drew.ownsRow base e size v n xs := h
/-- One element that was laid in a block of its own is a source. -/
theorem src_new {size : Nat} {tx e' t : TypeId} (hk : P.underlying tx = some (.slice e')) (w : World) (cs : Array Value) (hl : cs.size = size) (h1 : ∀ u ∈ cs.toList, u.oneCell' = true) :
    Src P size tx (.slice (some ⟨w.heap.size, 0, none⟩) 1 1) 1 cs.toList (w.alloc (.cells cs t)) :=
  Src.ofSlice _ hk _ 1 1 cs.toList (by simp [hl]) (fun j u hu => by
    rw [show (⟨w.heap.size, 0, none⟩ : Addr).add j = ⟨w.heap.size, j, none⟩ from by unfold Addr.add; split <;> simp_all]
    rw [cell_of_row _ w.heap.size j cs t (0, 0) (heap_alloc_new w _)]
    simpa using hu) h1
end

/-- A writer: a pointer to one cell that holds a slice of bytes that is nobody else's. E: the bytes' type. -/
structure Wr (E : TypeId) (w : World) (p : Nat) (A : Option Addr) (c : Nat) (xs : List UInt8) : Prop where
  cell : w.cell? ⟨p, 0, none⟩ = some (.slice A xs.length c)
  free : w.frozen? ⟨p, 0, none⟩ = false
  own : w.ownsRow 0 E 1 (.slice A xs.length c) xs.length (bc xs)
  ne : ob A ≠ some p

/-- What a writer's step may have turned, and where its bytes lie then. -/
structure WS (p : Nat) (A A' : Option Addr) (w w' : World) : Prop where
  kp : Kp (fun k => k = p ∨ ob A = some k) w w'
  at_ : ob A' = ob A ∨ ∃ k, ob A' = some k ∧ w.heap.size ≤ k

theorem WS.refl (p : Nat) (A : Option Addr) (w : World) : WS p A A w w := ⟨Kp.refl _ _, .inl rfl⟩
theorem WS.trans {p : Nat} {A A' A'' : Option Addr} {a b c : World} (h : WS p A A' a b) (k : WS p A' A'' b c) : WS p A A'' a c := by
  refine ⟨h.kp.trans k.kp ?_, ?_⟩
  · rintro i hi (rfl | hx)
    · exact .inl rfl
    · rcases h.at_ with e | ⟨g, e, hg⟩
      · exact .inr (e ▸ hx)
      · rw [e] at hx; injection hx with hx; omega
  · rcases k.at_ with e | ⟨g, e, hg⟩
    · rcases h.at_ with e' | ⟨g, e', hg⟩
      · exact .inl (e.trans e')
      · exact .inr ⟨g, e.trans e', hg⟩
    · exact .inr ⟨g, e, Nat.le_trans h.kp.size hg⟩

/-- What a call that writes has to say. -/
def WPost (E : TypeId) (p : Nat) (A : Option Addr) (xs : List UInt8) (w : World) (e : Ending) (w' : World) : Prop :=
  e = .returned (.tuple #[]) ∧ ∃ A' c', Wr E w' p A' c' xs ∧ WS p A A' w w'

section
variable {E : TypeId} {w w1 : World} {p : Nat} {A : Option Addr} {c : Nat} {xs : List UInt8}
theorem own_inside {base : Nat} {e : TypeId} {size n : Nat} {ys : List Value} (h : w.ownsRow base e size (.slice A n c) n ys) : ∀ ad, A = some ad → ad.block < w.heap.size := by
  rintro ad rfl
  exact (h.lt ad.block rfl).2
theorem Wr.inside (h : Wr E w p A c xs) : ∀ ad, A = some ad → ad.block < w.heap.size := own_inside h.own
theorem Wr.lt (h : Wr E w p A c xs) : p < w.heap.size := World.block_lt_of_cell? w ⟨p, 0, none⟩ h.cell

/-- What the walk wants between an append and the store of what came of it. -/
theorem Wr.mid {A1 : Option Addr} {o : Obj} (h : Wr E w p A c xs) (hg : (w.alloc o).grownBy w1 (ob A)) (hat : ob A1 = ob A ∨ ob A1 = some (w.alloc o).heap.size) :
    Kp (fun k => ob A = some k) w w1 ∧ w1.cell? ⟨p, 0, none⟩ = some (.slice A xs.length c) ∧ w1.frozen? ⟨p, 0, none⟩ = false ∧ (ob A1 = ob A ∨ ∃ k, ob A1 = some k ∧ w.heap.size ≤ k) := by
  have hk : Kp (fun k => ob A = some k) w w1 := ((Kp.refl _ w).alloc o).grown hg (fun k e => .inl e)
  refine ⟨hk, hk.cell h.cell h.ne, (hk.frozen h.lt h.ne).trans h.free, ?_⟩
  rcases hat with e | e
  · exact .inl e
  · exact .inr ⟨_, e, by simp⟩
theorem Wr.midD {A1 : Option Addr} {o : Obj} (h : Wr E w p A c xs) (hg : (w.alloc o).drew.grownBy w1 (ob A)) (hat : ob A1 = ob A ∨ ob A1 = some (w.alloc o).drew.heap.size) :
    Kp (fun k => ob A = some k) w w1 ∧ w1.cell? ⟨p, 0, none⟩ = some (.slice A xs.length c) ∧ w1.frozen? ⟨p, 0, none⟩ = false ∧ (ob A1 = ob A ∨ ∃ k, ob A1 = some k ∧ w.heap.size ≤ k) :=
  h.mid (o := o) ⟨hg.os, hg.tape, hg.output, hg.size, hg.block⟩ hat
theorem Wr.mid0 {A1 : Option Addr} (h : Wr E w p A c xs) (hg : w.grownBy w1 (ob A)) (hat : ob A1 = ob A ∨ ob A1 = some w.heap.size) :
    Kp (fun k => ob A = some k) w w1 ∧ w1.cell? ⟨p, 0, none⟩ = some (.slice A xs.length c) ∧ w1.frozen? ⟨p, 0, none⟩ = false ∧ (ob A1 = ob A ∨ ∃ k, ob A1 = some k ∧ w.heap.size ≤ k) := by
  have hk : Kp (fun k => ob A = some k) w w1 := (Kp.refl _ w).grown hg (fun k e => .inl e)
  refine ⟨hk, hk.cell h.cell h.ne, (hk.frozen h.lt h.ne).trans h.free, ?_⟩
  rcases hat with e | e
  · exact .inl e
  · exact .inr ⟨_, e, Nat.le_refl _⟩

/-- A writer behind an append and the store of what came of it. -/
theorem Wr.stored {A1 : Option Addr} {c1 n : Nat} {ys : List UInt8} {zs : List Value} (h : Wr E w p A c xs) (hk : Kp (fun k => ob A = some k) w w1)
    (ho : w1.ownsRow 0 E 1 (.slice A1 n c1) n zs) (hn : n = (xs ++ ys).length) (hz : zs = bc xs ++ bc ys) (hat : ob A1 = ob A ∨ ∃ k, ob A1 = some k ∧ w.heap.size ≤ k) :
    Wr E (w1.setCell ⟨p, 0, none⟩ (.slice A1 n c1)) p A1 c1 (xs ++ ys) ∧ WS p A A1 w (w1.setCell ⟨p, 0, none⟩ (.slice A1 n c1)) := by
  subst hn hz
  have hne : ob A1 ≠ some p := by
    rcases hat with e | ⟨k, e, hk⟩
    · rw [e]; exact h.ne
    · have := h.lt
      rw [e]; intro x; injection x with x; omega
  have hkp : Kp (fun k => k = p ∨ ob A = some k) w (w1.setCell ⟨p, 0, none⟩ (.slice A1 (xs ++ ys).length c1)) := (hk.mono fun _ _ x => .inr x).setCell (.inl (.inl rfl)) _
  have hcell1 := hk.cell h.cell h.ne
  refine ⟨⟨?_, ?_, ?_, hne⟩, hkp, hat⟩
  · exact World.cell?_setCell_same w1 _ _ hcell1
  · rw [World.frozen?_setCell, hk.frozen h.lt h.ne]; exact h.free
  · rw [bc_append]
    exact Kp.own (S := fun k => k = p) (Kp.setCell (S := fun k => k = p) (p := ⟨p, 0, none⟩) (Kp.refl _ w1) (.inl rfl) _) ho fun k e x => hne (by rw [ownBlock_slice] at e; rw [e, x])
end

/-- A slice of bytes that reads as a list, nil let in. -/
def Bts (w : World) (A : Option Addr) (xs : List UInt8) : Prop :=
  match A with
  | none => xs = []
  | some ad => ∀ j u, (bc xs)[j]? = some u → w.cell? (ad.add j) = some u
theorem Bts.own {w : World} {base : Nat} {e : TypeId} {A : Option Addr} {c : Nat} {xs : List UInt8} (h : w.ownsRow base e 1 (.slice A xs.length c) xs.length (bc xs)) : Bts w A xs := by
  rcases h.2 with ⟨hv, h0⟩ | ⟨g, cap, cur, hv, _⟩
  · injection hv with hA
    subst hA
    exact List.eq_nil_of_length_eq_zero h0
  · injection hv with hA
    subst hA
    exact h.cells (g := g) rfl
theorem Bts.src {P : Program} {w : World} {A : Option Addr} {c : Nat} {xs : List UInt8} {tx e' : TypeId} (hk : P.underlying tx = some (.slice e')) (h : Bts w A xs) (hc : A = none → c = 0) :
    Src P 1 tx (.slice A xs.length c) xs.length (bc xs) w := by
  cases A with
  | none =>
    have : xs = [] := h
    subst this
    rw [hc rfl]
    exact Src.ofNil w hk 0
  | some ad => exact Src.ofSlice w hk ad _ _ _ (by rw [bc_length, Nat.mul_one]) h (bc_one _)
theorem Bts.nil {w : World} (A : Option Addr) : Bts w A [] := by
  cases A with
  | none => rfl
  | some ad => intro j u h; simp [bc] at h
theorem Bts.inside {w : World} {A : Option Addr} {xs : List UInt8} (h : Bts w A xs) (hx : xs ≠ []) : ∀ ad, A = some ad → ad.block < w.heap.size := by
  rintro ad rfl
  have hl : 0 < xs.length := List.length_pos_iff.2 hx
  have := h 0 _ (bc_get xs 0 hl)
  have hb := World.block_lt_of_cell? w _ this
  exact hb
theorem Bts.keep {w w' : World} {A : Option Addr} {xs : List UInt8} (h : Bts w A xs) (hk : ∀ ad, A = some ad → ad.block < w.heap.size → w'.heap[ad.block]? = w.heap[ad.block]?) : Bts w' A xs := by
  by_cases hx : xs = []
  · subst hx; exact Bts.nil A
  · cases A with
    | none => exact h
    | some ad =>
      have hi := h.inside hx ad rfl
      intro j u hu
      have hb : (ad.add j).block = ad.block := by unfold Addr.add; split <;> rfl
      rw [World.cell?_of_block (w := w) (by rw [hb]; exact hk ad rfl hi)]
      exact h j u hu
theorem Bts.alloc {w : World} {A : Option Addr} {xs : List UInt8} (h : Bts w A xs) (o : Obj) : Bts (w.alloc o) A xs :=
  h.keep fun _ _ hl => Below.heap_alloc w o _ hl
theorem Bts.kp {S : Nat → Prop} {w w' : World} {A : Option Addr} {xs : List UInt8} (h : Bts w A xs) (hk : Kp S w w') (hl : ∀ ad, A = some ad → ¬ S ad.block) : Bts w' A xs :=
  h.keep fun ad e hb => hk.block _ hb (hl ad e)

/-- A new slice of bytes, nobody else's. -/
def Fresh (E : TypeId) (xs : List UInt8) (w : World) (e : Ending) (w' : World) : Prop :=
  ∃ A c, e = .returned (.slice A xs.length c) ∧ w'.ownsRow 0 E 1 (.slice A xs.length c) xs.length (bc xs) ∧ (∀ k, ob A = some k → w.heap.size ≤ k) ∧ Below w.heap.size w w'
theorem own_cap {w : World} {base : Nat} {e : TypeId} {size n c : Nat} {xs : List Value} (h : w.ownsRow base e size (.slice none n c) n xs) : c = 0 := by
  rcases h.2 with ⟨hv, _⟩ | ⟨_, _, _, hv, _⟩
  · injection hv
  · injection hv with hv; cases hv

section
variable {E : TypeId} {w w1 : World} {p : Nat} {A A' : Option Addr} {c : Nat} {xs : List UInt8}
/-- A new writer. -/
theorem Wr.new (E t : TypeId) (w : World) : Wr E (w.alloc (.cells #[.slice none 0 0] t)) w.heap.size none 0 [] :=
  ⟨cell_one_new w _ t 0 _ rfl, frozen_of_row _ w.heap.size 0 _ t (heap_alloc_new w _), World.ownsRow_nil _ _ _ _, by simp [ob]⟩
theorem WS.below {B : Nat} (h : WS p A A' w w1) (hB : B ≤ w.heap.size) (hp : B ≤ p) (hA : ∀ k, ob A = some k → B ≤ k) : Below B w w1 ∧ ∀ k, ob A' = some k → B ≤ k := by
  refine ⟨h.kp.below hB ?_, fun k e => ?_⟩
  · rintro i hi (rfl | x)
    · omega
    · have := hA i x; omega
  · rcases h.at_ with x | ⟨g, x, hg⟩
    · exact hA k (x ▸ e)
    · rw [x] at e; injection e with e; omega
theorem Wr.keep {S : Nat → Prop} (h : Wr E w p A c xs) (hk : Kp S w w1) (hp : ¬ S p) (hA : ∀ k, ob A = some k → ¬ S k) : Wr E w1 p A c xs :=
  ⟨hk.cell h.cell hp, (hk.frozen h.lt hp).trans h.free, hk.own h.own (fun k e => hA k (by rw [ownBlock_slice] at e; exact e)), h.ne⟩
theorem Wr.alloc (h : Wr E w p A c xs) (o : Obj) : Wr E (w.alloc o) p A c xs :=
  h.keep (S := fun _ => False) ((Kp.refl _ w).alloc o) (fun x => x) (fun _ _ x => x)
theorem Wr.setNew (h : Wr E w p A c xs) {q : Addr} (hq : q.block ≠ p) (hA : ob A ≠ some q.block) (u : Value) : Wr E (w.setCell q u) p A c xs :=
  h.keep (S := fun k => k = q.block) (Kp.setCell (S := fun k => k = q.block) (p := q) (Kp.refl _ w) (.inl rfl) u) (fun e => hq e.symm) (fun k e x => hA (by rw [e, x]))
theorem WS.pre {w0 : World} (h : WS p A A' w w1) (hk : Kp (fun _ => False) w0 w) : WS p A A' w0 w1 :=
  ⟨(hk.mono (S' := fun k => k = p ∨ ob A = some k) (fun _ _ x => x.elim)).trans h.kp (fun _ _ x => x), h.at_.imp id fun ⟨k, e, hl⟩ => ⟨k, e, Nat.le_trans hk.size hl⟩⟩
end

/-- What comes of reading: something, and how many bytes it took; or an error, and how many were read. -/
inductive Res (α : Type) where
  | ok (x : α) (n : Nat)
  | bad (code n : Nat)

/-- A reader: a pointer to two cells, a slice of bytes that is nobody else's, and how many were read. -/
structure Rd (E : TypeId) (w : World) (p : Nat) (A : Option Addr) (c : Nat) (bs : List UInt8) (at_ : Nat) : Prop where
  cell0 : w.cell? ⟨p, 0, none⟩ = some (.slice A bs.length c)
  cell1 : w.cell? ⟨p, 1, none⟩ = some (.int .i64 at_)
  free1 : w.frozen? ⟨p, 1, none⟩ = false
  own : w.ownsRow 0 E 1 (.slice A bs.length c) bs.length (bc bs)
  ne : ob A ≠ some p
  le : at_ ≤ bs.length
  lim : Lim bs.length

/-- A Fault that is thrown; F: its type. -/
abbrev thr (F : TypeId) (code at_ : Nat) : Ending := .panicked [{ v := .iface F (.agg #[.int .i64 code, .int .i64 at_]), recovered := false }]

/-- What a call that reads has to say. -/
def RPost {α : Type} (E F : TypeId) (p : Nat) (A : Option Addr) (c : Nat) (bs : List UInt8) (at_ : Nat) (enc : α → Value) (r : Res α) (w : World) (e : Ending) (w' : World) : Prop :=
  match r with
  | .ok x n => e = .returned (enc x) ∧ Rd E w' p A c bs (at_ + n) ∧ Kp (fun k => k = p) w w'
  | .bad code n => e = thr F code (at_ + n) ∧ Rd E w' p A c bs (at_ + n) ∧ Kp (fun k => k = p) w w'

section
variable {E : TypeId} {w w1 : World} {p : Nat} {A : Option Addr} {c : Nat} {bs : List UInt8} {at_ : Nat}
theorem Rd.lt (h : Rd E w p A c bs at_) : p < w.heap.size := World.block_lt_of_cell? w ⟨p, 0, none⟩ h.cell0
theorem Rd.drewN (h : Rd E w p A c bs at_) (n : Nat) : Rd E (w.drewN n) p A c bs at_ := ⟨h.cell0, h.cell1, h.free1, h.own, h.ne, h.le, h.lim⟩
theorem Rd.drew (h : Rd E w p A c bs at_) : Rd E w.drew p A c bs at_ := ⟨h.cell0, h.cell1, h.free1, h.own, h.ne, h.le, h.lim⟩
theorem Rd.keep {S : Nat → Prop} (h : Rd E w p A c bs at_) (hk : Kp S w w1) (hp : ¬ S p) (hA : ∀ k, ob A = some k → ¬ S k) : Rd E w1 p A c bs at_ :=
  ⟨hk.cell h.cell0 hp, hk.cell h.cell1 hp, (hk.frozen h.lt hp).trans h.free1, hk.own h.own (fun k e => hA k (by rw [ownBlock_slice] at e; exact e)), h.ne, h.le, h.lim⟩
theorem Rd.alloc (h : Rd E w p A c bs at_) (o : Obj) : Rd E (w.alloc o) p A c bs at_ :=
  h.keep (S := fun _ => False) ((Kp.refl _ w).alloc o) (fun x => x) (fun _ _ x => x)
/-- The byte that comes next. -/
theorem Rd.next (h : Rd E w p A c bs at_) (hl : at_ < bs.length) : ∃ g, A = some ⟨g, 0, none⟩ ∧ w.cell? ⟨g, at_, none⟩ = some (.int .u8 (bs[at_]).toNat) := by
  have ho := h.own
  rcases h.own.2 with ⟨hv, h0⟩ | ⟨g, cap, cur, hv, _⟩
  · omega
  · injection hv with hA _ hc
    subst hA hc
    refine ⟨g, rfl, ?_⟩
    rw [ho.cellAt at_ (by omega), bc_get bs at_ hl]
/-- Some bytes on. -/
theorem Rd.step (h : Rd E w p A c bs at_) (m : Nat) (hm : m ≤ bs.length) : Rd E (w.setCell ⟨p, 1, none⟩ (.int .i64 m)) p A c bs m := by
  have hk : Kp (fun k => k = p) w (w.setCell ⟨p, 1, none⟩ (.int .i64 m)) := Kp.setCell (S := fun k => k = p) (p := ⟨p, 1, none⟩) (Kp.refl _ w) (.inl rfl) _
  refine ⟨?_, World.cell?_setCell_same w _ _ h.cell1, ?_, hk.own h.own (fun k e x => h.ne (by rw [ownBlock_slice] at e; rw [e, x])), h.ne, hm, h.lim⟩
  · rw [World.cell?_setCell_other w _ _ _ (by simp)]; exact h.cell0
  · rw [World.frozen?_setCell]; exact h.free1
theorem Rd.kp_step (w : World) (p : Nat) (v : Value) : Kp (fun k => k = p) w (w.setCell ⟨p, 1, none⟩ v) := Kp.setCell (S := fun k => k = p) (p := ⟨p, 1, none⟩) (Kp.refl _ w) (.inl rfl) _
end

section
variable {α : Type} {E F : TypeId} {p : Nat} {A : Option Addr} {c : Nat} {bs : List UInt8} {at_ m n code : Nat} {enc : α → Value} {r : Res α} {w w' : World} {z y : Int} {x : α} {v : Value}
theorem RPost.mkBad (h : r = .bad code n) (hy : y = (code : Int)) (hz : z = ((at_ + n : Nat) : Int)) (hm : m = at_ + n) (hr : Rd E w' p A c bs m) (hk : Kp (fun k => k = p) w w') :
    RPost E F p A c bs at_ enc r w (.panicked [{ v := .iface F (.agg #[.int .i64 y, .int .i64 z]), recovered := false }]) w' := by
  subst h hy hz hm
  exact ⟨rfl, hr, hk⟩
theorem RPost.mkOk (h : r = .ok x n) (hv : v = enc x) (hm : m = at_ + n) (hr : Rd E w' p A c bs m) (hk : Kp (fun k => k = p) w w') : RPost E F p A c bs at_ enc r w (.returned v) w' := by
  subst h hv hm
  exact ⟨rfl, hr, hk⟩
theorem Kp.same {S : Nat → Prop} {a b c : World} (h : Kp S a b) (k : Kp S b c) : Kp S a c := h.trans k fun _ _ x => x
end

/-- Where a piece of a slice begins. -/
def cutA (A : Option Addr) (lo cap : Nat) : Option Addr := if cap = lo then A else A.map (·.add lo)
theorem sliced_cut (A : Option Addr) (lo hi cap : Nat) : sliced A lo hi cap 1 = .slice (cutA A lo cap) (hi - lo) (cap - lo) := by
  unfold sliced cutA
  by_cases h : cap = lo
  · subst h; simp
  · simp [h]
theorem add_plain (b off n : Nat) : (⟨b, off, none⟩ : Addr).add n = ⟨b, off + n, none⟩ := by
  unfold Addr.add; split
  · rename_i h; subst h; rfl
  · rfl
theorem add_add' (a : Addr) (i j : Nat) : (a.add i).add j = a.add (i + j) := by
  unfold Addr.add
  by_cases hi : i = 0 <;> by_cases hj : j = 0 <;> simp [hi, hj, Nat.add_assoc]
theorem Bts.cut {w : World} {A : Option Addr} {xs : List UInt8} (h : Bts w A xs) (lo n cap : Nat) (hn : lo + n ≤ xs.length) (hc : xs.length ≤ cap) : Bts w (cutA A lo cap) ((xs.drop lo).take n) := by
  unfold cutA
  by_cases h0 : cap = lo
  · rw [if_pos h0]
    have : n = 0 := by omega
    subst this
    rw [List.take_zero]
    exact Bts.nil A
  · rw [if_neg h0]
    cases A with
    | none =>
      have hx : xs = [] := h
      subst hx
      show List.take n (List.drop lo []) = []
      simp
    | some ad =>
      intro j u hu
      have hj : j < n := by
        have := (List.getElem?_eq_some_iff.1 hu).1
        rw [bc_length, List.length_take] at this
        omega
      show w.cell? ((ad.add lo).add j) = some u
      rw [add_add']
      refine h (lo + j) u ?_
      rw [← hu]
      simp only [bc, List.getElem?_map, List.getElem?_take, if_pos hj, List.getElem?_drop]
theorem run_text {P : Program} (w : World) (src dst e : TypeId) (A : Option Addr) (cap : Nat) (l : List UInt8) (hs : P.underlying src = some (.slice e)) (he : P.underlying e = some (.int .u8)) (hd : P.underlying dst = some .string) (h : Bts w A l) :
    (convert src dst (.slice A l.length cap)).run P w = .ok (.string ⟨l.toArray⟩) w := by
  cases A with
  | none =>
    have hx : l = [] := h
    subst hx
    rw [run_convert_bytes_string w src dst e none _ cap hs he hd]
    rfl
  | some ad =>
    exact run_convert_bytes_back w src dst e ad cap l hs he hd fun j hj => h j _ (bc_get l j hj)
theorem Bts.drewN {w : World} {A : Option Addr} {xs : List UInt8} (h : Bts w A xs) (n : Nat) : Bts (w.drewN n) A xs := by
  cases A with
  | none => exact h
  | some ad => exact h
theorem own_room {w : World} {base : Nat} {e : TypeId} {size n c : Nat} {A : Option Addr} {xs : List Value} (h : w.ownsRow base e size (.slice A n c) n xs) : n ≤ c := by
  rcases h.2 with ⟨hv, h0⟩ | ⟨_, _, _, hv, _, _, hn, _⟩
  · injection hv with _ _ hc; omega
  · injection hv with _ _ hc; omega

/-- A new reader over bytes that are nobody else's. -/
theorem Rd.new {E t : TypeId} {w : World} {A : Option Addr} {c : Nat} {bs : List UInt8} (ho : w.ownsRow 0 E 1 (.slice A bs.length c) bs.length (bc bs)) (hl : Lim bs.length) :
    Rd E (w.alloc (.cells #[.slice A bs.length c, .int .i64 0] t)) w.heap.size A c bs 0 := by
  have hb := heap_alloc_new w (.cells #[.slice A bs.length c, .int .i64 0] t)
  refine ⟨(cell_of_row _ _ 0 _ t (0, 0) hb).trans rfl, (cell_of_row _ _ 1 _ t (0, 0) hb).trans rfl, frozen_of_row _ _ 1 _ t hb, ho.alloc _, ?_, Nat.zero_le _, hl⟩
  intro e
  have := own_inside ho
  cases A with
  | none => cases e
  | some ad =>
    have h1 := this ad rfl
    injection e with e
    have e' : ad.block = w.heap.size := e
    omega

/-- Two blocks that were laid just ahead of a call are there behind it. -/
theorem two_new {S : Nat → Prop} {w w1 : World} {cs ds : Array Value} {t u : TypeId} (hk : Kp S ((w.alloc (.cells cs t)).alloc (.cells ds u)) w1) (h0 : ¬ S w.heap.size) (h1 : ¬ S (w.heap.size + 1)) :
    w1.heap[w.heap.size]? = some (.cells cs t (0, 0)) ∧ w1.heap[w.heap.size + 1]? = some (.cells ds u (0, 0)) := by
  have e1 : ((w.alloc (.cells cs t)).alloc (.cells ds u)).heap[w.heap.size]? = some (.cells cs t (0, 0)) :=
    (Below.heap_alloc _ _ _ (by simp)).trans (heap_alloc_new w _)
  have e2 : ((w.alloc (.cells cs t)).alloc (.cells ds u)).heap[w.heap.size + 1]? = some (.cells ds u (0, 0)) := by
    have := heap_alloc_new (w.alloc (.cells cs t)) (.cells ds u)
    simpa using this
  exact ⟨(hk.block _ (by simp; omega) h0).trans e1, (hk.block _ (by simp) h1).trans e2⟩

theorem Bts.new (w : World) (t : TypeId) (xs : List UInt8) (k : Nat) (hk : k = w.heap.size) (hl : xs.length ≤ maxLen) : Bts (w.alloc (.cells (bc xs).toArray t)) (some ⟨k, 0, none⟩) xs := by
  subst hk
  have h := World.ownsRow_lit (base := 0) (e := t) (size := 1) w (bc xs).toArray xs.length (Nat.zero_le _) hl (by simp [bc_length])
  exact Bts.own h
theorem Bts.below {w w' : World} {A : Option Addr} {xs : List UInt8} (h : Bts w A xs) (hb : Below w.heap.size w w') : Bts w' A xs :=
  h.keep fun _ _ hl => hb.block _ hl
theorem own_below {w w' : World} {base : Nat} {e : TypeId} {size n : Nat} {v : Value} {xs : List Value} (h : w.ownsRow base e size v n xs) (hb : Below w.heap.size w w') : w'.ownsRow base e size v n xs :=
  (Kp.of_below hb (fun _ => False)).own h (fun _ _ x => x)
theorem Wr.new' (E t : TypeId) (w : World) (k : Nat) (hk : k = w.heap.size) : Wr E (w.alloc (.cells #[.slice none 0 0] t)) k none 0 [] := by
  subst hk; exact Wr.new E t w
theorem heap_new (w : World) (o : Obj) (k : Nat) (hk : k = w.heap.size) : (w.alloc o).heap[k]? = some o := by
  subst hk; exact heap_alloc_new w o

theorem own_at {w : World} {E : TypeId} {A : Option Addr} {c : Nat} {xs : List UInt8} (h : w.ownsRow 0 E 1 (.slice A xs.length c) xs.length (bc xs)) (hl : 0 < xs.length) :
    ∃ g, A = some ⟨g, 0, none⟩ ∧ ∀ j (hj : j < xs.length), w.cell? ⟨g, j, none⟩ = some (.int .u8 (xs[j]).toNat) := by
  rcases h.2 with ⟨hv, h0⟩ | ⟨g, cap, cur, hv, _⟩
  · omega
  · injection hv with hA _ hc
    subst hA hc
    refine ⟨g, rfl, fun j hj => ?_⟩
    rw [h.cellAt j (by omega), bc_get xs j hj]
end MM
