/- A disk: plain, and in memory. -/
import Derived.Test.YtlaecnggbcagcaaDk1
import Derived.Test.YtlaecnggbcagcaaSec6
namespace Go.Proofs.Ytlaecnggbcagcaa
open Go.RowKit MM
set_option linter.unusedVariables false
set_option linter.unusedSimpArgs false

/-- A disk, plain: what is there for good, what is read, what is pending, how many writes there were, with which it goes down, whether it is. -/
structure Dk where
  good : List (List UInt8)
  now : List (List UInt8)
  pend : List (Nat × List UInt8)
  writes : Int
  left : Nat
  down : Bool
/-- Writes, one behind the other. -/
def play (g : List (List UInt8)) (l : List (Nat × List UInt8)) : List (List UInt8) := l.foldl (fun g x => g.set x.1 x.2) g
structure Dk.ok (d : Dk) : Prop where
  secs : ∀ s ∈ d.good, s.length = 64
  nows : ∀ s ∈ d.now, s.length = 64
  len : d.now.length = d.good.length
  pos : 0 < d.good.length
  lim : d.good.length ≤ 4096
  pend : ∀ x ∈ d.pend, x.1 < d.good.length ∧ x.2.length = 64
  play : d.now = play d.good d.pend
  left : d.left ≤ 9223372036854775807
def Dk.err (d : Dk) (i : Int) : Nat := if d.down = true then 14 else if i < 0 ∨ (d.now.length : Int) ≤ i then 1 else 0
def Dk.readS (d : Dk) (i : Int) : List UInt8 := if d.err i = 0 then d.now.getD i.toNat zs else zs
/-- Behind a write: one less to the one with which it goes down. -/
def Dk.wear (d : Dk) : Dk × Nat := if d.left = 0 then (d, 0) else if d.left = 1 then ({ d with left := 0, down := true }, 14) else ({ d with left := d.left - 1 }, 0)
def Dk.put (d : Dk) (i : Nat) (s : List UInt8) : Dk := { d with now := d.now.set i s, pend := d.pend ++ [(i, s)], writes := wrap64 (d.writes + 1) }
def Dk.write (d : Dk) (i : Int) (s : List UInt8) : Dk × Nat := if d.err i = 0 then (d.put i.toNat s).wear else (d, d.err i)
def Dk.sync (d : Dk) : Dk × Nat := if d.down = true then (d, 14) else ({ d with good := d.now, pend := [] }, 0)
def Dk.brk (d : Dk) (n : Int) : Dk := { d with left := n.toNat }
/-- A sector of which so many bytes are new. -/
def torn (old s : List UInt8) (n : Int) : List UInt8 := s.take (min n.toNat 64) ++ old.drop (min n.toNat 64)
/-- What is there of writes of which so much is kept. -/
def crashL : List (List UInt8) → List (Nat × List UInt8) → List Int → List (List UInt8)
  | g, [], _ => g
  | g, _ :: _, [] => g
  | g, x :: l, k :: kept => crashL (g.set x.1 (torn (g.getD x.1 zs) x.2 k)) l kept
def Dk.crash (d : Dk) (kept : List Int) : Dk := { d with good := crashL d.good d.pend kept, now := crashL d.good d.pend kept, pend := [], left := 0, down := false }

/-- Sectors, writes, as rows of values. -/
def secR (l : List (List UInt8)) : List (List Value) := l.map bc
def penV (x : Nat × List UInt8) : List Value := .int .i64 (x.1 : Int) :: bc x.2
def penR (l : List (Nat × List UInt8)) : List (List Value) := l.map penV
theorem secR_ok {l : List (List UInt8)} (h : ∀ s ∈ l, s.length = 64) : RowsOk 64 (secR l) := fun r hr => by
  obtain ⟨s, hs, rfl⟩ := List.mem_map.1 hr
  rw [bc_length, h s hs]
theorem penR_ok {l : List (Nat × List UInt8)} (h : ∀ x ∈ l, x.2.length = 64) : RowsOk 65 (penR l) := fun r hr => by
  obtain ⟨s, hs, rfl⟩ := List.mem_map.1 hr
  simp [penV, bc_length, h s hs]

abbrev dkC (G N Pd : Value) (d : Dk) : Array Value := #[G, N, Pd, .int .i64 d.writes, .int .i64 d.left, .bool d.down]
/-- A disk in memory: where its three rows lie. -/
structure DkAt (w : World) (p : Nat) (G N Pd : Value) (d : Dk) : Prop where
  box : w.heap[p]? = some (.cells (dkC G N Pd d) 86 (0, 0))
  good : w.ownsRow 0 40 64 G d.good.length (secR d.good).flatten
  now : w.ownsRow 0 40 64 N d.now.length (secR d.now).flatten
  pend : w.ownsRow 0 95 65 Pd d.pend.length (penR d.pend).flatten
  gn : ∀ k, G.ownBlock = some k → N.ownBlock ≠ some k ∧ Pd.ownBlock ≠ some k ∧ k ≠ p
  np : ∀ k, N.ownBlock = some k → Pd.ownBlock ≠ some k ∧ k ≠ p
  pp : ∀ k, Pd.ownBlock = some k → k ≠ p
def Blk (p : Nat) (G N Pd : Value) (k : Nat) : Prop := k = p ∨ G.ownBlock = some k ∨ N.ownBlock = some k ∨ Pd.ownBlock = some k
/-- A disk in memory, within some blocks. -/
def Dsk (w : World) (p : Nat) (B : Nat → Prop) (d : Dk) : Prop := ∃ G N Pd, DkAt w p G N Pd d ∧ (∀ k, Blk p G N Pd k → B k) ∧ d.ok
/-- Those blocks, and new ones. -/
def Up (B : Nat → Prop) (w w' : World) (k : Nat) : Prop := B k ∨ w.heap.size ≤ k ∧ k < w'.heap.size

theorem DkAt.keep {w w' : World} {p : Nat} {G N Pd : Value} {d : Dk} {S : Nat → Prop} (h : DkAt w p G N Pd d) (hk : Kp S w w') (hn : ∀ k, Blk p G N Pd k → ¬ S k) : DkAt w' p G N Pd d :=
  ⟨(hk.block _ (lt_of_heap h.box) (hn p (.inl rfl))).trans h.box, own_kp h.good hk fun b e => hn b (.inr (.inl e)), own_kp h.now hk fun b e => hn b (.inr (.inr (.inl e))), own_kp h.pend hk fun b e => hn b (.inr (.inr (.inr e))), h.gn, h.np, h.pp⟩
theorem DkAt.lt {w : World} {p : Nat} {G N Pd : Value} {d : Dk} (h : DkAt w p G N Pd d) : ∀ k, Blk p G N Pd k → k < w.heap.size := fun k hk => by
  rcases hk with rfl | e | e | e
  · exact lt_of_heap h.box
  · exact (h.good.lt k e).2
  · exact (h.now.lt k e).2
  · exact (h.pend.lt k e).2
theorem Dsk.keep {w w' : World} {p : Nat} {d : Dk} {S B : Nat → Prop} (h : Dsk w p B d) (hk : Kp S w w') (hn : ∀ k, k < w.heap.size → B k → ¬ S k) : Dsk w' p B d := by
  obtain ⟨G, N, Pd, h1, h2, h3⟩ := h
  exact ⟨G, N, Pd, h1.keep hk fun k hb => hn k (h1.lt k hb) (h2 k hb), h2, h3⟩
theorem Dsk.mono {w : World} {p : Nat} {d : Dk} {B B' : Nat → Prop} (h : Dsk w p B d) (hb : ∀ k, k < w.heap.size → B k → B' k) : Dsk w p B' d := by
  obtain ⟨G, N, Pd, h1, h2, h3⟩ := h
  exact ⟨G, N, Pd, h1, fun k hk => hb k (h1.lt k hk) (h2 k hk), h3⟩
theorem Dsk.below {w w' : World} {p : Nat} {d : Dk} {B : Nat → Prop} (h : Dsk w p B d) (hb : Below w.heap.size w w') : Dsk w' p B d := h.keep (Kp.of_below hb (fun _ => False)) fun _ _ _ x => x
theorem Dsk.ok {w : World} {p : Nat} {d : Dk} {B : Nat → Prop} (h : Dsk w p B d) : d.ok := by obtain ⟨_, _, _, _, _, h1⟩ := h; exact h1
/-- Where a row that isn't empty lies. -/
theorem own_at1 {w : World} {e : TypeId} {k n : Nat} {v : Value} {xs : List Value} (h : w.ownsRow 0 e k v n xs) (hn : 0 < n) : ∃ g c, v = .slice (some ⟨g, 0, none⟩) n c := by
  rcases h.2 with ⟨_, h0⟩ | ⟨g, c, _, hv, _⟩
  · omega
  · exact ⟨g, c, hv⟩
theorem own_sl {w : World} {e : TypeId} {k n : Nat} {v : Value} {xs : List Value} (h : w.ownsRow 0 e k v n xs) : ∃ A c, v = .slice A n c := by
  rcases h.2 with ⟨hv, h0⟩ | ⟨g, c, _, hv, _⟩
  · exact ⟨none, 0, by rw [hv, h0]⟩
  · exact ⟨_, c, hv⟩

section
variable {w : World} {p : Nat} {G N Pd : Value} {d : Dk} (h : DkAt w p G N Pd d)
include h
theorem DkAt.c0 : w.cell? ⟨p, 0, none⟩ = some G := cell_of_row w p 0 _ _ (0, 0) h.box
theorem DkAt.c1 : w.cell? ⟨p, 1, none⟩ = some N := cell_of_row w p 1 _ _ (0, 0) h.box
theorem DkAt.c2 : w.cell? ⟨p, 2, none⟩ = some Pd := cell_of_row w p 2 _ _ (0, 0) h.box
theorem DkAt.c3 : w.cell? ⟨p, 3, none⟩ = some (.int .i64 d.writes) := cell_of_row w p 3 _ _ (0, 0) h.box
theorem DkAt.c4 : w.cell? ⟨p, 4, none⟩ = some (.int .i64 d.left) := cell_of_row w p 4 _ _ (0, 0) h.box
theorem DkAt.c5 : w.cell? ⟨p, 5, none⟩ = some (.bool d.down) := cell_of_row w p 5 _ _ (0, 0) h.box
theorem DkAt.fr (i : Nat) : w.frozen? ⟨p, i, none⟩ = false := frozen_of_row w p i _ _ h.box
end

set_option maxRecDepth 100000 in
theorem dLen_any (p : Nat) (B : Nat → Prop) (d : Dk) (w : World) (h : Dsk w p B d) :
    Calls Try.prog 18 #[.pointer (some ⟨p, 0, none⟩)] w fun e w' => e = .returned (.int .i64 d.now.length) ∧ w' = w := by
  obtain ⟨G, N, Pd, h, _⟩ := h
  obtain ⟨A, c, hN⟩ := own_sl h.now
  have b := h.c1
  subst hN
  clear h
  go_enter Try.func18, Try.ntmps18
  go_wp2
  go_ret
  exact ⟨rfl, rfl⟩

set_option maxRecDepth 100000 in
theorem dPending_any (p : Nat) (B : Nat → Prop) (d : Dk) (w : World) (h : Dsk w p B d) :
    Calls Try.prog 28 #[.pointer (some ⟨p, 0, none⟩)] w fun e w' => e = .returned (.int .i64 d.pend.length) ∧ w' = w := by
  obtain ⟨G, N, Pd, h, _⟩ := h
  obtain ⟨A, c, hN⟩ := own_sl h.pend
  have b := h.c2
  subst hN
  clear h
  go_enter Try.func28, Try.ntmps28
  go_wp2
  go_ret
  exact ⟨rfl, rfl⟩

set_option maxRecDepth 100000 in
theorem dWrites_any (p : Nat) (B : Nat → Prop) (d : Dk) (w : World) (h : Dsk w p B d) :
    Calls Try.prog 36 #[.pointer (some ⟨p, 0, none⟩)] w fun e w' => e = .returned (.int .i64 d.writes) ∧ w' = w := by
  obtain ⟨G, N, Pd, h, _⟩ := h
  have b := h.c3
  clear h
  go_enter Try.func36, Try.ntmps36
  go_wp2
  go_ret
  exact ⟨rfl, rfl⟩

set_option maxRecDepth 100000 in
theorem dDown_any (p : Nat) (B : Nat → Prop) (d : Dk) (w : World) (h : Dsk w p B d) :
    Calls Try.prog 27 #[.pointer (some ⟨p, 0, none⟩)] w fun e w' => e = .returned (.bool d.down) ∧ w' = w := by
  obtain ⟨G, N, Pd, h, _⟩ := h
  have b := h.c5
  clear h
  go_enter Try.func27, Try.ntmps27
  go_wp2
  go_ret
  exact ⟨rfl, rfl⟩

set_option maxRecDepth 100000 in
theorem dCheck_any (p : Nat) (B : Nat → Prop) (d : Dk) (i : Int) (w : World) (h : Dsk w p B d) :
    Calls Try.prog 57 #[.pointer (some ⟨p, 0, none⟩), .int .i64 i] w fun e w' => e = .returned (.int .i64 (d.err i : Nat)) ∧ w' = w := by
  have HL := Lib.hid (dLen_any p B d w h)
  obtain ⟨G, N, Pd, h, _⟩ := h
  have b := h.c5
  clear h
  have HE := Lib.hid (show d.err i = if d.down = true then 14 else if i < 0 ∨ (d.now.length : Int) ≤ i then 1 else 0 from rfl)
  generalize d.err i = e at *
  generalize d.down = dn at *
  generalize (d.now.length : Int) = n at *
  cases dn
  case true =>
    obtain rfl : e = 14 := HE.out
    go_enter Try.func57, Try.ntmps57
    go_wp2_with fail
    go_ret
    exact ⟨rfl, rfl⟩
  by_cases h0 : i < 0
  · have hd : decide (i < 0) = true := by simpa using h0
    obtain rfl : e = 1 := by have := HE.out; simpa [h0] using this
    go_enter Try.func57, Try.ntmps57
    go_wp2_with fail
    go_ret
    exact ⟨rfl, rfl⟩
  have hd : decide (i < 0) = false := by simpa using h0
  by_cases hn : n ≤ i
  · have hd2 : decide (n ≤ i) = true := by simpa using hn
    obtain rfl : e = 1 := by have := HE.out; simpa [hn] using this
    go_enter Try.func57, Try.ntmps57
    go_wp2_with (first
      | (go_at_call 18; refine HL.out.mono ?_; rintro e w' ⟨rfl, rfl⟩))
    go_ret
    exact ⟨rfl, rfl⟩
  · have hd2 : decide (n ≤ i) = false := by simpa using hn
    obtain rfl : e = 0 := by have := HE.out; simpa [hn, h0] using this
    go_enter Try.func57, Try.ntmps57
    go_wp2_with (first
      | (go_at_call 18; refine HL.out.mono ?_; rintro e w' ⟨rfl, rfl⟩))
    go_ret
    exact ⟨rfl, rfl⟩

end Go.Proofs.Ytlaecnggbcagcaa
