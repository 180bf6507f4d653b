/- A disk of a statement's own: all its blocks are new since some time. -/
import Derived.Test.YtlaecnggbcagcaaDk9
namespace Go.Proofs.Ytlaecnggbcagcaa
open Go.RowKit MM
set_option linter.unusedVariables false
set_option linter.unusedSimpArgs false

/-- A disk that lies in blocks from b on. -/
def Own (b : Nat) (w : World) (p : Nat) (d : Dk) : Prop := Dsk w p (fun k => b ≤ k) d ∧ b ≤ w.heap.size
theorem Own.of {b : Nat} {p : Nat} {d : Dk} {w w' : World} (hb : b ≤ w.heap.size) (h : DkPost p (fun k => b ≤ k) d w w') : Own b w' p d ∧ Below b w w' :=
  ⟨⟨h.1.mono fun k hk hu => by rcases hu with x | x; exact x; exact Nat.le_trans hb x.1, Nat.le_trans hb h.2.size⟩, h.2.below hb fun i hi x => by omega⟩
theorem Own.below {b : Nat} {p : Nat} {d : Dk} {w w' : World} (h : Own b w p d) (hb : Below w.heap.size w w') : Own b w' p d := ⟨h.1.below hb, Nat.le_trans h.2 hb.size⟩
theorem Own.alloc {b : Nat} {p : Nat} {d : Dk} {w : World} (h : Own b w p d) (o : Obj) : Own b (w.alloc o) p d := h.below ((Below.refl _ w).alloc (Nat.le_refl _) o)
theorem Own.ok {b : Nat} {p : Nat} {d : Dk} {w : World} (h : Own b w p d) : d.ok := h.1.ok

theorem oRead (b p : Nat) (d : Dk) (i : Int) (w : World) (h : Own b w p d) :
    Calls Try.prog 25 #[.pointer (some ⟨p, 0, none⟩), .int .i64 i] w fun e w' => e = .returned (.tuple #[secv (d.readS i), .int .i64 (d.err i : Nat)]) ∧ Below w.heap.size w w' :=
  dRead_any p _ d i w h.1
theorem oWrite (b p : Nat) (d : Dk) (i : Int) (s : List UInt8) (w : World) (hs : s.length = 64) (hfew : d.pend.length ≤ 100000) (h : Own b w p d) :
    Calls Try.prog 22 #[.pointer (some ⟨p, 0, none⟩), .int .i64 i, secv s] w fun e w' => e = .returned (.int .i64 ((d.write i s).2 : Nat)) ∧ Own b w' p (d.write i s).1 ∧ Below b w w' :=
  (dWrite_any p _ d i s w hs hfew h.1).mono fun e w' hp => ⟨hp.1, Own.of h.2 hp.2⟩
theorem oSync (b p : Nat) (d : Dk) (w : World) (hfew : d.pend.length ≤ 1000000) (h : Own b w p d) :
    Calls Try.prog 24 #[.pointer (some ⟨p, 0, none⟩)] w fun e w' => e = .returned (.int .i64 (d.sync.2 : Nat)) ∧ Own b w' p d.sync.1 ∧ Below b w w' :=
  (dSync_any p _ d w hfew h.1).mono fun e w' hp => ⟨hp.1, Own.of h.2 hp.2⟩
theorem oBreak (b p : Nat) (d : Dk) (n : Int) (w : World) (hn : n ≤ 9223372036854775807) (h : Own b w p d) :
    Calls Try.prog 38 #[.pointer (some ⟨p, 0, none⟩), .int .i64 n] w fun e w' => (∃ v, e = .returned v) ∧ Own b w' p (d.brk n) ∧ Below b w w' :=
  (dBreak_any p _ d n w hn h.1).mono fun e w' hp => ⟨hp.1, Own.of h.2 hp.2⟩
/-- The numbers that are handed in lie elsewhere. -/
theorem oCrash (b p n : Nat) (d : Dk) (A : Option Addr) (c : Nat) (ks : List Int) (w : World) (hfew : d.pend.length ≤ 1000000) (hks : ks.length ≤ 1000000) (hI : Ins w A ks) (h : Dsk w p (fun k => b ≤ k ∧ k < n) d) (hb : b ≤ w.heap.size) (hap : ∀ a, A = some a → a.block < b ∨ n ≤ a.block) :
    Calls Try.prog 26 #[.pointer (some ⟨p, 0, none⟩), .slice A ks.length c] w fun e w' => (∃ v, e = .returned v) ∧ Own b w' p (d.crash ks) ∧ Below b w w' :=
  (dCrash_any p _ d A c ks w hfew hks hI (fun a ha hx => by have := hap a ha; omega) h).mono fun e w' hp =>
    ⟨hp.1, ⟨hp.2.1.mono fun k hk hu => (by rcases hu with x | x; exact x.1; exact Nat.le_trans hb x.1), Nat.le_trans hb hp.2.2.size⟩, hp.2.2.below hb fun i hi x => by have := x.1; omega⟩
/-- The numbers that are handed in lie elsewhere. -/
theorem oCrash_weak (b p n : Nat) (d : Dk) (A : Option Addr) (c : Nat) (ks : List Int) (w : World) (hfew : d.pend.length ≤ 1000000) (hks : ks.length ≤ 1000000) (hI : Ins w A ks) (h : Dsk w p (fun k => b ≤ k ∧ k < n) d) (hb : b ≤ w.heap.size) (hap : ks ≠ [] → ∀ a, A = some a → a.block < b ∨ n ≤ a.block) :
    Calls Try.prog 26 #[.pointer (some ⟨p, 0, none⟩), .slice A ks.length c] w fun e w' => (∃ v, e = .returned v) ∧ Own b w' p (d.crash ks) ∧ Below b w w' :=
  (dCrash_weak p _ d A c ks w hfew hks hI (fun h0 a ha hx => by have := hap h0 a ha; omega) h).mono fun e w' hp =>
    ⟨hp.1, ⟨hp.2.1.mono fun k hk hu => (by rcases hu with x | x; exact x.1; exact Nat.le_trans hb x.1), Nat.le_trans hb hp.2.2.size⟩, hp.2.2.below hb fun i hi x => by have := x.1; omega⟩
theorem Own.now {b : Nat} {p : Nat} {d : Dk} {w w' : World} (h : Own b w p d) (hb : Below w.heap.size w w') : Dsk w' p (fun k => b ≤ k ∧ k < w.heap.size) d := (h.1.mono (B' := fun k => b ≤ k ∧ k < w.heap.size) fun k hk x => ⟨x, hk⟩).below hb
theorem oNew (m : Nat) (w : World) (h1 : 0 < m) (h2 : m ≤ 4096) :
    Calls Try.prog 17 #[.int .i64 (m : Int)] w fun e w' => ∃ p, e = .returned (.tuple #[.pointer (some ⟨p, 0, none⟩), .int .i64 0]) ∧ Own w.heap.size w' p (Dk.new m) ∧ Below w.heap.size w w' :=
  (dNew_any (m : Int) w).mono fun e w' hp => by
    obtain ⟨hb, ⟨hx, _⟩ | ⟨m', p, he, _, _, hr, hD⟩⟩ := hp
    · omega
    · obtain rfl : m' = m := by omega
      exact ⟨p, hr, ⟨hD, hb.size⟩, hb⟩
theorem ins_new (w : World) (ks : List Int) (t : TypeId) : Ins (w.alloc (.cells (ks.map (Value.int .i64)).toArray t)) (some ⟨w.heap.size, 0, none⟩) ks :=
  .inr ⟨w.heap.size, 0, rfl, by simp, fun j k hj => by rw [cell_of_row _ _ _ _ _ (0, 0) (heap_alloc_new w _)]; simp [hj]⟩

/-- Where nothing goes down. -/
theorem Dk.write_up {d : Dk} {j : Nat} {s : List UInt8} (h1 : d.down = false) (h2 : d.left = 0) (hj : j < d.now.length) : d.write (j : Int) s = (d.put j s, 0) := by
  have he : d.err (j : Int) = 0 := by
    unfold Dk.err
    rw [if_neg (by rw [h1]; decide), if_neg (by omega)]
  unfold Dk.write
  rw [if_pos he, Int.toNat_natCast]
  unfold Dk.wear
  rw [if_pos (by exact h2)]
theorem Dk.sync_up {d : Dk} (h1 : d.down = false) : d.sync = ({ d with good := d.now, pend := [] }, 0) := if_neg (by rw [h1]; decide)

end Go.Proofs.Ytlaecnggbcagcaa
