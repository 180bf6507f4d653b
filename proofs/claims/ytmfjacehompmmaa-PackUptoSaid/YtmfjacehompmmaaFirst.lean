/- Contracts of the document's own answers for layer 2: the part that bytes begin with. -/
import Derived.Test.YtmfjacehompmmaaPackBack
namespace Go.Proofs.Ytmfjacehompmmaa
open Go.RowKit MM

/-- What First answers. -/
def FPost (r : Res PK.Pt) (w : World) (e : Ending) (w' : World) : Prop :=
  Below w.heap.size w w' ∧ match r with
  | .ok p n => e = .returned (.tuple #[.agg (PK.plainP p).cells, .int .i64 n, .int .i64 0])
  | .bad code n => ∃ x : PK.Rp, e = .returned (.tuple #[.agg x.cells, .int .i64 n, .int .i64 code])
theorem FPost.good {r : Res PK.Pt} {p : PK.Pt} {n : Nat} {z : Int} {cs : Array Value} {w w' : World} (h : r = .ok p n) (hx : (PK.plainP p).cells = cs) (hz : z = (n : Int)) (hb : Below w.heap.size w w') :
    FPost r w (.returned (.tuple #[.agg cs, .int .i64 z, .int .i64 0])) w' := by
  subst h hx hz
  exact ⟨hb, rfl⟩
theorem FPost.mis {r : Res PK.Pt} {code n : Nat} {z y : Int} {cs : Array Value} {w w' : World} (x : PK.Rp) (h : r = .bad code n) (hx : x.cells = cs) (hz : z = (n : Int)) (hy : y = (code : Int)) (hb : Below w.heap.size w w') :
    FPost r w (.returned (.tuple #[.agg cs, .int .i64 z, .int .i64 y])) w' := by
  subst h hx hz hy
  exact ⟨hb, x, rfl⟩
theorem bts_at {w : World} {A : Option Addr} {xs : List UInt8} (hB : Bts w A xs) {i : Nat} (hlt : i < xs.length) :
    ∃ b off, A = some ⟨b, off, none⟩ ∧ b < w.heap.size ∧ ∀ j (hj : j < xs.length), w.cell? ⟨b, off + j, none⟩ = some (.int .u8 (xs[j]).toNat) := by
  cases A with
  | none =>
    have hB : xs = [] := hB
    subst hB
    simp at hlt
  | some ad =>
    obtain ⟨b, off, spot⟩ := ad
    have h0 := hB 0 _ (bc_get xs 0 (by omega))
    have hspot : spot = none := by simpa [Addr.add] using World.cell?_spot h0
    subst hspot
    refine ⟨b, off, rfl, ?_, fun j hj => ?_⟩
    · have := World.block_lt_of_cell? w _ h0
      rw [MM.add_plain] at this
      exact this
    · have h1 := hB j _ (bc_get xs j hj)
      rw [MM.add_plain] at h1
      exact h1
theorem below2 (w : World) (o o' : Obj) : Below w.heap.size w ((w.alloc o).alloc o') := ((Below.refl _ w).alloc (Nat.le_refl _) _).alloc (by simp) _

set_option maxHeartbeats 1000000 in
set_option maxRecDepth 100000 in
theorem first_b (A : Option Addr) (c : Nat) (xs : List UInt8) (m : Int) (w : World) (hb : Bts w A xs) (hl : Lim xs.length) :
    Calls Try.prog 43 #[.slice A xs.length c, .int .u8 98, .int .i64 m] w (FPost (partR 98 m xs) w) := by
  have hl' : (xs.length : Int) ≤ 4294967296 := by unfold Lim at hl; omega
  have hP : partR 98 m xs = Res.map (fun b => { PK.zeroPt 98 with b := b }) (flagR xs) := rfl
  rw [hP]
  clear hP
  by_cases h0 : xs.length = 0
  · obtain rfl : xs = [] := List.eq_nil_of_length_eq_zero h0
    clear h0 hl' hl hb
    go_enter Try.func43, Try.ntmps43
    go_wp2_with fail
    refine bodyPost_ret (v := .tuple #[.agg #[.int .u8 98, .int .u64 0, .int .i64 0, .int .u64 0, .string ⟨#[]⟩, .bool false], .int .i64 0, .int .i64 2]) (by simp [results, Try.results43, go_sem]) rfl ?_
    exact FPost.mis ⟨98, 0, 0, 0, ⟨#[]⟩, false⟩ rfl rfl rfl rfl (below2 w _ _)
  · obtain ⟨b, off, rfl, hbl, hcell⟩ := bts_at hb (i := 0) (by omega)
    have hc0 := hcell 0 (by omega)
    obtain ⟨x, hx⟩ : ∃ x, xs[0] = x := ⟨_, rfl⟩
    rw [Nat.add_zero, hx] at hc0
    have hF : flagR xs = if 1 < x.toNat then .bad 4 1 else .ok (x.toNat == 1) 1 := by
      cases xs with
      | nil => simp at h0
      | cons y l => subst hx; rfl
    rw [hF]
    have hxl := x.toNat_lt
    clear hcell hF hl hb hx
    generalize x.toNat = y at *
    generalize xs.length = n at *
    have hn1 : ¬ (n : Int) < 1 := by omega
    by_cases h1 : 1 < y
    · rw [if_pos h1]
      have h1' : (1 : Int) < (y : Int) := by omega
      have h2' : ((y : Int) == 1) = false := by simp; omega
      go_enter Try.func43, Try.ntmps43
      go_wp2_with fail
      refine bodyPost_ret (v := .tuple #[.agg #[.int .u8 98, .int .u64 0, .int .i64 0, .int .u64 0, .string ⟨#[]⟩, .bool false], .int .i64 1, .int .i64 4]) (by simp [results, Try.results43, go_sem]) rfl ?_
      exact FPost.mis ⟨98, 0, 0, 0, ⟨#[]⟩, false⟩ rfl rfl rfl rfl (below2 w _ _)
    · rw [if_neg h1]
      have h1' : ¬ (1 : Int) < (y : Int) := by omega
      obtain ⟨t, ht⟩ : ∃ t, (y == 1) = t := ⟨_, rfl⟩
      rw [ht]
      have h2' : ((y : Int) == 1) = t := by rw [← ht, Bool.eq_iff_iff]; simp; omega
      clear ht
      go_enter Try.func43, Try.ntmps43
      go_wp2_with fail
      refine bodyPost_ret (v := .tuple #[.agg #[.int .u8 98, .int .u64 0, .int .i64 0, .int .u64 0, .string ⟨#[]⟩, .bool t], .int .i64 1, .int .i64 0]) (by simp [results, Try.results43, go_sem]) rfl ?_
      exact FPost.good rfl rfl rfl (below2 w _ _)

set_option maxHeartbeats 1000000 in
set_option maxRecDepth 100000 in
theorem first_no (A : Option Addr) (c : Nat) (xs : List UInt8) (k : Nat) (m : Int) (w : World) (h1 : k ≠ 117) (h2 : k ≠ 105) (h3 : k ≠ 102) (h4 : k ≠ 115) (h5 : k ≠ 98) :
    Calls Try.prog 43 #[.slice A xs.length c, .int .u8 k, .int .i64 m] w (FPost (partR k m xs) w) := by
  have hP : partR k m xs = .bad 5 0 := by unfold partR; rw [if_neg h1, if_neg h2, if_neg h3, if_neg h4, if_neg h5]
  rw [hP]
  clear hP
  have b1 : ((k : Int) == 117) = false := by simp; omega
  have d1 : ((k : Int) != 117) = true := by simp; omega
  have b2 : ((k : Int) == 105) = false := by simp; omega
  have d2 : ((k : Int) != 105) = true := by simp; omega
  have b3 : ((k : Int) == 102) = false := by simp; omega
  have d3 : ((k : Int) != 102) = true := by simp; omega
  have b4 : ((k : Int) == 115) = false := by simp; omega
  have d4 : ((k : Int) != 115) = true := by simp; omega
  have b5 : ((k : Int) == 98) = false := by simp; omega
  have d5 : ((k : Int) != 98) = true := by simp; omega
  go_enter Try.func43, Try.ntmps43
  go_wp2_with fail
  refine bodyPost_ret (v := .tuple #[.agg #[.int .u8 k, .int .u64 0, .int .i64 0, .int .u64 0, .string ⟨#[]⟩, .bool false], .int .i64 0, .int .i64 5]) (by simp [results, Try.results43, go_sem]) rfl ?_
  exact FPost.mis ⟨k, 0, 0, 0, ⟨#[]⟩, false⟩ rfl rfl rfl rfl (below2 w _ _)

theorem rnum_at (A : Option Addr) (c : Nat) (xs : List UInt8) (n a b e : Nat) (w : World) (hb : Bts w A xs) (hl : Lim xs.length) (hn : n = xs.length) (h : PK.numL 0 0 xs = (a, b, e)) :
    Calls Try.prog 66 #[.slice A n c] w fun e1 w' => e1 = .returned (.tuple #[.int .u64 a, .int .i64 b, .int .i64 e]) ∧ w = w' := by
  subst hn
  refine (rnum_any A c xs w hb hl).mono ?_
  rintro e1 w1 ⟨rfl, rfl⟩
  rw [h]
  exact ⟨rfl, rfl⟩

set_option maxHeartbeats 1000000 in
set_option maxRecDepth 100000 in
theorem first_u (A : Option Addr) (c : Nat) (xs : List UInt8) (m : Int) (w : World) (hb : Bts w A xs) (hl : Lim xs.length) :
    Calls Try.prog 43 #[.slice A xs.length c, .int .u8 117, .int .i64 m] w (FPost (partR 117 m xs) w) := by
  have hP : partR 117 m xs = Res.map (fun n => { PK.zeroPt 117 with u := n }) (numR xs) := rfl
  rw [hP]
  clear hP
  obtain ⟨a, b, e, hN⟩ : ∃ a b e, PK.numL 0 0 xs = (a, b, e) := ⟨_, _, _, rfl⟩
  have hx := fun o o' => rnum_at A c xs xs.length a b e ((w.alloc o).alloc o') ((hb.alloc o).alloc o') hl rfl hN
  have Hx := Lib.hid hx
  clear hx hb
  generalize xs.length = n at *
  cases e with
  | zero =>
    rw [numR_ok hN]
    clear hN
    go_enter Try.func43, Try.ntmps43
    go_wp2_with (go_at_call 66; refine (Hx.out _ _).mono ?_; rintro e1 w1 ⟨rfl, rfl⟩)
    refine bodyPost_ret (v := .tuple #[.agg #[.int .u8 117, .int .u64 a, .int .i64 0, .int .u64 0, .string ⟨#[]⟩, .bool false], .int .i64 b, .int .i64 0]) (by simp [results, Try.results43, go_sem]) rfl ?_
    exact FPost.good rfl rfl rfl (below2 w _ _)
  | succ e =>
    rw [numR_bad hN]
    clear hN
    have he : ¬ ((e + 1 : Nat) : Int) = 0 := by omega
    go_enter Try.func43, Try.ntmps43
    go_wp2_with (go_at_call 66; refine (Hx.out _ _).mono ?_; rintro e1 w1 ⟨rfl, rfl⟩)
    refine bodyPost_ret (v := .tuple #[.agg #[.int .u8 117, .int .u64 0, .int .i64 0, .int .u64 0, .string ⟨#[]⟩, .bool false], .int .i64 b, .int .i64 ((e + 1 : Nat) : Int)]) (by simp [results, Try.results43, go_sem]) rfl ?_
    exact FPost.mis ⟨117, 0, 0, 0, ⟨#[]⟩, false⟩ rfl rfl rfl rfl (below2 w _ _)

set_option maxHeartbeats 1000000 in
set_option maxRecDepth 100000 in
theorem first_i (A : Option Addr) (c : Nat) (xs : List UInt8) (m : Int) (w : World) (hb : Bts w A xs) (hl : Lim xs.length) :
    Calls Try.prog 43 #[.slice A xs.length c, .int .u8 105, .int .i64 m] w (FPost (partR 105 m xs) w) := by
  have hP : partR 105 m xs = Res.map (fun n => { PK.zeroPt 105 with i := PK.zag n }) (numR xs) := rfl
  rw [hP]
  clear hP
  obtain ⟨a, b, e, hN⟩ : ∃ a b e, PK.numL 0 0 xs = (a, b, e) := ⟨_, _, _, rfl⟩
  have hx := fun o o' => rnum_at A c xs xs.length a b e ((w.alloc o).alloc o') ((hb.alloc o).alloc o') hl rfl hN
  have Hx := Lib.hid hx
  clear hx hb
  cases e with
  | zero =>
    have hR := numR_ok hN
    have Hw := Lib.hid (show MF.W64 a from numR_w hR)
    rw [hR]
    clear hN hR
    generalize xs.length = n at *
    go_enter Try.func43, Try.ntmps43
    go_wp2_with (first
      | (go_at_call 66; refine (Hx.out _ _).mono ?_; rintro e1 w1 ⟨rfl, rfl⟩)
      | (go_at_call 67; refine (rzag_any a _ Hw.out).mono ?_; rintro e1 w1 ⟨rfl, rfl⟩))
    refine bodyPost_ret (v := .tuple #[.agg #[.int .u8 105, .int .u64 0, .int .i64 (PK.zag a), .int .u64 0, .string ⟨#[]⟩, .bool false], .int .i64 b, .int .i64 0]) (by simp [results, Try.results43, go_sem]) rfl ?_
    exact FPost.good rfl rfl rfl (below2 w _ _)
  | succ e =>
    rw [numR_bad hN]
    clear hN
    generalize xs.length = n at *
    have he : ¬ ((e + 1 : Nat) : Int) = 0 := by omega
    go_enter Try.func43, Try.ntmps43
    go_wp2_with (go_at_call 66; refine (Hx.out _ _).mono ?_; rintro e1 w1 ⟨rfl, rfl⟩)
    refine bodyPost_ret (v := .tuple #[.agg #[.int .u8 105, .int .u64 0, .int .i64 0, .int .u64 0, .string ⟨#[]⟩, .bool false], .int .i64 b, .int .i64 ((e + 1 : Nat) : Int)]) (by simp [results, Try.results43, go_sem]) rfl ?_
    exact FPost.mis ⟨105, 0, 0, 0, ⟨#[]⟩, false⟩ rfl rfl rfl rfl (below2 w _ _)

end Go.Proofs.Ytmfjacehompmmaa
