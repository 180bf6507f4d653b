/- Contracts of the document's own answers for layer 2: the part that bytes begin with. -/
import Derived.Test.YtaaeefndhmfceaaGreatDoorPkD
namespace Go.Proofs.YtaaeefndhmfceaaGreatDoor
open Go.RowKit MM

theorem below_drew {B : Nat} {a w : World} (h : Below B a w) : Below B a w.drew := ⟨h.os, h.tape, h.output, h.size, h.block⟩
theorem below_drewN {B : Nat} {a w : World} (h : Below B a w) (n : Nat) : Below B a (w.drewN n) := ⟨h.os, h.tape, h.output, h.size, h.block⟩

/-- What First answers. -/
def FPost (r : Res PK.Pt) (w : World) (e : Ending) (w' : World) : Prop :=
  Below w.heap.size w w' ∧ match r with
  | .ok p n => e = .returned (.tuple #[.agg (PK.plainP p).cells, .int .i64 n, .int .i64 0])
  | .bad code n => ∃ x : PK.Rp, e = .returned (.tuple #[.agg x.cells, .int .i64 n, .int .i64 code])
theorem FPost.good {r : Res PK.Pt} {p : PK.Pt} {n : Nat} {z : Int} {cs : Array Value} {w w' : World} (h : r = .ok p n) (hx : (PK.plainP p).cells = cs) (hz : z = (n : Int)) (hb : Below w.heap.size w w') :
    FPost r w (.returned (.tuple #[.agg cs, .int .i64 z, .int .i64 0])) w' := by
  subst h hx hz
  exact ⟨hb, rfl⟩
theorem FPost.mis {r : Res PK.Pt} {code n : Nat} {z y : Int} {cs : Array Value} {w w' : World} (x : PK.Rp) (h : r = .bad code n) (hx : x.cells = cs) (hz : z = (n : Int)) (hy : y = (code : Int)) (hb : Below w.heap.size w w') :
    FPost r w (.returned (.tuple #[.agg cs, .int .i64 z, .int .i64 y])) w' := by
  subst h hx hz hy
  exact ⟨hb, x, rfl⟩
theorem bts_at {w : World} {A : Option Addr} {xs : List UInt8} (hB : Bts w A xs) {i : Nat} (hlt : i < xs.length) :
    ∃ b off, A = some ⟨b, off, none⟩ ∧ b < w.heap.size ∧ ∀ j (hj : j < xs.length), w.cell? ⟨b, off + j, none⟩ = some (.int .u8 (xs[j]).toNat) := by
  cases A with
  | none =>
    have hB : xs = [] := hB
    subst hB
    simp at hlt
  | some ad =>
    obtain ⟨b, off, spot⟩ := ad
    have h0 := hB 0 _ (bc_get xs 0 (by omega))
    have hspot : spot = none := by simpa [Addr.add] using World.cell?_spot h0
    subst hspot
    refine ⟨b, off, rfl, ?_, fun j hj => ?_⟩
    · have := World.block_lt_of_cell? w _ h0
      rw [MM.add_plain] at this
      exact this
    · have h1 := hB j _ (bc_get xs j hj)
      rw [MM.add_plain] at h1
      exact h1
theorem below2 (w : World) (o o' : Obj) : Below w.heap.size w ((w.alloc o).alloc o') := ((Below.refl _ w).alloc (Nat.le_refl _) _).alloc (by simp) _

set_option maxHeartbeats 1000000 in
set_option maxRecDepth 100000 in
theorem first_b (A : Option Addr) (c : Nat) (xs : List UInt8) (m : Int) (w : World) (hb : Bts w A xs) (hl : Lim xs.length) :
    Calls Tryz.prog 150 #[.slice A xs.length c, .int .u8 98, .int .i64 m] w (FPost (partR 98 m xs) w) := by
  have hl' : (xs.length : Int) ≤ 4294967296 := by unfold Lim at hl; omega
  have hP : partR 98 m xs = Res.map (fun b => { PK.zeroPt 98 with b := b }) (flagR xs) := rfl
  rw [hP]
  clear hP
  by_cases h0 : xs.length = 0
  · obtain rfl : xs = [] := List.eq_nil_of_length_eq_zero h0
    clear h0 hl' hl hb
    go_enter Tryz.func150, Tryz.ntmps150
    go_wp2_with fail
    refine bodyPost_ret (v := .tuple #[.agg #[.int .u8 98, .int .u64 0, .int .i64 0, .int .u64 0, .string ⟨#[]⟩, .bool false], .int .i64 0, .int .i64 2]) (by simp [results, Tryz.results150, go_sem]) rfl ?_
    exact FPost.mis ⟨98, 0, 0, 0, ⟨#[]⟩, false⟩ rfl rfl rfl rfl (below2 w _ _)
  · obtain ⟨b, off, rfl, hbl, hcell⟩ := bts_at hb (i := 0) (by omega)
    have hc0 := hcell 0 (by omega)
    obtain ⟨x, hx⟩ : ∃ x, xs[0] = x := ⟨_, rfl⟩
    rw [Nat.add_zero, hx] at hc0
    have hF : flagR xs = if 1 < x.toNat then .bad 4 1 else .ok (x.toNat == 1) 1 := by
      cases xs with
      | nil => simp at h0
      | cons y l => subst hx; rfl
    rw [hF]
    have hxl := x.toNat_lt
    clear hcell hF hl hb hx
    generalize x.toNat = y at *
    generalize xs.length = n at *
    have hn1 : ¬ (n : Int) < 1 := by omega
    by_cases h1 : 1 < y
    · rw [if_pos h1]
      have h1' : (1 : Int) < (y : Int) := by omega
      have h2' : ((y : Int) == 1) = false := by simp; omega
      go_enter Tryz.func150, Tryz.ntmps150
      go_wp2_with fail
      refine bodyPost_ret (v := .tuple #[.agg #[.int .u8 98, .int .u64 0, .int .i64 0, .int .u64 0, .string ⟨#[]⟩, .bool false], .int .i64 1, .int .i64 4]) (by simp [results, Tryz.results150, go_sem]) rfl ?_
      exact FPost.mis ⟨98, 0, 0, 0, ⟨#[]⟩, false⟩ rfl rfl rfl rfl (below2 w _ _)
    · rw [if_neg h1]
      have h1' : ¬ (1 : Int) < (y : Int) := by omega
      obtain ⟨t, ht⟩ : ∃ t, (y == 1) = t := ⟨_, rfl⟩
      rw [ht]
      have h2' : ((y : Int) == 1) = t := by rw [← ht, Bool.eq_iff_iff]; simp; omega
      clear ht
      go_enter Tryz.func150, Tryz.ntmps150
      go_wp2_with fail
      refine bodyPost_ret (v := .tuple #[.agg #[.int .u8 98, .int .u64 0, .int .i64 0, .int .u64 0, .string ⟨#[]⟩, .bool t], .int .i64 1, .int .i64 0]) (by simp [results, Tryz.results150, go_sem]) rfl ?_
      exact FPost.good rfl rfl rfl (below2 w _ _)

set_option maxHeartbeats 1000000 in
set_option maxRecDepth 100000 in
theorem first_no (A : Option Addr) (c : Nat) (xs : List UInt8) (k : Nat) (m : Int) (w : World) (h1 : k ≠ 117) (h2 : k ≠ 105) (h3 : k ≠ 102) (h4 : k ≠ 115) (h5 : k ≠ 98) :
    Calls Tryz.prog 150 #[.slice A xs.length c, .int .u8 k, .int .i64 m] w (FPost (partR k m xs) w) := by
  have hP : partR k m xs = .bad 5 0 := by unfold partR; rw [if_neg h1, if_neg h2, if_neg h3, if_neg h4, if_neg h5]
  rw [hP]
  clear hP
  have b1 : ((k : Int) == 117) = false := by simp; omega
  have d1 : ((k : Int) != 117) = true := by simp; omega
  have b2 : ((k : Int) == 105) = false := by simp; omega
  have d2 : ((k : Int) != 105) = true := by simp; omega
  have b3 : ((k : Int) == 102) = false := by simp; omega
  have d3 : ((k : Int) != 102) = true := by simp; omega
  have b4 : ((k : Int) == 115) = false := by simp; omega
  have d4 : ((k : Int) != 115) = true := by simp; omega
  have b5 : ((k : Int) == 98) = false := by simp; omega
  have d5 : ((k : Int) != 98) = true := by simp; omega
  go_enter Tryz.func150, Tryz.ntmps150
  go_wp2_with fail
  refine bodyPost_ret (v := .tuple #[.agg #[.int .u8 k, .int .u64 0, .int .i64 0, .int .u64 0, .string ⟨#[]⟩, .bool false], .int .i64 0, .int .i64 5]) (by simp [results, Tryz.results150, go_sem]) rfl ?_
  exact FPost.mis ⟨k, 0, 0, 0, ⟨#[]⟩, false⟩ rfl rfl rfl rfl (below2 w _ _)

theorem rnum_at (A : Option Addr) (c : Nat) (xs : List UInt8) (n a b e : Nat) (w : World) (hb : Bts w A xs) (hl : Lim xs.length) (hn : n = xs.length) (h : PK.numL 0 0 xs = (a, b, e)) :
    Calls Tryz.prog 169 #[.slice A n c] w fun e1 w' => e1 = .returned (.tuple #[.int .u64 a, .int .i64 b, .int .i64 e]) ∧ w = w' := by
  subst hn
  refine (rnum_any A c xs w hb hl).mono ?_
  rintro e1 w1 ⟨rfl, rfl⟩
  rw [h]
  exact ⟨rfl, rfl⟩

set_option maxHeartbeats 1000000 in
set_option maxRecDepth 100000 in
theorem first_u (A : Option Addr) (c : Nat) (xs : List UInt8) (m : Int) (w : World) (hb : Bts w A xs) (hl : Lim xs.length) :
    Calls Tryz.prog 150 #[.slice A xs.length c, .int .u8 117, .int .i64 m] w (FPost (partR 117 m xs) w) := by
  have hP : partR 117 m xs = Res.map (fun n => { PK.zeroPt 117 with u := n }) (numR xs) := rfl
  rw [hP]
  clear hP
  obtain ⟨a, b, e, hN⟩ : ∃ a b e, PK.numL 0 0 xs = (a, b, e) := ⟨_, _, _, rfl⟩
  have hx := fun o o' => rnum_at A c xs xs.length a b e ((w.alloc o).alloc o') ((hb.alloc o).alloc o') hl rfl hN
  have Hx := Lib.hid hx
  clear hx hb
  generalize xs.length = n at *
  cases e with
  | zero =>
    rw [numR_ok hN]
    clear hN
    go_enter Tryz.func150, Tryz.ntmps150
    go_wp2_with (go_at_call 169; refine (Hx.out _ _).mono ?_; rintro e1 w1 ⟨rfl, rfl⟩)
    refine bodyPost_ret (v := .tuple #[.agg #[.int .u8 117, .int .u64 a, .int .i64 0, .int .u64 0, .string ⟨#[]⟩, .bool false], .int .i64 b, .int .i64 0]) (by simp [results, Tryz.results150, go_sem]) rfl ?_
    exact FPost.good rfl rfl rfl (below2 w _ _)
  | succ e =>
    rw [numR_bad hN]
    clear hN
    have he : ¬ ((e + 1 : Nat) : Int) = 0 := by omega
    go_enter Tryz.func150, Tryz.ntmps150
    go_wp2_with (go_at_call 169; refine (Hx.out _ _).mono ?_; rintro e1 w1 ⟨rfl, rfl⟩)
    refine bodyPost_ret (v := .tuple #[.agg #[.int .u8 117, .int .u64 0, .int .i64 0, .int .u64 0, .string ⟨#[]⟩, .bool false], .int .i64 b, .int .i64 ((e + 1 : Nat) : Int)]) (by simp [results, Tryz.results150, go_sem]) rfl ?_
    exact FPost.mis ⟨117, 0, 0, 0, ⟨#[]⟩, false⟩ rfl rfl rfl rfl (below2 w _ _)

set_option maxHeartbeats 1000000 in
set_option maxRecDepth 100000 in
theorem first_i (A : Option Addr) (c : Nat) (xs : List UInt8) (m : Int) (w : World) (hb : Bts w A xs) (hl : Lim xs.length) :
    Calls Tryz.prog 150 #[.slice A xs.length c, .int .u8 105, .int .i64 m] w (FPost (partR 105 m xs) w) := by
  have hP : partR 105 m xs = Res.map (fun n => { PK.zeroPt 105 with i := PK.zag n }) (numR xs) := rfl
  rw [hP]
  clear hP
  obtain ⟨a, b, e, hN⟩ : ∃ a b e, PK.numL 0 0 xs = (a, b, e) := ⟨_, _, _, rfl⟩
  have hx := fun o o' => rnum_at A c xs xs.length a b e ((w.alloc o).alloc o') ((hb.alloc o).alloc o') hl rfl hN
  have Hx := Lib.hid hx
  clear hx hb
  cases e with
  | zero =>
    have hR := numR_ok hN
    have Hw := Lib.hid (show MF.W64 a from numR_w hR)
    rw [hR]
    clear hN hR
    generalize xs.length = n at *
    go_enter Tryz.func150, Tryz.ntmps150
    go_wp2_with (first
      | (go_at_call 169; refine (Hx.out _ _).mono ?_; rintro e1 w1 ⟨rfl, rfl⟩)
      | (go_at_call 170; refine (rzag_any a _ Hw.out).mono ?_; rintro e1 w1 ⟨rfl, rfl⟩))
    refine bodyPost_ret (v := .tuple #[.agg #[.int .u8 105, .int .u64 0, .int .i64 (PK.zag a), .int .u64 0, .string ⟨#[]⟩, .bool false], .int .i64 b, .int .i64 0]) (by simp [results, Tryz.results150, go_sem]) rfl ?_
    exact FPost.good rfl rfl rfl (below2 w _ _)
  | succ e =>
    rw [numR_bad hN]
    clear hN
    generalize xs.length = n at *
    have he : ¬ ((e + 1 : Nat) : Int) = 0 := by omega
    go_enter Tryz.func150, Tryz.ntmps150
    go_wp2_with (go_at_call 169; refine (Hx.out _ _).mono ?_; rintro e1 w1 ⟨rfl, rfl⟩)
    refine bodyPost_ret (v := .tuple #[.agg #[.int .u8 105, .int .u64 0, .int .i64 0, .int .u64 0, .string ⟨#[]⟩, .bool false], .int .i64 b, .int .i64 ((e + 1 : Nat) : Int)]) (by simp [results, Tryz.results150, go_sem]) rfl ?_
    exact FPost.mis ⟨105, 0, 0, 0, ⟨#[]⟩, false⟩ rfl rfl rfl rfl (below2 w _ _)

end Go.Proofs.YtaaeefndhmfceaaGreatDoor
/- Contracts of the document's own answers for layer 2: the text that bytes begin with. -/
namespace Go.Proofs.YtaaeefndhmfceaaGreatDoor
open Go.RowKit MM

set_option maxHeartbeats 1000000 in
set_option maxRecDepth 100000 in
theorem first_s (A : Option Addr) (c : Nat) (xs : List UInt8) (m : Int) (w : World) (hb : Bts w A xs) (hl : Lim xs.length) (hcap : xs.length ≤ c) (hm : (Lit.int .i64 m).wf = true) :
    Calls Tryz.prog 150 #[.slice A xs.length c, .int .u8 115, .int .i64 m] w (FPost (partR 115 m xs) w) := by
  have hm' := wf_i64 hm
  have hP : partR 115 m xs = Res.map (fun s => { PK.zeroPt 115 with s := ⟨s.toArray⟩ }) (txtR m xs) := rfl
  rw [hP]
  clear hP
  obtain ⟨a, b, e, hN⟩ : ∃ a b e, PK.numL 0 0 xs = (a, b, e) := ⟨_, _, _, rfl⟩
  have hx := fun o o' => rnum_at A c xs xs.length a b e ((w.alloc o).alloc o') ((hb.alloc o).alloc o') hl rfl hN
  have Hx := Lib.hid hx
  clear hx
  cases e with
  | succ e =>
    rw [txtR_bad (numR_bad hN)]
    clear hN hb
    generalize xs.length = n at *
    have he : ¬ ((e + 1 : Nat) : Int) = 0 := by omega
    go_enter Tryz.func150, Tryz.ntmps150
    go_wp2_with (go_at_call 169; refine (Hx.out _ _).mono ?_; rintro e1 w1 ⟨rfl, rfl⟩)
    refine bodyPost_ret (v := .tuple #[.agg #[.int .u8 115, .int .u64 0, .int .i64 0, .int .u64 0, .string ⟨#[]⟩, .bool false], .int .i64 b, .int .i64 ((e + 1 : Nat) : Int)]) (by simp [results, Tryz.results150, go_sem]) rfl ?_
    exact FPost.mis ⟨115, 0, 0, 0, ⟨#[]⟩, false⟩ rfl rfl rfl rfl (below2 w _ _)
  | zero =>
    have hR := numR_ok hN
    rw [txtR_of hR]
    have hbl := numR_len hR
    have haw := numR_w hR
    clear hN
    have hn32 : (xs.length : Int) ≤ 4294967296 := by unfold Lim at hl; omega
    obtain ⟨M, hM, hMs⟩ : ∃ M : Nat, m.toNat = M ∧ (M : Int) ≤ 9223372036854775807 := ⟨m.toNat, rfl, by omega⟩
    have htb : tooB a m = decide (M < a) := by unfold tooB; rw [hM]
    rw [htb]
    have hwM : IntKind.u64.wrap (M : Int) = (M : Int) := by rw [IntKind.wrap_u64]; omega
    have hw2 : IntKind.u64.wrap ((xs.length : Int) - (b : Int)) = (xs.length : Int) - (b : Int) := by rw [IntKind.wrap_u64]; omega
    have hMm : m < 0 ∧ M = 0 ∨ m = (M : Int) := by omega
    clear htb hM hm hm' haw
    by_cases ht : M < a
    · have hti : (M : Int) < (a : Int) := by omega
      rw [decide_eq_true ht, if_pos rfl]
      clear hR hw2 hb
      generalize xs.length = n at *
      rcases hMm with ⟨h0, rfl⟩ | rfl
      · have hti : (0 : Int) < (a : Int) := by omega
        clear hwM
        go_enter Tryz.func150, Tryz.ntmps150
        go_wp2_with (go_at_call 169; refine (Hx.out _ _).mono ?_; rintro e1 w1 ⟨rfl, rfl⟩)
        refine bodyPost_ret (v := .tuple #[.agg #[.int .u8 115, .int .u64 0, .int .i64 0, .int .u64 0, .string ⟨#[]⟩, .bool false], .int .i64 b, .int .i64 3]) (by simp [results, Tryz.results150, go_sem]) rfl ?_
        exact FPost.mis ⟨115, 0, 0, 0, ⟨#[]⟩, false⟩ rfl rfl rfl rfl (below2 w _ _)
      · have h0 : ¬ (M : Int) < 0 := by omega
        go_enter Tryz.func150, Tryz.ntmps150
        go_wp2_with (go_at_call 169; refine (Hx.out _ _).mono ?_; rintro e1 w1 ⟨rfl, rfl⟩)
        refine bodyPost_ret (v := .tuple #[.agg #[.int .u8 115, .int .u64 0, .int .i64 0, .int .u64 0, .string ⟨#[]⟩, .bool false], .int .i64 b, .int .i64 3]) (by simp [results, Tryz.results150, go_sem]) rfl ?_
        exact FPost.mis ⟨115, 0, 0, 0, ⟨#[]⟩, false⟩ rfl rfl rfl rfl (below2 w _ _)
    · have hti : ¬ (M : Int) < (a : Int) := by omega
      rw [decide_eq_false ht, if_neg (by simp)]
      by_cases hs : xs.length - b < a
      · have hsi : (xs.length : Int) - (b : Int) < (a : Int) := by omega
        rw [if_pos hs]
        clear hR hb
        generalize xs.length = n at *
        rcases hMm with ⟨h0, rfl⟩ | rfl
        · omega
        · have h0 : ¬ (M : Int) < 0 := by omega
          go_enter Tryz.func150, Tryz.ntmps150
          go_wp2_with (go_at_call 169; refine (Hx.out _ _).mono ?_; rintro e1 w1 ⟨rfl, rfl⟩)
          refine bodyPost_ret (v := .tuple #[.agg #[.int .u8 115, .int .u64 0, .int .i64 0, .int .u64 0, .string ⟨#[]⟩, .bool false], .int .i64 b, .int .i64 2]) (by simp [results, Tryz.results150, go_sem]) rfl ?_
          exact FPost.mis ⟨115, 0, 0, 0, ⟨#[]⟩, false⟩ rfl rfl rfl rfl (below2 w _ _)
      · have hsi : ¬ (xs.length : Int) - (b : Int) < (a : Int) := by omega
        rw [if_neg hs]
        obtain ⟨g, off, rfl, hgl, hcl⟩ := bts_at hb (i := 0) (by omega)
        clear hcl
        have hwa : IntKind.i64.wrap (a : Int) = (a : Int) := by rw [IntKind.wrap_i64]; omega
        have hlo : (0 : Int) ≤ (b : Int) := by omega
        have hhi : (b : Int) + (a : Int) ≤ (c : Int) := by omega
        have hbc : (b : Int) ≤ (b : Int) + (a : Int) := by omega
        obtain ⟨T, hT⟩ : ∃ T, (xs.drop b).take a = T := ⟨_, rfl⟩
        have hTl : T.length = a := by rw [← hT, List.length_take, List.length_drop]; omega
        have hcut := hb.cut b a c (by omega) hcap
        rw [hT] at hcut ⊢
        clear hR hb hT
        generalize xs.length = n at *
        by_cases hcc : c = b
        · have ha0 : a = 0 := by omega
          have hT0 : T = [] := List.eq_nil_of_length_eq_zero (by omega)
          subst hcc ha0 hT0
          have hcv := fun o o' => run_text (P := Tryz.prog) ((w.alloc o).alloc o') 30 9 5 (some ⟨g, off, none⟩) 0 [] Tryz.underlying30 Tryz.underlying5 Tryz.underlying9 (Bts.nil _)
          rw [List.length_nil] at hcv
          clear hcut hTl hs ht
          rcases hMm with ⟨h0, rfl⟩ | rfl
          · clear hwM
            go_enter Tryz.func150, Tryz.ntmps150
            go_wp2_with (go_at_call 169; refine (Hx.out _ _).mono ?_; rintro e1 w1 ⟨rfl, rfl⟩)
            refine bodyPost_ret (v := .tuple #[.agg #[.int .u8 115, .int .u64 0, .int .i64 0, .int .u64 0, .string ⟨#[]⟩, .bool false], .int .i64 (c : Int), .int .i64 0]) (by simp [results, Tryz.results150, go_sem]) rfl ?_
            exact FPost.good rfl rfl (by omega) (below2 w _ _)
          · have h0 : ¬ (M : Int) < 0 := by omega
            go_enter Tryz.func150, Tryz.ntmps150
            go_wp2_with (go_at_call 169; refine (Hx.out _ _).mono ?_; rintro e1 w1 ⟨rfl, rfl⟩)
            refine bodyPost_ret (v := .tuple #[.agg #[.int .u8 115, .int .u64 0, .int .i64 0, .int .u64 0, .string ⟨#[]⟩, .bool false], .int .i64 (c : Int), .int .i64 0]) (by simp [results, Tryz.results150, go_sem]) rfl ?_
            exact FPost.good rfl rfl (by omega) (below2 w _ _)
        · have hA : cutA (some ⟨g, off, none⟩) b c = some ⟨g, off + b, none⟩ := by unfold cutA; rw [if_neg hcc]; simp [add_plain]
          rw [hA] at hcut
          have hcv := fun o o' => run_text (P := Tryz.prog) ((w.alloc o).alloc o') 30 9 5 _ (c - b) _ Tryz.underlying30 Tryz.underlying5 Tryz.underlying9 ((hcut.alloc o).alloc o')
          rw [hTl] at hcv
          clear hA hcut hTl
          rcases hMm with ⟨h0, rfl⟩ | rfl
          · clear hwM
            have hti : ¬ (0 : Int) < (a : Int) := by omega
            go_enter Tryz.func150, Tryz.ntmps150
            go_wp2_with (go_at_call 169; refine (Hx.out _ _).mono ?_; rintro e1 w1 ⟨rfl, rfl⟩)
            refine bodyPost_ret (v := .tuple #[.agg #[.int .u8 115, .int .u64 0, .int .i64 0, .int .u64 0, .string ⟨T.toArray⟩, .bool false], .int .i64 ((b : Int) + (a : Int)), .int .i64 0]) (by simp [results, Tryz.results150, go_sem]) rfl ?_
            exact FPost.good rfl rfl (by omega) (below2 w _ _)
          · have h0 : ¬ (M : Int) < 0 := by omega
            go_enter Tryz.func150, Tryz.ntmps150
            go_wp2_with (go_at_call 169; refine (Hx.out _ _).mono ?_; rintro e1 w1 ⟨rfl, rfl⟩)
            refine bodyPost_ret (v := .tuple #[.agg #[.int .u8 115, .int .u64 0, .int .i64 0, .int .u64 0, .string ⟨T.toArray⟩, .bool false], .int .i64 ((b : Int) + (a : Int)), .int .i64 0]) (by simp [results, Tryz.results150, go_sem]) rfl ?_
            exact FPost.good rfl rfl (by omega) (below2 w _ _)

end Go.Proofs.YtaaeefndhmfceaaGreatDoor
/- Contracts of the document's own answers for layer 2: the floating number that bytes begin with; whatever part they begin with. -/
namespace Go.Proofs.YtaaeefndhmfceaaGreatDoor
open Go.RowKit MM

/-- How far the place of a floating number was read. -/
structure FInv (xs : List UInt8) (w : World) (i : Nat) (k : Nat) (wr : World) : Prop where
  i8 : i ≤ 8
  kk : k = PK.placeN (xs.take i)
  r0 : wr.heap[w.heap.size]? = some (.cells #[.int .u8 0, .int .u64 0, .int .i64 0, .int .u64 0, .string ⟨#[]⟩, .bool false] 115 (0, 0))
  r1 : wr.heap[w.heap.size + 1]? = some (.cells #[.int .u8 102, .int .u64 0, .int .i64 0, .int .u64 (k : Nat), .string ⟨#[]⟩, .bool false] 115 (0, 0))
  bel : Below w.heap.size w wr

theorem FInv.step {xs : List UInt8} {w wr : World} {i k k' : Nat} (hv : FInv xs w i k wr) (h8 : i < 8) (hk : PK.placeN (xs.take (i + 1)) = k') : FInv xs w (i + 1) k' (wr.setCell ⟨w.heap.size + 1, 3, none⟩ (.int .u64 k')).drew := by
  refine ⟨h8, hk.symm, ?_, ?_, ?_⟩
  · exact (heap_setCell_other wr ⟨w.heap.size + 1, 3, none⟩ w.heap.size _ (by simp)).trans hv.r0
  · exact (heap_setCell_same wr (w.heap.size + 1) 3 _ _ (.int .u64 k') hv.r1).trans rfl
  · exact below_drew (hv.bel.trans ((Kp.setCell (S := fun k => k = w.heap.size + 1) (p := ⟨w.heap.size + 1, 3, none⟩) (Kp.refl _ wr) (.inl rfl) _).below hv.bel.size (fun j hj x => by omega)))

theorem two_alloc (w : World) (cs ds : Array Value) (t u : TypeId) : ((w.alloc (.cells cs t)).alloc (.cells ds u)).heap[w.heap.size]? = some (.cells cs t (0, 0)) ∧ ((w.alloc (.cells cs t)).alloc (.cells ds u)).heap[w.heap.size + 1]? = some (.cells ds u (0, 0)) :=
  two_new (S := fun _ => False) (Kp.refl _ _) (fun x => x) (fun x => x)

set_option maxHeartbeats 1000000 in
set_option maxRecDepth 100000 in
theorem first_f (A : Option Addr) (c : Nat) (xs : List UInt8) (m : Int) (w : World) (hb : Bts w A xs) (hl : Lim xs.length) :
    Calls Tryz.prog 150 #[.slice A xs.length c, .int .u8 102, .int .i64 m] w (FPost (partR 102 m xs) w) := by
  have hP : partR 102 m xs = Res.map (fun x => { PK.zeroPt 102 with f := x }) (floR xs) := rfl
  rw [hP]
  clear hP
  have hn32 : (xs.length : Int) ≤ 4294967296 := by unfold Lim at hl; omega
  by_cases h8 : xs.length < 8
  · rw [floR_short h8]
    have h8' : (xs.length : Int) < 8 := by omega
    clear hb
    generalize xs.length = n at *
    go_enter Tryz.func150, Tryz.ntmps150
    go_wp2_with fail
    refine bodyPost_ret (v := .tuple #[.agg #[.int .u8 102, .int .u64 0, .int .i64 0, .int .u64 0, .string ⟨#[]⟩, .bool false], .int .i64 n, .int .i64 2]) (by simp [results, Tryz.results150, go_sem]) rfl ?_
    exact FPost.mis ⟨102, 0, 0, 0, ⟨#[]⟩, false⟩ rfl rfl rfl rfl (below2 w _ _)
  · have h8' : ¬ (xs.length : Int) < 8 := by omega
    obtain ⟨g, off, rfl, hgl, hcl⟩ := bts_at hb (i := 0) (by omega)
    have Hcl := Lib.hid hcl
    clear hcl hb
    go_enter Tryz.func150, Tryz.ntmps150
    go_wp2_with fail
    go_loopw [11] (fun t wr => ∃ i k : Nat, t = .int .i64 i ∧ FInv xs w i k wr) (fun t _ => 8 - (intOf t).toNat)
    case atStart => exact ⟨0, 0, rfl, by omega, rfl, (two_alloc w _ _ _ _).1, (two_alloc w _ _ _ _).2, below2 w _ _⟩
    case round =>
      obtain ⟨i, k, rfl, hv⟩ := hrel
      have d := fun o => cell_of_row wr (w.heap.size + 1) o _ _ (0, 0) hv.r1
      have f1 := fun o => frozen_of_row wr (w.heap.size + 1) o _ _ hv.r1
      have i8 := hv.i8
      by_cases hlt : i < 8
      · have hi : i < xs.length := by omega
        have hcb := (hv.bel.cell (p := ⟨g, off + i, none⟩) hgl).trans (Hcl.out i hi)
        have hi1 : (i : Int) < (xs.length : Int) := by omega
        have hs : PK.placeN (xs.take (i + 1)) = k * 256 + (xs[i]).toNat := by rw [List.take_succ_eq_append_getElem hi, PK.placeN_snoc, ← hv.kk]
        have hk : k < 256 ^ i := by
          have := PK.placeN_lt (xs.take i)
          rw [← hv.kk, List.length_take, Nat.min_eq_left (by omega)] at this
          exact this
        have hxl := (xs[i]).toNat_lt
        generalize (xs[i]).toNat = y at *
        have hbits : IntKind.u64.wrap (IntKind.u64.wrap ((k : Int) * 256) + (y : Int)) = ((k * 256 + y : Nat) : Int) := by
          have h2 : 256 ^ i ≤ 256 ^ 7 := Nat.pow_le_pow_right (by omega) (by omega)
          have h3 : (256 : Nat) ^ 7 = 72057594037927936 := by decide
          rw [IntKind.wrap_u64, IntKind.wrap_u64]
          omega
        have Hb := Lib.hid hbits
        have Hs := Lib.hid hs
        have Hv := Lib.hid hv
        have d3 : wr.cell? ⟨w.heap.size + 1, 3, none⟩ = some (.int .u64 k) := (d 3).trans rfl
        have f3 := f1 3
        clear hbits hs hk hv d f1 hl
        go_wp2_with fail
        go_region
        all_goals
          go_wp2_with fail
          rw [Hb.out]
          refine ⟨⟨i + 1, _, by go_num, Hv.out.step hlt Hs.out⟩, ?_⟩
          simp [intOf]
          omega
      · have hi' : i = 8 := by omega
        subst hi'
        have hk8 := hv.kk
        have hw : MF.W64 k := by
          have := PK.placeN_lt (xs.take 8)
          rw [← hk8, List.length_take, Nat.min_eq_left (by omega)] at this
          exact Nat.lt_of_lt_of_le this (by decide)
        have e0 := fun o => cell_of_row wr w.heap.size o _ _ (0, 0) hv.r0
        have f0 := fun o => frozen_of_row wr w.heap.size o _ _ hv.r0
        have d0 : wr.cell? ⟨w.heap.size + 1, 0, none⟩ = some (.int .u8 102) := (d 0).trans rfl
        have d1 : wr.cell? ⟨w.heap.size + 1, 1, none⟩ = some (.int .u64 0) := (d 1).trans rfl
        have d2 : wr.cell? ⟨w.heap.size + 1, 2, none⟩ = some (.int .i64 0) := (d 2).trans rfl
        have d3 : wr.cell? ⟨w.heap.size + 1, 3, none⟩ = some (.int .u64 k) := (d 3).trans rfl
        have d4 : wr.cell? ⟨w.heap.size + 1, 4, none⟩ = some (.string ⟨#[]⟩) := (d 4).trans rfl
        have d5 : wr.cell? ⟨w.heap.size + 1, 5, none⟩ = some (.bool false) := (d 5).trans rfl
        have Hw := Lib.hid hw
        have Hv := Lib.hid hv
        have Hk8 := Lib.hid hk8
        cases hp : MF.proper (MF.bk k) with
        | true =>
          have hF := floR_ok (l := xs) h8 (by rw [← hk8]; exact hp)
          rw [← hk8] at hF
          have HF := Lib.hid hF
          clear hF hk8 hw hv d hl
          go_wp2_with (go_at_call 168; refine (rnumber_any k _ Hw.out).mono ?_; rintro e1 w1 ⟨rfl, rfl⟩)
          refine bodyPost_ret (v := .tuple #[.agg #[.int .u8 102, .int .u64 0, .int .i64 0, .int .u64 k, .string ⟨#[]⟩, .bool false], .int .i64 8, .int .i64 0]) (by simp [results, Tryz.results150, go_sem, e0]) rfl ?_
          rw [HF.out]
          refine FPost.good rfl (by show PK.Rp.cells ⟨102, 0, 0, MF.key (MF.bk k), ⟨#[]⟩, false⟩ = _; rw [MF.key_bk Hw.out hp]; rfl) rfl (Hv.out.bel.trans (Kp.below (S := fun k => k = w.heap.size) ?_ Hv.out.bel.size (fun j hj x => by omega)))
          iterate 6 refine Kp.setCell ?_ (Or.inl (by exact rfl)) _
          exact Kp.refl _ _
        | false =>
          have HF := Lib.hid (floR_form (l := xs) h8 (by rw [← hk8]; exact hp))
          clear hk8 hw hv d hl
          go_wp2_with (go_at_call 168; refine (rnumber_any k _ Hw.out).mono ?_; rintro e1 w1 ⟨rfl, rfl⟩)
          refine bodyPost_ret (v := .tuple #[.agg #[.int .u8 102, .int .u64 0, .int .i64 0, .int .u64 k, .string ⟨#[]⟩, .bool false], .int .i64 8, .int .i64 4]) (by simp [results, Tryz.results150, go_sem, e0]) rfl ?_
          rw [HF.out]
          refine FPost.mis ⟨102, 0, 0, k, ⟨#[]⟩, false⟩ rfl rfl rfl rfl (Hv.out.bel.trans (Kp.below (S := fun k => k = w.heap.size) ?_ Hv.out.bel.size (fun j hj x => by omega)))
          iterate 6 refine Kp.setCell ?_ (Or.inl (by exact rfl)) _
          exact Kp.refl _ _

theorem first_any (A : Option Addr) (c : Nat) (xs : List UInt8) (k : Nat) (m : Int) (w : World) (hb : Bts w A xs) (hl : Lim xs.length) (hcap : xs.length ≤ c) (hm : (Lit.int .i64 m).wf = true) :
    Calls Tryz.prog 150 #[.slice A xs.length c, .int .u8 k, .int .i64 m] w (FPost (partR k m xs) w) := by
  by_cases h1 : k = 117
  · subst h1; exact first_u A c xs m w hb hl
  by_cases h2 : k = 105
  · subst h2; exact first_i A c xs m w hb hl
  by_cases h3 : k = 102
  · subst h3; exact first_f A c xs m w hb hl
  by_cases h4 : k = 115
  · subst h4; exact first_s A c xs m w hb hl hcap hm
  by_cases h5 : k = 98
  · subst h5; exact first_b A c xs m w hb hl
  exact first_no A c xs k m w h1 h2 h3 h4 h5

end Go.Proofs.YtaaeefndhmfceaaGreatDoor
