/- Contracts of the document's own answers for layer 2: the floating number that bytes begin with; whatever part they begin with. -/
import Derived.Test.YtmfjacehompmmaaFirst2
namespace Go.Proofs.Ytmfjacehompmmaa
open Go.RowKit MM

/-- How far the place of a floating number was read. -/
structure FInv (xs : List UInt8) (w : World) (i : Nat) (k : Nat) (wr : World) : Prop where
  i8 : i ≤ 8
  kk : k = PK.placeN (xs.take i)
  r0 : wr.heap[w.heap.size]? = some (.cells #[.int .u8 0, .int .u64 0, .int .i64 0, .int .u64 0, .string ⟨#[]⟩, .bool false] 60 (0, 0))
  r1 : wr.heap[w.heap.size + 1]? = some (.cells #[.int .u8 102, .int .u64 0, .int .i64 0, .int .u64 (k : Nat), .string ⟨#[]⟩, .bool false] 60 (0, 0))
  bel : Below w.heap.size w wr

theorem FInv.step {xs : List UInt8} {w wr : World} {i k k' : Nat} (hv : FInv xs w i k wr) (h8 : i < 8) (hk : PK.placeN (xs.take (i + 1)) = k') : FInv xs w (i + 1) k' (wr.setCell ⟨w.heap.size + 1, 3, none⟩ (.int .u64 k')).drew := by
  refine ⟨h8, hk.symm, ?_, ?_, ?_⟩
  · exact (heap_setCell_other wr ⟨w.heap.size + 1, 3, none⟩ w.heap.size _ (by simp)).trans hv.r0
  · exact (heap_setCell_same wr (w.heap.size + 1) 3 _ _ (.int .u64 k') hv.r1).trans rfl
  · exact below_drew (hv.bel.trans ((Kp.setCell (S := fun k => k = w.heap.size + 1) (p := ⟨w.heap.size + 1, 3, none⟩) (Kp.refl _ wr) (.inl rfl) _).below hv.bel.size (fun j hj x => by omega)))

theorem two_alloc (w : World) (cs ds : Array Value) (t u : TypeId) : ((w.alloc (.cells cs t)).alloc (.cells ds u)).heap[w.heap.size]? = some (.cells cs t (0, 0)) ∧ ((w.alloc (.cells cs t)).alloc (.cells ds u)).heap[w.heap.size + 1]? = some (.cells ds u (0, 0)) :=
  two_new (S := fun _ => False) (Kp.refl _ _) (fun x => x) (fun x => x)

set_option maxHeartbeats 1000000 in
set_option maxRecDepth 100000 in
theorem first_f (A : Option Addr) (c : Nat) (xs : List UInt8) (m : Int) (w : World) (hb : Bts w A xs) (hl : Lim xs.length) :
    Calls Try.prog 43 #[.slice A xs.length c, .int .u8 102, .int .i64 m] w (FPost (partR 102 m xs) w) := by
  have hP : partR 102 m xs = Res.map (fun x => { PK.zeroPt 102 with f := x }) (floR xs) := rfl
  rw [hP]
  clear hP
  have hn32 : (xs.length : Int) ≤ 4294967296 := by unfold Lim at hl; omega
  by_cases h8 : xs.length < 8
  · rw [floR_short h8]
    have h8' : (xs.length : Int) < 8 := by omega
    clear hb
    generalize xs.length = n at *
    go_enter Try.func43, Try.ntmps43
    go_wp2_with fail
    refine bodyPost_ret (v := .tuple #[.agg #[.int .u8 102, .int .u64 0, .int .i64 0, .int .u64 0, .string ⟨#[]⟩, .bool false], .int .i64 n, .int .i64 2]) (by simp [results, Try.results43, go_sem]) rfl ?_
    exact FPost.mis ⟨102, 0, 0, 0, ⟨#[]⟩, false⟩ rfl rfl rfl rfl (below2 w _ _)
  · have h8' : ¬ (xs.length : Int) < 8 := by omega
    obtain ⟨g, off, rfl, hgl, hcl⟩ := bts_at hb (i := 0) (by omega)
    have Hcl := Lib.hid hcl
    clear hcl hb
    go_enter Try.func43, Try.ntmps43
    go_wp2_with fail
    go_loopw [11] (fun t wr => ∃ i k : Nat, t = .int .i64 i ∧ FInv xs w i k wr) (fun t _ => 8 - (intOf t).toNat)
    case atStart => exact ⟨0, 0, rfl, by omega, rfl, (two_alloc w _ _ _ _).1, (two_alloc w _ _ _ _).2, below2 w _ _⟩
    case round =>
      obtain ⟨i, k, rfl, hv⟩ := hrel
      have d := fun o => cell_of_row wr (w.heap.size + 1) o _ _ (0, 0) hv.r1
      have f1 := fun o => frozen_of_row wr (w.heap.size + 1) o _ _ hv.r1
      have i8 := hv.i8
      by_cases hlt : i < 8
      · have hi : i < xs.length := by omega
        have hcb := (hv.bel.cell (p := ⟨g, off + i, none⟩) hgl).trans (Hcl.out i hi)
        have hi1 : (i : Int) < (xs.length : Int) := by omega
        have hs : PK.placeN (xs.take (i + 1)) = k * 256 + (xs[i]).toNat := by rw [List.take_succ_eq_append_getElem hi, PK.placeN_snoc, ← hv.kk]
        have hk : k < 256 ^ i := by
          have := PK.placeN_lt (xs.take i)
          rw [← hv.kk, List.length_take, Nat.min_eq_left (by omega)] at this
          exact this
        have hxl := (xs[i]).toNat_lt
        generalize (xs[i]).toNat = y at *
        have hbits : IntKind.u64.wrap (IntKind.u64.wrap ((k : Int) * 256) + (y : Int)) = ((k * 256 + y : Nat) : Int) := by
          have h2 : 256 ^ i ≤ 256 ^ 7 := Nat.pow_le_pow_right (by omega) (by omega)
          have h3 : (256 : Nat) ^ 7 = 72057594037927936 := by decide
          rw [IntKind.wrap_u64, IntKind.wrap_u64]
          omega
        have Hb := Lib.hid hbits
        have Hs := Lib.hid hs
        have Hv := Lib.hid hv
        have d3 : wr.cell? ⟨w.heap.size + 1, 3, none⟩ = some (.int .u64 k) := (d 3).trans rfl
        have f3 := f1 3
        clear hbits hs hk hv d f1 hl
        go_wp2_with fail
        go_region
        all_goals
          go_wp2_with fail
          rw [Hb.out]
          refine ⟨⟨i + 1, _, by go_num, Hv.out.step hlt Hs.out⟩, ?_⟩
          simp [intOf]
          omega
      · have hi' : i = 8 := by omega
        subst hi'
        have hk8 := hv.kk
        have hw : MF.W64 k := by
          have := PK.placeN_lt (xs.take 8)
          rw [← hk8, List.length_take, Nat.min_eq_left (by omega)] at this
          exact Nat.lt_of_lt_of_le this (by decide)
        have e0 := fun o => cell_of_row wr w.heap.size o _ _ (0, 0) hv.r0
        have f0 := fun o => frozen_of_row wr w.heap.size o _ _ hv.r0
        have d0 : wr.cell? ⟨w.heap.size + 1, 0, none⟩ = some (.int .u8 102) := (d 0).trans rfl
        have d1 : wr.cell? ⟨w.heap.size + 1, 1, none⟩ = some (.int .u64 0) := (d 1).trans rfl
        have d2 : wr.cell? ⟨w.heap.size + 1, 2, none⟩ = some (.int .i64 0) := (d 2).trans rfl
        have d3 : wr.cell? ⟨w.heap.size + 1, 3, none⟩ = some (.int .u64 k) := (d 3).trans rfl
        have d4 : wr.cell? ⟨w.heap.size + 1, 4, none⟩ = some (.string ⟨#[]⟩) := (d 4).trans rfl
        have d5 : wr.cell? ⟨w.heap.size + 1, 5, none⟩ = some (.bool false) := (d 5).trans rfl
        have Hw := Lib.hid hw
        have Hv := Lib.hid hv
        have Hk8 := Lib.hid hk8
        cases hp : MF.proper (MF.bk k) with
        | true =>
          have hF := floR_ok (l := xs) h8 (by rw [← hk8]; exact hp)
          rw [← hk8] at hF
          have HF := Lib.hid hF
          clear hF hk8 hw hv d hl
          go_wp2_with (go_at_call 65; refine (rnumber_any k _ Hw.out).mono ?_; rintro e1 w1 ⟨rfl, rfl⟩)
          refine bodyPost_ret (v := .tuple #[.agg #[.int .u8 102, .int .u64 0, .int .i64 0, .int .u64 k, .string ⟨#[]⟩, .bool false], .int .i64 8, .int .i64 0]) (by simp [results, Try.results43, go_sem, e0]) rfl ?_
          rw [HF.out]
          refine FPost.good rfl (by show PK.Rp.cells ⟨102, 0, 0, MF.key (MF.bk k), ⟨#[]⟩, false⟩ = _; rw [MF.key_bk Hw.out hp]; rfl) rfl (Hv.out.bel.trans (Kp.below (S := fun k => k = w.heap.size) ?_ Hv.out.bel.size (fun j hj x => by omega)))
          iterate 6 refine Kp.setCell ?_ (Or.inl (by exact rfl)) _
          exact Kp.refl _ _
        | false =>
          have HF := Lib.hid (floR_form (l := xs) h8 (by rw [← hk8]; exact hp))
          clear hk8 hw hv d hl
          go_wp2_with (go_at_call 65; refine (rnumber_any k _ Hw.out).mono ?_; rintro e1 w1 ⟨rfl, rfl⟩)
          refine bodyPost_ret (v := .tuple #[.agg #[.int .u8 102, .int .u64 0, .int .i64 0, .int .u64 k, .string ⟨#[]⟩, .bool false], .int .i64 8, .int .i64 4]) (by simp [results, Try.results43, go_sem, e0]) rfl ?_
          rw [HF.out]
          refine FPost.mis ⟨102, 0, 0, k, ⟨#[]⟩, false⟩ rfl rfl rfl rfl (Hv.out.bel.trans (Kp.below (S := fun k => k = w.heap.size) ?_ Hv.out.bel.size (fun j hj x => by omega)))
          iterate 6 refine Kp.setCell ?_ (Or.inl (by exact rfl)) _
          exact Kp.refl _ _

theorem first_any (A : Option Addr) (c : Nat) (xs : List UInt8) (k : Nat) (m : Int) (w : World) (hb : Bts w A xs) (hl : Lim xs.length) (hcap : xs.length ≤ c) (hm : (Lit.int .i64 m).wf = true) :
    Calls Try.prog 43 #[.slice A xs.length c, .int .u8 k, .int .i64 m] w (FPost (partR k m xs) w) := by
  by_cases h1 : k = 117
  · subst h1; exact first_u A c xs m w hb hl
  by_cases h2 : k = 105
  · subst h2; exact first_i A c xs m w hb hl
  by_cases h3 : k = 102
  · subst h3; exact first_f A c xs m w hb hl
  by_cases h4 : k = 115
  · subst h4; exact first_s A c xs m w hb hl hcap hm
  by_cases h5 : k = 98
  · subst h5; exact first_b A c xs m w hb hl
  exact first_no A c xs k m w h1 h2 h3 h4 h5

end Go.Proofs.Ytmfjacehompmmaa
