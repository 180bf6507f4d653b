/- Contracts: bytes cloned; the bytes of a sector, if it is whole. -/
import Derived.Test.YtlaecnggbcagcaaSec3
import Derived.Lib.SliceRun
namespace Go.Proofs.Ytlaecnggbcagcaa
open Go.RowKit MM
set_option linter.unusedVariables false
set_option linter.unusedSimpArgs false

theorem byte_info : (Try.prog.info? 5).map (fun i => (i.zero, i.size, i.bytes)) = some (some (.int .u8 0), 1, 1) := by kernel_rfl
theorem lt_of_heap {w : World} {k : Nat} {o : Obj} (h : w.heap[k]? = some o) : k < w.heap.size := (Array.getElem?_eq_some_iff.1 h).1

/-- A part of a row of bytes. -/
theorem bts_row {w : World} {g o n : Nat} {s : List UInt8} {t : TypeId} {fr : Nat × Nat} (h : w.heap[g]? = some (.cells (bc s).toArray t fr)) : Bts w (some ⟨g, o, none⟩) ((s.drop o).take n) := by
  intro j u hu
  rw [add_plain, cell_of_row w g _ _ t fr h]
  have : (bc ((s.drop o).take n)) = ((bc s).drop o).take n := by simp [bc]
  rw [this] at hu
  have hj : j < n := by
    have := (List.getElem?_eq_some_iff.1 hu).1
    simp at this
    omega
  rw [List.getElem?_take_of_lt hj, List.getElem?_drop] at hu
  simpa using hu

set_option maxHeartbeats 1000000 in
set_option maxRecDepth 100000 in
theorem clone_any (A : Option Addr) (c : Nat) (xs : List UInt8) (w : World) (hb : Bts w A xs) (hl : Lim xs.length) :
    Calls Try.prog 61 #[.slice A xs.length c] w (Fresh 5 xs w) := by
  obtain ⟨i0, hi0, hz0, hz1, hz2⟩ := info_parts byte_info
  have hnil := fun n w => Lib.run_eql_slice_nil (P := Try.prog) w 51 5 A n c 0 0 Try.underlying51
  cases A with
  | none =>
    have hx : xs = [] := hb
    subst hx
    go_enter Try.func61, Try.ntmps61
    go_wp2
    go_ret
    exact ⟨none, 0, rfl, World.ownsRow_nil _ _ _ _, (fun k h => by cases h), Below.refl _ _⟩
  | some ad =>
    go_enter Try.func61, Try.ntmps61
    go_wp2_with (first
      | (at_builtin
         refine wpList_append_at rfl (.tmp 5) (.tmp 6) _ _ rfl 5 i0 _ 1 1 Try.underlying51 hi0 hz0 hz1 hz2 rfl (some ⟨w.heap.size, 0, none⟩) 0 0 [] rfl (World.ownsRow_lit w #[] 0 (Nat.zero_le _) (by unfold maxLen; omega) rfl) _ xs.length _ rfl ((hb.alloc _).src Try.underlying51 (fun e => by cases e)) (Lim.len (by simpa using hl)) (Lim.fits (by simpa using hl)) ?_
         intro A2 c2 w2 ho2 hg2 hat2))
    go_ret
    rw [Nat.zero_add, List.nil_append] at ho2
    have hbw : Below w.heap.size w w2 := ((Below.refl w.heap.size w).alloc (Nat.le_refl _) _).grown hg2 (by simp) (fun k e => by injection e with e; simp at e; omega)
    refine ⟨A2, c2, rfl, ho2, fun k e => ?_, hbw⟩
    rcases hat2 with h | h
    · rw [h] at e; injection e with e; simp at e; omega
    · rw [h] at e; injection e with e; simp at e; omega

/-- A sector behind a pointer, cut. -/
theorem sec_cut (g lo hi : Nat) (h1 : lo ≤ hi) (h2 : hi ≤ 64) (h3 : lo < 64) (w : World) :
    (Instr.sliceAt 40 (.pointer (some ⟨g, 0, none⟩)) (some (.int .i64 (lo : Int))) (some (.int .i64 (hi : Int))) none).run Try.prog w = .ok (.slice (some ⟨g, lo, none⟩) (hi - lo) (64 - lo)) w := by
  cases hq : Try.prog.info? 5 with
  | none => have := byte_size; simp [hq] at this
  | some i =>
    have hi1 : i.size = 1 := by have := byte_size; simpa [hq] using this
    have e1 : (0 : Int) ≤ lo := by omega
    have e2 : (0 : Int) ≤ hi := by omega
    have e3 : (hi : Int) ≤ 64 := by omega
    have e4 : (lo : Int) ≤ hi := by omega
    have e5 : ¬ 64 = lo := by omega
    simp [Instr.sliceAt, Instr.sureAddr, Instr.sliceBounds, Instr.sliceBound, asIntOf, run_underlying Try.underlying40, asAddr, sizeOf, typeInfo, hq, hi1, e1, e2, e3, e4, e5, add_plain, h1, h2]

/-- The bytes whose sector it is. -/
def openL (s : List UInt8) : Option (List UInt8) :=
  match s[1]? with
  | none => none
  | some c => if 61 < c.toNat then none else if s = sealL ((s.drop 2).take c.toNat) then some ((s.drop 2).take c.toNat) else none

def OpenPost (s : List UInt8) (w : World) (e : Ending) (w' : World) : Prop :=
  Below w.heap.size w w' ∧ match openL s with
    | none => e = .returned (.tuple #[.slice none 0 0, .bool false])
    | some b => ∃ A c, e = .returned (.tuple #[.slice A b.length c, .bool true]) ∧ Bts w' A b

theorem OpenPost.no {s : List UInt8} {w w' : World} {e : Ending} (h : openL s = none) (hb : Below w.heap.size w w') (he : e = .returned (.tuple #[.slice none 0 0, .bool false])) : OpenPost s w e w' := by
  unfold OpenPost; rw [h]; exact ⟨hb, he⟩
theorem OpenPost.yes {s b : List UInt8} {w w' : World} {e : Ending} {A : Option Addr} {c n : Nat} (h : openL s = some b) (hb : Below w.heap.size w w') (hn : n = b.length) (he : e = .returned (.tuple #[.slice A n c, .bool true])) (hB : Bts w' A b) : OpenPost s w e w' := by
  unfold OpenPost; rw [h]; subst hn; exact ⟨hb, A, c, he, hB⟩

set_option maxHeartbeats 1000000 in
set_option maxRecDepth 100000 in
theorem open_any (s : List UInt8) (hs : s.length = 64) (w : World) :
    Calls Try.prog 33 #[secv s] w (OpenPost s w) := by
  have HS := Lib.hid hs
  obtain ⟨c1, hc1⟩ : ∃ c1, s[1]? = some c1 := ⟨s[1], List.getElem?_eq_getElem (by omega)⟩
  have hcell : (bc s).toArray[1]? = some (.int .u8 c1.toNat) := by simp [bc, hc1]
  have hcell' : (bc s)[1]? = some (.int .u8 c1.toNat) := by simp [bc, hc1]
  have HC := Lib.hid hc1
  have hw : ∀ n : UInt8, IntKind.i64.wrap (n.toNat : Int) = (n.toNat : Int) := fun n => by have := n.toNat_lt; simp [IntKind.wrap, IntKind.signed, IntKind.bits]; omega
  have hr := c1.toNat_lt
  obtain ⟨n, hn⟩ : ∃ n, n = c1.toNat := ⟨_, rfl⟩
  have hw1 := hw c1
  rw [← hn] at hcell hcell' hr hw1
  have HN := Lib.hid hn
  clear hs hc1 hw hn
  by_cases hl : 61 < n
  · have hd1 : decide ((61 : Int) < (n : Int)) = true := by simp; omega
    go_enter Try.func33, Try.ntmps33
    go_wp2_with fail
    go_ret2
    refine OpenPost.no (by simp [openL, HC.out]; intro h; have := HN.out; omega) ((Below.refl _ _).alloc (Nat.le_refl _) _) rfl
  · have hd1 : decide ((61 : Int) < (n : Int)) = false := by simp; omega
    have hl' : n ≤ 61 := by omega
    obtain ⟨b, hb⟩ : ∃ b, b = (s.drop 2).take n := ⟨_, rfl⟩
    have hbl : b.length = n := by rw [hb, List.length_take, List.length_drop, HS.out]; omega
    have HBL := Lib.hid hbl
    have HBE := Lib.hid hb
    have hcut : ∀ w', (Instr.sliceAt 40 (.pointer (some ⟨w.heap.size, 0, none⟩)) (some (.int .i64 2)) (some (.int .i64 (2 + (n : Int)))) none).run Try.prog w' = .ok (.slice (some ⟨w.heap.size, 2, none⟩) b.length 62) w' := by
      intro w'
      have h := sec_cut w.heap.size 2 (2 + n) (by omega) (by omega) (by omega) w'
      rw [show 2 + n - 2 = b.length by omega, show 64 - 2 = 62 from rfl, show ((2 + n : Nat) : Int) = 2 + (n : Int) by omega] at h
      exact h
    have hop : openL s = if s = sealL b then some b else none := by
      unfold openL
      rw [HC.out]
      simp only [← HN.out, if_neg hl, ← hb]
    have HOP := Lib.hid hop
    clear hb hbl hop
    have heq := sec_ne s (sealL b) HS.out (sealL_len b (by rw [HBL.out]; exact hl'))
    have hbt : Bts (w.alloc (.cells (bc s).toArray 40)) (some ⟨w.heap.size, 2, none⟩) b := by
      rw [HBE.out]
      exact bts_row (heap_alloc_new _ _)
    have HBT := Lib.hid hbt
    clear hbt
    have hw2 : wrap64 (2 + (n : Int)) = 2 + (n : Int) := by unfold wrap64; omega
    go_enter Try.func33, Try.ntmps33
    go_wp2_with fail
    refine (clone_any _ 62 b _ HBT.out (by unfold Lim; rw [HBL.out]; omega)).mono ?_
    rintro e w1 ⟨A1, c1', rfl, ho1, hn1, hb1⟩
    have e1 := (hb1.block w.heap.size (by simp)).trans (heap_alloc_new _ _)
    have HB1 := Lib.hid (show Below w.heap.size w w1 from ((Below.refl _ _).alloc (Nat.le_refl _) _).trans (hb1.mono (by simp)))
    have HE1 := Lib.hid e1
    have HT1 := Lib.hid (Bts.own ho1)
    clear ho1 hn1 hb1 e1
    go_wp2_with fail
    refine (seal_any A1 c1' b w1 HT1.out).mono ?_
    rintro e w2 ⟨rfl, hb2⟩
    rw [show sealE b = _ from if_pos (by rw [HBL.out]; exact hl')]
    have HB2 := Lib.hid (HB1.out.trans (hb2.mono HB1.out.size))
    have HE2 := Lib.hid ((hb2.block _ (lt_of_heap HE1.out)).trans HE1.out)
    have HT2 := Lib.hid (HT1.out.below hb2)
    have HL2 := Lib.hid (sealL_len b (by rw [HBL.out]; exact hl'))
    have HE3 := Lib.hid (fun o => (heap_alloc_old w2 o (lt_of_heap HE2.out)).trans HE2.out)
    clear hb2
    go_wp2_with (first
      | (refine wpList_alloc_row rfl _ rfl (secv zs) (bc zs).toArray sec_zero rfl ?_)
      | (refine wpList_store_row rfl _ _ _ rfl _ (bc (sealL b)).toArray rfl rfl 40 (bc zs).toArray (heap_alloc_new _ _) (sec_info' _ HL2.out) (by rw [bc_size, bc_size, HL2.out]; rfl) (bc_all _) ?_
         rw [World.setRow_alloc_new])
      | (refine wpList_load_row rfl _ _ rfl w.heap.size rfl 40 _ (0, 0) _ (HE3.out _) Try.underlying40 rfl (sec_info' _ HS.out) ?_)
      | (refine wpList_load_row rfl _ _ rfl w2.heap.size rfl 40 _ (0, 0) _ (heap_alloc_new _ _) Try.underlying40 rfl (sec_info' _ HL2.out) ?_))
    · go_ret2
      exact OpenPost.no (by rename_i hx; rw [HOP.out, if_neg (by simpa using hx)]) (HB2.out.alloc HB2.out.size _) rfl
    · go_ret2
      exact OpenPost.yes (by rename_i hx; rw [HOP.out, if_pos (by simpa using hx)]) (HB2.out.alloc HB2.out.size _) rfl rfl (HT2.out.alloc _)

end Go.Proofs.Ytlaecnggbcagcaa
