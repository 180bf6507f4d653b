/- Contracts of the document's own answers for layer 18: bytes as a sector. -/
import Derived.Test.YtlaecnggbcagcaaSec4
namespace Go.Proofs.Ytlaecnggbcagcaa
open Go.RowKit MM
set_option linter.unusedVariables false
set_option linter.unusedSimpArgs false

theorem bc_set (l : List UInt8) (i : Nat) (c : UInt8) : (bc l).toArray.setIfInBounds i (.int .u8 c.toNat) = (bc (l.set i c)).toArray := by
  simp [bc, List.map_set]
theorem row_set {w : World} {g i : Nat} {l : List UInt8} {t : TypeId} (c : UInt8) (h : w.heap[g]? = some (.cells (bc l).toArray t (0, 0))) :
    (w.setCell ⟨g, i, none⟩ (.int .u8 c.toNat)).heap[g]? = some (.cells (bc (l.set i c)).toArray t (0, 0)) := by
  rw [heap_setCell_same w g i _ t _ h, bc_set]

/-- The document's row, i bytes laid. -/
def rowL (b : List UInt8) (i : Nat) : List UInt8 := 1 :: UInt8.ofNat b.length :: (b.take i ++ List.replicate (62 - i) 0)
theorem rowL_len (b : List UInt8) (i : Nat) (h : i ≤ b.length) (hb : b.length ≤ 61) : (rowL b i).length = 64 := by simp [rowL]; omega
theorem rowL_zero (b : List UInt8) : (zs.set 0 1).set 1 (UInt8.ofNat b.length) = rowL b 0 := rfl
theorem rowL_step (b : List UInt8) (i : Nat) (h : i < b.length) (hb : b.length ≤ 61) : (rowL b i).set (2 + i) b[i] = rowL b (i + 1) := by
  unfold rowL
  rw [show 2 + i = i + 1 + 1 by omega, List.set_cons_succ, List.set_cons_succ, List.set_append_right _ _ (by rw [List.length_take]; omega), List.length_take, Nat.min_eq_left (by omega), Nat.sub_self,
    show 62 - i = (62 - (i + 1)) + 1 by omega, List.replicate_succ, List.set_cons_zero, List.take_succ_eq_append_getElem h, List.append_assoc]
  rfl
theorem rowL_end (b : List UInt8) (hb : b.length ≤ 61) : (rowL b b.length).set 63 1 = sealL b := by
  unfold rowL sealL
  rw [List.take_length, show (63 : Nat) = 61 + 1 + 1 by omega, List.set_cons_succ, List.set_cons_succ, List.set_append_right _ _ hb]
  congr 3
  rw [show 62 - b.length = (61 - b.length) + 1 by omega, List.replicate_succ', List.set_append_right _ _ (by simp)]
  simp

theorem bts_at {w : World} {A : Option Addr} {xs : List UInt8} (hB : Bts w A xs) {i : Nat} (hlt : i < xs.length) :
    ∃ b off, A = some ⟨b, off, none⟩ ∧ b < w.heap.size ∧ ∀ j (hj : j < xs.length), w.cell? ⟨b, off + j, none⟩ = some (.int .u8 (xs[j]).toNat) := by
  cases A with
  | none =>
    have hB : xs = [] := hB
    subst hB
    simp at hlt
  | some ad =>
    obtain ⟨b, off, spot⟩ := ad
    have h0 := hB 0 _ (bc_get xs 0 (by omega))
    have hspot : spot = none := by simpa [Addr.add] using World.cell?_spot h0
    subst hspot
    refine ⟨b, off, rfl, ?_, fun j hj => ?_⟩
    · have := World.block_lt_of_cell? w _ h0
      rw [MM.add_plain] at this
      exact this
    · have h1 := hB j _ (bc_get xs j hj)
      rw [MM.add_plain] at h1
      exact h1
theorem rowL_first (b : List UInt8) (h : b.length ≤ 61) : ((bc zs).set 0 (.int .u8 1)).set 1 (.int .u8 ((b.length : Int) % 256)) = bc (rowL b 0) := by
  rw [show (b.length : Int) % 256 = ((UInt8.ofNat b.length).toNat : Int) by rw [u8_of_len (by omega)]; omega]
  unfold rowL
  rw [List.take_zero]
  generalize UInt8.ofNat b.length = c
  rfl
theorem cell_some {w : World} {g i : Nat} {l : List UInt8} {t : TypeId} {fr : Nat × Nat} (h : w.heap[g]? = some (.cells (bc l).toArray t fr)) (hi : i < l.length) : ∃ v, w.cell? ⟨g, i, none⟩ = some v := by
  rw [cell_of_row w g i _ t fr h]
  exact ⟨_, Array.getElem?_eq_getElem (by rw [bc_size]; exact hi)⟩

set_option maxHeartbeats 1000000 in
set_option maxRecDepth 100000 in
theorem rseal_any (A : Option Addr) (c : Nat) (b : List UInt8) (w : World) (hb : Bts w A b) (hm : b.length ≤ 61) :
    Calls Try.prog 34 #[.slice A b.length c] w fun e w' => e = .returned (secv (sealL b)) ∧ Below w.heap.size w w' := by
  have HB := Lib.hid hb
  clear hb
  have hw : IntKind.u8.wrap (b.length : Int) = ((UInt8.ofNat b.length).toNat : Int) := by rw [u8_of_len (by omega)]; simp [IntKind.wrap, IntKind.signed, IntKind.bits]; omega
  go_enter Try.func34, Try.ntmps34
  go_wp2_with (first
    | (refine wpList_alloc_row rfl _ rfl (secv zs) (bc zs).toArray sec_zero rfl ?_)
    | (refine wpList_build_row rfl _ _ rfl (bc zs).toArray (by kernel_rfl) ?_)
    | (refine wpList_store_row rfl _ _ _ rfl _ (bc zs).toArray rfl rfl 40 (bc zs).toArray (heap_alloc_new _ _) sec_info (by rfl) (bc_all _) ?_
       rw [World.setRow_alloc_new]))
  generalize hw1 : World.alloc (World.alloc _ _) _ = ws
  have HW := Lib.hid (show ws.heap[w.heap.size + 1]? = some (.cells (bc (rowL b 0)).toArray 40 (0, 0)) by rw [← hw1, ← rowL_first b hm]; exact heap_alloc2_new _ _ _)
  have HZ := Lib.hid (show ws.heap[w.heap.size]? = some (.cells (bc zs).toArray 40 (0, 0)) by rw [← hw1]; exact heap_alloc2_old _ _ _)
  have HQ := Lib.hid (show Below w.heap.size w ws by rw [← hw1]; exact below2 _ _ _)
  clear hw1
  go_loopw [4] (fun t wr => ∃ i : Nat, t = .int .i64 i ∧ i ≤ b.length ∧ wr.heap[w.heap.size + 1]? = some (.cells (bc (rowL b i)).toArray 40 (0, 0)) ∧ wr.heap[w.heap.size]? = some (.cells (bc zs).toArray 40 (0, 0)) ∧ Below w.heap.size w wr) (fun t _ => b.length - (intOf t).toNat)
  case atStart => exact ⟨0, rfl, by omega, HW.out, HZ.out, HQ.out⟩
  case round =>
    obtain ⟨i, rfl, hi, h1, h2, h3⟩ := hrel
    clear HW HZ HQ
    have H1 := Lib.hid h1
    have H2 := Lib.hid h2
    have H3 := Lib.hid h3
    clear h1 h2 h3
    by_cases hlt : i < b.length
    · obtain ⟨g, off, rfl, hg, hc⟩ := bts_at (HB.out.below H3.out) hlt
      have hlt' : (i : Int) < (b.length : Int) := by omega
      have hrd := hc i hlt
      obtain ⟨v, hwr⟩ := cell_some (i := 2 + i) H1.out (by rw [rowL_len b i hi hm]; omega)
      have hfr := frozen_of_row wr (w.heap.size + 1) (2 + i) _ _ H1.out
      go_wp2
      go_roundw
      case rel =>
        refine ⟨i + 1, by go_num, by omega, ?_, ?_, ?_⟩
        · rw [← rowL_step b i hlt hm]
          exact row_set _ H1.out
        · rw [heap_setCell_other _ _ _ _ (by simp)]
          exact H2.out
        · exact H3.out.setCell (by simp) _
      case measure => simp [intOf]; omega
    · obtain rfl : i = b.length := by omega
      obtain ⟨v, hwr⟩ := cell_some (i := 63) H1.out (by rw [rowL_len b _ hi hm]; omega)
      have hfr := frozen_of_row wr (w.heap.size + 1) 63 _ _ H1.out
      have HR := Lib.hid (show (wr.setCell ⟨w.heap.size + 1, 63, none⟩ (.int .u8 1)).heap[w.heap.size + 1]? = some (.cells (bc (sealL b)).toArray 40 (0, 0)) by rw [← rowL_end b hm]; exact row_set (1 : UInt8) H1.out)
      have HZ := Lib.hid ((heap_setCell_other wr ⟨w.heap.size + 1, 63, none⟩ w.heap.size (.int .u8 1) (by simp)).trans H2.out)
      go_wp2_with (first
        | (refine wpList_load_row rfl _ _ rfl (w.heap.size + 1) rfl 40 _ (0, 0) _ HR.out Try.underlying40 rfl (sec_info' _ (sealL_len b hm)) ?_)
        | (refine wpList_store_row rfl _ _ _ rfl w.heap.size (bc (sealL b)).toArray rfl rfl 40 _ HZ.out (sec_info' _ (sealL_len b hm)) (by rw [bc_size, bc_size, sealL_len b hm]; rfl) (bc_all _) ?_))
      refine bodyPost_cell rfl w.heap.size 40 _ _ rfl (setRow_heap _ _ _ _ _ _ HZ.out) Try.underlying40 rfl (sec_info' _ (sealL_len b hm)) rfl ⟨rfl, ?_⟩
      exact setRow_below (H3.out.setCell (by simp) _) (Nat.le_refl _) _

end Go.Proofs.Ytlaecnggbcagcaa
