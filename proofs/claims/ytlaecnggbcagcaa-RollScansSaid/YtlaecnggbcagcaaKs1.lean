/- Contract of moietylaw17.sector: a sector that is filled. -/
import Derived.Test.YtlaecnggbcagcaaDk10
import Derived.Test.YtlaecnggbcagcaaSec5
namespace Go.Proofs.Ytlaecnggbcagcaa
open Go.RowKit MM
set_option linter.unusedVariables false
set_option linter.unusedSimpArgs false

/-- A sector that is filled. -/
def filL (x : UInt8) : List UInt8 := (List.range 64).map fun i => x + UInt8.ofNat i
def filP (x : UInt8) (n : Nat) : List UInt8 := ((List.range n).map fun i => x + UInt8.ofNat i) ++ List.replicate (64 - n) 0
theorem filL_len (x : UInt8) : (filL x).length = 64 := by simp [filL]
theorem filP_len (x : UInt8) (n : Nat) (h : n ≤ 64) : (filP x n).length = 64 := by simp [filP]; omega
theorem filP_step (x : UInt8) (n : Nat) (h : n < 64) : (filP x n).set n (x + UInt8.ofNat n) = filP x (n + 1) := by
  unfold filP
  rw [List.set_append_right _ _ (by simp), List.length_map, List.length_range, Nat.sub_self, show 64 - n = (64 - (n + 1)) + 1 by omega, List.replicate_succ, List.set_cons_zero, List.range_succ, List.map_append, List.append_assoc]
  rfl
theorem filP_zero (x : UInt8) : filP x 0 = zs := rfl
theorem filP_end (x : UInt8) : filP x 64 = filL x := by simp [filP, filL]
theorem u8_sum (x : UInt8) (i : Nat) (h : i < 64) : ((x.toNat : Int) + (i : Int)) % 256 = ((x + UInt8.ofNat i).toNat : Int) := by
  rw [UInt8.toNat_add, UInt8.toNat_ofNat']
  omega
theorem u8_sum' (x : UInt8) (i : Nat) (h : i < 64) : ((x.toNat : Int) + (i : Int) % 256) % 256 = ((x + UInt8.ofNat i).toNat : Int) := by
  rw [UInt8.toNat_add, UInt8.toNat_ofNat']
  omega

set_option maxHeartbeats 1000000 in
set_option maxRecDepth 100000 in
theorem sector_any (x : UInt8) (w : World) :
    Calls Try.prog 23 #[.int .u8 x.toNat] w fun e w' => e = .returned (secv (filL x)) ∧ Below w.heap.size w w' := by
  go_enter Try.func23, Try.ntmps23
  go_wp2_with (first
    | (refine wpList_alloc_row rfl _ rfl (secv zs) (bc zs).toArray sec_zero rfl ?_))
  generalize hw1 : World.alloc (World.alloc _ _) _ = ws
  have HW := Lib.hid (show ws.heap[w.heap.size + 1]? = some (.cells (bc (filP x 0)).toArray 40 (0, 0)) by rw [← hw1, filP_zero]; exact heap_alloc2_new _ _ _)
  have HZ := Lib.hid (show ws.heap[w.heap.size]? = some (.cells (bc zs).toArray 40 (0, 0)) by rw [← hw1]; exact heap_alloc2_old _ _ _)
  have HQ := Lib.hid (show Below w.heap.size w ws by rw [← hw1]; exact below2 _ _ _)
  clear hw1
  go_loopw [5] (fun t wr => ∃ i : Nat, t = .int .i64 i ∧ i ≤ 64 ∧ wr.heap[w.heap.size + 1]? = some (.cells (bc (filP x i)).toArray 40 (0, 0)) ∧ wr.heap[w.heap.size]? = some (.cells (bc zs).toArray 40 (0, 0)) ∧ Below w.heap.size w wr) (fun t _ => 64 - (intOf t).toNat)
  case atStart => exact ⟨0, rfl, by omega, HW.out, HZ.out, HQ.out⟩
  case round =>
    obtain ⟨i, rfl, hi, h1, h2, h3⟩ := hrel
    clear HW HZ HQ
    have H1 := Lib.hid h1
    have H2 := Lib.hid h2
    have H3 := Lib.hid h3
    clear h1 h2 h3
    by_cases hlt : i < 64
    · have hlt' : (i : Int) < 64 := by omega
      have hwx : IntKind.u8.wrap (i : Int) = (i : Int) := by simp [IntKind.wrap, IntKind.signed, IntKind.bits]; omega
      have hwy : IntKind.u8.wrap ((x.toNat : Int) + (i : Int)) = ((x + UInt8.ofNat i).toNat : Int) := by rw [← u8_sum x i hlt]; simp [IntKind.wrap, IntKind.signed, IntKind.bits]
      obtain ⟨v, hwr⟩ := cell_some (i := i) H1.out (by rw [filP_len x i hi]; omega)
      have hfr := frozen_of_row wr (w.heap.size + 1) i _ _ H1.out
      go_wp2
      go_roundw
      case rel =>
        refine ⟨i + 1, by go_num, by omega, ?_, ?_, ?_⟩
        · rw [← filP_step x i hlt, u8_sum x i hlt]
          exact row_set _ H1.out
        · rw [heap_setCell_other _ _ _ _ (by simp)]
          exact H2.out
        · exact H3.out.setCell (by simp) _
      case measure => simp [intOf]; omega
    · obtain rfl : i = 64 := by omega
      have HR := Lib.hid (show wr.heap[w.heap.size + 1]? = some (.cells (bc (filL x)).toArray 40 (0, 0)) by rw [← filP_end]; exact H1.out)
      go_wp2_with (first
        | (refine wpList_load_row rfl _ _ rfl (w.heap.size + 1) rfl 40 _ (0, 0) _ HR.out Try.underlying40 rfl (sec_info' _ (filL_len x)) ?_)
        | (refine wpList_store_row rfl _ _ _ rfl w.heap.size (bc (filL x)).toArray rfl rfl 40 _ H2.out (sec_info' _ (filL_len x)) (by rw [bc_size, bc_size, filL_len x]; rfl) (bc_all _) ?_))
      refine bodyPost_cell rfl w.heap.size 40 _ _ rfl (setRow_heap _ _ _ _ _ _ H2.out) Try.underlying40 rfl (sec_info' _ (filL_len x)) rfl ⟨rfl, ?_⟩
      exact setRow_below H3.out (Nat.le_refl _) _

end Go.Proofs.Ytlaecnggbcagcaa
