/- Contract: bytes as a sector. -/
import Derived.Test.YtlaecnggbcagcaaSec2
import Derived.Laws.ResultCell
import Derived.Lib.Hide
namespace Go.Proofs.Ytlaecnggbcagcaa
open Go.RowKit MM
set_option linter.unusedVariables false
set_option linter.unusedSimpArgs false

/-- The sector ahead of its bytes; with them. -/
def hdL (c : UInt8) : List UInt8 := 1 :: c :: (List.replicate 61 0 ++ [1])
def sealL (b : List UInt8) : List UInt8 := 1 :: (UInt8.ofNat b.length) :: (b ++ (List.replicate (61 - b.length) 0 ++ [1]))
theorem hdL_len (c : UInt8) : (hdL c).length = 64 := rfl
theorem sealL_len (b : List UInt8) (h : b.length ≤ 61) : (sealL b).length = 64 := by simp [sealL]; omega
theorem splice_seal (b : List UInt8) (h : b.length ≤ 61) : splice (hdL (UInt8.ofNat b.length)) 2 b = sealL b := by
  unfold splice hdL sealL
  rw [show ∀ (c : UInt8) (l : List UInt8), List.take 2 (1 :: c :: l) = [1, c] from fun _ _ => rfl]
  rw [show 2 + b.length = (b.length + 1) + 1 by omega, List.drop_succ_cons, List.drop_succ_cons, List.drop_append_of_le_length (by simpa using h), List.drop_replicate]
  rfl
theorem splice_bc (l : List UInt8) (o : Nat) (b : List UInt8) : splice (bc l) o (bc b) = bc (splice l o b) := by
  simp [splice, bc]
theorem u8_of_len {n : Nat} (h : n ≤ 255) : ((UInt8.ofNat n).toNat : Int) = (n : Int) := by
  simp [UInt8.toNat_ofNat']
  omega
theorem built_hd (c : UInt8) : Try.prog.built 40 [(0, .int .u8 1), (1, .int .u8 c.toNat), (63, .int .u8 1)] = some (bc (hdL c)).toArray := by kernel_rfl

theorem bodyPost_cell_tmp {P : Program} {fn : Func} {R : Ending → World → Prop} {p u : Tmp} {ty : TypeId} (h : fn.results = #[.cell p ty, .tmp u]) {a : Act} {w : World} (g : Nat) (t : TypeId) (cs : Array Value) (d : TypeDesc)
    (hp : a.tmps.getD p undef = .pointer (some ⟨g, 0, none⟩)) (hg : w.heap[g]? = some (.cells cs t (0, 0)))
    (hu : P.underlying ty = some d) (hd : (match d with | .struct _ | .array _ _ => true | _ => false) = true) (hi : (P.info? ty).map (·.size) = some cs.size)
    (hf : a.defers = []) (hR : R (.returned (.tuple #[.agg cs, a.tmps.getD u undef])) w) : bodyPost P fn R .ret a w := by
  refine ⟨hf, _, ?_, hR⟩
  rw [results_cell_tmp h, hp]
  show ((loadVar ty ⟨g, 0, none⟩).run P w).andThen _ = _
  rw [run_loadVar_row w g t ty cs (0, 0) d hg hu hd hi]
  rfl
theorem bodyPost_cell {P : Program} {fn : Func} {R : Ending → World → Prop} {p : Tmp} {ty : TypeId} (h : fn.results = #[.cell p ty]) {a : Act} {w : World} (g : Nat) (t : TypeId) (cs : Array Value) (d : TypeDesc)
    (hp : a.tmps.getD p undef = .pointer (some ⟨g, 0, none⟩)) (hg : w.heap[g]? = some (.cells cs t (0, 0)))
    (hu : P.underlying ty = some d) (hd : (match d with | .struct _ | .array _ _ => true | _ => false) = true) (hi : (P.info? ty).map (·.size) = some cs.size)
    (hf : a.defers = []) (hR : R (.returned (.agg cs)) w) : bodyPost P fn R .ret a w :=
  ⟨hf, _, results_cell_row h a.tmps w g t cs (0, 0) d hp hg hu hd hi, hR⟩

theorem setRow_kp {S : Nat → Prop} {w0 w : World} (h : Kp S w0 w) {g : Nat} (hg : S g ∨ w0.heap.size ≤ g) (cs : Array Value) : Kp S w0 (w.setRow g cs) :=
  ⟨h.os, h.tape, h.output, by simpa using h.size, fun i hi hn => (setRow_other w g i cs (by rintro rfl; rcases hg with x | x; exact hn x; omega)).trans (h.block i hi hn)⟩
theorem setRow_below {B : Nat} {w0 w : World} (h : Below B w0 w) {g : Nat} (hg : B ≤ g) (cs : Array Value) : Below B w0 (w.setRow g cs) :=
  ⟨h.os, h.tape, h.output, by simpa using h.size, fun i hi => (setRow_other w g i cs (by omega)).trans (h.block i hi)⟩

theorem bts_pos {w : World} {A : Option Addr} {b : List UInt8} (h : Bts w A b) (hb : 0 < (bc b).length) : ∃ ad, A = some ad ∧ ∀ j v, (bc b)[j]? = some v → w.cell? (ad.add j) = some v := by
  cases A with
  | none => obtain rfl : b = [] := h; exact absurd hb (by decide)
  | some ad => exact ⟨ad, rfl, h⟩

/-- What comes out: a sector, and an error's number. -/
def sealE (b : List UInt8) : Value := if b.length ≤ 61 then .tuple #[secv (sealL b), .int .i64 0] else .tuple #[secv zs, .int .i64 3]

set_option maxHeartbeats 1000000 in
set_option maxRecDepth 100000 in
theorem seal_any (A : Option Addr) (c : Nat) (b : List UInt8) (w : World) (hb : Bts w A b) :
    Calls Try.prog 31 #[.slice A b.length c] w fun e w' => e = .returned (sealE b) ∧ Below w.heap.size w w' := by
  have HB := Lib.hid hb
  clear hb
  by_cases hl : b.length ≤ 61
  · have h1 : ¬ (61 : Int) < (b.length : Int) := by omega
    have hd1 : decide ((61 : Int) < (b.length : Int)) = false := by simp; omega
    have hw : IntKind.u8.wrap (b.length : Int) = (b.length : Int) := by simp [IntKind.wrap, IntKind.signed, IntKind.bits]; omega
    have hbt : Try.prog.built 40 [(0, .int .u8 1), (1, .int .u8 b.length), (63, .int .u8 1)] = some (bc (hdL (UInt8.ofNat b.length))).toArray := by
      rw [← u8_of_len (n := b.length) (by omega)]
      exact built_hd _
    have HT := Lib.hid hbt
    clear hbt
    go_enter Try.func31, Try.ntmps31
    go_wp2_with (first
      | (refine wpList_alloc_row rfl _ rfl (secv zs) (bc zs).toArray sec_zero rfl ?_)
      | (refine wpList_build_row rfl _ _ rfl (bc (hdL (UInt8.ofNat b.length))).toArray (Eq.trans (b := Try.prog.built 40 [(0, .int .u8 1), (1, .int .u8 b.length), (63, .int .u8 1)]) (by kernel_rfl) HT.out) ?_)
      | (refine wpList_store_row rfl _ _ _ rfl _ (bc (hdL (UInt8.ofNat b.length))).toArray rfl rfl 40 (bc zs).toArray (heap_alloc_new _ _) (sec_info' _ (hdL_len _)) (by rw [bc_size, bc_size]; rfl) (bc_all _) ?_
         rw [World.setRow_alloc_new])
      | (refine wpList_copy_splice rfl (.tmp 13) (.tmp 14) _ _ rfl 5 Try.underlying51 byte_size _ _ 62 62 b.length c rfl rfl (w.heap.size + 1) 2 (bc (hdL (UInt8.ofNat b.length))) 40 (heap_alloc2_new _ _ _) (bc b) (by rw [bc_length]; exact (Nat.min_eq_left (by omega)).symm) (fun hp => ⟨rfl, bts_pos ((HB.out.alloc _).alloc _) hp⟩) (by rw [bc_length, bc_length, hdL_len]; omega) (bc_one _) (w.heap.size + 1) (w.alloc (obj zs 40)) ((Below.refl _ _).alloc (by simp) _) (by omega) ?_
         intro w2 HG2 hB2
         rw [splice_bc, splice_seal b hl] at HG2
         have HR2 := Lib.hid ((hB2.block w.heap.size (by omega)).trans (heap_alloc_new _ _))
         have HB2 := Lib.hid hB2
         clear hB2)
      | (refine wpList_load_row rfl _ _ rfl (w.heap.size + 1) rfl 40 _ (0, 0) _ HG2.out Try.underlying40 rfl (sec_info' _ (sealL_len b hl)) ?_)
      | (refine wpList_store_row rfl _ _ _ rfl w.heap.size (bc (sealL b)).toArray rfl rfl 40 _ HR2.out (sec_info' _ (sealL_len b hl)) (by rw [bc_size, bc_size, sealL_len b hl]; rfl) (bc_all _) ?_))
    refine bodyPost_cell_tmp rfl w.heap.size 40 _ _ rfl (setRow_heap _ _ _ _ _ _ HR2.out) Try.underlying40 rfl (sec_info' _ (sealL_len b hl)) rfl ⟨?_, ?_⟩
    · rw [show sealE b = _ from if_pos hl]
      rfl
    · exact setRow_below (((Below.refl w.heap.size w).alloc (Nat.le_refl _) _).trans (HB2.out.mono (by omega))) (Nat.le_refl _) _
  · have h1 : (61 : Int) < (b.length : Int) := by omega
    have hd1 : decide ((61 : Int) < (b.length : Int)) = true := by simp; omega
    go_enter Try.func31, Try.ntmps31
    go_wp2_with (first
      | (refine wpList_alloc_row rfl _ rfl (secv zs) (bc zs).toArray sec_zero rfl ?_)
      | (refine wpList_build_row rfl _ _ rfl (bc zs).toArray (by kernel_rfl) ?_)
      | (refine wpList_store_row rfl _ _ _ rfl _ (bc zs).toArray rfl rfl 40 (bc zs).toArray (heap_alloc_new _ _) sec_info (by rfl) (bc_all _) ?_
         rw [World.setRow_alloc_new]))
    refine bodyPost_cell_tmp rfl w.heap.size 40 _ _ rfl (heap_alloc_new _ _) Try.underlying40 rfl sec_info rfl ⟨?_, ?_⟩
    · rw [show sealE b = _ from if_neg hl]
      rfl
    · exact (Below.refl w.heap.size w).alloc (Nat.le_refl _) _

end Go.Proofs.Ytlaecnggbcagcaa
