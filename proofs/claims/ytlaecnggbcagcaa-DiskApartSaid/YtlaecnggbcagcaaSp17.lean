/- Layer 17's statements' own head: a sector that is torn. -/
import Derived.Test.YtlaecnggbcagcaaDk11
namespace Go.Proofs.Ytlaecnggbcagcaa
open Go.RowKit MM
set_option linter.unusedVariables false
set_option linter.unusedSimpArgs false

def s17 : List UInt8 := [1, 1, 1, 1] ++ List.replicate 60 0
def t17 : List UInt8 := [1, 1, 1] ++ List.replicate 61 0
def d17 : Dk := (Dk.new 2).put 1 s17
theorem d17_write : (Dk.new 2).write 1 s17 = (d17, 0) := Dk.write_up (j := 1) rfl rfl (by decide)
theorem d17_read : (d17.crash [3]).readS 1 = t17 := by decide +kernel
theorem d17_pl : d17.pend.length = 1 := rfl
theorem d17_pc : (d17.crash [3]).pend.length = 0 := rfl
theorem d17_w : (d17.crash [3]).writes = 1 := by decide +kernel
theorem d17_n : (d17.crash [3]).now.length = 2 := by decide +kernel
theorem d17_err : (d17.crash [3]).err 1 = 0 := by decide +kernel

set_option maxHeartbeats 4000000 in
set_option maxRecDepth 100000 in
theorem speaks17_any (w : World) :
    Calls Try.prog 15 #[] w fun e w' => e = .returned (.bool true) ∧ Below w.heap.size w w' := by
  have heq : ∀ w, (binOp .eql 40 (secv t17) (secv t17)).run Try.prog w = .ok (.bool true) w := fun w => by rw [sec_eq t17 t17 rfl rfl w]; simp
  go_enter Try.func15, Try.ntmps15
  go_wp2_with fail
  refine (show Calls Try.prog 17 #[.int .i64 2] w _ from oNew 2 w (by omega) (by omega)).mono ?_
  rintro e w1 ⟨p, rfl, h1, hb1⟩
  have H1 := Lib.hid h1
  have HB1 := Lib.hid hb1
  clear h1 hb1
  go_wp2_with (first | (refine wpList_build_row rfl _ _ rfl (bc s17).toArray (by kernel_rfl) ?_))
  refine (show Calls Try.prog 22 #[.pointer (some ⟨p, 0, none⟩), .int .i64 1, secv s17] w1 _ from oWrite w.heap.size p (Dk.new 2) 1 s17 w1 rfl (by decide) H1.out).mono ?_
  rintro e w2 ⟨rfl, h2, hb2⟩
  rw [d17_write] at h2 ⊢
  have H2 := Lib.hid h2
  have HB2 := Lib.hid (HB1.out.trans hb2)
  clear h2 hb2
  go_wp2_with fail
  refine (dClone_any p _ d17 w2 (by decide) H2.out.1).mono ?_
  rintro e w3 ⟨q, rfl, hq3, hb3⟩
  have HQ3 := Lib.hid hq3
  have H3 := Lib.hid (H2.out.now hb3)
  have HZ3 := Lib.hid (And.intro H2.out.2 hb3.size)
  have HB3 := Lib.hid (HB2.out.trans (hb3.mono H2.out.2))
  clear hq3 hb3
  have hbA : ∀ o, Below w3.heap.size w3 (w3.alloc o) := fun o => (Below.refl _ w3).alloc (Nat.le_refl _) o
  have HI := Lib.hid (ins_new w3 [3] 3)
  have H4 := Lib.hid (H3.out.below (hbA (.cells #[.int .i64 3] 3)))
  have HQ4 := Lib.hid (HQ3.out.below (hbA (.cells #[.int .i64 3] 3)))
  have HB4 := Lib.hid (HB3.out.alloc HB3.out.size (.cells #[.int .i64 3] 3))
  clear hbA
  go_wp2_with fail
  refine (show Calls Try.prog 26 #[.pointer (some ⟨p, 0, none⟩), .slice (some ⟨w3.heap.size, 0, none⟩) 1 1] (w3.alloc (.cells #[.int .i64 3] 3)) _ from dCrash_any p _ d17 (some ⟨w3.heap.size, 0, none⟩) 1 [3] _ (by decide) (by decide) HI.out (fun a ha hx => by injection ha with ha; subst ha; have := hx.2; have := HZ3.out.2; simp only at *; omega) H4.out).mono ?_
  rintro e w5 ⟨⟨v5, rfl⟩, h5, hk5⟩
  have H5 := Lib.hid (show Own w.heap.size w5 p (d17.crash [3]) from ⟨h5.mono fun k hk hu => (by rcases hu with x | x; exact x.1; exact Nat.le_trans HB4.out.size x.1), Nat.le_trans HB4.out.size hk5.size⟩)
  have HQ5 := Lib.hid (HQ4.out.keep hk5 (fun k _ hb x => by have := x.2; omega))
  have HB5 := Lib.hid (HB4.out.trans (hk5.below HB4.out.size (fun i hi x => by have := x.1; omega)))
  clear h5 hk5
  go_wp2_with fail
  refine (show Calls Try.prog 25 #[.pointer (some ⟨p, 0, none⟩), .int .i64 1] w5 _ from oRead w.heap.size p (d17.crash [3]) 1 w5 H5.out).mono ?_
  rintro e w6 ⟨rfl, hb6⟩
  rw [d17_read, d17_err]
  have H6 := Lib.hid ((H5.out.below hb6).alloc (.cells (bc t17).toArray 40))
  have HQ6 := Lib.hid ((HQ5.out.below hb6).below ((Below.refl _ w6).alloc (Nat.le_refl _) (.cells (bc t17).toArray 40)))
  have HB6 := Lib.hid (HB5.out.trans (hb6.mono HB5.out.size))
  clear hb6
  go_wp2_with (first
    | (refine wpList_alloc_row rfl _ rfl (secv zs) (bc zs).toArray sec_zero rfl ?_)
    | (refine wpList_store_row rfl _ _ _ rfl _ (bc t17).toArray rfl rfl 40 (bc zs).toArray (heap_alloc_new _ _) (sec_info' _ rfl) (by rfl) (bc_all _) ?_
       rw [World.setRow_alloc_new])
    | (refine wpListG_load_row (by kernel_rfl) _ _ rfl w6.heap.size rfl 40 _ (0, 0) _ (heap_alloc_new _ _) Try.underlying40 rfl (sec_info' t17 rfl) ?_)
    | (refine wpListG_build_row (by kernel_rfl) _ _ rfl (bc t17).toArray (by kernel_rfl) ?_)
    | (go_at_call 28; refine (dPending_any q _ _ _ HQ6.out).mono ?_; rintro e w' ⟨rfl, rfl⟩; rw [d17_pl])
    | (go_at_call 28; refine (dPending_any p _ _ _ H6.out.1).mono ?_; rintro e w' ⟨rfl, rfl⟩; rw [d17_pc])
    | (go_at_call 36; refine (dWrites_any p _ _ _ H6.out.1).mono ?_; rintro e w' ⟨rfl, rfl⟩; rw [d17_w])
    | (go_at_call 18; refine (dLen_any p _ _ _ H6.out.1).mono ?_; rintro e w' ⟨rfl, rfl⟩; rw [d17_n]))
  go_ret
  exact ⟨rfl, HB6.out.alloc HB6.out.size _⟩

end Go.Proofs.Ytlaecnggbcagcaa
