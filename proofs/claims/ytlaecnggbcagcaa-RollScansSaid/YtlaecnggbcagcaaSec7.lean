/- Layer 18's statements' own head: one byte. -/
import Derived.Test.YtlaecnggbcagcaaSec6
namespace Go.Proofs.Ytlaecnggbcagcaa
open Go.RowKit MM
set_option linter.unusedVariables false
set_option linter.unusedSimpArgs false

theorem openL_sealL (b : List UInt8) (h : b.length ≤ 61) : openL (sealL b) = some b := by
  have h1 : (sealL b)[1]? = some (UInt8.ofNat b.length) := rfl
  have h2 : (UInt8.ofNat b.length).toNat = b.length := by have := u8_of_len (n := b.length) (by omega); omega
  have h3 : ((sealL b).drop 2).take b.length = b := by
    unfold sealL
    rw [List.drop_succ_cons, List.drop_succ_cons, List.drop_zero, List.take_left]
  unfold openL
  rw [h1]
  simp only [h2, h3, if_neg (show ¬ 61 < b.length by omega), if_true]
theorem seal_blank (b : List UInt8) : ¬ sealL b = zs := by
  intro h
  have := congrArg (·[0]?) h
  simp [sealL, zs] at this
theorem run_str {w : World} {A : Option Addr} {c n : Nat} {xs : List UInt8} {sa : ByteArray} (h : Bts w A xs) (hn : n = xs.length) (hs : sa = ⟨xs.toArray⟩) :
    (convert 51 9 (.slice A n c)).run Try.prog w = .ok (.string sa) w := by
  subst hs hn
  exact run_text (P := Try.prog) w 51 9 5 A c xs Try.underlying51 Try.underlying5 Try.underlying9 h

theorem run_mark {P : Program} (w : World) (src e : TypeId) (C : Array Value) (n c : Nat) (hs : P.underlying src = some (.slice e)) (he : P.underlying e = some (.int .u8)) :
    (convert src src (.slice (some ⟨w.heap.size, 0, none⟩) n c)).run P (w.alloc (.cells C e)) = .ok (.slice (some ⟨w.heap.size, 0, none⟩) n c) (w.alloc (.cells C e (C.size, C.size + 1))) := by
  have hsh : (w.alloc (.cells C e)).shape? w.heap.size = some (e, C.size) := by
    unfold World.shape?
    rw [heap_alloc_new w (.cells C e)]
  have hfr : (w.alloc (.cells C e)).freeze ⟨w.heap.size, C.size, none⟩ 1 = w.alloc (.cells C e (C.size, C.size + 1)) := by
    have hm : ∀ (a : Array Obj) (x : Obj) (f : Obj → Obj), (a.push x).modify a.size f = a.push (f x) := by
      intro a x f
      apply Array.ext
      · simp
      · intro i h1 h2
        simp only [Array.getElem_modify, Array.getElem_push]
        by_cases h : a.size = i
        · subst h
          simp
        · have hi : i < a.size := by simp at h1; omega
          simp [h, hi]
    unfold World.freeze
    rw [if_neg (by decide)]
    show ({ w.alloc (.cells C e) with heap := (w.heap.push (.cells C e)).modify w.heap.size _ } : World) = _
    rw [hm]
    rfl
  simp [convert, run_underlying hs, run_underlying he, markStringish, hsh]
  exact hfr

set_option maxHeartbeats 1000000 in
set_option maxRecDepth 100000 in
theorem speaks18_any (w : World) :
    Calls Try.prog 30 #[] w fun e w' => e = .returned (.bool true) ∧ Below w.heap.size w w' := by
  go_enter Try.func30, Try.ntmps30
  have hmk := run_mark (P := Try.prog) w 51 5 #[.int .u8 97] 1 1 Try.underlying51 Try.underlying5
  have HB0 := Lib.hid (show Bts (w.alloc (.cells #[.int .u8 97] 5 (1, 1 + 1))) (some ⟨w.heap.size, 0, none⟩) [97] from bts_row (o := 0) (n := 1) (s := [97]) (heap_alloc_new _ _))
  go_wp2_with fail
  refine (seal_any (some ⟨w.heap.size, 0, none⟩) 1 [97] _ HB0.out).mono ?_
  rintro e w1 ⟨rfl, hb1⟩
  rw [show sealE [97] = _ from if_pos (by decide)]
  have HB1 := Lib.hid (show Below w.heap.size w w1 from ((Below.refl _ _).alloc (Nat.le_refl _) _).trans (hb1.mono (by simp)))
  have HL := Lib.hid (show (sealL [97]).length = 64 from rfl)
  clear hb1
  go_wp2_with (first
    | (refine wpList_alloc_row rfl _ rfl (secv zs) (bc zs).toArray sec_zero rfl ?_)
    | (refine wpList_store_row rfl _ _ _ rfl _ (bc (sealL [97])).toArray rfl rfl 40 (bc zs).toArray (heap_alloc_new _ _) (sec_info' _ HL.out) (by rfl) (bc_all _) ?_
       rw [World.setRow_alloc_new])
    | (refine wpList_load_row rfl _ _ rfl w1.heap.size rfl 40 _ (0, 0) _ (heap_alloc_new _ _) Try.underlying40 rfl (sec_info' _ HL.out) ?_))
  refine (open_any (sealL [97]) HL.out _).mono ?_
  rintro e w2 ⟨hb2, hp⟩
  rw [openL_sealL [97] (by decide)] at hp
  obtain ⟨A2, c2, rfl, hB2⟩ := hp
  have HR2 := Lib.hid ((hb2.block w1.heap.size (by simp)).trans (heap_alloc_new _ _))
  have HB2 := Lib.hid (HB1.out.trans (((Below.refl _ w1).alloc (Nat.le_refl _) _).trans (hb2.mono (by simp)) |>.mono HB1.out.size))
  have hcv := run_str (c := c2) (n := 1) hB2 rfl rfl
  have heq := sec_eq (sealL [97]) (sealL [97]) rfl rfl
  simp only [decide_true] at heq
  have HW2 := Lib.hid (show w1.heap.size < w2.heap.size from lt_of_heap HR2.out)
  clear hb2 hB2
  go_wp2_with (first
    | (refine wpListG_load_row (by kernel_rfl) _ _ rfl w1.heap.size rfl 40 _ (0, 0) _ HR2.out Try.underlying40 rfl (sec_info' _ HL.out) ?_)
    | (refine wpListG_build_row (by kernel_rfl) _ #[] rfl (bc zs).toArray (by kernel_rfl) ?_)
    | (refine wpListG_build_row (by kernel_rfl) _ _ rfl (bc (sealL [97])).toArray (by kernel_rfl) ?_)
    | (go_at_call 32
       refine (blank_any zs rfl _).mono ?_
       rintro e w3 ⟨rfl, hb3⟩
       have HR3 := Lib.hid ((hb3.block _ HW2.out).trans HR2.out)
       have HB3 := Lib.hid (HB2.out.trans (hb3.mono HB2.out.size))
       clear hb3
       simp only [decide_true])
    | (refine wpListG_load_row (by kernel_rfl) _ _ rfl w1.heap.size rfl 40 _ (0, 0) _ HR3.out Try.underlying40 rfl (sec_info' _ HL.out) ?_)
    | (go_at_call 32
       refine (blank_any (sealL [97]) HL.out _).mono ?_
       rintro e w4 ⟨rfl, hb4⟩
       simp only [seal_blank, decide_false]))
  go_ret
  exact ⟨rfl, HB3.out.trans (hb4.mono HB3.out.size)⟩

end Go.Proofs.Ytlaecnggbcagcaa
