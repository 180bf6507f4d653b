/- The walk of SealTorn. -/
import Derived.Test.YtmgkbgjchcekpaaDk10
import Derived.Test.YtmgkbgjchcekpaaSec7
namespace Go.Proofs.Ytmgkbgjchcekpaa
open Go.RowKit MM
set_option linter.unusedVariables false
set_option linter.unusedSimpArgs false

theorem sealL_get0 (b : List UInt8) : (sealL b)[0]? = some 1 := rfl
theorem sealL_get63 (b : List UInt8) (h : b.length ≤ 61) : (sealL b)[63]? = some 1 := by
  have e : sealL b = (1 :: UInt8.ofNat b.length :: (b ++ List.replicate (61 - b.length) 0)) ++ [1] := by simp [sealL]
  rw [e, List.getElem?_append_right (by simp; omega)]
  have : 63 - (1 :: UInt8.ofNat b.length :: (b ++ List.replicate (61 - b.length) 0)).length = 0 := by simp; omega
  rw [this]
  rfl
theorem openL_none0 {s : List UInt8} (h : s[0]? ≠ some 1) : openL s = none := by
  unfold openL
  cases s[1]? with
  | none => rfl
  | some c =>
    simp only
    split
    · rfl
    · rw [if_neg]
      intro e
      exact h (by rw [e]; exact sealL_get0 _)
theorem openL_none63 {s : List UInt8} (hs : s.length = 64) (h : s[63]? ≠ some 1) : openL s = none := by
  unfold openL
  cases s[1]? with
  | none => rfl
  | some c =>
    simp only
    split
    · rfl
    · rename_i hc
      rw [if_neg]
      intro e
      refine h ?_
      rw [e]
      refine sealL_get63 _ ?_
      rw [List.length_take]; omega
theorem torn_old (b : List UInt8) (hb : b.length ≤ 61) (k : Int) : (openL (torn (sealL b) zs k)).isSome = decide (k < 1) := by
  by_cases h : k < 1
  · have e : torn (sealL b) zs k = sealL b := by
      unfold torn
      rw [show min k.toNat 64 = 0 by omega]
      rfl
    rw [e, openL_sealL b hb, decide_eq_true h]
    rfl
  · rw [openL_none0, decide_eq_false h]
    · rfl
    · unfold torn
      obtain ⟨m, hm⟩ : ∃ m, min k.toNat 64 = m + 1 := ⟨min k.toNat 64 - 1, by omega⟩
      rw [hm]
      intro e
      rw [List.getElem?_append_left (by rw [List.length_take, zs_len]; omega), List.getElem?_take_of_lt (by omega)] at e
      revert e
      decide
theorem torn_neu (b : List UInt8) (hb : b.length ≤ 61) (k : Int) : (openL (torn zs (sealL b) k)).isSome = decide (63 < k) := by
  have hl := sealL_len b hb
  by_cases h : 63 < k
  · have e : torn zs (sealL b) k = sealL b := by
      unfold torn
      rw [show min k.toNat 64 = 64 by omega, List.take_of_length_le (by omega), List.drop_eq_nil_of_le (by rw [zs_len]; omega), List.append_nil]
    rw [e, openL_sealL b hb, decide_eq_true h]
    rfl
  · rw [openL_none63 (torn_len zs_len hl k), decide_eq_false h]
    · rfl
    · unfold torn
      intro e
      rw [List.getElem?_append_right (by rw [List.length_take, hl]; omega), List.length_take, hl, List.getElem?_drop] at e
      have h3 : min k.toNat 64 + (63 - min (min k.toNat 64) 64) = 63 := by omega
      rw [h3] at e
      revert e
      decide
/-- The disk of SealTorn at its end. -/
def tornD (s : List UInt8) (k : Int) : Dk := (({ ((Dk.new 2).put 0 s) with good := ((Dk.new 2).put 0 s).now, pend := [] } : Dk).put 0 zs |>.put 1 s).crash [k, k]
theorem tornD_0 (s : List UInt8) (k : Int) : (tornD s k).readS 0 = torn s zs k := rfl
theorem tornD_1 (s : List UInt8) (k : Int) : (tornD s k).readS 1 = torn zs s k := rfl
theorem tornD_e (s : List UInt8) (k : Int) : (tornD s k).err 0 = 0 ∧ (tornD s k).err 1 = 0 := ⟨rfl, rfl⟩

theorem isSome_post {s : List UInt8} {w w' : World} {e : Ending} (h : OpenPost s w e w') : ∃ A n c, e = .returned (.tuple #[.slice A n c, .bool (openL s).isSome]) ∧ Below w.heap.size w w' := by
  obtain ⟨hb, hp⟩ := h
  cases ho : openL s with
  | none => rw [ho] at hp; exact ⟨none, 0, 0, hp, hb⟩
  | some b => rw [ho] at hp; obtain ⟨A, c, he, _⟩ := hp; exact ⟨A, b.length, c, he, hb⟩

set_option maxHeartbeats 4000000 in
set_option maxRecDepth 100000 in
theorem sealTorn_any (A : Option Addr) (c : Nat) (b : List UInt8) (k : Int) (w : World) (hb : Bts w A b) (hk : (Lit.int .i64 k).wf = true) :
    Calls Try.prog 9 #[.slice A b.length c, .int .i64 k] w fun e w' => e = .returned (.bool true) ∧ Below w.heap.size w w' := by
  have HB := Lib.hid hb
  clear hb hk
  by_cases h61 : 61 < b.length
  · go_enter Try.func9, Try.ntmps9
    go_wp2_with (go_at_call 27; refine (speaks18_any _).mono ?_; rintro e w1 ⟨rfl, hb1⟩)
    refine (seal_any A c b w1 (HB.out.below hb1)).mono ?_
    rintro e w2 ⟨rfl, hb2⟩
    rw [show sealE b = _ from if_neg (by omega)]
    have HB2 := Lib.hid (hb1.trans (hb2.mono hb1.size))
    clear hb1 hb2
    go_wp2_with (first
      | (refine wpList_alloc_row rfl _ rfl (secv zs) (bc zs).toArray sec_zero rfl ?_)
      | (refine wpList_store_row rfl _ _ _ rfl _ (bc zs).toArray rfl rfl 40 (bc zs).toArray (heap_alloc_new _ _) sec_info (by rfl) (bc_all _) ?_
         rw [World.setRow_alloc_new]))
    go_ret
    exact ⟨rfl, HB2.out.alloc HB2.out.size _⟩
  have hl : b.length ≤ 61 := by omega
  have HL := Lib.hid (sealL_len b hl)
  have HO := Lib.hid (torn_old b hl k)
  have HN := Lib.hid (torn_neu b hl k)
  go_enter Try.func9, Try.ntmps9
  go_wp2_with (go_at_call 27; refine (speaks18_any _).mono ?_; rintro e w1 ⟨rfl, hb1⟩)
  refine (seal_any A c b w1 (HB.out.below hb1)).mono ?_
  rintro e w2 ⟨rfl, hb2⟩
  rw [show sealE b = _ from if_pos hl]
  have HB2 := Lib.hid (hb1.trans (hb2.mono hb1.size))
  clear hb1 hb2
  go_wp2_with (first
    | (refine wpList_alloc_row rfl _ rfl (secv zs) (bc zs).toArray sec_zero rfl ?_)
    | (refine wpList_store_row rfl _ _ _ rfl _ (bc (sealL b)).toArray rfl rfl 40 (bc zs).toArray (heap_alloc_new _ _) (sec_info' _ HL.out) (by rw [bc_size, bc_size, HL.out]; rfl) (bc_all _) ?_
       rw [World.setRow_alloc_new]))
  generalize hs : sealL b = s at *
  generalize hw3 : World.alloc w2 _ = w3
  have HR3 := Lib.hid (show w3.heap[w2.heap.size]? = some (.cells (bc s).toArray 40 (0, 0)) by rw [← hw3]; exact heap_alloc_new _ _)
  have HB3 := Lib.hid (show Below w.heap.size w w3 by rw [← hw3]; exact HB2.out.alloc HB2.out.size _)
  have HZ := Lib.hid (lt_of_heap HR3.out)
  clear hw3 hs
  refine (show Calls Try.prog 14 #[.int .i64 2] w3 _ from oNew 2 w3 (by omega) (by omega)).mono ?_
  rintro e w4 ⟨p, rfl, h4, hb4⟩
  have HR4 := Lib.hid ((hb4.block _ HZ.out).trans HR3.out)
  have H4 := Lib.hid h4
  have HB4 := Lib.hid hb4
  clear h4 hb4
  go_wp2_with (first | (refine wpList_load_row rfl _ _ rfl w2.heap.size rfl 40 _ (0, 0) _ HR4.out Try.underlying40 rfl (sec_info' _ HL.out) ?_))
  refine (show Calls Try.prog 19 #[.pointer (some ⟨p, 0, none⟩), .int .i64 0, secv s] w4 _ from oWrite w3.heap.size p (Dk.new 2) 0 s w4 HL.out (by decide) H4.out).mono ?_
  rintro e w5 ⟨rfl, h5, hb5⟩
  rw [show (Dk.new 2).write 0 s = ((Dk.new 2).put 0 s, 0) from Dk.write_up (j := 0) rfl rfl (by decide)] at h5 ⊢
  have HR5 := Lib.hid ((hb5.block _ HZ.out).trans HR4.out)
  have H5 := Lib.hid h5
  have HB5 := Lib.hid (HB4.out.trans hb5)
  clear h5 hb5
  go_wp2_with fail
  refine (oSync w3.heap.size p _ w5 (by show 1 ≤ 1000000; omega) H5.out).mono ?_
  rintro e w6 ⟨rfl, h6, hb6⟩
  rw [Dk.sync_up rfl] at h6 ⊢
  have HR6 := Lib.hid ((hb6.block _ HZ.out).trans HR5.out)
  have H6 := Lib.hid h6
  have HB6 := Lib.hid (HB5.out.trans hb6)
  clear h6 hb6
  go_wp2_with (first | (refine wpList_build_row rfl _ #[] rfl (bc zs).toArray (by kernel_rfl) ?_))
  refine (show Calls Try.prog 19 #[.pointer (some ⟨p, 0, none⟩), .int .i64 0, secv zs] w6 _ from oWrite w3.heap.size p _ 0 zs w6 zs_len (by show 0 ≤ 100000; omega) H6.out).mono ?_
  rintro e w7 ⟨rfl, h7, hb7⟩
  obtain ⟨D6, hD6⟩ : ∃ D6 : Dk, D6 = { ((Dk.new 2).put 0 s) with good := ((Dk.new 2).put 0 s).now, pend := [] } := ⟨_, rfl⟩
  rw [← hD6] at h7 ⊢
  rw [show D6.write 0 zs = (D6.put 0 zs, 0) from Dk.write_up (j := 0) (by rw [hD6]; rfl) (by rw [hD6]; rfl) (by rw [hD6]; show 0 < 2; omega)] at h7 ⊢
  have HR7 := Lib.hid ((hb7.block _ HZ.out).trans HR6.out)
  have H7 := Lib.hid h7
  have HB7 := Lib.hid (HB6.out.trans hb7)
  have HD := Lib.hid hD6
  clear h7 hb7 hD6
  go_wp2_with (first | (refine wpList_load_row rfl _ _ rfl w2.heap.size rfl 40 _ (0, 0) _ HR7.out Try.underlying40 rfl (sec_info' _ HL.out) ?_))
  refine (show Calls Try.prog 19 #[.pointer (some ⟨p, 0, none⟩), .int .i64 1, secv s] w7 _ from oWrite w3.heap.size p (D6.put 0 zs) 1 s w7 HL.out (by rw [HD.out]; show 1 ≤ 100000; omega) H7.out).mono ?_
  rintro e w8 ⟨rfl, h8, hb8⟩
  rw [show (D6.put 0 zs).write 1 s = ((D6.put 0 zs).put 1 s, 0) from Dk.write_up (j := 1) (by rw [HD.out]; rfl) (by rw [HD.out]; rfl) (by rw [HD.out]; show 1 < 2; omega)] at h8 ⊢
  have H8 := Lib.hid h8
  have HB8 := Lib.hid (HB7.out.trans hb8)
  clear h8 hb8
  have HI8 := Lib.hid (ins_new w8 [k, k] 3)
  have HN8 := Lib.hid (H8.out.now ((Below.refl _ w8).alloc (Nat.le_refl _) (.cells ([k, k].map (Value.int .i64)).toArray 3)))
  go_wp2_with fail
  refine (show Calls Try.prog 23 #[.pointer (some ⟨p, 0, none⟩), .slice (some ⟨w8.heap.size, 0, none⟩) 2 2] (w8.alloc (.cells #[.int .i64 k, .int .i64 k] 3)) _ from oCrash w3.heap.size p w8.heap.size _ (some ⟨w8.heap.size, 0, none⟩) 2 [k, k] _ (by rw [HD.out]; show 2 ≤ 1000000; omega) (by show 2 ≤ 1000000; omega) HI8.out HN8.out (Nat.le_trans H8.out.2 (by simp)) (fun a ha => by injection ha with ha; subst ha; exact .inr (Nat.le_refl _))).mono ?_
  rintro e w9 ⟨⟨v9, rfl⟩, h9, hb9⟩
  rw [show ((D6.put 0 zs).put 1 s).crash [k, k] = tornD s k by rw [HD.out]; rfl] at h9
  have H9 := Lib.hid h9
  have HB9 := Lib.hid ((HB8.out.alloc H8.out.2 _).trans hb9)
  clear h9 hb9 HI8 HN8
  go_wp2_with fail
  refine (show Calls Try.prog 22 #[.pointer (some ⟨p, 0, none⟩), .int .i64 0] w9 _ from oRead w3.heap.size p (tornD s k) 0 w9 H9.out).mono ?_
  rintro e w10 ⟨rfl, hb10⟩
  rw [tornD_0, (tornD_e s k).1]
  have HX := Lib.hid (torn_len HL.out zs_len k)
  have HY := Lib.hid (torn_len zs_len HL.out k)
  have H10 := Lib.hid (H9.out.below hb10)
  have HB10 := Lib.hid (HB9.out.trans (hb10.mono H9.out.2))
  clear hb10
  go_wp2_with (first
    | (refine wpList_alloc_row rfl _ rfl (secv zs) (bc zs).toArray sec_zero rfl ?_)
    | (refine wpList_store_row rfl _ _ _ rfl _ (bc (torn s zs k)).toArray rfl rfl 40 (bc zs).toArray (heap_alloc_new _ _) (sec_info' _ HX.out) (by rw [bc_size, bc_size, HX.out]; rfl) (bc_all _) ?_
       rw [World.setRow_alloc_new]))
  generalize hw11 : World.alloc w10 _ = w11
  have HR11 := Lib.hid (show w11.heap[w10.heap.size]? = some (.cells (bc (torn s zs k)).toArray 40 (0, 0)) by rw [← hw11]; exact heap_alloc_new _ _)
  have H11 := Lib.hid (show Own w3.heap.size w11 p (tornD s k) by rw [← hw11]; exact H10.out.alloc _)
  have HB11 := Lib.hid (show Below w3.heap.size w3 w11 by rw [← hw11]; exact HB10.out.alloc H10.out.2 _)
  clear hw11
  refine (show Calls Try.prog 22 #[.pointer (some ⟨p, 0, none⟩), .int .i64 1] w11 _ from oRead w3.heap.size p (tornD s k) 1 w11 H11.out).mono ?_
  rintro e w12 ⟨rfl, hb12⟩
  rw [tornD_1, (tornD_e s k).2]
  have HR12 := Lib.hid ((hb12.block _ (lt_of_heap HR11.out)).trans HR11.out)
  have HB12 := Lib.hid (HB11.out.trans (hb12.mono H11.out.2))
  have HQ := Lib.hid (show w3.heap.size ≤ w12.heap.size from Nat.le_trans H11.out.2 hb12.size)
  clear hb12
  go_wp2_with (first
    | (refine wpList_alloc_row rfl _ rfl (secv zs) (bc zs).toArray sec_zero rfl ?_)
    | (refine wpList_store_row rfl _ _ _ rfl _ (bc (torn zs s k)).toArray rfl rfl 40 (bc zs).toArray (heap_alloc_new _ _) (sec_info' _ HY.out) (by rw [bc_size, bc_size, HY.out]; rfl) (bc_all _) ?_
       rw [World.setRow_alloc_new])
    | (refine wpList_load_row rfl _ _ rfl w10.heap.size rfl 40 _ (0, 0) _ ((heap_alloc_old w12 _ (lt_of_heap HR12.out)).trans HR12.out) Try.underlying40 rfl (sec_info' _ HX.out) ?_))
  refine (open_any _ HX.out _).mono ?_
  rintro e w13 hp
  obtain ⟨A13, n13, c13, rfl, hb13⟩ := isSome_post hp
  rw [HO.out]
  have HR13 := Lib.hid ((hb13.block w12.heap.size (by simp)).trans (heap_alloc_new _ _))
  have HB13 := Lib.hid ((HB12.out.alloc HQ.out _).trans (hb13.mono (by simp; exact Nat.le_succ_of_le HQ.out)))
  clear hp hb13
  go_wp2_with (first
    | (refine wpList_load_row rfl _ _ rfl w12.heap.size rfl 40 _ (0, 0) _ HR13.out Try.underlying40 rfl (sec_info' _ HY.out) ?_))
  refine (open_any _ HY.out _).mono ?_
  rintro e w14 hp
  obtain ⟨A14, n14, c14, rfl, hb14⟩ := isSome_post hp
  rw [HN.out]
  have HB14 := Lib.hid (HB13.out.trans (hb14.mono (Nat.le_trans HB13.out.size (Nat.le_refl _))))
  clear hp hb14
  go_wp2_with fail
  go_ret
  exact ⟨by simp, HB3.out.trans (HB14.out.mono HB3.out.size)⟩

end Go.Proofs.Ytmgkbgjchcekpaa
