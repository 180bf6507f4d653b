/- The walk of DiskTorn. -/
import Derived.Test.YtmgkbgjchcekpaaSp17
import Derived.Test.YtmgkbgjchcekpaaSec7
namespace Go.Proofs.Ytmgkbgjchcekpaa
open Go.RowKit MM
set_option linter.unusedVariables false
set_option linter.unusedSimpArgs false

/-- Where the rest of a sector lies. -/
def bk (g n : Nat) : Addr := if 64 = n then ⟨g, 0, none⟩ else ⟨g, n, none⟩
theorem sec_back (g n : Nat) (hn : n ≤ 64) (w : World) : (Instr.sliceAt 40 (.pointer (some ⟨g, 0, none⟩)) (some (.int .i64 (n : Int))) none none).run Try.prog w = .ok (.slice (some (bk g n)) (64 - n) (64 - n)) w := by
  cases hq : Try.prog.info? 5 with
  | none => have := byte_size; simp [hq] at this
  | some i =>
    have hi1 : i.size = 1 := by have := byte_size; simpa [hq] using this
    have e2 : (0 : Int) ≤ n := by omega
    have e3 : (n : Int) ≤ 64 := by omega
    by_cases h : 64 = n
    · subst h
      simp [Instr.sliceAt, Instr.sureAddr, Instr.sliceBounds, Instr.sliceBound, asIntOf, run_underlying Try.underlying40, asAddr, sizeOf, typeInfo, hq, hi1, bk]
    · simp [Instr.sliceAt, Instr.sureAddr, Instr.sliceBounds, Instr.sliceBound, asIntOf, run_underlying Try.underlying40, asAddr, sizeOf, typeInfo, hq, hi1, e2, e3, add_plain, hn, bk, h]
theorem bts_front {w : World} {g n : Nat} {s : List UInt8} {t : TypeId} (h : w.heap[g]? = some (.cells (bc s).toArray t (0, 0))) : Bts w (some ⟨g, 0, none⟩) (s.take n) := by
  have := bts_row (o := 0) (n := n) h
  rwa [List.drop_zero] at this
theorem bts_back {w : World} {g n : Nat} {s : List UInt8} {t : TypeId} (hs : s.length = 64) (h : w.heap[g]? = some (.cells (bc s).toArray t (0, 0))) : Bts w (some (bk g n)) (s.drop n) := by
  unfold bk
  split
  · rename_i he
    rw [List.drop_eq_nil_of_le (by omega)]
    exact Bts.nil _
  · have := bts_row (o := n) (n := 64) h
    rwa [List.take_of_length_le (by rw [List.length_drop]; omega)] at this
theorem torn_take {old s : List UInt8} (hs : s.length = 64) (k : Int) (n : Nat) (hn : min k.toNat 64 = n) : (torn old s k).take n = s.take n := by
  unfold torn
  rw [hn, List.take_append_of_le_length (by rw [List.length_take]; omega), List.take_take, Nat.min_self]
theorem torn_drop {old s : List UInt8} (hs : s.length = 64) (k : Int) (n : Nat) (hn : min k.toNat 64 = n) : (torn old s k).drop n = old.drop n := by
  unfold torn
  rw [hn, List.drop_append, List.drop_eq_nil_of_le (by rw [List.length_take]; omega), List.nil_append, List.length_take, show n - min n s.length = 0 by omega, List.drop_zero]
def dtD (old neu : List UInt8) : Dk := ({ ((Dk.new 1).put 0 old) with good := ((Dk.new 1).put 0 old).now, pend := [] } : Dk).put 0 neu
theorem dtD_read (old neu : List UInt8) (k : Int) : ((dtD old neu).crash [k]).readS 0 = torn old neu k := rfl
theorem dtD_err (old neu : List UInt8) (k : Int) : ((dtD old neu).crash [k]).err 0 = 0 := rfl

set_option maxHeartbeats 8000000 in
set_option maxRecDepth 100000 in
theorem diskTorn_any (old neu : List UInt8) (k : Int) (w : World) (ho : old.length = 64) (hn : neu.length = 64) (hk : (Lit.int .i64 k).wf = true) :
    Calls Try.prog 6 #[secv old, secv neu, .int .i64 k] w fun e w' => e = .returned (.bool true) ∧ Below w.heap.size w w' := by
  have HO := Lib.hid ho
  have HN := Lib.hid hn
  clear ho hn hk
  obtain ⟨n, hn⟩ : ∃ n : Nat, (n : Int) = min (max k 0) 64 := ⟨(min (max k 0) 64).toNat, by omega⟩
  obtain ⟨m, hm⟩ : ∃ m : Int, m = max k 0 := ⟨_, rfl⟩
  have hm1 : (if k < 0 then (0 : Int) else k) = m := by rw [hm]; split <;> omega
  have hm2 : (if (64 : Int) < m then (64 : Int) else m) = (n : Int) := by rw [hn, hm]; split <;> omega
  have HM := Lib.hid (show min k.toNat 64 = n by omega)
  have H64 := Lib.hid (show n ≤ 64 by omega)
  have HX := Lib.hid (torn_len HO.out HN.out k)
  have HTt := Lib.hid (torn_take (old := old) HN.out k n HM.out)
  have HTd := Lib.hid (torn_drop (old := old) HN.out k n HM.out)
  clear hn hm
  go_enter Try.func6, Try.ntmps6
  go_wp2_with fail
  refine (speaks17_any _).mono ?_
  rintro e w1 ⟨rfl, hb1⟩
  have HA := Lib.hid (show w1.heap[w.heap.size]? = _ from (hb1.block w.heap.size (by simp only [World.size_alloc]; omega)).trans (heap_alloc2_old w _ _))
  have HBx := Lib.hid (show w1.heap[w.heap.size + 1]? = _ from (hb1.block (w.heap.size + 1) (by simp only [World.size_alloc]; omega)).trans (heap_alloc2_new w _ _))
  have HB1 := Lib.hid (show Below w.heap.size w w1 from (below2 w _ _).trans (hb1.mono (by simp only [World.size_alloc]; omega)))
  clear hb1
  go_wp2_with fail
  refine (show Calls Try.prog 14 #[.int .i64 1] w1 _ from oNew 1 w1 (by omega) (by omega)).mono ?_
  rintro e w2 ⟨p, rfl, h2, hb2⟩
  have HA2 := Lib.hid ((hb2.block _ (lt_of_heap HA.out)).trans HA.out)
  have HX2 := Lib.hid ((hb2.block _ (lt_of_heap HBx.out)).trans HBx.out)
  have H2 := Lib.hid h2
  have HB2 := Lib.hid hb2
  clear h2 hb2
  go_wp2_with (first | (refine wpList_load_row rfl _ _ rfl w.heap.size rfl 40 _ (0, 0) _ HA2.out Try.underlying40 rfl (sec_info' _ HO.out) ?_))
  refine (show Calls Try.prog 19 #[.pointer (some ⟨p, 0, none⟩), .int .i64 0, secv old] w2 _ from oWrite w1.heap.size p (Dk.new 1) 0 old w2 HO.out (by decide) H2.out).mono ?_
  rintro e w3 ⟨rfl, h3, hb3⟩
  rw [show (Dk.new 1).write 0 old = ((Dk.new 1).put 0 old, 0) from Dk.write_up (j := 0) rfl rfl (by decide)] at h3 ⊢
  have H3 := Lib.hid h3
  have HB3 := Lib.hid (HB2.out.trans hb3)
  clear h3 hb3
  go_wp2_with fail
  refine (oSync w1.heap.size p _ w3 (by show 1 ≤ 1000000; omega) H3.out).mono ?_
  rintro e w4 ⟨rfl, h4, hb4⟩
  rw [Dk.sync_up rfl] at h4 ⊢
  have H4 := Lib.hid h4
  have HB4 := Lib.hid (HB3.out.trans hb4)
  have HX4 := Lib.hid ((HB4.out.block _ (lt_of_heap HBx.out)).trans HBx.out)
  clear h4 hb4
  go_wp2_with (first | (refine wpList_load_row rfl _ _ rfl (w.heap.size + 1) rfl 40 _ (0, 0) _ HX4.out Try.underlying40 rfl (sec_info' _ HN.out) ?_))
  refine (show Calls Try.prog 19 #[.pointer (some ⟨p, 0, none⟩), .int .i64 0, secv neu] w4 _ from oWrite w1.heap.size p _ 0 neu w4 HN.out (by show 0 ≤ 100000; omega) H4.out).mono ?_
  rintro e w5 ⟨rfl, h5, hb5⟩
  obtain ⟨D4, hD4⟩ : ∃ D4 : Dk, D4 = { ((Dk.new 1).put 0 old) with good := ((Dk.new 1).put 0 old).now, pend := [] } := ⟨_, rfl⟩
  rw [← hD4] at h5 ⊢
  rw [show D4.write 0 neu = (D4.put 0 neu, 0) from Dk.write_up (j := 0) (by rw [hD4]; rfl) (by rw [hD4]; rfl) (by rw [hD4]; show 0 < 1; omega)] at h5 ⊢
  rw [show D4.put 0 neu = dtD old neu by rw [hD4]; rfl] at h5
  have H5 := Lib.hid h5
  have HB5 := Lib.hid (HB4.out.trans hb5)
  clear h5 hb5 hD4
  have HI := Lib.hid (ins_new w5 [k] 3)
  have H6 := Lib.hid (H5.out.now ((Below.refl _ w5).alloc (Nat.le_refl _) (.cells #[.int .i64 k] 3)))
  have HB6 := Lib.hid (HB5.out.alloc H5.out.2 (.cells #[.int .i64 k] 3))
  go_wp2_with fail
  refine (show Calls Try.prog 23 #[.pointer (some ⟨p, 0, none⟩), .slice (some ⟨w5.heap.size, 0, none⟩) 1 1] (w5.alloc (.cells #[.int .i64 k] 3)) _ from oCrash w1.heap.size p w5.heap.size (dtD old neu) (some ⟨w5.heap.size, 0, none⟩) 1 [k] _ (by show 1 ≤ 1000000; omega) (by show 1 ≤ 1000000; omega) HI.out H6.out (Nat.le_trans H5.out.2 (by simp)) (fun a ha => by injection ha with ha; subst ha; exact .inr (Nat.le_refl _))).mono ?_
  rintro e w7 ⟨⟨v7, rfl⟩, h7, hb7⟩
  have H7 := Lib.hid h7
  have HB7 := Lib.hid (HB6.out.trans hb7)
  clear h7 hb7 HI H6 HB6
  go_wp2_with fail
  refine (show Calls Try.prog 22 #[.pointer (some ⟨p, 0, none⟩), .int .i64 0] w7 _ from oRead w1.heap.size p _ 0 w7 H7.out).mono ?_
  rintro e w8 ⟨rfl, hb8⟩
  rw [dtD_read, dtD_err]
  generalize torn old neu k = x at *
  have H8 := Lib.hid (H7.out.below hb8)
  have HB8 := Lib.hid (HB7.out.trans (hb8.mono H7.out.2))
  clear hb8
  go_upto_region 10 with (first
    | (refine wpList_alloc_row rfl _ rfl (secv zs) (bc zs).toArray sec_zero rfl ?_)
    | (refine wpList_store_row rfl _ _ _ rfl _ (bc x).toArray rfl rfl 40 (bc zs).toArray (heap_alloc_new _ _) (sec_info' _ HX.out) (by rw [bc_size, bc_size, HX.out]; rfl) (bc_all _) ?_
       rw [World.setRow_alloc_new]))
  generalize hw9 : World.alloc w8 _ = w9
  have HR9 := Lib.hid (show w9.heap[w8.heap.size]? = some (.cells (bc x).toArray 40 (0, 0)) by rw [← hw9]; exact heap_alloc_new _ _)
  have H9 := Lib.hid (show Own w1.heap.size w9 p ((dtD old neu).crash [k]) by rw [← hw9]; exact H8.out.alloc _)
  have HB9 := Lib.hid (show Below w1.heap.size w1 w9 by rw [← hw9]; exact HB8.out.alloc H8.out.2 _)
  have HD9 := Lib.hid (show Dsk (World.drew w9) p (fun k => w1.heap.size ≤ k ∧ k < w8.heap.size) ((dtD old neu).crash [k]) by rw [← hw9]; exact (H8.out.now ((Below.refl _ w8).alloc (Nat.le_refl _) _)).below (below_drew (Below.refl _ _)))
  have HA9 := Lib.hid ((HB9.out.block _ (lt_of_heap HA.out)).trans HA.out)
  have HX9 := Lib.hid ((HB9.out.block _ (lt_of_heap HBx.out)).trans HBx.out)
  clear hw9 hm1 hm2
  obtain ⟨sa, hsa⟩ : ∃ sa : ByteArray, sa = ⟨(neu.take n).toArray⟩ := ⟨_, rfl⟩
  obtain ⟨sb, hsb⟩ : ∃ sb : ByteArray, sb = ⟨(old.drop n).toArray⟩ := ⟨_, rfl⟩
  have HSA := Lib.hid hsa
  have HSB := Lib.hid hsb
  clear hsa hsb
  refine wp_region_held_drew (S := fun W => Kp (fun k => w1.heap.size ≤ k ∧ k < w8.heap.size) w9 W) (by kernel_rfl) (Kp.drew (Kp.refl _ _)) (fun hHeld => ?_)
  refine wpAnyH_take (i := 0) (oi := ⟨_, _, _, _, _, _⟩) (v := ?_) rfl (by kernel_rfl) (by kernel_rfl) (by kernel_rfl) (fun _ _ _ h => h) (Or.inl ⟨by kernel_rfl, ?_⟩) hHeld ?_
  rotate_left 1
  · intro W hW; first | (go_simp; done) | (go_simp; with_reducible rfl)
  try simp only [Act.put, List.setIfInBounds_toArray, List.set_cons_zero, List.set_cons_succ]
  refine wpAnyH_take (i := 1) (oi := ⟨_, _, _, _, _, _⟩) (v := ?_) rfl (by kernel_rfl) (by kernel_rfl) (by kernel_rfl) (fun _ _ _ h => h) (Or.inl ⟨by kernel_rfl, ?_⟩) hHeld ?_
  rotate_left 1
  · intro W hW; first | (go_simp; done) | (go_simp; with_reducible rfl)
  try simp only [Act.put, List.setIfInBounds_toArray, List.set_cons_zero, List.set_cons_succ]
  refine wpAnyH_take (i := 2) (oi := ⟨_, _, _, _, _, _⟩) (v := ?_) rfl (by kernel_rfl) (by kernel_rfl) (by kernel_rfl) (fun _ _ _ h => h) (Or.inl ⟨by kernel_rfl, ?_⟩) hHeld ?_
  rotate_left 1
  · intro W hW; first | (go_simp; done) | (go_simp; with_reducible rfl)
  try simp only [Act.put, List.setIfInBounds_toArray, List.set_cons_zero, List.set_cons_succ]
  refine wpAnyH_take (i := 3) (oi := ⟨_, _, _, _, _, _⟩) (v := ?_) rfl (by kernel_rfl) (by kernel_rfl) (by kernel_rfl) (fun _ _ _ h => h) (Or.inl ⟨by kernel_rfl, ?_⟩) hHeld ?_
  rotate_left 1
  · intro W hW; first | (go_simp; done) | (go_simp; with_reducible rfl)
  try simp only [Act.put, List.setIfInBounds_toArray, List.set_cons_zero, List.set_cons_succ]
  refine wpAnyH_take (i := 4) (oi := ⟨_, _, _, _, _, _⟩) (v := ?_) rfl (by kernel_rfl) (by kernel_rfl) (by kernel_rfl) (fun _ _ _ h => h) (Or.inl ⟨by kernel_rfl, ?_⟩) hHeld ?_
  rotate_left 1
  · intro W hW; have k0 :=  sec_front w8.heap.size 0 n H64.out W; first | (go_simp; done) | (go_simp; with_reducible rfl)
  try simp only [Act.put, List.setIfInBounds_toArray, List.set_cons_zero, List.set_cons_succ]
  refine wpAnyH_take (i := 5) (oi := ⟨_, _, _, _, _, _⟩) (v := ?_) rfl (by kernel_rfl) (by kernel_rfl) (by kernel_rfl) (fun _ _ _ h => h) (Or.inl ⟨by kernel_rfl, ?_⟩) hHeld ?_
  rotate_left 1
  · intro W hW; have k0 :=  run_str (c := 64) (n := n) (bts_front (n := n) ((hW.block _ (lt_of_heap HR9.out) (fun x => Nat.lt_irrefl _ x.2)).trans HR9.out)) (by rw [List.length_take, HX.out]; have := H64.out; omega) (sa := sa) (by rw [HTt.out]; exact HSA.out); first | (go_simp; done) | (go_simp; with_reducible rfl)
  try simp only [Act.put, List.setIfInBounds_toArray, List.set_cons_zero, List.set_cons_succ]
  refine wpAnyH_take (i := 6) (oi := ⟨_, _, _, _, _, _⟩) (v := ?_) rfl (by kernel_rfl) (by kernel_rfl) (by kernel_rfl) (fun _ _ _ h => h) (Or.inl ⟨by kernel_rfl, ?_⟩) hHeld ?_
  rotate_left 1
  · intro W hW; first | (go_simp; done) | (go_simp; with_reducible rfl)
  try simp only [Act.put, List.setIfInBounds_toArray, List.set_cons_zero, List.set_cons_succ]
  refine wpAnyH_take (i := 7) (oi := ⟨_, _, _, _, _, _⟩) (v := ?_) rfl (by kernel_rfl) (by kernel_rfl) (by kernel_rfl) (fun _ _ _ h => h) (Or.inl ⟨by kernel_rfl, ?_⟩) hHeld ?_
  rotate_left 1
  · intro W hW; have k0 :=  sec_front (w.heap.size + 1) 0 n H64.out W; first | (go_simp; done) | (go_simp; with_reducible rfl)
  try simp only [Act.put, List.setIfInBounds_toArray, List.set_cons_zero, List.set_cons_succ]
  refine wpAnyH_take (i := 8) (oi := ⟨_, _, _, _, _, _⟩) (v := ?_) rfl (by kernel_rfl) (by kernel_rfl) (by kernel_rfl) (fun _ _ _ h => h) (Or.inl ⟨by kernel_rfl, ?_⟩) hHeld ?_
  rotate_left 1
  · intro W hW; have k0 :=  run_str (c := 64) (n := n) (bts_front (n := n) ((hW.block _ (lt_of_heap HX9.out) (fun x => by have := lt_of_heap HBx.out; have := x.1; omega)).trans HX9.out)) (by rw [List.length_take, HN.out]; have := H64.out; omega) HSA.out; first | (go_simp; done) | (go_simp; with_reducible rfl)
  try simp only [Act.put, List.setIfInBounds_toArray, List.set_cons_zero, List.set_cons_succ]
  refine wpAnyH_take (i := 9) (oi := ⟨_, _, _, _, _, _⟩) (v := ?_) rfl (by kernel_rfl) (by kernel_rfl) (by kernel_rfl) (fun _ _ _ h => h) (Or.inl ⟨by kernel_rfl, ?_⟩) hHeld ?_
  rotate_left 1
  · intro W hW; first | (go_simp; done) | (go_simp; with_reducible rfl)
  try simp only [Act.put, List.setIfInBounds_toArray, List.set_cons_zero, List.set_cons_succ]
  refine wpAnyH_take (i := 10) (oi := ⟨_, _, _, _, _, _⟩) (v := ?_) rfl (by kernel_rfl) (by kernel_rfl) (by kernel_rfl) (fun _ _ _ h => h) (Or.inl ⟨by kernel_rfl, ?_⟩) hHeld ?_
  rotate_left 1
  · intro W hW; first | (go_simp; done) | (go_simp; with_reducible rfl)
  try simp only [Act.put, List.setIfInBounds_toArray, List.set_cons_zero, List.set_cons_succ]
  refine wpAnyH_take (i := 11) (oi := ⟨_, _, _, _, _, _⟩) (v := ?_) rfl (by kernel_rfl) (by kernel_rfl) (by kernel_rfl) (fun _ _ _ h => h) (Or.inl ⟨by kernel_rfl, ?_⟩) hHeld ?_
  rotate_left 1
  · intro W hW; first | (go_simp; done) | (go_simp; with_reducible rfl)
  try simp only [Act.put, List.setIfInBounds_toArray, List.set_cons_zero, List.set_cons_succ]
  refine wpAnyH_take (i := 12) (oi := ⟨_, _, _, _, _, _⟩) (v := ?_) rfl (by kernel_rfl) (by kernel_rfl) (by kernel_rfl) (fun _ _ _ h => h) (Or.inl ⟨by kernel_rfl, ?_⟩) hHeld ?_
  rotate_left 1
  · intro W hW; first | (go_simp; done) | (go_simp; with_reducible rfl)
  try simp only [Act.put, List.setIfInBounds_toArray, List.set_cons_zero, List.set_cons_succ]
  refine wpAnyH_take (i := 13) (oi := ⟨_, _, _, _, _, _⟩) (v := ?_) rfl (by kernel_rfl) (by kernel_rfl) (by kernel_rfl) (fun _ _ _ h => h) (Or.inl ⟨by kernel_rfl, ?_⟩) hHeld ?_
  rotate_left 1
  · intro W hW; have k0 :=  sec_back w8.heap.size n H64.out W; first | (go_simp; done) | (go_simp; with_reducible rfl)
  try simp only [Act.put, List.setIfInBounds_toArray, List.set_cons_zero, List.set_cons_succ]
  refine wpAnyH_take (i := 14) (oi := ⟨_, _, _, _, _, _⟩) (v := ?_) rfl (by kernel_rfl) (by kernel_rfl) (by kernel_rfl) (fun _ _ _ h => h) (Or.inl ⟨by kernel_rfl, ?_⟩) hHeld ?_
  rotate_left 1
  · intro W hW; have k0 :=  run_str (c := 64 - n) (n := 64 - n) (bts_back (n := n) HX.out ((hW.block _ (lt_of_heap HR9.out) (fun x => Nat.lt_irrefl _ x.2)).trans HR9.out)) (by rw [List.length_drop, HX.out]) (sa := sb) (by rw [HTd.out]; exact HSB.out); first | (go_simp; done) | (go_simp; with_reducible rfl)
  try simp only [Act.put, List.setIfInBounds_toArray, List.set_cons_zero, List.set_cons_succ]
  refine wpAnyH_take (i := 15) (oi := ⟨_, _, _, _, _, _⟩) (v := ?_) rfl (by kernel_rfl) (by kernel_rfl) (by kernel_rfl) (fun _ _ _ h => h) (Or.inl ⟨by kernel_rfl, ?_⟩) hHeld ?_
  rotate_left 1
  · intro W hW; first | (go_simp; done) | (go_simp; with_reducible rfl)
  try simp only [Act.put, List.setIfInBounds_toArray, List.set_cons_zero, List.set_cons_succ]
  refine wpAnyH_take (i := 16) (oi := ⟨_, _, _, _, _, _⟩) (v := ?_) rfl (by kernel_rfl) (by kernel_rfl) (by kernel_rfl) (fun _ _ _ h => h) (Or.inl ⟨by kernel_rfl, ?_⟩) hHeld ?_
  rotate_left 1
  · intro W hW; have k0 :=  sec_back w.heap.size n H64.out W; first | (go_simp; done) | (go_simp; with_reducible rfl)
  try simp only [Act.put, List.setIfInBounds_toArray, List.set_cons_zero, List.set_cons_succ]
  refine wpAnyH_take (i := 17) (oi := ⟨_, _, _, _, _, _⟩) (v := ?_) rfl (by kernel_rfl) (by kernel_rfl) (by kernel_rfl) (fun _ _ _ h => h) (Or.inl ⟨by kernel_rfl, ?_⟩) hHeld ?_
  rotate_left 1
  · intro W hW; have k0 :=  run_str (c := 64 - n) (n := 64 - n) (bts_back (n := n) HO.out ((hW.block _ (lt_of_heap HA9.out) (fun x => by have := lt_of_heap HA.out; have := x.1; omega)).trans HA9.out)) (by rw [List.length_drop, HO.out]) HSB.out; first | (go_simp; done) | (go_simp; with_reducible rfl)
  try simp only [Act.put, List.setIfInBounds_toArray, List.set_cons_zero, List.set_cons_succ]
  refine wpAnyH_take (i := 18) (oi := ⟨_, _, _, _, _, _⟩) (v := ?_) rfl (by kernel_rfl) (by kernel_rfl) (by kernel_rfl) (fun _ _ _ h => h) (Or.inl ⟨by kernel_rfl, ?_⟩) hHeld ?_
  rotate_left 1
  · intro W hW; first | (go_simp; done) | (go_simp; with_reducible rfl)
  try simp only [Act.put, List.setIfInBounds_toArray, List.set_cons_zero, List.set_cons_succ]
  refine wpAnyH_take (i := 19) (oi := ⟨_, _, _, _, _, _⟩) (v := ?_) rfl (by kernel_rfl) (by kernel_rfl) (by kernel_rfl) (fun _ _ _ h => h) (Or.inl ⟨by kernel_rfl, ?_⟩) hHeld ?_
  rotate_left 1
  · intro W hW; first | (go_simp; done) | (go_simp; with_reducible rfl)
  try simp only [Act.put, List.setIfInBounds_toArray, List.set_cons_zero, List.set_cons_succ]
  refine wpAnyH_take (i := 20) (oi := ⟨_, _, _, _, _, _⟩) (v := ?_) rfl (by kernel_rfl) (by kernel_rfl) (by kernel_rfl) (fun _ _ _ h => h) (Or.inl ⟨by kernel_rfl, ?_⟩) hHeld ?_
  rotate_left 1
  · intro W hW; first | (go_simp; done) | (go_simp; with_reducible rfl)
  try simp only [Act.put, List.setIfInBounds_toArray, List.set_cons_zero, List.set_cons_succ]
  refine wpAnyH_take (i := 21) (oi := ⟨_, _, _, _, _, _⟩) (v := ?_) rfl (by kernel_rfl) (by kernel_rfl) (by kernel_rfl) (fun _ _ _ h => h) (Or.inl ⟨by kernel_rfl, ?_⟩) hHeld ?_
  rotate_left 1
  · intro W hW; first | (go_simp; done) | (go_simp; with_reducible rfl)
  try simp only [Act.put, List.setIfInBounds_toArray, List.set_cons_zero, List.set_cons_succ]
  refine wpAnyH_ready (rs := [22]) (by kernel_rfl) (by simp) ?_
  refine AllReadyH.cons rfl (fun K hK => ?_) AllReadyH.nil
  rw [if_pos (by kernel_rfl)]
  go_simp
  refine (dSync_any p _ _ _ (by show 0 ≤ 1000000; omega) HD9.out).mono ?_
  rintro e wv ⟨rfl, _, hkv⟩
  rw [Dk.sync_up rfl]
  go_wp2_with fail
  refine hK.out _ _ ?_ (fun hHelda => ?_)
  · exact hHeld.trans hkv (fun _ _ x => x)
  clear hK K
  try simp only [Act.put, List.setIfInBounds_toArray, List.set_cons_zero, List.set_cons_succ]
  clear hkv
  refine wpAnyH_take (i := 23) (oi := ⟨_, _, _, _, _, _⟩) (v := ?_) rfl (by kernel_rfl) (by kernel_rfl) (by kernel_rfl) (fun _ _ _ h => h) (Or.inl ⟨by kernel_rfl, ?_⟩) hHelda ?_
  rotate_left 1
  · intro W hW; first | (go_simp; done) | (go_simp; with_reducible rfl)
  try simp only [Act.put, List.setIfInBounds_toArray, List.set_cons_zero, List.set_cons_succ]
  refine wpAnyH_take (i := 24) (oi := ⟨_, _, _, _, _, _⟩) (v := ?_) rfl (by kernel_rfl) (by kernel_rfl) (by kernel_rfl) (fun _ _ _ h => h) (Or.inl ⟨by kernel_rfl, ?_⟩) hHelda ?_
  rotate_left 1
  · intro W hW; first | (go_simp; done) | (go_simp; with_reducible rfl)
  try simp only [Act.put, List.setIfInBounds_toArray, List.set_cons_zero, List.set_cons_succ]
  refine wpAnyH_take (i := 25) (oi := ⟨_, _, _, _, _, _⟩) (v := ?_) rfl (by kernel_rfl) (by kernel_rfl) (by kernel_rfl) (fun _ _ _ h => h) (Or.inl ⟨by kernel_rfl, ?_⟩) hHelda ?_
  rotate_left 1
  · intro W hW; first | (go_simp; done) | (go_simp; with_reducible rfl)
  try simp only [Act.put, List.setIfInBounds_toArray, List.set_cons_zero, List.set_cons_succ]
  refine wpAnyH_done (by kernel_rfl) ?_ _
  have HKz := Lib.hid hHelda
  clear hHelda
  go_wp2_with fail
  go_ret
  exact ⟨rfl, HB1.out.trans ((HB9.out.trans (HKz.out.below H9.out.2 (fun i hi x => by have := x.1; omega))).mono HB1.out.size)⟩

end Go.Proofs.Ytmgkbgjchcekpaa
