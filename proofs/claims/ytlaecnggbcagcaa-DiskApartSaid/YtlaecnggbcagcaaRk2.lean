/- Contracts of package moietyref17: New, Break, Read. -/
import Derived.Test.YtlaecnggbcagcaaRk1
namespace Go.Proofs.Ytlaecnggbcagcaa
open Go.RowKit MM
set_option linter.unusedVariables false
set_option linter.unusedSimpArgs false

abbrev rkC (F N A H : Value) (d : Dk) : Array Value := #[F, N, A, H, .int .i64 d.left, .bool d.down, .int .i64 d.writes]
theorem new_rsk (w0 : World) (m ga gb : Nat) (hm : m ≤ 4096) (hab : ga = w0.heap.size ∧ gb = w0.heap.size + 1 ∨ ga = w0.heap.size + 1 ∧ gb = w0.heap.size) :
    RkAt (((w0.alloc (secO m)).alloc (secO m)).alloc (.cells (rkC (.slice (some ⟨ga, 0, none⟩) m m) (.slice (some ⟨gb, 0, none⟩) m m) (.slice none 0 0) (.slice none 0 0) (Dk.new m)) 88)) (w0.heap.size + 1 + 1) (.slice (some ⟨ga, 0, none⟩) m m) (.slice (some ⟨gb, 0, none⟩) m m) (.slice none 0 0) (.slice none 0 0) (Dk.new m) := by
  have hg : ∀ X : Obj, ∀ g, g = w0.heap.size ∨ g = w0.heap.size + 1 → (((w0.alloc (secO m)).alloc (secO m)).alloc X).ownsRow 0 40 64 (.slice (some ⟨g, 0, none⟩) m m) m (secR (List.replicate m zs)).flatten := by
    intro X g h
    rcases h with rfl | rfl
    · exact ((own_made w0 m hm).alloc _).alloc X
    · have := (own_made (w0.alloc (secO m)) m hm).alloc X
      rw [World.size_alloc] at this
      exact this
  have hl : (List.replicate m zs).length = m := List.length_replicate ..
  refine ⟨heap_new _ _ _ (by simp only [World.size_alloc]), ?_, ?_, World.ownsRow_nil _ _ _ _, World.ownsRow_nil _ _ _ _, fun k e => ⟨fun e2 => ?_, (fun e2 => by cases e2), (fun e2 => by cases e2), ?_⟩, fun k e => ⟨(fun e2 => by cases e2), (fun e2 => by cases e2), ?_⟩, fun k e => (by cases e), fun k e => (by cases e)⟩
  · show World.ownsRow _ 0 40 64 _ (List.replicate m zs).length (secR (List.replicate m zs)).flatten
    rw [hl]; exact hg _ ga (by omega)
  · show World.ownsRow _ 0 40 64 _ (List.replicate m zs).length (secR (List.replicate m zs)).flatten
    rw [hl]; exact hg _ gb (by omega)
  · injection e with e; injection e2 with e2; simp only at e e2; omega
  · injection e with e; simp only at e; omega
  · injection e with e; simp only at e; omega

set_option maxHeartbeats 4000000 in
set_option maxRecDepth 100000 in
theorem rNew_any (m : Nat) (w : World) (h1 : 0 < m) (h2 : m ≤ 4096) : Calls Try.prog 19 #[.int .i64 (m : Int)] w fun e w' => ∃ q, e = .returned (.pointer (some ⟨q, 0, none⟩)) ∧ Rsk w' q (fun k => w.heap.size ≤ k) (Dk.new m) ∧ Below w.heap.size w w' := by
  have HM := Lib.hid (show 0 < m ∧ m ≤ 4096 from ⟨h1, h2⟩)
  obtain ⟨i0, hi0, hz0, hz1, hz2⟩ := info_parts sec_info3
  have HI := Lib.hid (And.intro hz1 hz2)
  clear h1 h2
  go_enter Try.func19, Try.ntmps19
  go_upto_region 1 with fail
  refine wp_region_held_drew (S := fun W => Below w.heap.size w W) (by kernel_rfl) (below_drew (Below.refl _ _)) (fun hHeld => ?_)
  have HW0 := Lib.hid (show (World.drew w).heap.size = w.heap.size from rfl)
  generalize World.drew w = w0 at *
  refine wpAnyH_take (i := 0) (oi := ⟨_, _, _, _, _, _⟩) (v := ?_) rfl (by kernel_rfl) (by kernel_rfl) (by kernel_rfl) (fun _ _ _ h => h) (Or.inl ⟨by kernel_rfl, ?_⟩) hHeld ?_
  rotate_left 1
  · intro W hW; first | (go_simp; done) | (go_simp; with_reducible rfl)
  try simp only [Act.put, List.setIfInBounds_toArray, List.set_cons_zero, List.set_cons_succ]
  refine wpAnyH_take (i := 2) (oi := ⟨_, _, _, _, _, _⟩) (v := ?_) rfl (by kernel_rfl) (by kernel_rfl) (by kernel_rfl) (fun _ _ _ h => h) (Or.inl ⟨by kernel_rfl, ?_⟩) hHeld ?_
  rotate_left 1
  · intro W hW; first | (go_simp; done) | (go_simp; with_reducible rfl)
  try simp only [Act.put, List.setIfInBounds_toArray, List.set_cons_zero, List.set_cons_succ]
  refine wpAnyH_ready (rs := [1, 3]) (by kernel_rfl) (by simp) ?_
  refine AllReadyH.cons rfl (fun K hK => ?_) (AllReadyH.cons rfl (fun K hK => ?_) AllReadyH.nil)
  · rw [if_pos (by kernel_rfl)]
    refine wp_make 63 40 (.tmp 3) rfl i0 (secv zs) Try.underlying63 hi0 hz0 m (by kernel_rfl) (by have := HM.out; have := HI.out.2; rw [this]; omega) (by have := HM.out; omega) ?_
    rw [HI.out.1, made_secs]
    refine hK.out _ _ ?_ (fun hHelda => ?_)
    · exact hHeld.alloc hHeld.size _
    clear hK K
    try simp only [Act.put, List.setIfInBounds_toArray, List.set_cons_zero, List.set_cons_succ]
    refine wpAnyH_ready (rs := [3]) (by kernel_rfl) (by simp) ?_
    refine AllReadyH.cons rfl (fun K hK => ?_) AllReadyH.nil
    rw [if_pos (by kernel_rfl)]
    refine wp_make 63 40 (.tmp 5) rfl i0 (secv zs) Try.underlying63 hi0 hz0 m (by kernel_rfl) (by have := HM.out; have := HI.out.2; rw [this]; omega) (by have := HM.out; omega) ?_
    rw [HI.out.1, made_secs]
    refine hK.out _ _ ?_ (fun hHeldaa => ?_)
    · exact hHelda.alloc hHelda.size _
    clear hK K
    try simp only [Act.put, List.setIfInBounds_toArray, List.set_cons_zero, List.set_cons_succ]
    refine wpAnyH_take (i := 4) (oi := ⟨_, _, _, _, _, _⟩) (v := ?_) rfl (by kernel_rfl) (by kernel_rfl) (by kernel_rfl) (fun _ _ _ h => h) (Or.inl ⟨by kernel_rfl, ?_⟩) hHeldaa ?_
    rotate_left 1
    · intro W hW; first | (go_simp; done) | (go_simp; with_reducible rfl)
    try simp only [Act.put, List.setIfInBounds_toArray, List.set_cons_zero, List.set_cons_succ]
    refine wpAnyH_ready (rs := [5]) (by kernel_rfl) (by simp) ?_
    refine AllReadyH.cons rfl (fun K hK => ?_) AllReadyH.nil
    rw [if_pos (by kernel_rfl)]
    go_simp
    refine hK.out _ _ ?_ (fun hHeldaaa => ?_)
    · exact hHeldaa.alloc hHeldaa.size _
    clear hK K
    try simp only [Act.put, List.setIfInBounds_toArray, List.set_cons_zero, List.set_cons_succ]
    refine wpAnyH_take (i := 6) (oi := ⟨_, _, _, _, _, _⟩) (v := ?_) rfl (by kernel_rfl) (by kernel_rfl) (by kernel_rfl) (fun _ _ _ h => h) (Or.inl ⟨by kernel_rfl, ?_⟩) hHeldaaa ?_
    rotate_left 1
    · intro W hW; first | (go_simp; done) | (go_simp; with_reducible rfl)
    try simp only [Act.put, List.setIfInBounds_toArray, List.set_cons_zero, List.set_cons_succ]
    refine wpAnyH_done (by kernel_rfl) ?_ _
    have HB := Lib.hid hHeldaaa
    clear hHeldaaa
    go_wp2_with fail
    go_ret
    refine ⟨_, rfl, ⟨_, _, _, _, new_rsk w0 m _ _ HM.out.2 (by omega), fun k hk => ?_, new_ok HM.out.1 HM.out.2⟩, HB.out⟩
    have hw0 := HW0.out
    rcases hk with e | e | e | e | e
    · omega
    · injection e with e; simp only at e; omega
    · injection e with e; simp only at e; omega
    · cases e
    · cases e
  · rw [if_pos (by kernel_rfl)]
    refine wp_make 63 40 (.tmp 5) rfl i0 (secv zs) Try.underlying63 hi0 hz0 m (by kernel_rfl) (by have := HM.out; have := HI.out.2; rw [this]; omega) (by have := HM.out; omega) ?_
    rw [HI.out.1, made_secs]
    refine hK.out _ _ ?_ (fun hHelda => ?_)
    · exact hHeld.alloc hHeld.size _
    clear hK K
    try simp only [Act.put, List.setIfInBounds_toArray, List.set_cons_zero, List.set_cons_succ]
    refine wpAnyH_ready (rs := [1]) (by kernel_rfl) (by simp) ?_
    refine AllReadyH.cons rfl (fun K hK => ?_) AllReadyH.nil
    rw [if_pos (by kernel_rfl)]
    refine wp_make 63 40 (.tmp 3) rfl i0 (secv zs) Try.underlying63 hi0 hz0 m (by kernel_rfl) (by have := HM.out; have := HI.out.2; rw [this]; omega) (by have := HM.out; omega) ?_
    rw [HI.out.1, made_secs]
    refine hK.out _ _ ?_ (fun hHeldaa => ?_)
    · exact hHelda.alloc hHelda.size _
    clear hK K
    try simp only [Act.put, List.setIfInBounds_toArray, List.set_cons_zero, List.set_cons_succ]
    refine wpAnyH_take (i := 4) (oi := ⟨_, _, _, _, _, _⟩) (v := ?_) rfl (by kernel_rfl) (by kernel_rfl) (by kernel_rfl) (fun _ _ _ h => h) (Or.inl ⟨by kernel_rfl, ?_⟩) hHeldaa ?_
    rotate_left 1
    · intro W hW; first | (go_simp; done) | (go_simp; with_reducible rfl)
    try simp only [Act.put, List.setIfInBounds_toArray, List.set_cons_zero, List.set_cons_succ]
    refine wpAnyH_ready (rs := [5]) (by kernel_rfl) (by simp) ?_
    refine AllReadyH.cons rfl (fun K hK => ?_) AllReadyH.nil
    rw [if_pos (by kernel_rfl)]
    go_simp
    refine hK.out _ _ ?_ (fun hHeldaaa => ?_)
    · exact hHeldaa.alloc hHeldaa.size _
    clear hK K
    try simp only [Act.put, List.setIfInBounds_toArray, List.set_cons_zero, List.set_cons_succ]
    refine wpAnyH_take (i := 6) (oi := ⟨_, _, _, _, _, _⟩) (v := ?_) rfl (by kernel_rfl) (by kernel_rfl) (by kernel_rfl) (fun _ _ _ h => h) (Or.inl ⟨by kernel_rfl, ?_⟩) hHeldaaa ?_
    rotate_left 1
    · intro W hW; first | (go_simp; done) | (go_simp; with_reducible rfl)
    try simp only [Act.put, List.setIfInBounds_toArray, List.set_cons_zero, List.set_cons_succ]
    refine wpAnyH_done (by kernel_rfl) ?_ _
    have HB := Lib.hid hHeldaaa
    clear hHeldaaa
    go_wp2_with fail
    go_ret
    refine ⟨_, rfl, ⟨_, _, _, _, new_rsk w0 m _ _ HM.out.2 (by omega), fun k hk => ?_, new_ok HM.out.1 HM.out.2⟩, HB.out⟩
    have hw0 := HW0.out
    rcases hk with e | e | e | e | e
    · omega
    · injection e with e; simp only at e; omega
    · injection e with e; simp only at e; omega
    · cases e
    · cases e

theorem brk_at {w : World} {q : Nat} {F N A H : Value} {d : Dk} {n : Int} (hm : ((n.toNat : Nat) : Int) = n) (h : RkAt w q F N A H d) : RkAt (w.setCell ⟨q, 4, none⟩ (.int .i64 n)) q F N A H (d.brk n) := by
  have h2 := h.updL n
  show RkG _ q F N A H ((n.toNat : Nat) : Int) d.down d.writes d.good d.now (atV d.pend) (whL d.pend)
  rw [hm]
  exact h2
theorem brk_at0 {w : World} {q : Nat} {F N A H : Value} {d : Dk} {n : Int} (hm : n.toNat = 0) (h : RkAt w q F N A H d) : RkAt ((w.setCell ⟨q, 4, none⟩ (.int .i64 n)).setCell ⟨q, 4, none⟩ (.int .i64 0)) q F N A H (d.brk n) := by
  have h2 := (h.updL n).updL 0
  show RkG _ q F N A H ((n.toNat : Nat) : Int) d.down d.writes d.good d.now (atV d.pend) (whL d.pend)
  rw [hm]
  exact h2

set_option maxRecDepth 100000 in
theorem rBreak_any (q : Nat) (B : Nat → Prop) (d : Dk) (n : Int) (w : World) (hn : n ≤ 9223372036854775807) (h : Rsk w q B d) :
    Calls Try.prog 54 #[.pointer (some ⟨q, 0, none⟩), .int .i64 n] w fun e w' => (∃ v, e = .returned v) ∧ RkPost q B (d.brk n) w w' := by
  obtain ⟨F, N, A, W, h, hB, hok⟩ := h
  have HA := Lib.hid h
  have f := h.fr 4
  have b4 := h.c4
  have HX := Lib.hid (show (w.setCell ⟨q, 4, none⟩ (.int .i64 n)).heap[q]? = some (.cells ((#[F, N, A, W, .int .i64 d.left, .bool d.down, .int .i64 d.writes] : Array Value).setIfInBounds 4 (.int .i64 n)) 88 (0, 0)) from heap_setCell_same w q 4 _ _ _ h.box)
  have f2 := frozen_of_row _ q 4 _ _ HX.out
  have b42 := cell_of_row _ q 4 _ _ (0, 0) HX.out
  have HO := Lib.hid (show (d.brk n).ok from ⟨hok.secs, hok.nows, hok.len, hok.pos, hok.lim, hok.pend, hok.play, by show n.toNat ≤ 9223372036854775807; omega⟩)
  have HK := Lib.hid (rk_box (w := w) hB 4 (.int .i64 n))
  by_cases h0 : n < 0
  · have H2 := Lib.hid (brk_at0 (n := n) (by omega) h)
    clear h hok HX
    go_enter Try.func54, Try.ntmps54
    go_wp2
    go_end0
    exact ⟨⟨_, rfl⟩, ⟨F, N, A, W, H2.out, fun k hk => .inl (hB k hk), HO.out⟩, HK.out.setCell (.inl (hB q (.inl rfl))) _⟩
  · have hd : decide (n < 0) = false := by simpa using h0
    have hm0 : ((n.toNat : Nat) : Int) = n := by omega
    clear h hok HX
    go_enter Try.func54, Try.ntmps54
    go_wp2
    go_end0
    exact ⟨⟨_, rfl⟩, ⟨F, N, A, W, brk_at hm0 HA.out, fun k hk => .inl (hB k hk), HO.out⟩, HK.out⟩

set_option maxHeartbeats 1000000 in
set_option maxRecDepth 100000 in
theorem rRead_any (q : Nat) (B : Nat → Prop) (d : Dk) (i : Int) (w : World) (h : Rsk w q B d) :
    Calls Try.prog 56 #[.pointer (some ⟨q, 0, none⟩), .int .i64 i] w (ReadPost d i w) := by
  have hok := h.ok
  obtain ⟨F, N, A, H, h, _⟩ := h
  have H1 := Lib.hid (h.alloc (.cells (bc zs).toArray 40))
  have b5 := H1.out.c5
  cases hdn : d.down
  case true =>
    have HE := Lib.hid (show d.err i = 14 by unfold Dk.err; rw [if_pos hdn])
    have HR := Lib.hid (show d.readS i = zs from if_neg (by rw [HE.out]; decide))
    rw [hdn] at b5
    unfold ReadPost
    rw [HR.out, HE.out]
    clear h hok hdn
    go_enter Try.func56, Try.ntmps56
    go_wp2_with (first
      | (refine wpList_alloc_row rfl _ rfl (secv zs) (bc zs).toArray sec_zero rfl ?_)
      | (refine wpList_build_row rfl _ #[] rfl (bc zs).toArray (by kernel_rfl) ?_)
      | (refine wpList_store_row rfl _ _ _ rfl _ (bc zs).toArray rfl rfl 40 (bc zs).toArray (heap_alloc_new _ _) sec_info (by rfl) (bc_all _) ?_
         rw [World.setRow_alloc_new]))
    refine bodyPost_cell_tmp rfl w.heap.size 40 _ _ rfl (heap_alloc_new _ _) Try.underlying40 rfl sec_info rfl ⟨rfl, ?_⟩
    exact (Below.refl w.heap.size w).alloc (Nat.le_refl _) _
  rw [hdn] at b5
  have b1 := H1.out.c1
  obtain ⟨Na, nc, rfl⟩ := own_sl h.now
  by_cases hr : i < 0 ∨ (d.now.length : Int) ≤ i
  · have HE := Lib.hid (show d.err i = 1 by unfold Dk.err; rw [if_neg (by rw [hdn]; decide), if_pos hr])
    have HR := Lib.hid (show d.readS i = zs from if_neg (by rw [HE.out]; decide))
    unfold ReadPost
    rw [HR.out, HE.out]
    clear h hok hdn
    generalize d.now.length = n at *
    by_cases h0 : i < 0
    · have hd : decide (i < 0) = true := by simpa using h0
      clear hr
      go_enter Try.func56, Try.ntmps56
      go_wp2_with (first
        | (refine wpList_alloc_row rfl _ rfl (secv zs) (bc zs).toArray sec_zero rfl ?_)
        | (refine wpList_build_row rfl _ #[] rfl (bc zs).toArray (by kernel_rfl) ?_)
        | (refine wpList_store_row rfl _ _ _ rfl _ (bc zs).toArray rfl rfl 40 (bc zs).toArray (heap_alloc_new _ _) sec_info (by rfl) (bc_all _) ?_
           rw [World.setRow_alloc_new]))
      refine bodyPost_cell_tmp rfl w.heap.size 40 _ _ rfl (heap_alloc_new _ _) Try.underlying40 rfl sec_info rfl ⟨rfl, ?_⟩
      exact (Below.refl w.heap.size w).alloc (Nat.le_refl _) _
    · have hd : decide (i < 0) = false := by simpa using h0
      have hn : (n : Int) ≤ i := by omega
      have hd2 : decide ((n : Int) ≤ i) = true := by simpa using hn
      clear hr
      go_enter Try.func56, Try.ntmps56
      go_wp2_with (first
        | (refine wpList_alloc_row rfl _ rfl (secv zs) (bc zs).toArray sec_zero rfl ?_)
        | (refine wpList_build_row rfl _ #[] rfl (bc zs).toArray (by kernel_rfl) ?_)
        | (refine wpList_store_row rfl _ _ _ rfl _ (bc zs).toArray rfl rfl 40 (bc zs).toArray (heap_alloc_new _ _) sec_info (by rfl) (bc_all _) ?_
           rw [World.setRow_alloc_new]))
      refine bodyPost_cell_tmp rfl w.heap.size 40 _ _ rfl (heap_alloc_new _ _) Try.underlying40 rfl sec_info rfl ⟨rfl, ?_⟩
      exact (Below.refl w.heap.size w).alloc (Nat.le_refl _) _
  · obtain ⟨j, rfl⟩ : ∃ j : Nat, i = (j : Int) := ⟨i.toNat, by omega⟩
    have hj : j < d.now.length := by omega
    obtain ⟨s, hs⟩ : ∃ s, d.now[j]? = some s := ⟨_, List.getElem?_eq_getElem hj⟩
    have hsl := hok.nows s (List.mem_of_getElem? hs)
    have HE := Lib.hid (show d.err (j : Int) = 0 by unfold Dk.err; rw [if_neg (by rw [hdn]; decide), if_neg hr])
    have HR := Lib.hid (show d.readS (j : Int) = s by unfold Dk.readS; rw [if_pos HE.out, Int.toNat_natCast, List.getD_eq_getElem?_getD, hs]; rfl)
    obtain ⟨g, c, hg⟩ := own_at1 h.now (by omega)
    injection hg with hg1 _ hg2
    subst hg1 hg2
    have hR : (secR d.now)[j]? = some (bc s) := by simp [secR, hs]
    have hr2 := own_range h.now (secR_ok hok.nows) (by simp [secR]) hR
    have HRg := Lib.hid (World.rangeAt_alloc hr2 (.cells (bc zs).toArray 40))
    have HSL := Lib.hid hsl
    have hj' : (j : Int) < (d.now.length : Int) := by omega
    have hd : decide ((j : Int) < 0) = false := by simp
    have hd2 : decide ((d.now.length : Int) ≤ (j : Int)) = false := by simp; omega
    clear hr2 hR hs hsl h hr hdn hok
    unfold ReadPost
    rw [HR.out, HE.out]
    generalize d.now.length = n at *
    go_enter Try.func56, Try.ntmps56
    go_wp2_with (first
      | (refine wpList_alloc_row rfl _ rfl (secv zs) (bc zs).toArray sec_zero rfl ?_)
      | (refine wpList_load_mid rfl _ _ rfl g (j * 64) rfl (bc s) _ HRg.out Try.underlying40 rfl (sec_info2 s HSL.out) ?_)
      | (refine wpList_store_row rfl _ _ _ rfl _ (bc s).toArray rfl rfl 40 (bc zs).toArray (heap_alloc_new _ _) (sec_info' s HSL.out) (by rw [bc_size, bc_size, HSL.out]; rfl) (bc_all _) ?_
         rw [World.setRow_alloc_new]))
    refine bodyPost_cell_tmp rfl w.heap.size 40 _ _ rfl (heap_alloc_new _ _) Try.underlying40 rfl (sec_info' s HSL.out) rfl ⟨rfl, ?_⟩
    exact (Below.refl w.heap.size w).alloc (Nat.le_refl _) _

end Go.Proofs.Ytlaecnggbcagcaa
