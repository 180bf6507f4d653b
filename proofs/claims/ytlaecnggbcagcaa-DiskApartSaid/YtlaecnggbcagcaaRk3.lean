/- Contract of package moietyref17: Write. -/
import Derived.Test.YtlaecnggbcagcaaRk2
namespace Go.Proofs.Ytlaecnggbcagcaa
open Go.RowKit MM
set_option linter.unusedVariables false
set_option linter.unusedSimpArgs false

theorem int_info3 : (Try.prog.info? 3).map (fun i => (i.zero, i.size, i.bytes)) = some (some (.int .i64 0), 1, 8) := by kernel_rfl
theorem sec_infoZ : (Try.prog.info? 40).map (fun i => (i.zero, i.size)) = some (some (secv zs), 64) := by kernel_rfl
def RWritePost (q : Nat) (B : Nat → Prop) (r : Dk × Nat) (w : World) (e : Ending) (w' : World) : Prop := e = .returned (.int .i64 (r.2 : Nat)) ∧ RkPost q B r.1 w w'
theorem RWritePost.mk {q : Nat} {B : Nat → Prop} {r : Dk × Nat} {d : Dk} {m : Nat} {w w' : World} {e : Ending} (hr : r = (d, m)) (he : e = .returned (.int .i64 (m : Nat))) (hD : RkPost q B d w w') : RWritePost q B r w e w' := by
  subst hr; exact ⟨he, hD⟩

set_option maxHeartbeats 4000000 in
set_option maxRecDepth 100000 in
theorem rWrite_any (q : Nat) (B : Nat → Prop) (d : Dk) (i : Int) (s : List UInt8) (w : World) (hs : s.length = 64) (hfew : d.pend.length ≤ 100000) (h : Rsk w q B d) :
    Calls Try.prog 52 #[.pointer (some ⟨q, 0, none⟩), .int .i64 i, secv s] w (RWritePost q B (d.write i s) w) := by
  have HSL := Lib.hid hs
  have HFew := Lib.hid hfew
  have hA1 := (Below.refl w.heap.size w).alloc (Nat.le_refl _) (.cells (bc s).toArray 40)
  have HC := Lib.hid (rRead_any q B d i (w.alloc (.cells (bc s).toArray 40)) (h.below hA1))
  have HRL := Lib.hid (show (d.readS i).length = 64 from Dk.readS_len h.ok i)
  clear hA1
  rcases d.err_cases i with h0 | ⟨h0, hdn, j, rfl, hj⟩
  · have HR := Lib.hid (show d.write i s = (d, d.err i) from if_neg h0)
    have HD := Lib.hid h
    have hne : ¬ ((d.err i : Nat) : Int) = 0 := by omega
    rw [HR.out]
    unfold RWritePost
    unfold ReadPost at HC
    generalize d.readS i = x at *
    generalize d.err i = e at *
    clear HR h h0 hs hfew
    go_enter Try.func52, Try.ntmps52
    go_wp2_with (first
      | (go_at_call 56; refine HC.out.mono ?_; rintro e w2 ⟨rfl, hb2⟩; have HB2 := Lib.hid hb2; clear hb2)
      | (refine wpList_alloc_row rfl _ rfl (secv zs) (bc zs).toArray sec_zero rfl ?_)
      | (refine wpList_store_row rfl _ _ _ rfl _ (bc x).toArray rfl rfl 40 (bc zs).toArray (heap_alloc_new _ _) (sec_info' x HRL.out) (by rw [bc_size, bc_size, HRL.out]; rfl) (bc_all x) ?_
         rw [World.setRow_alloc_new]))
    go_ret
    have hb : Below w.heap.size w (w2.alloc (.cells (bc x).toArray 40)) := (((Below.refl w.heap.size w).alloc (Nat.le_refl _) _).trans (HB2.out.mono (by simp))).alloc (by have := HB2.out.size; simp at this; omega) _
    exact ⟨rfl, (HD.out.below hb).mono (fun k _ hk => .inl hk), Kp.of_below hb B⟩
  have hok := h.ok
  have HOK := Lib.hid hok
  have HW := Lib.hid (show d.write (j : Int) s = (d.put j s).wear by unfold Dk.write; rw [if_pos h0, Int.toNat_natCast])
  have HDN := Lib.hid hdn
  obtain ⟨F, N, A, H, h, hB, _⟩ := h
  obtain ⟨g, c, rfl⟩ := own_at1 h.now (by omega)
  obtain ⟨Pa, pc, rfl⟩ := own_sl h.ats
  obtain ⟨Ha, hc, rfl⟩ := own_sl h.what
  rw [atV_len, whL_len] at *
  have HB := Lib.hid hB
  have HS := Lib.hid (heap_alloc_new w (.cells (bc s).toArray 40))
  have H1 := Lib.hid h
  have HZ := Lib.hid (show ¬ q = g ∧ ¬ w.heap.size = g ∧ ¬ w.heap.size = q ∧ (∀ k, ob Pa = some k → k ≠ w.heap.size ∧ k ≠ q) ∧ (∀ k, ob Ha = some k → k ≠ w.heap.size ∧ k ≠ q) from
    ⟨fun e => (h.ns g rfl).2.2 e.symm, fun e => by have := h.lt g (.inr (.inr (.inl rfl))); omega, fun e => by have := lt_of_heap h.box; omega,
     fun k e => ⟨fun x => by have := h.lt k (.inr (.inr (.inr (.inl (by rw [ownBlock_slice]; exact e))))); omega, (h.sa k (by rw [ownBlock_slice]; exact e)).2⟩,
     fun k e => ⟨fun x => by have := h.lt k (.inr (.inr (.inr (.inr (by rw [ownBlock_slice]; exact e))))); omega, h.sh k (by rw [ownBlock_slice]; exact e)⟩⟩)
  have HJ := Lib.hid hj
  have hj' : (j : Int) < (d.now.length : Int) := by omega
  unfold ReadPost at HC
  rw [h0] at HC
  generalize d.readS (j : Int) = x at *
  clear h hB hok h0 hdn hj hs
  have hl := HFew.out
  obtain ⟨i0, hi0, hz0, hz1, hz2⟩ := info_parts int_info3
  obtain ⟨i1, hi1, hy0, hy1, hy2⟩ := info_parts sec_info3
  go_enter Try.func52, Try.ntmps52
  go_upto_region 4 with (first
    | (go_at_call 56; refine HC.out.mono ?_; rintro e w2 ⟨rfl, hb2⟩; have HB2 := Lib.hid hb2; clear hb2)
    | (refine wpList_alloc_row rfl _ rfl (secv zs) (bc zs).toArray sec_zero rfl ?_)
    | (refine wpList_store_row rfl _ _ _ rfl _ (bc x).toArray rfl rfl 40 (bc zs).toArray (heap_alloc_new _ _) (sec_info' x HRL.out) (by rw [bc_size, bc_size, HRL.out]; rfl) (bc_all x) ?_
       rw [World.setRow_alloc_new]))
  generalize hw1 : World.alloc w2 _ = w1
  have hba : Below w.heap.size w w1 := by rw [← hw1]; exact (((Below.refl w.heap.size w).alloc (Nat.le_refl _) _).trans (HB2.out.mono (by simp))).alloc (by have := HB2.out.size; simp at this; omega) _
  have hbs : w1.heap[w.heap.size]? = some (.cells (bc s).toArray 40 (0, 0)) := by
    rw [← hw1]
    have h2 := (HB2.out.block _ (by simp)).trans HS.out
    exact (((Below.refl w2.heap.size w2).alloc (Nat.le_refl _) _).block _ (lt_of_heap h2)).trans h2
  have HBA := Lib.hid hba
  have HSw := Lib.hid hbs
  have H2 := Lib.hid (H1.out.keep (Kp.of_below hba (fun _ => False)) (fun _ _ x => x))
  have HGS := Lib.hid (lt_of_heap hbs)
  clear hw1 hba hbs HC HB2 H1 HS
  refine wp_region_held_drew (S := fun W => Kp (fun k => k = g) w1 W) (by kernel_rfl) (Kp.drew (Kp.refl _ _)) (fun hHeld => ?_)
  have H0 := Lib.hid H2.out.drew
  generalize World.drew w1 = v0 at *
  refine wpAnyH_take (i := 0) (oi := ⟨_, _, _, _, _, _⟩) (v := ?_) rfl (by kernel_rfl) (by kernel_rfl) (by kernel_rfl) (fun _ _ _ h => h) (Or.inl ⟨by kernel_rfl, ?_⟩) hHeld ?_
  rotate_left 1
  · intro W hW; first | (go_simp; done) | (go_simp; with_reducible rfl)
  try simp only [Act.put, List.setIfInBounds_toArray, List.set_cons_zero, List.set_cons_succ]
  refine wpAnyH_take (i := 1) (oi := ⟨_, _, _, _, _, _⟩) (v := ?_) rfl (by kernel_rfl) (by kernel_rfl) (by kernel_rfl) (fun _ _ _ h => h) (Or.inl ⟨by kernel_rfl, ?_⟩) hHeld ?_
  rotate_left 1
  · intro W hW; first | (go_simp; done) | (go_simp; with_reducible rfl)
  try simp only [Act.put, List.setIfInBounds_toArray, List.set_cons_zero, List.set_cons_succ]
  refine wpAnyH_take (i := 2) (oi := ⟨_, _, _, _, _, _⟩) (v := ?_) rfl (by kernel_rfl) (by kernel_rfl) (by kernel_rfl) (fun _ _ _ h => h) (Or.inl ⟨by kernel_rfl, ?_⟩) hHeld ?_
  rotate_left 1
  · intro W hW; first | (go_simp; done) | (go_simp; with_reducible rfl)
  try simp only [Act.put, List.setIfInBounds_toArray, List.set_cons_zero, List.set_cons_succ]
  refine wpAnyH_take (i := 3) (oi := ⟨_, _, _, _, _, _⟩) (v := ?_) rfl (by kernel_rfl) (by kernel_rfl) (by kernel_rfl) (fun _ _ _ h => h) (Or.inl ⟨by kernel_rfl, ?_⟩) hHeld ?_
  rotate_left 1
  · intro W hW; have k0 :=  hW.cell H2.out.c1 HZ.out.1; first | (go_simp; done) | (go_simp; with_reducible rfl)
  try simp only [Act.put, List.setIfInBounds_toArray, List.set_cons_zero, List.set_cons_succ]
  refine wpAnyH_take (i := 4) (oi := ⟨_, _, _, _, _, _⟩) (v := ?_) rfl (by kernel_rfl) (by kernel_rfl) (by kernel_rfl) (fun _ _ _ h => h) (Or.inl ⟨by kernel_rfl, ?_⟩) hHeld ?_
  rotate_left 1
  · intro W hW; first | (go_simp; done) | (go_simp; with_reducible rfl)
  try simp only [Act.put, List.setIfInBounds_toArray, List.set_cons_zero, List.set_cons_succ]
  refine wpAnyH_take (i := 5) (oi := ⟨_, _, _, _, _, _⟩) (v := .agg (bc s).toArray) rfl (by kernel_rfl) (by kernel_rfl) (by kernel_rfl) (fun _ _ _ h => h) (yieldsIf_load_row (S := fun W => Kp (fun k => k = g) w1 W) (by kernel_rfl) 40 _ rfl w.heap.size rfl (bc s).toArray 40 _ (fun W hW => (hW.block _ HGS.out HZ.out.2.1).trans HSw.out) Try.underlying40 rfl (sec_info' s HSL.out)) hHeld ?_
  try simp only [Act.put, List.setIfInBounds_toArray, List.set_cons_zero, List.set_cons_succ]
  refine wpAnyH_take (i := 6) (oi := ⟨_, _, _, _, _, _⟩) (v := ?_) rfl (by kernel_rfl) (by kernel_rfl) (by kernel_rfl) (fun _ _ _ h => h) (Or.inl ⟨by kernel_rfl, ?_⟩) hHeld ?_
  rotate_left 1
  · intro W hW; first | (go_simp; done) | (go_simp; with_reducible rfl)
  try simp only [Act.put, List.setIfInBounds_toArray, List.set_cons_zero, List.set_cons_succ]
  refine wpAnyH_ready (rs := [7]) (by kernel_rfl) (by simp) ?_
  refine AllReadyH.cons rfl (fun K hK => ?_) AllReadyH.nil
  have HT := Lib.hid (show v0.there g (j * 64) (bc s).toArray.size by rw [bc_size, HSL.out]; exact own_there H0.out.now (secR_ok HOK.out.nows) (by simp [secR]) (by simpa [secR] using HJ.out))
  rw [if_pos (by kernel_rfl)]
  refine wp_store_mid 40 _ _ rfl g (j * 64) (bc s).toArray rfl rfl HT.out (sec_info' s HSL.out) (bc_all s) ?_
  have H3 := Lib.hid (show RkG (v0.setCells g (j * 64) (bc s).toArray.toList) q F (.slice (some ⟨g, 0, none⟩) d.now.length c) (.slice Pa d.pend.length pc) (.slice Ha d.pend.length hc) d.left d.down d.writes d.good (d.now.set j s) (atV d.pend) (whL d.pend) from H0.out.storeN HOK.out.nows HJ.out s HSL.out)
  have hkx : Kp (fun k => k = g) v0 (v0.setCells g (j * 64) (bc s).toArray.toList) := setCells_kp1 g _ _ _
  generalize v0.setCells g (j * 64) (bc s).toArray.toList = v1 at *
  refine hK.out _ _ ?_ (fun hHelda => ?_)
  · exact hHeld.trans hkx (fun _ _ x => x)
  clear hK K
  try simp only [Act.put, List.setIfInBounds_toArray, List.set_cons_zero, List.set_cons_succ]
  clear hkx HT
  refine wpAnyH_done (by kernel_rfl) ?_ _
  have HK1 := Lib.hid hHelda
  clear hHelda H0
  have HS2 := Lib.hid ((HK1.out.block _ HGS.out HZ.out.2.1).trans HSw.out)
  have HKB := Lib.hid (show Kp B w v1 from (Kp.of_below HBA.out B).trans HK1.out (fun k _ x => by rw [x]; exact HB.out g (.inr (.inr (.inl rfl)))))
  have b2 := H3.out.c2
  have HFr := Lib.hid (fun x y => (H3.out.alloc (.cells #[.int .i64 (j : Int)] 3)).grownA (w3 := x) y)
  go_upto_region 6 with (first
    | (at_builtin
       refine wpList_append_at rfl (.tmp 29) (.tmp 31) _ _ rfl 3 i0 _ 1 8 Try.underlying32 hi0 hz0 hz1 hz2 rfl Pa d.pend.length pc (atV d.pend) rfl (by have := ((H3.out.alloc (.cells #[.int .i64 (j : Int)] 3)).ats); rw [atV_len] at this; exact this) _ 1 _ rfl (src_one Try.underlying32 _ _ rfl) (by unfold maxLen; omega) (by omega) ?_
       intro A2 c2 v2 ho2 hg2 hat2
       have H4a := Lib.hid (RkG.pushA (atV_len _) (H3.out.alloc (.cells #[.int .i64 (j : Int)] 3)) hg2 hat2 ho2)
       have k0 := (HFr.out _ hg2).1
       have k1 := (HFr.out _ hg2).2
       have HK2 := Lib.hid ((Kp.refl (fun k => k = q ∨ ob Pa = some k) (v1.alloc (.cells #[.int .i64 (j : Int)] 3))).grown hg2 (fun k e => .inl (.inr e)))
       have HA2 := Lib.hid (show ∀ k, ob A2 = some k → B k ∨ w.heap.size ≤ k from fun k e => by
         rcases hat2 with y | y
         · rw [y] at e; exact .inl (HB.out k (.inr (.inr (.inr (.inl (by rw [ownBlock_slice]; exact e))))))
         · rw [y] at e; injection e with e; have := HKB.out.size; simp at e; exact .inr (by omega))
       clear ho2 hg2 hat2))
  have hk3 : Kp (fun k => k = q ∨ ob Pa = some k) v1 (v2.setCell ⟨q, 2, none⟩ (.slice A2 (d.pend.length + 1) c2)) := ((Kp.refl (fun k => k = q ∨ ob Pa = some k) v1).alloc (.cells #[.int .i64 (j : Int)] 3)).trans (Kp.setCell (p := ⟨q, 2, none⟩) HK2.out (.inl (.inl rfl)) _) (fun _ _ x => x)
  have HS3 := Lib.hid ((hk3.block _ (lt_of_heap HS2.out) (by rintro (x | x); exact HZ.out.2.2.1 x; exact (HZ.out.2.2.2.1 _ x).1 rfl)).trans HS2.out)
  have HK3 := Lib.hid (show Kp B w (v2.setCell ⟨q, 2, none⟩ (.slice A2 (d.pend.length + 1) c2)) from HKB.out.trans hk3 (fun k _ x => by rcases x with x | x; rw [x]; exact HB.out q (.inl rfl); exact HB.out k (.inr (.inr (.inr (.inl (by rw [ownBlock_slice]; exact x)))))))
  have H4 := Lib.hid (show RkG (v2.setCell ⟨q, 2, none⟩ (.slice A2 (d.pend.length + 1) c2)) q F (.slice (some ⟨g, 0, none⟩) d.now.length c) (.slice A2 (d.pend.length + 1) c2) (.slice Ha d.pend.length hc) d.left d.down d.writes d.good (d.now.set j s) (atV d.pend ++ [.int .i64 (j : Int)]) (whL d.pend) from H4a.out)
  clear H4a hk3 k0 k1 HK2 HFr b2 HKB HS2 H3 HK1
  generalize v2.setCell _ _ = v3 at *
  have HLv := Lib.hid HK3.out.size
  refine wp_region_held_drew (S := fun W => Kp (fun k => k = q ∨ ob Ha = some k) v3 W) (by kernel_rfl) (Kp.drew (Kp.refl _ _)) (fun hHeld => ?_)
  have H5 := Lib.hid H4.out.drew
  have HL3 := Lib.hid (show w.heap.size ≤ (World.drew v3).heap.size from HLv.out)
  generalize World.drew v3 = v4 at *
  refine wpAnyH_take (i := 0) (oi := ⟨_, _, _, _, _, _⟩) (v := ?_) rfl (by kernel_rfl) (by kernel_rfl) (by kernel_rfl) (fun _ _ _ h => h) (Or.inl ⟨by kernel_rfl, ?_⟩) hHeld ?_
  rotate_left 1
  · intro W hW; first | (go_simp; done) | (go_simp; with_reducible rfl)
  try simp only [Act.put, List.setIfInBounds_toArray, List.set_cons_zero, List.set_cons_succ]
  refine wpAnyH_take (i := 1) (oi := ⟨_, _, _, _, _, _⟩) (v := ?_) rfl (by kernel_rfl) (by kernel_rfl) (by kernel_rfl) (fun _ _ _ h => h) (Or.inl ⟨by kernel_rfl, ?_⟩) hHeld ?_
  rotate_left 1
  · intro W hW; first | (go_simp; done) | (go_simp; with_reducible rfl)
  try simp only [Act.put, List.setIfInBounds_toArray, List.set_cons_zero, List.set_cons_succ]
  refine wpAnyH_take (i := 2) (oi := ⟨_, _, _, _, _, _⟩) (v := ?_) rfl (by kernel_rfl) (by kernel_rfl) (by kernel_rfl) (fun _ _ _ h => h) (Or.inl ⟨by kernel_rfl, ?_⟩) hHeld ?_
  rotate_left 1
  · intro W hW; first | (go_simp; done) | (go_simp; with_reducible rfl)
  try simp only [Act.put, List.setIfInBounds_toArray, List.set_cons_zero, List.set_cons_succ]
  refine wpAnyH_take (i := 3) (oi := ⟨_, _, _, _, _, _⟩) (v := ?_) rfl (by kernel_rfl) (by kernel_rfl) (by kernel_rfl) (fun _ _ _ h => h) (Or.inl ⟨by kernel_rfl, ?_⟩) hHeld ?_
  rotate_left 1
  · intro W hW; first | (go_simp; done) | (go_simp; with_reducible rfl)
  try simp only [Act.put, List.setIfInBounds_toArray, List.set_cons_zero, List.set_cons_succ]
  refine wpAnyH_take (i := 5) (oi := ⟨_, _, _, _, _, _⟩) (v := .agg (bc s).toArray) rfl (by kernel_rfl) (by kernel_rfl) (by kernel_rfl) (fun _ _ _ h => h) (yieldsIf_load_row (S := fun W => Kp (fun k => k = q ∨ ob Ha = some k) v3 W) (by kernel_rfl) 40 _ rfl w.heap.size rfl (bc s).toArray 40 _ (fun W hW => (hW.block _ (lt_of_heap HS3.out) (by rintro (x | x); exact HZ.out.2.2.1 x; exact (HZ.out.2.2.2.2 _ x).1 rfl)).trans HS3.out) Try.underlying40 rfl (sec_info' s HSL.out)) hHeld ?_
  try simp only [Act.put, List.setIfInBounds_toArray, List.set_cons_zero, List.set_cons_succ]
  refine wpAnyH_ready (rs := [4, 6]) (by kernel_rfl) (by simp) ?_
  refine AllReadyH.cons rfl (fun K hK => ?_) (AllReadyH.cons rfl (fun K hK => ?_) AllReadyH.nil)
  · have k0 := H5.out.c3
    have k1 := fun o => (World.cell?_alloc_lt v4 o ⟨q, 3, none⟩ (lt_of_heap H5.out.box)).trans k0
    rw [if_pos (by kernel_rfl)]
    go_simp
    refine hK.out _ _ ?_ (fun hHelda => ?_)
    · exact hHeld
    clear hK K
    try simp only [Act.put, List.setIfInBounds_toArray, List.set_cons_zero, List.set_cons_succ]
    clear k0 k1
    refine wpAnyH_ready (rs := [6]) (by kernel_rfl) (by simp) ?_
    refine AllReadyH.cons rfl (fun K hK => ?_) AllReadyH.nil
    rw [if_pos (by kernel_rfl)]
    refine wp_slice_one 63 40 (.tmp 40) rfl 64 (secv zs) (bc s) (by kernel_rfl) Try.underlying63 sec_infoZ rfl (by omega) (by omega) (by rw [bc_length, HSL.out]) ?_
    refine hK.out _ _ ?_ (fun hHeldaa => ?_)
    · exact hHelda.alloc _
    clear hK K
    try simp only [Act.put, List.setIfInBounds_toArray, List.set_cons_zero, List.set_cons_succ]
    refine wpAnyH_ready (rs := [7]) (by kernel_rfl) (by simp) ?_
    refine AllReadyH.cons rfl (fun K hK => ?_) AllReadyH.nil
    rw [if_pos (by kernel_rfl)]
    refine wp_append_at (.tmp 39) (.tmp 41) 63 63 rfl 40 i1 _ 64 64 Try.underlying63 hi1 hy0 hy1 hy2 rfl Ha d.pend.length hc (secR (whL d.pend)).flatten rfl (by have := ((H5.out.alloc (.cells (bc s).toArray 40)).what); rw [whL_len] at this; exact this) _ 1 _ rfl (src_new (t := 40) Try.underlying63 v4 (bc s).toArray (by rw [bc_size, HSL.out]) (by simpa using bc_one s)) (by unfold maxLen; omega) (by omega) ?_
    intro A3 c3 v5 ho5 hg5 hat5
    have H6 := Lib.hid (show RkG (v5.setCell ⟨q, 3, none⟩ (.slice A3 (d.pend.length + 1) c3)) q F (.slice (some ⟨g, 0, none⟩) d.now.length c) (.slice A2 (d.pend.length + 1) c2) (.slice A3 (d.pend.length + 1) c3) d.left d.down d.writes d.good (d.now.set j s) (atV d.pend ++ [.int .i64 (j : Int)]) (whL d.pend ++ [s]) from RkG.pushH (whL_len _) (H5.out.alloc (.cells (bc s).toArray 40)) hg5 hat5 (by simpa using ho5))
    have HF := Lib.hid ((H5.out.alloc (.cells (bc s).toArray 40)).grownH hg5)
    have HA3 := Lib.hid (show ∀ k, ob A3 = some k → B k ∨ w.heap.size ≤ k from fun k e => by
      rcases hat5 with y | y
      · rw [y] at e; exact .inl (HB.out k (.inr (.inr (.inr (.inr (by rw [ownBlock_slice]; exact e))))))
      · rw [y] at e; injection e with e; have := HL3.out; simp at e; exact .inr (by omega))
    have hk3 := (Kp.refl (fun k => k = q ∨ ob Ha = some k) (v4.alloc (.cells (bc s).toArray 40))).grown hg5 (fun k e => .inl (.inr e))
    refine hK.out _ _ ?_ (fun hHeldaaa => ?_)
    · exact (hHeldaa).trans hk3 (fun _ _ x => x)
    clear hK K
    try simp only [Act.put, List.setIfInBounds_toArray, List.set_cons_zero, List.set_cons_succ]
    clear hk3 hg5 hat5 ho5
    refine wpAnyH_take (i := 8) (oi := ⟨_, _, _, _, _, _⟩) (v := ?_) rfl (by kernel_rfl) (by kernel_rfl) (by kernel_rfl) (fun _ _ _ h => h) (Or.inl ⟨by kernel_rfl, ?_⟩) hHeldaaa ?_
    rotate_left 1
    · intro W hW; first | (go_simp; done) | (go_simp; with_reducible rfl)
    try simp only [Act.put, List.setIfInBounds_toArray, List.set_cons_zero, List.set_cons_succ]
    refine wpAnyH_take (i := 9) (oi := ⟨_, _, _, _, _, _⟩) (v := ?_) rfl (by kernel_rfl) (by kernel_rfl) (by kernel_rfl) (fun _ _ _ h => h) (Or.inl ⟨by kernel_rfl, ?_⟩) hHeldaaa ?_
    rotate_left 1
    · intro W hW; first | (go_simp; done) | (go_simp; with_reducible rfl)
    try simp only [Act.put, List.setIfInBounds_toArray, List.set_cons_zero, List.set_cons_succ]
    refine wpAnyH_ready (rs := [10]) (by kernel_rfl) (by simp) ?_
    refine AllReadyH.cons rfl (fun K hK => ?_) AllReadyH.nil
    have k0 := HF.out.1
    have k1 := HF.out.2
    rw [if_pos (by kernel_rfl)]
    go_simp
    have hkx : Kp (fun k => k = q ∨ ob Ha = some k) v5 (v5.setCell ⟨q, 3, none⟩ (.slice A3 (d.pend.length + 1) c3)) := Kp.setCell (p := ⟨q, 3, none⟩) (Kp.refl _ v5) (.inl (.inl rfl)) _
    generalize v5.setCell ⟨q, 3, none⟩ (.slice A3 (d.pend.length + 1) c3) = v6 at *
    refine hK.out _ _ ?_ (fun hHeldaaaa => ?_)
    · exact hHeldaaa.trans hkx (fun _ _ x => x)
    clear hK K
    try simp only [Act.put, List.setIfInBounds_toArray, List.set_cons_zero, List.set_cons_succ]
    clear hkx HF k0 k1
    refine wpAnyH_done (by kernel_rfl) ?_ _
    have HK6 := Lib.hid hHeldaaaa
    clear hHeldaaaa
    have HKw := Lib.hid (show Kp B w v6 from (HK3.out.trans HK6.out (fun k _ x => by rcases x with x | x; rw [x]; exact HB.out q (.inl rfl); exact HB.out k (.inr (.inr (.inr (.inr (by rw [ownBlock_slice]; exact x))))))))
    have HBl := Lib.hid (show ∀ k, Rlk q F (.slice (some ⟨g, 0, none⟩) d.now.length c) (.slice A2 (d.pend.length + 1) c2) (.slice A3 (d.pend.length + 1) c3) k → B k ∨ w.heap.size ≤ k from fun k hk => by
      rcases hk with x | x | x | x | x
      · exact .inl (HB.out k (.inl x))
      · exact .inl (HB.out k (.inr (.inl x)))
      · exact .inl (HB.out k (.inr (.inr (.inl x))))
      · exact HA2.out k (by rw [ownBlock_slice] at x; exact x)
      · exact HA3.out k (by rw [ownBlock_slice] at x; exact x))
    have H6b := Lib.hid (show RkG v6 q F (.slice (some ⟨g, 0, none⟩) d.now.length c) (.slice A2 (d.pend.length + 1) c2) (.slice A3 (d.pend.length + 1) c3) d.left false d.writes d.good (d.now.set j s) (atV (d.pend ++ [(j, s)])) (whL (d.pend ++ [(j, s)])) from by rw [atV_snoc, whL_snoc, ← HDN.out]; exact H6.out)
    have HPO := Lib.hid (put_ok HOK.out HJ.out HSL.out)
    have HLB := Lib.hid HOK.out.left
    have H7 := Lib.hid (H6b.out.updW (wrap64 (d.writes + 1)))
    have HX7 := Lib.hid (Kp.setCell (p := ⟨q, 6, none⟩) HKw.out (.inl (HB.out q (.inl rfl))) (.int .i64 (wrap64 (d.writes + 1))))
    clear H6 HK6 HK3 HKw HA2 HA3 H5 HS3
    have b6 := H6b.out.c6
    have f6 := H6b.out.fr 6
    go_upto_region 8 with fail
    clear b6 f6
    generalize v6.setCell _ _ = v7 at *
    have b4 := H7.out.c4
    have f4 := H7.out.fr 4
    have f5 := H7.out.fr 5
    have b5 := H7.out.c5
    by_cases h1 : d.left = 1
    · have hr : (d.put j s).wear = ({ d.put j s with left := 0, down := true }, 14) := by unfold Dk.wear; rw [if_neg (by show ¬ d.left = 0; omega), if_pos (by show d.left = 1; omega)]
      have HR := Lib.hid (HW.out.trans hr)
      have H8 := Lib.hid ((H7.out.updD true).updL 0)
      have c4 := (H7.out.updD true).c4
      have c5 := ((H7.out.updD true).updL 0).c5
      have g4 := (H7.out.updD true).fr 4
      have HX8 := Lib.hid (Kp.setCell (p := ⟨q, 4, none⟩) (Kp.setCell (p := ⟨q, 5, none⟩) HX7.out (.inl (HB.out q (.inl rfl))) (.bool true)) (.inl (HB.out q (.inl rfl))) (.int .i64 0))
      have hi1 : ((d.left : Nat) : Int) = 1 := by omega
      rw [hi1] at b4 c4
      clear hr h1 H7
      go_wp2_with fail
      go_ret
      refine RWritePost.mk HR.out rfl ⟨⟨_, _, _, _, H8.out, fun k hk => ?_, ⟨HPO.out.secs, HPO.out.nows, HPO.out.len, HPO.out.pos, HPO.out.lim, HPO.out.pend, HPO.out.play, Nat.zero_le _⟩⟩, HX8.out⟩
      rcases HBl.out k hk with y | y
      · exact .inl y
      · exact .inr ⟨y, H8.out.lt k hk⟩
    · by_cases h2 : d.left = 0
      · have hr : (d.put j s).wear = (d.put j s, 0) := by unfold Dk.wear; rw [if_pos (by show d.left = 0; omega)]
        have HR := Lib.hid (HW.out.trans hr)
        have hi1 : ((d.left : Nat) : Int) = 0 := by omega
        rw [hi1] at b4
        clear hr h1
        go_wp2_with fail
        go_ret
        refine RWritePost.mk HR.out rfl ⟨⟨_, _, _, _, (show RkAt v7 _ _ _ _ _ (d.put j s) from by have := H7.out; rw [← HDN.out] at this; exact this), fun k hk => ?_, HPO.out⟩, HX7.out⟩
        rcases HBl.out k hk with y | y
        · exact .inl y
        · exact .inr ⟨y, H7.out.lt k hk⟩
      · have hr : (d.put j s).wear = ({ d.put j s with left := d.left - 1 }, 0) := by unfold Dk.wear; rw [if_neg (by show ¬ d.left = 0; omega), if_neg (by show ¬ d.left = 1; omega)]; rfl
        have HR := Lib.hid (HW.out.trans hr)
        have H8 := Lib.hid (H7.out.updL ((d.left - 1 : Nat) : Int))
        have c5 := H8.out.c5
        have HX8 := Lib.hid (Kp.setCell (p := ⟨q, 4, none⟩) HX7.out (.inl (HB.out q (.inl rfl))) (.int .i64 ((d.left - 1 : Nat) : Int)))
        have hi1 : ¬ ((d.left : Nat) : Int) = 1 := by omega
        have hi2 : (0 : Int) < ((d.left : Nat) : Int) := by omega
        have hi3 : 0 < d.left := by omega
        have hi4 : wrap64 ((d.left : Int) - 1) = ((d.left - 1 : Nat) : Int) := by have := HLB.out; unfold wrap64; omega
        have hi5 : ((d.left : Int) - 1) = ((d.left - 1 : Nat) : Int) := by omega
        have HI6 := Lib.hid (show wrap64 ((d.left - 1 : Nat) : Int) = ((d.left - 1 : Nat) : Int) by have := HLB.out; unfold wrap64; omega)
        clear hr h1
        go_wp2_with fail
        rw [HI6.out]
        go_ret
        refine RWritePost.mk HR.out rfl ⟨⟨_, _, _, _, (show RkAt _ _ _ _ _ _ ({ d.put j s with left := d.left - 1 } : Dk) from by have := H8.out; rw [← HDN.out] at this; exact this), fun k hk => ?_, ⟨HPO.out.secs, HPO.out.nows, HPO.out.len, HPO.out.pos, HPO.out.lim, HPO.out.pend, HPO.out.play, by show d.left - 1 ≤ _; have := HLB.out; omega⟩⟩, HX8.out⟩
        rcases HBl.out k hk with y | y
        · exact .inl y
        · exact .inr ⟨y, H8.out.lt k hk⟩
  · rw [if_pos (by kernel_rfl)]
    refine wp_slice_one 63 40 (.tmp 40) rfl 64 (secv zs) (bc s) (by kernel_rfl) Try.underlying63 sec_infoZ rfl (by omega) (by omega) (by rw [bc_length, HSL.out]) ?_
    refine hK.out _ _ ?_ (fun hHelda => ?_)
    · exact hHeld.alloc _
    clear hK K
    try simp only [Act.put, List.setIfInBounds_toArray, List.set_cons_zero, List.set_cons_succ]
    refine wpAnyH_ready (rs := [4]) (by kernel_rfl) (by simp) ?_
    refine AllReadyH.cons rfl (fun K hK => ?_) AllReadyH.nil
    have k0 := H5.out.c3
    have k1 := fun o => (World.cell?_alloc_lt v4 o ⟨q, 3, none⟩ (lt_of_heap H5.out.box)).trans k0
    rw [if_pos (by kernel_rfl)]
    go_simp
    refine hK.out _ _ ?_ (fun hHeldaa => ?_)
    · exact hHelda
    clear hK K
    try simp only [Act.put, List.setIfInBounds_toArray, List.set_cons_zero, List.set_cons_succ]
    clear k0 k1
    refine wpAnyH_ready (rs := [7]) (by kernel_rfl) (by simp) ?_
    refine AllReadyH.cons rfl (fun K hK => ?_) AllReadyH.nil
    rw [if_pos (by kernel_rfl)]
    refine wp_append_at (.tmp 39) (.tmp 41) 63 63 rfl 40 i1 _ 64 64 Try.underlying63 hi1 hy0 hy1 hy2 rfl Ha d.pend.length hc (secR (whL d.pend)).flatten rfl (by have := ((H5.out.alloc (.cells (bc s).toArray 40)).what); rw [whL_len] at this; exact this) _ 1 _ rfl (src_new (t := 40) Try.underlying63 v4 (bc s).toArray (by rw [bc_size, HSL.out]) (by simpa using bc_one s)) (by unfold maxLen; omega) (by omega) ?_
    intro A3 c3 v5 ho5 hg5 hat5
    have H6 := Lib.hid (show RkG (v5.setCell ⟨q, 3, none⟩ (.slice A3 (d.pend.length + 1) c3)) q F (.slice (some ⟨g, 0, none⟩) d.now.length c) (.slice A2 (d.pend.length + 1) c2) (.slice A3 (d.pend.length + 1) c3) d.left d.down d.writes d.good (d.now.set j s) (atV d.pend ++ [.int .i64 (j : Int)]) (whL d.pend ++ [s]) from RkG.pushH (whL_len _) (H5.out.alloc (.cells (bc s).toArray 40)) hg5 hat5 (by simpa using ho5))
    have HF := Lib.hid ((H5.out.alloc (.cells (bc s).toArray 40)).grownH hg5)
    have HA3 := Lib.hid (show ∀ k, ob A3 = some k → B k ∨ w.heap.size ≤ k from fun k e => by
      rcases hat5 with y | y
      · rw [y] at e; exact .inl (HB.out k (.inr (.inr (.inr (.inr (by rw [ownBlock_slice]; exact e))))))
      · rw [y] at e; injection e with e; have := HL3.out; simp at e; exact .inr (by omega))
    have hk3 := (Kp.refl (fun k => k = q ∨ ob Ha = some k) (v4.alloc (.cells (bc s).toArray 40))).grown hg5 (fun k e => .inl (.inr e))
    refine hK.out _ _ ?_ (fun hHeldaaa => ?_)
    · exact (hHeldaa).trans hk3 (fun _ _ x => x)
    clear hK K
    try simp only [Act.put, List.setIfInBounds_toArray, List.set_cons_zero, List.set_cons_succ]
    clear hk3 hg5 hat5 ho5
    refine wpAnyH_take (i := 8) (oi := ⟨_, _, _, _, _, _⟩) (v := ?_) rfl (by kernel_rfl) (by kernel_rfl) (by kernel_rfl) (fun _ _ _ h => h) (Or.inl ⟨by kernel_rfl, ?_⟩) hHeldaaa ?_
    rotate_left 1
    · intro W hW; first | (go_simp; done) | (go_simp; with_reducible rfl)
    try simp only [Act.put, List.setIfInBounds_toArray, List.set_cons_zero, List.set_cons_succ]
    refine wpAnyH_take (i := 9) (oi := ⟨_, _, _, _, _, _⟩) (v := ?_) rfl (by kernel_rfl) (by kernel_rfl) (by kernel_rfl) (fun _ _ _ h => h) (Or.inl ⟨by kernel_rfl, ?_⟩) hHeldaaa ?_
    rotate_left 1
    · intro W hW; first | (go_simp; done) | (go_simp; with_reducible rfl)
    try simp only [Act.put, List.setIfInBounds_toArray, List.set_cons_zero, List.set_cons_succ]
    refine wpAnyH_ready (rs := [10]) (by kernel_rfl) (by simp) ?_
    refine AllReadyH.cons rfl (fun K hK => ?_) AllReadyH.nil
    have k0 := HF.out.1
    have k1 := HF.out.2
    rw [if_pos (by kernel_rfl)]
    go_simp
    have hkx : Kp (fun k => k = q ∨ ob Ha = some k) v5 (v5.setCell ⟨q, 3, none⟩ (.slice A3 (d.pend.length + 1) c3)) := Kp.setCell (p := ⟨q, 3, none⟩) (Kp.refl _ v5) (.inl (.inl rfl)) _
    generalize v5.setCell ⟨q, 3, none⟩ (.slice A3 (d.pend.length + 1) c3) = v6 at *
    refine hK.out _ _ ?_ (fun hHeldaaaa => ?_)
    · exact hHeldaaa.trans hkx (fun _ _ x => x)
    clear hK K
    try simp only [Act.put, List.setIfInBounds_toArray, List.set_cons_zero, List.set_cons_succ]
    clear hkx HF k0 k1
    refine wpAnyH_done (by kernel_rfl) ?_ _
    have HK6 := Lib.hid hHeldaaaa
    clear hHeldaaaa
    have HKw := Lib.hid (show Kp B w v6 from (HK3.out.trans HK6.out (fun k _ x => by rcases x with x | x; rw [x]; exact HB.out q (.inl rfl); exact HB.out k (.inr (.inr (.inr (.inr (by rw [ownBlock_slice]; exact x))))))))
    have HBl := Lib.hid (show ∀ k, Rlk q F (.slice (some ⟨g, 0, none⟩) d.now.length c) (.slice A2 (d.pend.length + 1) c2) (.slice A3 (d.pend.length + 1) c3) k → B k ∨ w.heap.size ≤ k from fun k hk => by
      rcases hk with x | x | x | x | x
      · exact .inl (HB.out k (.inl x))
      · exact .inl (HB.out k (.inr (.inl x)))
      · exact .inl (HB.out k (.inr (.inr (.inl x))))
      · exact HA2.out k (by rw [ownBlock_slice] at x; exact x)
      · exact HA3.out k (by rw [ownBlock_slice] at x; exact x))
    have H6b := Lib.hid (show RkG v6 q F (.slice (some ⟨g, 0, none⟩) d.now.length c) (.slice A2 (d.pend.length + 1) c2) (.slice A3 (d.pend.length + 1) c3) d.left false d.writes d.good (d.now.set j s) (atV (d.pend ++ [(j, s)])) (whL (d.pend ++ [(j, s)])) from by rw [atV_snoc, whL_snoc, ← HDN.out]; exact H6.out)
    have HPO := Lib.hid (put_ok HOK.out HJ.out HSL.out)
    have HLB := Lib.hid HOK.out.left
    have H7 := Lib.hid (H6b.out.updW (wrap64 (d.writes + 1)))
    have HX7 := Lib.hid (Kp.setCell (p := ⟨q, 6, none⟩) HKw.out (.inl (HB.out q (.inl rfl))) (.int .i64 (wrap64 (d.writes + 1))))
    clear H6 HK6 HK3 HKw HA2 HA3 H5 HS3
    have b6 := H6b.out.c6
    have f6 := H6b.out.fr 6
    go_upto_region 8 with fail
    clear b6 f6
    generalize v6.setCell _ _ = v7 at *
    have b4 := H7.out.c4
    have f4 := H7.out.fr 4
    have f5 := H7.out.fr 5
    have b5 := H7.out.c5
    by_cases h1 : d.left = 1
    · have hr : (d.put j s).wear = ({ d.put j s with left := 0, down := true }, 14) := by unfold Dk.wear; rw [if_neg (by show ¬ d.left = 0; omega), if_pos (by show d.left = 1; omega)]
      have HR := Lib.hid (HW.out.trans hr)
      have H8 := Lib.hid ((H7.out.updD true).updL 0)
      have c4 := (H7.out.updD true).c4
      have c5 := ((H7.out.updD true).updL 0).c5
      have g4 := (H7.out.updD true).fr 4
      have HX8 := Lib.hid (Kp.setCell (p := ⟨q, 4, none⟩) (Kp.setCell (p := ⟨q, 5, none⟩) HX7.out (.inl (HB.out q (.inl rfl))) (.bool true)) (.inl (HB.out q (.inl rfl))) (.int .i64 0))
      have hi1 : ((d.left : Nat) : Int) = 1 := by omega
      rw [hi1] at b4 c4
      clear hr h1 H7
      go_wp2_with fail
      go_ret
      refine RWritePost.mk HR.out rfl ⟨⟨_, _, _, _, H8.out, fun k hk => ?_, ⟨HPO.out.secs, HPO.out.nows, HPO.out.len, HPO.out.pos, HPO.out.lim, HPO.out.pend, HPO.out.play, Nat.zero_le _⟩⟩, HX8.out⟩
      rcases HBl.out k hk with y | y
      · exact .inl y
      · exact .inr ⟨y, H8.out.lt k hk⟩
    · by_cases h2 : d.left = 0
      · have hr : (d.put j s).wear = (d.put j s, 0) := by unfold Dk.wear; rw [if_pos (by show d.left = 0; omega)]
        have HR := Lib.hid (HW.out.trans hr)
        have hi1 : ((d.left : Nat) : Int) = 0 := by omega
        rw [hi1] at b4
        clear hr h1
        go_wp2_with fail
        go_ret
        refine RWritePost.mk HR.out rfl ⟨⟨_, _, _, _, (show RkAt v7 _ _ _ _ _ (d.put j s) from by have := H7.out; rw [← HDN.out] at this; exact this), fun k hk => ?_, HPO.out⟩, HX7.out⟩
        rcases HBl.out k hk with y | y
        · exact .inl y
        · exact .inr ⟨y, H7.out.lt k hk⟩
      · have hr : (d.put j s).wear = ({ d.put j s with left := d.left - 1 }, 0) := by unfold Dk.wear; rw [if_neg (by show ¬ d.left = 0; omega), if_neg (by show ¬ d.left = 1; omega)]; rfl
        have HR := Lib.hid (HW.out.trans hr)
        have H8 := Lib.hid (H7.out.updL ((d.left - 1 : Nat) : Int))
        have c5 := H8.out.c5
        have HX8 := Lib.hid (Kp.setCell (p := ⟨q, 4, none⟩) HX7.out (.inl (HB.out q (.inl rfl))) (.int .i64 ((d.left - 1 : Nat) : Int)))
        have hi1 : ¬ ((d.left : Nat) : Int) = 1 := by omega
        have hi2 : (0 : Int) < ((d.left : Nat) : Int) := by omega
        have hi3 : 0 < d.left := by omega
        have hi4 : wrap64 ((d.left : Int) - 1) = ((d.left - 1 : Nat) : Int) := by have := HLB.out; unfold wrap64; omega
        have hi5 : ((d.left : Int) - 1) = ((d.left - 1 : Nat) : Int) := by omega
        have HI6 := Lib.hid (show wrap64 ((d.left - 1 : Nat) : Int) = ((d.left - 1 : Nat) : Int) by have := HLB.out; unfold wrap64; omega)
        clear hr h1
        go_wp2_with fail
        rw [HI6.out]
        go_ret
        refine RWritePost.mk HR.out rfl ⟨⟨_, _, _, _, (show RkAt _ _ _ _ _ _ ({ d.put j s with left := d.left - 1 } : Dk) from by have := H8.out; rw [← HDN.out] at this; exact this), fun k hk => ?_, ⟨HPO.out.secs, HPO.out.nows, HPO.out.len, HPO.out.pos, HPO.out.lim, HPO.out.pend, HPO.out.play, by show d.left - 1 ≤ _; have := HLB.out; omega⟩⟩, HX8.out⟩
        rcases HBl.out k hk with y | y
        · exact .inl y
        · exact .inr ⟨y, H8.out.lt k hk⟩

end Go.Proofs.Ytlaecnggbcagcaa
