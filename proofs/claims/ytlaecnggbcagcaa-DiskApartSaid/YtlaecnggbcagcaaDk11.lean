/- Contracts: rows cloned; a disk just like another one, apart. -/
import Derived.Test.YtlaecnggbcagcaaDk10
import Derived.Lib.SliceRun
namespace Go.Proofs.Ytlaecnggbcagcaa
open Go.RowKit MM
set_option linter.unusedVariables false
set_option linter.unusedSimpArgs false

theorem own_src {P : Program} {w : World} {tx e' e : TypeId} {k n c : Nat} {A : Option Addr} {xs : List Value} (hk : P.underlying tx = some (.slice e')) (h : w.ownsRow 0 e k (.slice A n c) n xs) (h1 : ∀ u ∈ xs, u.oneCell' = true) : Src P k tx (.slice A n c) n xs w := by
  rcases h.2 with ⟨hv, h0⟩ | ⟨g, cap, cur, hv, _⟩
  · injection hv with hA hn hc
    subst hA hc h0
    obtain rfl : xs = [] := List.eq_nil_of_length_eq_zero (by rw [h.1]; omega)
    exact Src.ofNil w hk 0
  · injection hv with hA hn hc
    subst hA hc
    exact Src.ofSlice w hk _ _ _ _ h.1 (h.cells (g := g) rfl) h1
def ClonePost (T : TypeId) (k n : Nat) (xs : List Value) (w : World) (e : Ending) (w' : World) : Prop :=
  ∃ v, e = .returned v ∧ w'.ownsRow 0 T k v n xs ∧ (∀ b, v.ownBlock = some b → w.heap.size ≤ b) ∧ Below w.heap.size w w'
theorem secR_one (l : List (List UInt8)) : ∀ u ∈ (secR l).flatten, u.oneCell' = true := fun u hu => by
  obtain ⟨r, hr, hu⟩ := List.mem_flatten.1 hu
  obtain ⟨s, _, rfl⟩ := List.mem_map.1 hr
  exact bc_one s u hu
theorem penR_one (l : List (Nat × List UInt8)) : ∀ u ∈ (penR l).flatten, u.oneCell' = true := fun u hu => by
  obtain ⟨r, hr, hu⟩ := List.mem_flatten.1 hu
  obtain ⟨s, _, rfl⟩ := List.mem_map.1 hr
  exact pen_one s u hu

set_option maxHeartbeats 1000000 in
set_option maxRecDepth 100000 in
theorem cloneS_any (A : Option Addr) (n c : Nat) (xs : List Value) (w : World) (h : w.ownsRow 0 40 64 (.slice A n c) n xs) (h1 : ∀ u ∈ xs, u.oneCell' = true) (hn : n ≤ 1000000) :
    Calls Try.prog 59 #[.slice A n c] w (ClonePost 40 64 n xs w) := by
  obtain ⟨i0, hi0, hz0, hz1, hz2⟩ := info_parts sec_info3
  have hnil := fun n w => Lib.run_eql_slice_nil (P := Try.prog) w 63 40 A n c 0 0 Try.underlying63
  have HO := Lib.hid h
  have H1 := Lib.hid h1
  clear h h1
  cases A with
  | none =>
    have h0 := HO.out
    have hc0 : n = 0 := by
      rcases h0.2 with ⟨_, h⟩ | ⟨g, cap, cur, hv, _⟩
      · exact h
      · cases hv
    subst hc0
    obtain rfl : xs = [] := List.eq_nil_of_length_eq_zero (by have := h0.1; omega)
    clear h0
    go_enter Try.func59, Try.ntmps59
    go_wp2
    go_ret
    exact ⟨_, rfl, World.ownsRow_nil _ _ _ _, (fun b e => by cases e), Below.refl _ _⟩
  | some ad =>
    have HS := Lib.hid (own_src (tx := 63) Try.underlying63 (HO.out.alloc (.cells #[] 40)) H1.out)
    go_enter Try.func59, Try.ntmps59
    go_wp2_with (first
      | (at_builtin
         refine wpList_append_at rfl (.tmp 5) (.tmp 6) _ _ rfl 40 i0 _ 64 64 Try.underlying63 hi0 hz0 hz1 hz2 rfl (some ⟨w.heap.size, 0, none⟩) 0 0 [] rfl (World.ownsRow_lit w #[] 0 (Nat.zero_le _) (by unfold maxLen; omega) rfl) _ n _ rfl HS.out (by unfold maxLen; omega) (by omega) ?_
         intro A2 c2 w2 ho2 hg2 hat2))
    go_ret
    rw [Nat.zero_add, List.nil_append] at ho2
    have hbw : Below w.heap.size w w2 := ((Below.refl w.heap.size w).alloc (Nat.le_refl _) _).grown hg2 (by simp) (fun k e => by injection e with e; simp at e; omega)
    refine ⟨.slice A2 n c2, rfl, ho2, fun b e => ?_, hbw⟩
    rw [ownBlock_slice] at e
    rcases hat2 with h | h
    · rw [h] at e; injection e with e; simp at e; omega
    · rw [h] at e; injection e with e; simp at e; omega

set_option maxHeartbeats 1000000 in
set_option maxRecDepth 100000 in
theorem cloneW_any (A : Option Addr) (n c : Nat) (xs : List Value) (w : World) (h : w.ownsRow 0 95 65 (.slice A n c) n xs) (h1 : ∀ u ∈ xs, u.oneCell' = true) (hn : n ≤ 1000000) :
    Calls Try.prog 60 #[.slice A n c] w (ClonePost 95 65 n xs w) := by
  obtain ⟨i0, hi0, hz0, hz1, hz2⟩ := info_parts pen_info3
  have hnil := fun n w => Lib.run_eql_slice_nil (P := Try.prog) w 84 95 A n c 0 0 Try.underlying84
  have HO := Lib.hid h
  have H1 := Lib.hid h1
  clear h h1
  cases A with
  | none =>
    have h0 := HO.out
    have hc0 : n = 0 := by
      rcases h0.2 with ⟨_, h⟩ | ⟨g, cap, cur, hv, _⟩
      · exact h
      · cases hv
    subst hc0
    obtain rfl : xs = [] := List.eq_nil_of_length_eq_zero (by have := h0.1; omega)
    clear h0
    go_enter Try.func60, Try.ntmps60
    go_wp2
    go_ret
    exact ⟨_, rfl, World.ownsRow_nil _ _ _ _, (fun b e => by cases e), Below.refl _ _⟩
  | some ad =>
    have HS := Lib.hid (own_src (tx := 84) Try.underlying84 (HO.out.alloc (.cells #[] 95)) H1.out)
    go_enter Try.func60, Try.ntmps60
    go_wp2_with (first
      | (at_builtin
         refine wpList_append_at rfl (.tmp 5) (.tmp 6) _ _ rfl 95 i0 _ 65 72 Try.underlying84 hi0 hz0 hz1 hz2 rfl (some ⟨w.heap.size, 0, none⟩) 0 0 [] rfl (World.ownsRow_lit w #[] 0 (Nat.zero_le _) (by unfold maxLen; omega) rfl) _ n _ rfl HS.out (by unfold maxLen; omega) (by omega) ?_
         intro A2 c2 w2 ho2 hg2 hat2))
    go_ret
    rw [Nat.zero_add, List.nil_append] at ho2
    have hbw : Below w.heap.size w w2 := ((Below.refl w.heap.size w).alloc (Nat.le_refl _) _).grown hg2 (by simp) (fun k e => by injection e with e; simp at e; omega)
    refine ⟨.slice A2 n c2, rfl, ho2, fun b e => ?_, hbw⟩
    rw [ownBlock_slice] at e
    rcases hat2 with h | h
    · rw [h] at e; injection e with e; simp at e; omega
    · rw [h] at e; injection e with e; simp at e; omega

theorem DkAt.stored {w : World} {q : Nat} {R : Array Value} (h : w.heap[q]? = some (.cells R 86 (0, 0))) (i : Nat) (v : Value) : (w.setCell ⟨q, i, none⟩ v).heap[q]? = some (.cells (R.setIfInBounds i v) 86 (0, 0)) := heap_setCell_same w q i R 86 v h
theorem kp_q (q i : Nat) (v : Value) (w : World) : Kp (fun k => k = q) w (w.setCell ⟨q, i, none⟩ v) := Kp.setCell (S := fun k => k = q) (p := ⟨q, i, none⟩) (Kp.refl _ w) (.inl rfl) v
theorem disk_info (G N Pd : Value) (d : Dk) : (Try.prog.info? 86).map (·.size) = some (dkC G N Pd d).size := by kernel_rfl
theorem disk_zero : (Try.prog.info? 86).bind (·.zero) = some (.agg (dkC (.slice none 0 0) (.slice none 0 0) (.slice none 0 0) (Dk.new 0))) := by kernel_rfl

set_option maxHeartbeats 4000000 in
set_option maxRecDepth 100000 in
theorem dClone_any (p : Nat) (B : Nat → Prop) (d : Dk) (w : World) (hfew : d.pend.length ≤ 1000000) (h : Dsk w p B d) :
    Calls Try.prog 29 #[.pointer (some ⟨p, 0, none⟩)] w fun e w' => ∃ q, e = .returned (.pointer (some ⟨q, 0, none⟩)) ∧ Dsk w' q (fun k => w.heap.size ≤ k) d ∧ Below w.heap.size w w' := by
  have hok := h.ok
  have HOK := Lib.hid hok
  obtain ⟨G, N, Pd, h, hB, _⟩ := h
  have H := Lib.hid h
  obtain ⟨Ag, cg, rfl⟩ := own_sl h.good
  obtain ⟨An, cn, rfl⟩ := own_sl h.now
  obtain ⟨Ap, cp, rfl⟩ := own_sl h.pend
  have HP := Lib.hid (show p < w.heap.size from lt_of_heap h.box)
  have HL := Lib.hid (show d.good.length ≤ 4096 ∧ d.now.length ≤ 4096 from ⟨hok.lim, by rw [hok.len]; exact hok.lim⟩)
  clear h hB hok
  go_enter Try.func29, Try.ntmps29
  go_upto_region 2 with (first
    | (refine wpList_load_row rfl _ _ rfl p rfl 86 _ (0, 0) _ H.out.box Try.underlying86 rfl (disk_info _ _ _ _) ?_)
    | (refine wpList_alloc_row rfl _ rfl (.agg (dkC (.slice none 0 0) (.slice none 0 0) (.slice none 0 0) (Dk.new 0))) _ disk_zero rfl ?_)
    | (refine wpList_store_row rfl _ _ _ rfl _ (dkC (.slice Ag d.good.length cg) (.slice An d.now.length cn) (.slice Ap d.pend.length cp) d) rfl rfl 86 _ (heap_alloc_new _ _) (disk_info _ _ _ _) rfl (by kernel_rfl) ?_
       rw [World.setRow_alloc_new]))
  generalize hw1 : World.alloc w _ = w1
  have HQ := Lib.hid (show w1.heap[w.heap.size]? = some (.cells (dkC (.slice Ag d.good.length cg) (.slice An d.now.length cn) (.slice Ap d.pend.length cp) d) 86 (0, 0)) by rw [← hw1]; exact heap_alloc_new _ _)
  have H1 := Lib.hid (show DkAt w1 p (.slice Ag d.good.length cg) (.slice An d.now.length cn) (.slice Ap d.pend.length cp) d by rw [← hw1]; exact H.out.alloc _)
  have HB1 := Lib.hid (show Below w.heap.size w w1 by rw [← hw1]; exact (Below.refl _ w).alloc (Nat.le_refl _) _)
  have HZ := Lib.hid (show w.heap.size < w1.heap.size ∧ ¬ p = w.heap.size ∧ ∀ k, Blk p (.slice Ag d.good.length cg) (.slice An d.now.length cn) (.slice Ap d.pend.length cp) k → ¬ k = w.heap.size from ⟨lt_of_heap HQ.out, by have := HP.out; omega, fun k hk => by have := H.out.lt k hk; omega⟩)
  clear hw1 H
  refine wp_region_held_drew (S := fun W => Kp (fun k => k = w.heap.size) w1 W) (by kernel_rfl) (Kp.drew (Kp.refl _ _)) (fun hHeld => ?_)
  refine wpAnyH_take (i := 0) (oi := ⟨_, _, _, _, _, _⟩) (v := ?_) rfl (by kernel_rfl) (by kernel_rfl) (by kernel_rfl) (fun _ _ _ h => h) (Or.inl ⟨by kernel_rfl, ?_⟩) hHeld ?_
  rotate_left 1
  · intro W hW; first | (go_simp; done) | (go_simp; with_reducible rfl)
  try simp only [Act.put, List.setIfInBounds_toArray, List.set_cons_zero, List.set_cons_succ]
  refine wpAnyH_take (i := 1) (oi := ⟨_, _, _, _, _, _⟩) (v := ?_) rfl (by kernel_rfl) (by kernel_rfl) (by kernel_rfl) (fun _ _ _ h => h) (Or.inl ⟨by kernel_rfl, ?_⟩) hHeld ?_
  rotate_left 1
  · intro W hW; first | (go_simp; done) | (go_simp; with_reducible rfl)
  try simp only [Act.put, List.setIfInBounds_toArray, List.set_cons_zero, List.set_cons_succ]
  refine wpAnyH_take (i := 2) (oi := ⟨_, _, _, _, _, _⟩) (v := ?_) rfl (by kernel_rfl) (by kernel_rfl) (by kernel_rfl) (fun _ _ _ h => h) (Or.inl ⟨by kernel_rfl, ?_⟩) hHeld ?_
  rotate_left 1
  · intro W hW; first | (go_simp; done) | (go_simp; with_reducible rfl)
  try simp only [Act.put, List.setIfInBounds_toArray, List.set_cons_zero, List.set_cons_succ]
  refine wpAnyH_take (i := 3) (oi := ⟨_, _, _, _, _, _⟩) (v := ?_) rfl (by kernel_rfl) (by kernel_rfl) (by kernel_rfl) (fun _ _ _ h => h) (Or.inl ⟨by kernel_rfl, ?_⟩) hHeld ?_
  rotate_left 1
  · intro W hW; have k0 :=  hW.cell H1.out.c0 HZ.out.2.1; first | (go_simp; done) | (go_simp; with_reducible rfl)
  try simp only [Act.put, List.setIfInBounds_toArray, List.set_cons_zero, List.set_cons_succ]
  refine wpAnyH_take (i := 5) (oi := ⟨_, _, _, _, _, _⟩) (v := ?_) rfl (by kernel_rfl) (by kernel_rfl) (by kernel_rfl) (fun _ _ _ h => h) (Or.inl ⟨by kernel_rfl, ?_⟩) hHeld ?_
  rotate_left 1
  · intro W hW; first | (go_simp; done) | (go_simp; with_reducible rfl)
  try simp only [Act.put, List.setIfInBounds_toArray, List.set_cons_zero, List.set_cons_succ]
  refine wpAnyH_take (i := 6) (oi := ⟨_, _, _, _, _, _⟩) (v := ?_) rfl (by kernel_rfl) (by kernel_rfl) (by kernel_rfl) (fun _ _ _ h => h) (Or.inl ⟨by kernel_rfl, ?_⟩) hHeld ?_
  rotate_left 1
  · intro W hW; first | (go_simp; done) | (go_simp; with_reducible rfl)
  try simp only [Act.put, List.setIfInBounds_toArray, List.set_cons_zero, List.set_cons_succ]
  refine wpAnyH_take (i := 7) (oi := ⟨_, _, _, _, _, _⟩) (v := ?_) rfl (by kernel_rfl) (by kernel_rfl) (by kernel_rfl) (fun _ _ _ h => h) (Or.inl ⟨by kernel_rfl, ?_⟩) hHeld ?_
  rotate_left 1
  · intro W hW; first | (go_simp; done) | (go_simp; with_reducible rfl)
  try simp only [Act.put, List.setIfInBounds_toArray, List.set_cons_zero, List.set_cons_succ]
  refine wpAnyH_take (i := 8) (oi := ⟨_, _, _, _, _, _⟩) (v := ?_) rfl (by kernel_rfl) (by kernel_rfl) (by kernel_rfl) (fun _ _ _ h => h) (Or.inl ⟨by kernel_rfl, ?_⟩) hHeld ?_
  rotate_left 1
  · intro W hW; have k0 :=  hW.cell H1.out.c1 HZ.out.2.1; first | (go_simp; done) | (go_simp; with_reducible rfl)
  try simp only [Act.put, List.setIfInBounds_toArray, List.set_cons_zero, List.set_cons_succ]
  refine wpAnyH_take (i := 10) (oi := ⟨_, _, _, _, _, _⟩) (v := ?_) rfl (by kernel_rfl) (by kernel_rfl) (by kernel_rfl) (fun _ _ _ h => h) (Or.inl ⟨by kernel_rfl, ?_⟩) hHeld ?_
  rotate_left 1
  · intro W hW; first | (go_simp; done) | (go_simp; with_reducible rfl)
  try simp only [Act.put, List.setIfInBounds_toArray, List.set_cons_zero, List.set_cons_succ]
  refine wpAnyH_take (i := 11) (oi := ⟨_, _, _, _, _, _⟩) (v := ?_) rfl (by kernel_rfl) (by kernel_rfl) (by kernel_rfl) (fun _ _ _ h => h) (Or.inl ⟨by kernel_rfl, ?_⟩) hHeld ?_
  rotate_left 1
  · intro W hW; first | (go_simp; done) | (go_simp; with_reducible rfl)
  try simp only [Act.put, List.setIfInBounds_toArray, List.set_cons_zero, List.set_cons_succ]
  refine wpAnyH_take (i := 12) (oi := ⟨_, _, _, _, _, _⟩) (v := ?_) rfl (by kernel_rfl) (by kernel_rfl) (by kernel_rfl) (fun _ _ _ h => h) (Or.inl ⟨by kernel_rfl, ?_⟩) hHeld ?_
  rotate_left 1
  · intro W hW; first | (go_simp; done) | (go_simp; with_reducible rfl)
  try simp only [Act.put, List.setIfInBounds_toArray, List.set_cons_zero, List.set_cons_succ]
  refine wpAnyH_take (i := 13) (oi := ⟨_, _, _, _, _, _⟩) (v := ?_) rfl (by kernel_rfl) (by kernel_rfl) (by kernel_rfl) (fun _ _ _ h => h) (Or.inl ⟨by kernel_rfl, ?_⟩) hHeld ?_
  rotate_left 1
  · intro W hW; have k0 :=  hW.cell H1.out.c2 HZ.out.2.1; first | (go_simp; done) | (go_simp; with_reducible rfl)
  try simp only [Act.put, List.setIfInBounds_toArray, List.set_cons_zero, List.set_cons_succ]
  refine wpAnyH_ready (rs := [4]) (by kernel_rfl) (by simp) ?_
  refine AllReadyH.cons rfl (fun K hK => ?_) AllReadyH.nil
  go_simp
  refine (cloneS_any Ag d.good.length cg (secR d.good).flatten _ (own_kp H1.out.good hHeld (fun b e => HZ.out.2.2 b (.inr (.inl e)))) (secR_one _) (by have := HL.out; omega)).mono ?_
  rintro e wa ⟨va, rfl, hoa, hna, hba⟩
  obtain ⟨Aa, ka, rfl⟩ := own_sl hoa
  have hka := Kp.of_below hba (fun k => k = w.heap.size)
  have HQa := Lib.hid ((hba.block _ (Nat.lt_of_lt_of_le HZ.out.1 (hHeld).size)).trans HQ.out)
  have HOa := Lib.hid hoa
  have HNa := Lib.hid (show ∀ b, ob Aa = some b → w1.heap.size ≤ b ∧ b < wa.heap.size from fun b e => ⟨hna b (by rw [ownBlock_slice]; exact e), (hoa.lt b (by rw [ownBlock_slice]; exact e)).2⟩)
  have HSa := Lib.hid (show w1.heap.size ≤ wa.heap.size from hba.size)
  clear hoa hna hba
  go_wp2_with fail
  refine hK.out _ _ ?_ (fun hHelda => ?_)
  · exact (hHeld).trans hka (fun _ _ x => x)
  clear hK K
  try simp only [Act.put, List.setIfInBounds_toArray, List.set_cons_zero, List.set_cons_succ]
  clear hka
  refine wpAnyH_ready (rs := [9]) (by kernel_rfl) (by simp) ?_
  refine AllReadyH.cons rfl (fun K hK => ?_) AllReadyH.nil
  go_simp
  refine (cloneS_any An d.now.length cn (secR d.now).flatten _ (own_kp H1.out.now hHelda (fun b e => HZ.out.2.2 b (.inr (.inr (.inl e))))) (secR_one _) (by have := HL.out; omega)).mono ?_
  rintro e wb ⟨vb, rfl, hob, hnb, hbb⟩
  obtain ⟨Ab, kb, rfl⟩ := own_sl hob
  have hkb := Kp.of_below hbb (fun k => k = w.heap.size)
  have HQb := Lib.hid ((hbb.block _ (Nat.lt_of_lt_of_le HZ.out.1 (hHelda).size)).trans HQa.out)
  have HOb := Lib.hid hob
  have HOa := Lib.hid (own_below HOa.out hbb)
  have HNb := Lib.hid (show ∀ b, ob Ab = some b → wa.heap.size ≤ b ∧ b < wb.heap.size from fun b e => ⟨hnb b (by rw [ownBlock_slice]; exact e), (hob.lt b (by rw [ownBlock_slice]; exact e)).2⟩)
  have HSb := Lib.hid (show wa.heap.size ≤ wb.heap.size from hbb.size)
  clear hob hnb hbb
  go_wp2_with fail
  refine hK.out _ _ ?_ (fun hHeldaa => ?_)
  · exact (hHelda).trans hkb (fun _ _ x => x)
  clear hK K
  try simp only [Act.put, List.setIfInBounds_toArray, List.set_cons_zero, List.set_cons_succ]
  clear hkb
  refine wpAnyH_ready (rs := [14]) (by kernel_rfl) (by simp) ?_
  refine AllReadyH.cons rfl (fun K hK => ?_) AllReadyH.nil
  go_simp
  refine (cloneW_any Ap d.pend.length cp (penR d.pend).flatten _ (own_kp H1.out.pend hHeldaa (fun b e => HZ.out.2.2 b (.inr (.inr (.inr e))))) (penR_one _) hfew).mono ?_
  rintro e wc ⟨vc, rfl, hoc, hnc, hbc⟩
  obtain ⟨Ac, kc, rfl⟩ := own_sl hoc
  have hkc := Kp.of_below hbc (fun k => k = w.heap.size)
  have HQc := Lib.hid ((hbc.block _ (Nat.lt_of_lt_of_le HZ.out.1 (hHeldaa).size)).trans HQb.out)
  have HOc := Lib.hid hoc
  have HOa := Lib.hid (own_below HOa.out hbc)
  have HOb := Lib.hid (own_below HOb.out hbc)
  have HNc := Lib.hid (show ∀ b, ob Ac = some b → wb.heap.size ≤ b ∧ b < wc.heap.size from fun b e => ⟨hnc b (by rw [ownBlock_slice]; exact e), (hoc.lt b (by rw [ownBlock_slice]; exact e)).2⟩)
  have HSc := Lib.hid (show wb.heap.size ≤ wc.heap.size from hbc.size)
  clear hoc hnc hbc
  go_wp2_with fail
  refine hK.out _ _ ?_ (fun hHeldaaa => ?_)
  · exact (hHeldaa).trans hkc (fun _ _ x => x)
  clear hK K
  try simp only [Act.put, List.setIfInBounds_toArray, List.set_cons_zero, List.set_cons_succ]
  clear hkc
  refine wpAnyH_take (i := 15) (oi := ⟨_, _, _, _, _, _⟩) (v := ?_) rfl (by kernel_rfl) (by kernel_rfl) (by kernel_rfl) (fun _ _ _ h => h) (Or.inl ⟨by kernel_rfl, ?_⟩) hHeldaaa ?_
  rotate_left 1
  · intro W hW; first | (go_simp; done) | (go_simp; with_reducible rfl)
  try simp only [Act.put, List.setIfInBounds_toArray, List.set_cons_zero, List.set_cons_succ]
  refine wpAnyH_ready (rs := [16]) (by kernel_rfl) (by simp) ?_
  refine AllReadyH.cons rfl (fun K hK => ?_) AllReadyH.nil
  have f := frozen_of_row _ _ 0 _ _ HQc.out
  have b := cell_of_row _ _ 0 _ _ (0, 0) HQc.out
  go_simp
  have hk := kp_q w.heap.size 0 (.slice Aa d.good.length ka) wc
  have HQd := Lib.hid (DkAt.stored HQc.out 0 (.slice Aa d.good.length ka))
  generalize World.setCell wc _ _ = wd at *
  refine hK.out _ _ ?_ (fun hHeldaaaa => ?_)
  · exact (hHeldaaa).trans hk (fun _ _ x => x)
  clear hK K
  try simp only [Act.put, List.setIfInBounds_toArray, List.set_cons_zero, List.set_cons_succ]
  have HKd := Lib.hid hk
  clear hk f b
  refine wpAnyH_take (i := 17) (oi := ⟨_, _, _, _, _, _⟩) (v := ?_) rfl (by kernel_rfl) (by kernel_rfl) (by kernel_rfl) (fun _ _ _ h => h) (Or.inl ⟨by kernel_rfl, ?_⟩) hHeldaaaa ?_
  rotate_left 1
  · intro W hW; first | (go_simp; done) | (go_simp; with_reducible rfl)
  try simp only [Act.put, List.setIfInBounds_toArray, List.set_cons_zero, List.set_cons_succ]
  refine wpAnyH_ready (rs := [18]) (by kernel_rfl) (by simp) ?_
  refine AllReadyH.cons rfl (fun K hK => ?_) AllReadyH.nil
  have f := frozen_of_row _ _ 1 _ _ HQd.out
  have b := cell_of_row _ _ 1 _ _ (0, 0) HQd.out
  go_simp
  have hk := kp_q w.heap.size 1 (.slice Ab d.now.length kb) wd
  have HQe := Lib.hid (DkAt.stored HQd.out 1 (.slice Ab d.now.length kb))
  generalize World.setCell wd _ _ = we at *
  refine hK.out _ _ ?_ (fun hHeldaaaaa => ?_)
  · exact (hHeldaaaa).trans hk (fun _ _ x => x)
  clear hK K
  try simp only [Act.put, List.setIfInBounds_toArray, List.set_cons_zero, List.set_cons_succ]
  have HKe := Lib.hid hk
  clear hk f b
  refine wpAnyH_take (i := 19) (oi := ⟨_, _, _, _, _, _⟩) (v := ?_) rfl (by kernel_rfl) (by kernel_rfl) (by kernel_rfl) (fun _ _ _ h => h) (Or.inl ⟨by kernel_rfl, ?_⟩) hHeldaaaaa ?_
  rotate_left 1
  · intro W hW; first | (go_simp; done) | (go_simp; with_reducible rfl)
  try simp only [Act.put, List.setIfInBounds_toArray, List.set_cons_zero, List.set_cons_succ]
  refine wpAnyH_ready (rs := [20]) (by kernel_rfl) (by simp) ?_
  refine AllReadyH.cons rfl (fun K hK => ?_) AllReadyH.nil
  have f := frozen_of_row _ _ 2 _ _ HQe.out
  have b := cell_of_row _ _ 2 _ _ (0, 0) HQe.out
  go_simp
  have hk := kp_q w.heap.size 2 (.slice Ac d.pend.length kc) we
  have HQf := Lib.hid (DkAt.stored HQe.out 2 (.slice Ac d.pend.length kc))
  generalize World.setCell we _ _ = wf at *
  refine hK.out _ _ ?_ (fun hHeldaaaaaa => ?_)
  · exact (hHeldaaaaa).trans hk (fun _ _ x => x)
  clear hK K
  try simp only [Act.put, List.setIfInBounds_toArray, List.set_cons_zero, List.set_cons_succ]
  have HKf := Lib.hid hk
  clear hk f b
  refine wpAnyH_done (by kernel_rfl) ?_ _
  have HKz := Lib.hid hHeldaaaaaa
  clear hHeldaaaaaa
  go_wp2_with fail
  go_ret
  have hk := (HKd.out.trans HKe.out (fun _ _ x => x)).trans HKf.out (fun _ _ x => x)
  have hz := HZ.out.1
  have ha := HSa.out
  have hb := HSb.out
  have hc := HSc.out
  have hA : ∀ b, (Value.slice Aa d.good.length ka).ownBlock = some b → w1.heap.size ≤ b ∧ b < wa.heap.size := fun b e => HNa.out b (by rw [ownBlock_slice] at e; exact e)
  have hBb : ∀ b, (Value.slice Ab d.now.length kb).ownBlock = some b → wa.heap.size ≤ b ∧ b < wb.heap.size := fun b e => HNb.out b (by rw [ownBlock_slice] at e; exact e)
  have hC : ∀ b, (Value.slice Ac d.pend.length kc).ownBlock = some b → wb.heap.size ≤ b ∧ b < wc.heap.size := fun b e => HNc.out b (by rw [ownBlock_slice] at e; exact e)
  refine ⟨w.heap.size, rfl, ⟨_, _, _, ⟨HQf.out, own_kp HOa.out hk fun b e x => by have := hA b e; omega, own_kp HOb.out hk fun b e x => by have := hBb b e; omega, own_kp HOc.out hk fun b e x => by have := hC b e; omega, fun k e => ⟨fun e2 => by have := hA k e; have := hBb k e2; omega, fun e2 => by have := hA k e; have := hC k e2; omega, fun x => by have := hA k e; omega⟩, fun k e => ⟨fun e2 => by have := hBb k e; have := hC k e2; omega, fun x => by have := hBb k e; omega⟩, fun k e x => by have := hC k e; omega⟩, fun k hkb => ?_, HOK.out⟩, HB1.out.trans (HKz.out.below (by omega) (fun i hi x => by omega))⟩
  rcases hkb with e | e | e | e
  · omega
  · have := hA k e; omega
  · have := hBb k e; omega
  · have := hC k e; omega

end Go.Proofs.Ytlaecnggbcagcaa
