/- Contract of moietylaw17.do: an op upon both disks. -/
import Derived.Test.YtlaecnggbcagcaaRk7
namespace Go.Proofs.Ytlaecnggbcagcaa
open Go.RowKit MM
set_option linter.unusedVariables false
set_option linter.unusedSimpArgs false

def DoPost (w0 : World) (B C : Nat → Prop) (p q : Nat) (x y : Dk) (o : Od) (e : Ending) (w' : World) : Prop := ∃ r, e = .returned (.bool r) ∧ (x = y → r = true) ∧ Duo w0 B C w' p q (stepD x o) (stepD y o)

set_option maxHeartbeats 8000000 in
set_option maxRecDepth 100000 in
theorem do17_any (w0 : World) (B C : Nat → Prop) (p q : Nat) (x y : Dk) (o : Od) (w : World) (h : Duo w0 B C w p q x y) (hO : OdIn w o) (hap : o.kept ≠ [] → ∀ a, o.A = some a → a.block < w0.heap.size ∧ ¬ B a.block ∧ ¬ C a.block)
    (hfx : x.pend.length ≤ 1000) (hfy : y.pend.length ≤ 1000) (hfk : o.kept.length ≤ 1000) :
    Calls Try.prog 20 #[.pointer (some ⟨p, 0, none⟩), .pointer (some ⟨q, 0, none⟩), .agg o.cells.toArray] w (DoPost w0 B C p q x y o) := by
  obtain ⟨kd, n, fl, ks, A, c⟩ := o
  have HN := Lib.hid (show n ≤ 9223372036854775807 from hO.n.2)
  have HI := Lib.hid (show Ins w A ks from hO.ins)
  obtain ⟨B1, C1, h1, h2, h3, h4, h5, h6⟩ := h
  have HA := Lib.hid (show ks ≠ [] → ∀ a, A = some a → a.block < w.heap.size ∧ ¬ B1 a.block ∧ ¬ C1 a.block from fun h0 a ha => by
    have z := hap h0 a ha
    have := h6.size
    refine ⟨by omega, fun zb => ?_, fun zb => ?_⟩
    · rcases (h3 _ zb).1 with u | u
      · exact z.2.1 u
      · omega
    · rcases (h4 _ zb).1 with u | u
      · exact z.2.2 u
      · omega)
  have HF := Lib.hid (show x.pend.length ≤ 1000 ∧ y.pend.length ≤ 1000 ∧ ks.length ≤ 1000 from ⟨hfx, hfy, hfk⟩)
  have H3 := Lib.hid h3
  have H4 := Lib.hid h4
  have H6 := Lib.hid h6
  have HD0 := Lib.hid (Duo.start h1 h2 (fun k hk => (h3 k hk).2) (fun k hk => (h4 k hk).2) h5)
  have HP := Lib.hid (fun w1 w' x' y' (hb : Below w.heap.size w w1) (h : Duo w1 B1 C1 w' p q x' y') => Duo.comp h6 h3 h4 hb h)
  have HB1 := Lib.hid (fun k (hk : B1 k) => (h3 k hk).2)
  have HC1 := Lib.hid (fun k (hk : C1 k) => (h4 k hk).2)
  have H5 := Lib.hid h5
  have HDs := Lib.hid h1
  have HRs := Lib.hid h2
  clear h1 h2 h3 h4 h5 h6 hO hap hfx hfy hfk H3 H4 H6 HD0
  by_cases hk0 : kd = 0
  · subst hk0
    go_enter Try.func20, Try.ntmps20
    go_upto_region 1 with fail
    generalize hw1 : World.alloc w _ = w1
    have HRow := Lib.hid (show w1.heap[w.heap.size]? = some (.cells #[.int .i64 0, .int .i64 n, .int .u8 fl.toNat, .slice A ks.length c] 34 (0, 0)) by rw [← hw1]; exact heap_alloc_new _ _)
    have hb : Below w.heap.size w w1 := by rw [← hw1]; exact below_one _ _
    have HDuo := Lib.hid (show Duo w1 B1 C1 w1 p q x y from Duo.start (HDs.out.below hb) (HRs.out.below hb) (fun k hk => Nat.lt_of_lt_of_le (HB1.out k hk) hb.size) (fun k hk => Nat.lt_of_lt_of_le (HC1.out k hk) hb.size) H5.out)
    have HQ := Lib.hid (fun w' x' y' => HP.out w1 w' x' y' hb)
    have HIn := Lib.hid (HI.out.below hb)
    have HNb := Lib.hid (show ¬ (B1 w.heap.size ∨ C1 w.heap.size) from fun z => by rcases z with z | z; exact Nat.lt_irrefl _ (HB1.out _ z); exact Nat.lt_irrefl _ (HC1.out _ z))
    have HS1 := Lib.hid (lt_of_heap HRow.out)
    have HSz := Lib.hid hb.size
    clear hw1 hb HDs HRs HB1 HC1 H5 HP HI
    have k0 := cell_of_row w1 w.heap.size 0 _ _ (0, 0) HRow.out
    go_upto_region 3 with fail
    clear k0
    refine wp_region_held_drew (S := fun W => Kp (fun k => B1 k ∨ C1 k) w1 W) (by kernel_rfl) (Kp.drew (Kp.refl _ _)) (fun hHeld => ?_)
    have HDr := Lib.hid (show Duo w1 B1 C1 (World.drew w1) p q x y from HDuo.out.below (below_drew (Below.refl _ _)))
    refine wpAnyH_take (i := 0) (oi := ⟨_, _, _, _, _, _⟩) (v := ?_) rfl (by kernel_rfl) (by kernel_rfl) (by kernel_rfl) (fun _ _ _ h => h) (Or.inl ⟨by kernel_rfl, ?_⟩) hHeld ?_
    rotate_left 1
    · intro W hW; first | (go_simp; done) | (go_simp; with_reducible rfl)
    try simp only [Act.put, List.setIfInBounds_toArray, List.set_cons_zero, List.set_cons_succ]
    refine wpAnyH_take (i := 1) (oi := ⟨_, _, _, _, _, _⟩) (v := ?_) rfl (by kernel_rfl) (by kernel_rfl) (by kernel_rfl) (fun _ _ _ h => h) (Or.inl ⟨by kernel_rfl, ?_⟩) hHeld ?_
    rotate_left 1
    · intro W hW; first | (go_simp; done) | (go_simp; with_reducible rfl)
    try simp only [Act.put, List.setIfInBounds_toArray, List.set_cons_zero, List.set_cons_succ]
    refine wpAnyH_take (i := 2) (oi := ⟨_, _, _, _, _, _⟩) (v := ?_) rfl (by kernel_rfl) (by kernel_rfl) (by kernel_rfl) (fun _ _ _ h => h) (Or.inl ⟨by kernel_rfl, ?_⟩) hHeld ?_
    rotate_left 1
    · intro W hW; have k0 :=  cell_of_row W w.heap.size 1 _ _ (0, 0) ((hW.block _ HS1.out HNb.out).trans HRow.out); first | (go_simp; done) | (go_simp; with_reducible rfl)
    try simp only [Act.put, List.setIfInBounds_toArray, List.set_cons_zero, List.set_cons_succ]
    refine wpAnyH_take (i := 3) (oi := ⟨_, _, _, _, _, _⟩) (v := ?_) rfl (by kernel_rfl) (by kernel_rfl) (by kernel_rfl) (fun _ _ _ h => h) (Or.inl ⟨by kernel_rfl, ?_⟩) hHeld ?_
    rotate_left 1
    · intro W hW; first | (go_simp; done) | (go_simp; with_reducible rfl)
    try simp only [Act.put, List.setIfInBounds_toArray, List.set_cons_zero, List.set_cons_succ]
    refine wpAnyH_take (i := 4) (oi := ⟨_, _, _, _, _, _⟩) (v := ?_) rfl (by kernel_rfl) (by kernel_rfl) (by kernel_rfl) (fun _ _ _ h => h) (Or.inl ⟨by kernel_rfl, ?_⟩) hHeld ?_
    rotate_left 1
    · intro W hW; have k0 :=  cell_of_row W w.heap.size 2 _ _ (0, 0) ((hW.block _ HS1.out HNb.out).trans HRow.out); first | (go_simp; done) | (go_simp; with_reducible rfl)
    try simp only [Act.put, List.setIfInBounds_toArray, List.set_cons_zero, List.set_cons_succ]
    refine wpAnyH_take (i := 7) (oi := ⟨_, _, _, _, _, _⟩) (v := ?_) rfl (by kernel_rfl) (by kernel_rfl) (by kernel_rfl) (fun _ _ _ h => h) (Or.inl ⟨by kernel_rfl, ?_⟩) hHeld ?_
    rotate_left 1
    · intro W hW; first | (go_simp; done) | (go_simp; with_reducible rfl)
    try simp only [Act.put, List.setIfInBounds_toArray, List.set_cons_zero, List.set_cons_succ]
    refine wpAnyH_take (i := 8) (oi := ⟨_, _, _, _, _, _⟩) (v := ?_) rfl (by kernel_rfl) (by kernel_rfl) (by kernel_rfl) (fun _ _ _ h => h) (Or.inl ⟨by kernel_rfl, ?_⟩) hHeld ?_
    rotate_left 1
    · intro W hW; first | (go_simp; done) | (go_simp; with_reducible rfl)
    try simp only [Act.put, List.setIfInBounds_toArray, List.set_cons_zero, List.set_cons_succ]
    refine wpAnyH_take (i := 9) (oi := ⟨_, _, _, _, _, _⟩) (v := ?_) rfl (by kernel_rfl) (by kernel_rfl) (by kernel_rfl) (fun _ _ _ h => h) (Or.inl ⟨by kernel_rfl, ?_⟩) hHeld ?_
    rotate_left 1
    · intro W hW; have k0 :=  cell_of_row W w.heap.size 1 _ _ (0, 0) ((hW.block _ HS1.out HNb.out).trans HRow.out); first | (go_simp; done) | (go_simp; with_reducible rfl)
    try simp only [Act.put, List.setIfInBounds_toArray, List.set_cons_zero, List.set_cons_succ]
    refine wpAnyH_take (i := 10) (oi := ⟨_, _, _, _, _, _⟩) (v := ?_) rfl (by kernel_rfl) (by kernel_rfl) (by kernel_rfl) (fun _ _ _ h => h) (Or.inl ⟨by kernel_rfl, ?_⟩) hHeld ?_
    rotate_left 1
    · intro W hW; first | (go_simp; done) | (go_simp; with_reducible rfl)
    try simp only [Act.put, List.setIfInBounds_toArray, List.set_cons_zero, List.set_cons_succ]
    refine wpAnyH_take (i := 11) (oi := ⟨_, _, _, _, _, _⟩) (v := ?_) rfl (by kernel_rfl) (by kernel_rfl) (by kernel_rfl) (fun _ _ _ h => h) (Or.inl ⟨by kernel_rfl, ?_⟩) hHeld ?_
    rotate_left 1
    · intro W hW; have k0 :=  cell_of_row W w.heap.size 2 _ _ (0, 0) ((hW.block _ HS1.out HNb.out).trans HRow.out); first | (go_simp; done) | (go_simp; with_reducible rfl)
    try simp only [Act.put, List.setIfInBounds_toArray, List.set_cons_zero, List.set_cons_succ]
    refine wpAnyH_ready (rs := [5]) (by kernel_rfl) (by simp) ?_
    refine AllReadyH.cons rfl (fun K hK => ?_) AllReadyH.nil
    rw [if_pos (by kernel_rfl)]
    go_simp
    refine (sector_any fl _).mono ?_
    rintro e ws ⟨rfl, hbs⟩
    have HDa := Lib.hid (HDr.out.below hbs)
    go_wp2_with fail
    refine hK.out _ _ ?_ (fun hHelda => ?_)
    · exact hHeld.trans (Kp.of_below hbs _) (fun _ _ x => x)
    clear hK K
    try simp only [Act.put, List.setIfInBounds_toArray, List.set_cons_zero, List.set_cons_succ]
    clear hbs HDr
    refine wpAnyH_ready (rs := [6]) (by kernel_rfl) (by simp) ?_
    refine AllReadyH.cons rfl (fun K hK => ?_) AllReadyH.nil
    rw [if_pos (by kernel_rfl)]
    go_simp
    refine (HDa.out.callD (x' := (x.write n (filL fl)).1) (R := fun e => e = .returned (.int .i64 ((x.write n (filL fl)).2 : Nat))) (fun B' hB _ => dWrite_any p B' x n (filL fl) _ (filL_len _) (by have := HF.out; omega) hB)).mono ?_
    rintro e wd ⟨rfl, hD⟩
    have HDb := Lib.hid hD
    go_wp2_with fail
    refine hK.out _ _ ?_ (fun hHeldaa => ?_)
    · exact hD.kp
    clear hK K
    try simp only [Act.put, List.setIfInBounds_toArray, List.set_cons_zero, List.set_cons_succ]
    clear hD HDa
    refine wpAnyH_ready (rs := [12]) (by kernel_rfl) (by simp) ?_
    refine AllReadyH.cons rfl (fun K hK => ?_) AllReadyH.nil
    rw [if_pos (by kernel_rfl)]
    go_simp
    refine (sector_any fl _).mono ?_
    rintro e wt ⟨rfl, hbt⟩
    have HDc := Lib.hid (HDb.out.below hbt)
    go_wp2_with fail
    refine hK.out _ _ ?_ (fun hHeldaaa => ?_)
    · exact hHeldaa.trans (Kp.of_below hbt _) (fun _ _ x => x)
    clear hK K
    try simp only [Act.put, List.setIfInBounds_toArray, List.set_cons_zero, List.set_cons_succ]
    clear hbt HDb
    refine wpAnyH_ready (rs := [13]) (by kernel_rfl) (by simp) ?_
    refine AllReadyH.cons rfl (fun K hK => ?_) AllReadyH.nil
    rw [if_pos (by kernel_rfl)]
    go_simp
    refine (HDc.out.callR (y' := (y.write n (filL fl)).1) (R := fun e => e = .returned (.int .i64 ((y.write n (filL fl)).2 : Nat))) (fun C' hC _ => rWrite_any q C' y n (filL fl) _ (filL_len _) (by have := HF.out; omega) hC)).mono ?_
    rintro e wu ⟨rfl, hD⟩
    have HDd := Lib.hid hD
    go_wp2_with fail
    refine hK.out _ _ ?_ (fun hHeldaaaa => ?_)
    · exact hD.kp
    clear hK K
    try simp only [Act.put, List.setIfInBounds_toArray, List.set_cons_zero, List.set_cons_succ]
    clear hD HDc
    refine wpAnyH_take (i := 14) (oi := ⟨_, _, _, _, _, _⟩) (v := ?_) rfl (by kernel_rfl) (by kernel_rfl) (by kernel_rfl) (fun _ _ _ h => h) (Or.inl ⟨by kernel_rfl, ?_⟩) hHeldaaaa ?_
    rotate_left 1
    · intro W hW; first | (go_simp; done) | (go_simp; with_reducible rfl)
    try simp only [Act.put, List.setIfInBounds_toArray, List.set_cons_zero, List.set_cons_succ]
    refine wpAnyH_take (i := 15) (oi := ⟨_, _, _, _, _, _⟩) (v := ?_) rfl (by kernel_rfl) (by kernel_rfl) (by kernel_rfl) (fun _ _ _ h => h) (Or.inl ⟨by kernel_rfl, ?_⟩) hHeldaaaa ?_
    rotate_left 1
    · intro W hW; first | (go_simp; done) | (go_simp; with_reducible rfl)
    try simp only [Act.put, List.setIfInBounds_toArray, List.set_cons_zero, List.set_cons_succ]
    refine wpAnyH_done (by kernel_rfl) ?_ _
    clear hHeldaaaa
    go_wp2_with fail
    go_ret
    exact ⟨_, rfl, fun e => by subst e; exact decide_eq_true rfl, HQ.out _ _ _ HDd.out⟩
  by_cases hk1 : kd = 1
  · subst hk1
    go_enter Try.func20, Try.ntmps20
    go_upto_region 1 with fail
    generalize hw1 : World.alloc w _ = w1
    have HRow := Lib.hid (show w1.heap[w.heap.size]? = some (.cells #[.int .i64 1, .int .i64 n, .int .u8 fl.toNat, .slice A ks.length c] 34 (0, 0)) by rw [← hw1]; exact heap_alloc_new _ _)
    have hb : Below w.heap.size w w1 := by rw [← hw1]; exact below_one _ _
    have HDuo := Lib.hid (show Duo w1 B1 C1 w1 p q x y from Duo.start (HDs.out.below hb) (HRs.out.below hb) (fun k hk => Nat.lt_of_lt_of_le (HB1.out k hk) hb.size) (fun k hk => Nat.lt_of_lt_of_le (HC1.out k hk) hb.size) H5.out)
    have HQ := Lib.hid (fun w' x' y' => HP.out w1 w' x' y' hb)
    have HIn := Lib.hid (HI.out.below hb)
    have HNb := Lib.hid (show ¬ (B1 w.heap.size ∨ C1 w.heap.size) from fun z => by rcases z with z | z; exact Nat.lt_irrefl _ (HB1.out _ z); exact Nat.lt_irrefl _ (HC1.out _ z))
    have HS1 := Lib.hid (lt_of_heap HRow.out)
    have HSz := Lib.hid hb.size
    clear hw1 hb HDs HRs HB1 HC1 H5 HP HI
    have k0 := cell_of_row w1 w.heap.size 0 _ _ (0, 0) HRow.out
    have HX := Lib.hid (HDuo.out.callD (P := Try.prog) (f := 24) (args := #[.pointer (some ⟨p, 0, none⟩)]) (x' := x.sync.1) (R := fun e => e = .returned (.int .i64 (x.sync.2 : Nat))) (fun B' hB _ => dSync_any p B' x _ (by have := HF.out; omega) hB))
    have HY := Lib.hid (fun w' (h : Duo w1 B1 C1 w' p q x.sync.1 y) => h.callR (P := Try.prog) (f := 53) (args := #[.pointer (some ⟨q, 0, none⟩)]) (y' := y.sync.1) (R := fun e => e = .returned (.int .i64 (y.sync.2 : Nat))) (fun C' hC _ => rSync_any q C' y _ hC))
    go_wp2_with (first
      | (go_at_call 24; refine HX.out.mono ?_; rintro e w2 ⟨rfl, hD2⟩; have HD2 := Lib.hid hD2; clear hD2)
      | (go_at_call 53; refine (HY.out _ HD2.out).mono ?_; rintro e w3 ⟨rfl, hD3⟩; have HD3 := Lib.hid hD3; clear hD3))
    go_ret
    exact ⟨_, rfl, fun e => by subst e; exact decide_eq_true rfl, HQ.out _ _ _ HD3.out⟩
  by_cases hk2 : kd = 2
  · subst hk2
    go_enter Try.func20, Try.ntmps20
    go_upto_region 1 with fail
    generalize hw1 : World.alloc w _ = w1
    have HRow := Lib.hid (show w1.heap[w.heap.size]? = some (.cells #[.int .i64 2, .int .i64 n, .int .u8 fl.toNat, .slice A ks.length c] 34 (0, 0)) by rw [← hw1]; exact heap_alloc_new _ _)
    have hb : Below w.heap.size w w1 := by rw [← hw1]; exact below_one _ _
    have HDuo := Lib.hid (show Duo w1 B1 C1 w1 p q x y from Duo.start (HDs.out.below hb) (HRs.out.below hb) (fun k hk => Nat.lt_of_lt_of_le (HB1.out k hk) hb.size) (fun k hk => Nat.lt_of_lt_of_le (HC1.out k hk) hb.size) H5.out)
    have HQ := Lib.hid (fun w' x' y' => HP.out w1 w' x' y' hb)
    have HIn := Lib.hid (HI.out.below hb)
    have HNb := Lib.hid (show ¬ (B1 w.heap.size ∨ C1 w.heap.size) from fun z => by rcases z with z | z; exact Nat.lt_irrefl _ (HB1.out _ z); exact Nat.lt_irrefl _ (HC1.out _ z))
    have HS1 := Lib.hid (lt_of_heap HRow.out)
    have HSz := Lib.hid hb.size
    clear hw1 hb HDs HRs HB1 HC1 H5 HP HI
    have k0 := cell_of_row w1 w.heap.size 0 _ _ (0, 0) HRow.out
    have k1 := cell_of_row w1 w.heap.size 1 _ _ (0, 0) HRow.out
    have HX := Lib.hid (HDuo.out.callD (P := Try.prog) (f := 38) (args := #[.pointer (some ⟨p, 0, none⟩), .int .i64 n]) (x' := x.brk n) (R := fun e => ∃ v, e = .returned v) (fun B' hB _ => dBreak_any p B' x n _ HN.out hB))
    have HY := Lib.hid (fun w' (h : Duo w1 B1 C1 w' p q (x.brk n) y) => h.callR (P := Try.prog) (f := 54) (args := #[.pointer (some ⟨q, 0, none⟩), .int .i64 n]) (y' := y.brk n) (R := fun e => ∃ v, e = .returned v) (fun C' hC _ => rBreak_any q C' y n _ HN.out hC))
    go_wp2_with (first
      | (go_at_call 38; refine HX.out.mono ?_; rintro e w2 ⟨⟨v2, rfl⟩, hD2⟩; have HD2 := Lib.hid hD2; have k2 := cell_of_row w2 w.heap.size 1 _ _ (0, 0) ((hD2.kp.block _ HS1.out HNb.out).trans HRow.out); clear hD2)
      | (go_at_call 54; refine (HY.out _ HD2.out).mono ?_; rintro e w3 ⟨⟨v3, rfl⟩, hD3⟩; have HD3 := Lib.hid hD3; clear hD3))
    go_ret
    exact ⟨_, rfl, fun _ => rfl, HQ.out _ _ _ HD3.out⟩
  by_cases hk3 : kd = 3
  · subst hk3
    go_enter Try.func20, Try.ntmps20
    go_upto_region 1 with fail
    generalize hw1 : World.alloc w _ = w1
    have HRow := Lib.hid (show w1.heap[w.heap.size]? = some (.cells #[.int .i64 3, .int .i64 n, .int .u8 fl.toNat, .slice A ks.length c] 34 (0, 0)) by rw [← hw1]; exact heap_alloc_new _ _)
    have hb : Below w.heap.size w w1 := by rw [← hw1]; exact below_one _ _
    have HDuo := Lib.hid (show Duo w1 B1 C1 w1 p q x y from Duo.start (HDs.out.below hb) (HRs.out.below hb) (fun k hk => Nat.lt_of_lt_of_le (HB1.out k hk) hb.size) (fun k hk => Nat.lt_of_lt_of_le (HC1.out k hk) hb.size) H5.out)
    have HQ := Lib.hid (fun w' x' y' => HP.out w1 w' x' y' hb)
    have HIn := Lib.hid (HI.out.below hb)
    have HNb := Lib.hid (show ¬ (B1 w.heap.size ∨ C1 w.heap.size) from fun z => by rcases z with z | z; exact Nat.lt_irrefl _ (HB1.out _ z); exact Nat.lt_irrefl _ (HC1.out _ z))
    have HS1 := Lib.hid (lt_of_heap HRow.out)
    have HSz := Lib.hid hb.size
    clear hw1 hb HDs HRs HB1 HC1 H5 HP HI
    have k0 := cell_of_row w1 w.heap.size 0 _ _ (0, 0) HRow.out
    have k1 := cell_of_row w1 w.heap.size 3 _ _ (0, 0) HRow.out
    have HX := Lib.hid (HDuo.out.callD (P := Try.prog) (f := 26) (args := #[.pointer (some ⟨p, 0, none⟩), .slice A ks.length c]) (x' := x.crash ks) (R := fun e => ∃ v, e = .returned v) (fun B' hB hs => dCrash_weak p B' x A c ks _ (by have := HF.out; omega) (by have := HF.out; omega) HIn.out (fun h0 a ha hx => by
      have z := HA.out h0 a ha
      have := HSz.out
      rcases hs _ hx with u | u
      · exact z.2.1 u
      · omega) hB))
    have HY := Lib.hid (fun w' (h : Duo w1 B1 C1 w' p q (x.crash ks) y) => h.callR (P := Try.prog) (f := 55) (args := #[.pointer (some ⟨q, 0, none⟩), .slice A ks.length c]) (y' := y.crash ks) (R := fun e => ∃ v, e = .returned v) (fun C' hC hs => rCrash_any q C' y A c ks _ (by have := HF.out; omega) (by have := HF.out; omega) (HIn.out.kpw h.kp (fun h0 a ha hx => by
      have z := HA.out h0 a ha
      rcases hx with u | u
      · exact z.2.1 u
      · exact z.2.2 u)) (fun h0 a ha hx => by
      have z := HA.out h0 a ha
      have := HSz.out
      rcases hs _ hx with u | u
      · exact z.2.2 u
      · omega) hC))
    go_wp2_with (first
      | (go_at_call 26; refine HX.out.mono ?_; rintro e w2 ⟨⟨v2, rfl⟩, hD2⟩; have HD2 := Lib.hid hD2; have k2 := cell_of_row w2 w.heap.size 3 _ _ (0, 0) ((hD2.kp.block _ HS1.out HNb.out).trans HRow.out); clear hD2)
      | (go_at_call 55; refine (HY.out _ HD2.out).mono ?_; rintro e w3 ⟨⟨v3, rfl⟩, hD3⟩; have HD3 := Lib.hid hD3; clear hD3))
    go_ret
    exact ⟨_, rfl, fun _ => rfl, HQ.out _ _ _ HD3.out⟩
  by_cases hk4 : kd = 4
  · subst hk4
    go_enter Try.func20, Try.ntmps20
    go_upto_region 1 with fail
    generalize hw1 : World.alloc w _ = w1
    have HRow := Lib.hid (show w1.heap[w.heap.size]? = some (.cells #[.int .i64 4, .int .i64 n, .int .u8 fl.toNat, .slice A ks.length c] 34 (0, 0)) by rw [← hw1]; exact heap_alloc_new _ _)
    have hb : Below w.heap.size w w1 := by rw [← hw1]; exact below_one _ _
    have HDuo := Lib.hid (show Duo w1 B1 C1 w1 p q x y from Duo.start (HDs.out.below hb) (HRs.out.below hb) (fun k hk => Nat.lt_of_lt_of_le (HB1.out k hk) hb.size) (fun k hk => Nat.lt_of_lt_of_le (HC1.out k hk) hb.size) H5.out)
    have HQ := Lib.hid (fun w' x' y' => HP.out w1 w' x' y' hb)
    have HIn := Lib.hid (HI.out.below hb)
    have HNb := Lib.hid (show ¬ (B1 w.heap.size ∨ C1 w.heap.size) from fun z => by rcases z with z | z; exact Nat.lt_irrefl _ (HB1.out _ z); exact Nat.lt_irrefl _ (HC1.out _ z))
    have HS1 := Lib.hid (lt_of_heap HRow.out)
    have HSz := Lib.hid hb.size
    clear hw1 hb HDs HRs HB1 HC1 H5 HP HI
    have k0 := cell_of_row w1 w.heap.size 0 _ _ (0, 0) HRow.out
    have k1 := cell_of_row w1 w.heap.size 1 _ _ (0, 0) HRow.out
    have HX := Lib.hid (dRead_any p _ x n w1 HDuo.out.dsk)
    have HY := Lib.hid (fun w' (h : Duo w1 B1 C1 w' p q x y) => rRead_any q _ y n w' h.rsk)
    have HXL := Lib.hid (show (x.readS n).length = 64 from Dk.readS_len HDuo.out.okx n)
    have HYL := Lib.hid (show (y.readS n).length = 64 from Dk.readS_len HDuo.out.oky n)
    have HE := Lib.hid (show x = y → x.readS n = y.readS n ∧ x.err n = y.err n from fun e => by subst e; exact ⟨rfl, rfl⟩)
    unfold ReadPost at HX HY
    generalize x.readS n = s at *
    generalize y.readS n = t at *
    generalize x.err n = ex at *
    generalize y.err n = ey at *
    go_wp2_with (first
      | (go_at_call 25; refine HX.out.mono ?_; rintro e w2 ⟨rfl, hb2⟩; have HB2 := Lib.hid hb2; have k2 := cell_of_row (w2.alloc (.cells (bc s).toArray 40)) w.heap.size 1 _ _ (0, 0) (((HB2.out.alloc HB2.out.size (.cells (bc s).toArray 40)).block _ HS1.out).trans HRow.out); clear hb2)
      | (refine wpList_alloc_row rfl _ rfl (secv zs) (bc zs).toArray sec_zero rfl ?_)
      | (refine wpList_store_row rfl _ _ _ rfl _ (bc s).toArray rfl rfl 40 (bc zs).toArray (heap_alloc_new _ _) (sec_info' s HXL.out) (by rw [bc_size, bc_size, HXL.out]; rfl) (bc_all s) ?_
         rw [World.setRow_alloc_new]))
    have hA2 : Below w1.heap.size w1 (w2.alloc (.cells (bc s).toArray 40)) := HB2.out.alloc HB2.out.size _
    have HDu2 := Lib.hid (HDuo.out.below hA2)
    have HXa := Lib.hid (heap_alloc_new w2 (.cells (bc s).toArray 40))
    have HXs := Lib.hid (show w2.heap.size < (w2.alloc (.cells (bc s).toArray 40)).heap.size by simp)
    clear hA2 HB2 k0 k1 HX
    generalize hw3 : World.alloc w2 _ = w3 at *
    clear hw3
    generalize w2.heap.size = g2 at *
    refine (HY.out w3 HDu2.out).mono ?_
    rintro e w4 ⟨rfl, hb4⟩
    have HDu4 := Lib.hid (HDu2.out.below hb4)
    have HXc := Lib.hid ((hb4.block _ HXs.out).trans HXa.out)
    have HSc := Lib.hid (Nat.lt_of_lt_of_le HXs.out hb4.size)
    clear hb4 HDu2 HXa HXs HY k2
    have hA5 : Below w4.heap.size w4 (w4.alloc (.cells (bc t).toArray 40)) := below_one _ _
    have HDu5 := Lib.hid (HDu4.out.below hA5)
    have HXd := Lib.hid ((hA5.block _ HSc.out).trans HXc.out)
    clear hA5
    by_cases hee : ex = ey
    · have hee' : (ex : Int) = (ey : Int) := by omega
      have heq := sec_eq s t HXL.out HYL.out
      have HR := Lib.hid (show x = y → decide (s = t) = true from fun e => decide_eq_true (HE.out e).1)
      generalize decide (s = t) = r at *
      go_wp2_with (first
        | (refine wpList_alloc_row rfl _ rfl (secv zs) (bc zs).toArray sec_zero rfl ?_)
        | (refine wpList_store_row rfl _ _ _ rfl _ (bc t).toArray rfl rfl 40 (bc zs).toArray (heap_alloc_new _ _) (sec_info' t HYL.out) (by rw [bc_size, bc_size, HYL.out]; rfl) (bc_all t) ?_
           rw [World.setRow_alloc_new])
        | (refine wpListG_row_at (3, true) rfl (by kernel_rfl) _ _ rfl g2 rfl 40 _ (0, 0) _ HXd.out Try.underlying40 rfl (sec_info' _ HXL.out) ?_)
        | (refine wpListG_row_at (3, true) rfl (by kernel_rfl) _ _ rfl w4.heap.size rfl 40 _ (0, 0) _ (heap_alloc_new _ _) Try.underlying40 rfl (sec_info' _ HYL.out) ?_))
      go_ret
      exact ⟨_, rfl, HR.out, HQ.out _ _ _ HDu5.out⟩
    · have hee' : ¬ (ex : Int) = (ey : Int) := by omega
      have HR := Lib.hid (show x = y → False from fun e => hee (HE.out e).2)
      go_wp2_with (first
        | (refine wpList_alloc_row rfl _ rfl (secv zs) (bc zs).toArray sec_zero rfl ?_)
        | (refine wpList_store_row rfl _ _ _ rfl _ (bc t).toArray rfl rfl 40 (bc zs).toArray (heap_alloc_new _ _) (sec_info' t HYL.out) (by rw [bc_size, bc_size, HYL.out]; rfl) (bc_all t) ?_
           rw [World.setRow_alloc_new]))
      go_ret
      exact ⟨_, rfl, fun e => (HR.out e).elim, HQ.out _ _ _ HDu5.out⟩
  go_enter Try.func20, Try.ntmps20
  go_upto_region 1 with fail
  generalize hw1 : World.alloc w _ = w1
  have HRow := Lib.hid (show w1.heap[w.heap.size]? = some (.cells #[.int .i64 kd, .int .i64 n, .int .u8 fl.toNat, .slice A ks.length c] 34 (0, 0)) by rw [← hw1]; exact heap_alloc_new _ _)
  have hb : Below w.heap.size w w1 := by rw [← hw1]; exact below_one _ _
  have HDuo := Lib.hid (show Duo w1 B1 C1 w1 p q x y from Duo.start (HDs.out.below hb) (HRs.out.below hb) (fun k hk => Nat.lt_of_lt_of_le (HB1.out k hk) hb.size) (fun k hk => Nat.lt_of_lt_of_le (HC1.out k hk) hb.size) H5.out)
  have HQ := Lib.hid (fun w' x' y' => HP.out w1 w' x' y' hb)
  have HIn := Lib.hid (HI.out.below hb)
  have HNb := Lib.hid (show ¬ (B1 w.heap.size ∨ C1 w.heap.size) from fun z => by rcases z with z | z; exact Nat.lt_irrefl _ (HB1.out _ z); exact Nat.lt_irrefl _ (HC1.out _ z))
  have HS1 := Lib.hid (lt_of_heap HRow.out)
  have HSz := Lib.hid hb.size
  clear hw1 hb HDs HRs HB1 HC1 H5 HP HI
  have k0 := cell_of_row w1 w.heap.size 0 _ _ (0, 0) HRow.out
  go_wp2_with fail
  go_ret
  exact ⟨_, rfl, fun _ => rfl, by
    have e : ∀ z : Dk, stepD z ⟨kd, n, fl, ks, A, c⟩ = z := fun z => by
      unfold stepD
      rw [if_neg hk0, if_neg hk1, if_neg hk2, if_neg hk3]
    rw [e, e]
    exact HQ.out _ _ _ HDuo.out⟩
end Go.Proofs.Ytlaecnggbcagcaa
