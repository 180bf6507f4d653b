/- Contract of package disk: Write. -/
import Derived.Test.YtlaecnggbcagcaaDk4
namespace Go.Proofs.Ytlaecnggbcagcaa
open Go.RowKit MM
set_option linter.unusedVariables false
set_option linter.unusedSimpArgs false

theorem setCells_kp1 (g : Nat) (o : Nat) (vs : List Value) (w : World) : Kp (fun k => k = g) w (w.setCells g o vs) := setCells_kp g (S := fun k => k = g) (.inl rfl) vs o w (Kp.refl _ w)
theorem secR_set (l : List (List UInt8)) (i : Nat) (s : List UInt8) : secR (l.set i s) = (secR l).set i (bc s) := by simp [secR, List.map_set]
/-- A sector is read anew. -/
theorem DkAt.storeN {w : World} {p g c : Nat} {G Pd : Value} {d : Dk} (h : DkAt w p G (.slice (some ⟨g, 0, none⟩) d.now.length c) Pd d) (hs : ∀ s ∈ d.now, s.length = 64) {j : Nat} (hj : j < d.now.length) (s : List UInt8) (hl : s.length = 64) :
    DkAt (w.setCells g (j * 64) (bc s)) p G (.slice (some ⟨g, 0, none⟩) d.now.length c) Pd { d with now := d.now.set j s } := by
  have hk := setCells_kp1 g (j * 64) (bc s) w
  refine ⟨(hk.block _ (lt_of_heap h.box) (fun e => (h.np g rfl).2 e.symm)).trans h.box, own_kp h.good hk fun b e x => (h.gn b e).1 (by rw [x]; rfl), ?_, own_kp h.pend hk fun b e x => (h.np g rfl).1 (by rw [e, x]), h.gn, h.np, h.pp⟩
  have ho := own_store h.now (secR_ok hs) (by simp [secR]) (i := j) (by simpa [secR] using hj) (bc s) (by rw [bc_length, hl])
  show (w.setCells g (j * 64) (bc s)).ownsRow 0 40 64 _ (d.now.set j s).length (secR (d.now.set j s)).flatten
  rw [secR_set, List.length_set]
  exact ho
theorem DkAt.storeG {w : World} {p g c : Nat} {N Pd : Value} {d : Dk} (h : DkAt w p (.slice (some ⟨g, 0, none⟩) d.good.length c) N Pd d) (hs : ∀ s ∈ d.good, s.length = 64) {j : Nat} (hj : j < d.good.length) (s : List UInt8) (hl : s.length = 64) :
    DkAt (w.setCells g (j * 64) (bc s)) p (.slice (some ⟨g, 0, none⟩) d.good.length c) N Pd { d with good := d.good.set j s } := by
  have hk := setCells_kp1 g (j * 64) (bc s) w
  refine ⟨(hk.block _ (lt_of_heap h.box) (fun e => (h.gn g rfl).2.2 e.symm)).trans h.box, ?_, own_kp h.now hk fun b e x => (h.gn g rfl).1 (by rw [e, x]), own_kp h.pend hk fun b e x => (h.gn g rfl).2.1 (by rw [e, x]), h.gn, h.np, h.pp⟩
  have ho := own_store h.good (secR_ok hs) (by simp [secR]) (i := j) (by simpa [secR] using hj) (bc s) (by rw [bc_length, hl])
  show (w.setCells g (j * 64) (bc s)).ownsRow 0 40 64 _ (d.good.set j s).length (secR (d.good.set j s)).flatten
  rw [secR_set, List.length_set]
  exact ho
theorem pen_one (x : Nat × List UInt8) : ∀ u ∈ penV x, u.oneCell' = true := by
  intro u hu
  rcases List.mem_cons.1 hu with rfl | h
  · rfl
  · exact bc_one _ u h
theorem DkAt.alloc {w : World} {p : Nat} {G N Pd : Value} {d : Dk} (h : DkAt w p G N Pd d) (o : Obj) : DkAt (w.alloc o) p G N Pd d :=
  h.keep (Kp.of_below ((Below.refl _ w).alloc (Nat.le_refl _) o) (fun _ => False)) (fun _ _ x => x)
theorem penR_snoc (l : List (Nat × List UInt8)) (x : Nat × List UInt8) : (penR (l ++ [x])).flatten = (penR l).flatten ++ penV x := by simp [penR]
/-- Behind an append onto what is pending. -/
theorem DkAt.push {w w3 : World} {p : Nat} {G N : Value} {Pa A2 : Option Addr} {pc c2 : Nat} {d : Dk} {x : Nat × List UInt8} (h : DkAt w p G N (.slice Pa d.pend.length pc) d) (hg : w.grownBy w3 (ob Pa)) (hat : ob A2 = ob Pa ∨ ob A2 = some w.heap.size)
    (ho : w3.ownsRow 0 95 65 (.slice A2 (d.pend.length + 1) c2) (d.pend.length + 1) ((penR d.pend).flatten ++ (penV x).toArray.toList)) :
    DkAt (w3.setCell ⟨p, 2, none⟩ (.slice A2 (d.pend.length + 1) c2)) p G N (.slice A2 (d.pend.length + 1) c2) { d with pend := d.pend ++ [x] } := by
  have hk := (Kp.refl (fun k => ob Pa = some k) w).grown hg (fun k e => .inl e)
  have hp := lt_of_heap h.box
  have hne : ∀ b, ob Pa = some b → b ≠ p := fun b e => h.pp b (by rw [ownBlock_slice]; exact e)
  have hx := (hk.block p hp (fun e => hne p e rfl)).trans h.box
  have hAp : ∀ k, ob A2 = some k → k ≠ p := fun k e => by
    rcases hat with y | y
    · rw [y] at e; exact hne k e
    · rw [y] at e; injection e with e; omega
  have hA : ∀ k, ob A2 = some k → ob Pa = some k ∨ k = w.heap.size := fun k e => by
    rcases hat with y | y
    · rw [y] at e; exact .inl e
    · rw [y] at e; injection e with e; exact .inr e.symm
  have hk2 : Kp (fun k => k = p) w3 (w3.setCell ⟨p, 2, none⟩ (.slice A2 (d.pend.length + 1) c2)) := Kp.setCell (S := fun k => k = p) (p := ⟨p, 2, none⟩) (Kp.refl _ w3) (.inl rfl) _
  refine ⟨heap_setCell_same w3 p 2 _ _ _ hx, ?_, ?_, ?_, fun k e => ⟨(h.gn k e).1, ?_, (h.gn k e).2.2⟩, fun k e => ⟨?_, (h.np k e).2⟩, fun k e => hAp k (by rw [ownBlock_slice] at e; exact e)⟩
  · exact own_kp (own_kp h.good hk fun b e x => (h.gn b e).2.1 (by rw [ownBlock_slice]; exact x)) hk2 fun b e x => (h.gn b e).2.2 x
  · exact own_kp (own_kp h.now hk fun b e x => (h.np b e).1 (by rw [ownBlock_slice]; exact x)) hk2 fun b e x => (h.np b e).2 x
  · have := own_kp ho hk2 fun b e x => hAp b (by rw [ownBlock_slice] at e; exact e) x
    show (w3.setCell _ _).ownsRow 0 95 65 _ (d.pend ++ [x]).length (penR (d.pend ++ [x])).flatten
    rw [penR_snoc, List.length_append]
    exact this
  · rw [ownBlock_slice]
    intro y
    rcases hA k y with z | z
    · exact (h.gn k e).2.1 (by rw [ownBlock_slice]; exact z)
    · have := h.lt k (.inr (.inl e)); omega
  · rw [ownBlock_slice]
    intro y
    rcases hA k y with z | z
    · exact (h.np k e).1 (by rw [ownBlock_slice]; exact z)
    · have := h.lt k (.inr (.inr (.inl e))); omega
theorem DkAt.grown {w w3 : World} {p : Nat} {G N : Value} {Pa : Option Addr} {pc n : Nat} {d : Dk} (h : DkAt w p G N (.slice Pa n pc) d) (hg : w.grownBy w3 (ob Pa)) :
    w3.cell? ⟨p, 2, none⟩ = some (.slice Pa n pc) ∧ w3.frozen? ⟨p, 2, none⟩ = false := by
  have hk := (Kp.refl (fun k => ob Pa = some k) w).grown hg (fun k e => .inl e)
  have hx := (hk.block p (lt_of_heap h.box) (fun e => h.pp p (by rw [ownBlock_slice]; exact e) rfl)).trans h.box
  exact ⟨cell_of_row w3 p 2 _ _ (0, 0) hx, frozen_of_row w3 p 2 _ _ hx⟩
theorem put_ok {d : Dk} (h : d.ok) {j : Nat} (hj : j < d.now.length) {s : List UInt8} (hs : s.length = 64) : (d.put j s).ok where
  secs := h.secs
  nows := fun x hx => by
    rcases List.mem_or_eq_of_mem_set hx with y | y
    · exact h.nows x y
    · rw [y]; exact hs
  len := by show (d.now.set j s).length = _; rw [List.length_set]; exact h.len
  pos := h.pos
  lim := h.lim
  pend := fun x hx => by
    have hx : x ∈ d.pend ++ [(j, s)] := hx
    rcases List.mem_append.1 hx with y | y
    · exact h.pend x y
    · have : x = (j, s) := by simpa using y
      subst this
      exact ⟨by have := h.len; show j < d.good.length; omega, hs⟩
  play := by
    show d.now.set j s = play d.good (d.pend ++ [(j, s)])
    unfold play
    rw [List.foldl_append, List.foldl_cons, List.foldl_nil]
    have := h.play
    unfold play at this
    rw [← this]
  left := h.left

def WritePost (p : Nat) (B : Nat → Prop) (r : Dk × Nat) (w : World) (e : Ending) (w' : World) : Prop := e = .returned (.int .i64 (r.2 : Nat)) ∧ DkPost p B r.1 w w'

set_option maxHeartbeats 4000000 in
set_option maxRecDepth 100000 in
theorem dWrite_any (p : Nat) (B : Nat → Prop) (d : Dk) (i : Int) (s : List UInt8) (w : World) (hs : s.length = 64) (hfew : d.pend.length ≤ 100000) (h : Dsk w p B d) :
    Calls Try.prog 22 #[.pointer (some ⟨p, 0, none⟩), .int .i64 i, secv s] w (WritePost p B (d.write i s) w) := by
  have HSL := Lib.hid hs
  have HC := Lib.hid (dCheck_any p B d i (w.alloc (.cells (bc s).toArray 40)) (h.below ((Below.refl _ _).alloc (Nat.le_refl _) _)))
  rcases d.err_cases i with h0 | ⟨h0, hdn, j, rfl, hj⟩
  · have HR := Lib.hid (show d.write i s = (d, d.err i) from if_neg h0)
    have HD := Lib.hid (h.below ((Below.refl _ w).alloc (Nat.le_refl _) (.cells (bc s).toArray 40)))
    have hne : ¬ ((d.err i : Nat) : Int) = 0 := by omega
    unfold WritePost
    rw [HR.out]
    generalize d.err i = e at *
    clear HR h h0
    go_enter Try.func22, Try.ntmps22
    go_wp2_with (first
      | (go_at_call 57; refine HC.out.mono ?_; rintro e w' ⟨rfl, rfl⟩))
    go_ret
    exact ⟨rfl, HD.out.mono (fun k _ hk => .inl hk), (Kp.refl B w).alloc _⟩
  have hok := h.ok
  have HOK := Lib.hid hok
  have HW := Lib.hid (show d.write (j : Int) s = (d.put j s).wear by unfold Dk.write; rw [if_pos h0, Int.toNat_natCast])
  obtain ⟨G, N, Pd, h, hB, _⟩ := h
  obtain ⟨g, c, rfl⟩ := own_at1 h.now (by omega)
  obtain ⟨Pa, pc, rfl⟩ := own_sl h.pend
  have HB := Lib.hid hB
  have h1 := h.keep (Kp.of_below ((Below.refl _ w).alloc (Nat.le_refl _) (.cells (bc s).toArray 40)) (fun _ => False)) (fun _ _ x => x)
  have HS := Lib.hid (heap_alloc_new w (.cells (bc s).toArray 40))
  have HK := Lib.hid ((Kp.refl B w).alloc (.cells (bc s).toArray 40))
  have HZ := Lib.hid (show ¬ p = g ∧ ¬ w.heap.size = g ∧ ¬ w.heap.size = p ∧ (∀ k, ob Pa = some k → k ≠ w.heap.size) ∧ w.heap.size < (w.alloc (.cells (bc s).toArray 40)).heap.size from
    ⟨fun e => (h.np g rfl).2 e.symm, fun e => by have := h.lt g (.inr (.inr (.inl rfl))); omega, fun e => by have := lt_of_heap h.box; omega, fun k e x => by
      have := h.lt k (.inr (.inr (.inr (by rw [ownBlock_slice]; exact e)))); omega, by simp⟩)
  have H1 := Lib.hid h1
  have HJ := Lib.hid hj
  have hj' : (j : Int) < (d.now.length : Int) := by omega
  rw [h0] at HC
  clear h h1 hB hok h0 hdn hj hs
  go_enter Try.func22, Try.ntmps22
  go_upto_region 4 with (first
    | (go_at_call 57; refine HC.out.mono ?_; rintro e w' ⟨rfl, rfl⟩))
  generalize hw1 : World.alloc w _ = w1 at *
  clear HC
  obtain ⟨i0, hi0, hz0, hz1, hz2⟩ := info_parts pen_info3
  refine wp_region_held_drew (S := fun W => Kp (fun k => k = g) w1 W) (by kernel_rfl) (Kp.drew (Kp.refl _ _)) (fun hHeld => ?_)
  have H0 := Lib.hid (show DkAt (World.drew w1) p G (.slice (some ⟨g, 0, none⟩) d.now.length c) (.slice Pa d.pend.length pc) d from H1.out.keep (Kp.drew (Kp.refl (fun _ => False) w1)) (fun _ _ x => x))
  generalize World.drew w1 = v0 at *
  refine wpAnyH_take (i := 0) (oi := ⟨_, _, _, _, _, _⟩) (v := ?_) rfl (by kernel_rfl) (by kernel_rfl) (by kernel_rfl) (fun _ _ _ h => h) (Or.inl ⟨by kernel_rfl, ?_⟩) hHeld ?_
  rotate_left 1
  · intro W hW; first | (go_simp; done) | (go_simp; with_reducible rfl)
  try simp only [Act.put, List.setIfInBounds_toArray, List.set_cons_zero, List.set_cons_succ]
  refine wpAnyH_take (i := 1) (oi := ⟨_, _, _, _, _, _⟩) (v := ?_) rfl (by kernel_rfl) (by kernel_rfl) (by kernel_rfl) (fun _ _ _ h => h) (Or.inl ⟨by kernel_rfl, ?_⟩) hHeld ?_
  rotate_left 1
  · intro W hW; first | (go_simp; done) | (go_simp; with_reducible rfl)
  try simp only [Act.put, List.setIfInBounds_toArray, List.set_cons_zero, List.set_cons_succ]
  refine wpAnyH_take (i := 2) (oi := ⟨_, _, _, _, _, _⟩) (v := ?_) rfl (by kernel_rfl) (by kernel_rfl) (by kernel_rfl) (fun _ _ _ h => h) (Or.inl ⟨by kernel_rfl, ?_⟩) hHeld ?_
  rotate_left 1
  · intro W hW; first | (go_simp; done) | (go_simp; with_reducible rfl)
  try simp only [Act.put, List.setIfInBounds_toArray, List.set_cons_zero, List.set_cons_succ]
  refine wpAnyH_take (i := 3) (oi := ⟨_, _, _, _, _, _⟩) (v := ?_) rfl (by kernel_rfl) (by kernel_rfl) (by kernel_rfl) (fun _ _ _ h => h) (Or.inl ⟨by kernel_rfl, ?_⟩) hHeld ?_
  rotate_left 1
  · intro W hW; have k0 :=  hW.cell H1.out.c1 HZ.out.1; first | (go_simp; done) | (go_simp; with_reducible rfl)
  try simp only [Act.put, List.setIfInBounds_toArray, List.set_cons_zero, List.set_cons_succ]
  refine wpAnyH_take (i := 4) (oi := ⟨_, _, _, _, _, _⟩) (v := ?_) rfl (by kernel_rfl) (by kernel_rfl) (by kernel_rfl) (fun _ _ _ h => h) (Or.inl ⟨by kernel_rfl, ?_⟩) hHeld ?_
  rotate_left 1
  · intro W hW; first | (go_simp; done) | (go_simp; with_reducible rfl)
  try simp only [Act.put, List.setIfInBounds_toArray, List.set_cons_zero, List.set_cons_succ]
  refine wpAnyH_take (i := 5) (oi := ⟨_, _, _, _, _, _⟩) (v := .agg (bc s).toArray) rfl (by kernel_rfl) (by kernel_rfl) (by kernel_rfl) (fun _ _ _ h => h) (yieldsIf_load_row (S := fun W => Kp (fun k => k = g) w1 W) (by kernel_rfl) 40 _ rfl w.heap.size rfl (bc s).toArray 40 _ (fun W hW => (hW.block _ (lt_of_heap HS.out) HZ.out.2.1).trans HS.out) Try.underlying40 rfl (sec_info' s HSL.out)) hHeld ?_
  try simp only [Act.put, List.setIfInBounds_toArray, List.set_cons_zero, List.set_cons_succ]
  refine wpAnyH_take (i := 6) (oi := ⟨_, _, _, _, _, _⟩) (v := ?_) rfl (by kernel_rfl) (by kernel_rfl) (by kernel_rfl) (fun _ _ _ h => h) (Or.inl ⟨by kernel_rfl, ?_⟩) hHeld ?_
  rotate_left 1
  · intro W hW; first | (go_simp; done) | (go_simp; with_reducible rfl)
  try simp only [Act.put, List.setIfInBounds_toArray, List.set_cons_zero, List.set_cons_succ]
  refine wpAnyH_ready (rs := [7]) (by kernel_rfl) (by simp) ?_
  refine AllReadyH.cons rfl (fun K hK => ?_) AllReadyH.nil
  have HT := Lib.hid (show v0.there g (j * 64) (bc s).toArray.size by rw [bc_size, HSL.out]; exact own_there H0.out.now (secR_ok HOK.out.nows) (by simp [secR]) (by simpa [secR] using HJ.out))
  rw [if_pos (by kernel_rfl)]
  refine wp_store_mid 40 _ _ rfl g (j * 64) (bc s).toArray rfl rfl HT.out (sec_info' s HSL.out) (bc_all s) ?_
  have H2 := Lib.hid (show DkAt (v0.setCells g (j * 64) (bc s).toArray.toList) p G (.slice (some ⟨g, 0, none⟩) d.now.length c) (.slice Pa d.pend.length pc) { d with now := d.now.set j s } from H0.out.storeN HOK.out.nows HJ.out s HSL.out)
  have hkx : Kp (fun k => k = g) v0 (v0.setCells g (j * 64) (bc s).toArray.toList) := setCells_kp1 g _ _ _
  generalize v0.setCells g (j * 64) (bc s).toArray.toList = v1 at *
  refine hK.out _ _ ?_ (fun hHelda => ?_)
  · exact hHeld.trans hkx (fun _ _ x => x)
  clear hK K
  try simp only [Act.put, List.setIfInBounds_toArray, List.set_cons_zero, List.set_cons_succ]
  clear hkx HT
  refine wpAnyH_done (by kernel_rfl) ?_ _
  have HK1 := Lib.hid hHelda
  have HS2 := Lib.hid ((HK1.out.block _ (lt_of_heap HS.out) HZ.out.2.1).trans HS.out)
  clear hHelda H0
  go_upto_region 5 with fail
  refine wp_region_held_drew (S := fun W => Kp (fun k => k = p ∨ ob Pa = some k) v1 W) (by kernel_rfl) (Kp.drew (Kp.refl _ _)) (fun hHeld => ?_)
  have H3 := Lib.hid (show DkAt (World.drew v1) p G (.slice (some ⟨g, 0, none⟩) d.now.length c) (.slice Pa d.pend.length pc) { d with now := d.now.set j s } from H2.out.keep (Kp.drew (Kp.refl (fun _ => False) v1)) (fun _ _ x => x))
  have HLt := Lib.hid (show w.heap.size ≤ (World.drew v1).heap.size from Nat.le_trans HK.out.size HK1.out.size)
  generalize World.drew v1 = v2 at *
  refine wpAnyH_take (i := 0) (oi := ⟨_, _, _, _, _, _⟩) (v := ?_) rfl (by kernel_rfl) (by kernel_rfl) (by kernel_rfl) (fun _ _ _ h => h) (Or.inl ⟨by kernel_rfl, ?_⟩) hHeld ?_
  rotate_left 1
  · intro W hW; first | (go_simp; done) | (go_simp; with_reducible rfl)
  try simp only [Act.put, List.setIfInBounds_toArray, List.set_cons_zero, List.set_cons_succ]
  refine wpAnyH_take (i := 1) (oi := ⟨_, _, _, _, _, _⟩) (v := ?_) rfl (by kernel_rfl) (by kernel_rfl) (by kernel_rfl) (fun _ _ _ h => h) (Or.inl ⟨by kernel_rfl, ?_⟩) hHeld ?_
  rotate_left 1
  · intro W hW; first | (go_simp; done) | (go_simp; with_reducible rfl)
  try simp only [Act.put, List.setIfInBounds_toArray, List.set_cons_zero, List.set_cons_succ]
  refine wpAnyH_take (i := 2) (oi := ⟨_, _, _, _, _, _⟩) (v := ?_) rfl (by kernel_rfl) (by kernel_rfl) (by kernel_rfl) (fun _ _ _ h => h) (Or.inl ⟨by kernel_rfl, ?_⟩) hHeld ?_
  rotate_left 1
  · intro W hW; first | (go_simp; done) | (go_simp; with_reducible rfl)
  try simp only [Act.put, List.setIfInBounds_toArray, List.set_cons_zero, List.set_cons_succ]
  refine wpAnyH_take (i := 3) (oi := ⟨_, _, _, _, _, _⟩) (v := ?_) rfl (by kernel_rfl) (by kernel_rfl) (by kernel_rfl) (fun _ _ _ h => h) (Or.inl ⟨by kernel_rfl, ?_⟩) hHeld ?_
  rotate_left 1
  · intro W hW; first | (go_simp; done) | (go_simp; with_reducible rfl)
  try simp only [Act.put, List.setIfInBounds_toArray, List.set_cons_zero, List.set_cons_succ]
  refine wpAnyH_take (i := 5) (oi := ⟨_, _, _, _, _, _⟩) (v := ?_) rfl (by kernel_rfl) (by kernel_rfl) (by kernel_rfl) (fun _ _ _ h => h) (Or.inl ⟨by kernel_rfl, ?_⟩) hHeld ?_
  rotate_left 1
  · intro W hW; first | (go_simp; done) | (go_simp; with_reducible rfl)
  try simp only [Act.put, List.setIfInBounds_toArray, List.set_cons_zero, List.set_cons_succ]
  refine wpAnyH_take (i := 6) (oi := ⟨_, _, _, _, _, _⟩) (v := .agg (bc s).toArray) rfl (by kernel_rfl) (by kernel_rfl) (by kernel_rfl) (fun _ _ _ h => h) (yieldsIf_load_row (S := fun W => Kp (fun k => k = p ∨ ob Pa = some k) v1 W) (by kernel_rfl) 40 _ rfl w.heap.size rfl (bc s).toArray 40 _ (fun W hW => (hW.block _ (lt_of_heap HS2.out) (by rintro (x | x); exact HZ.out.2.2.1 x; exact HZ.out.2.2.2.1 _ x rfl)).trans HS2.out) Try.underlying40 rfl (sec_info' s HSL.out)) hHeld ?_
  try simp only [Act.put, List.setIfInBounds_toArray, List.set_cons_zero, List.set_cons_succ]
  refine wpAnyH_take (i := 7) (oi := ⟨_, _, _, _, _, _⟩) (v := (.agg (penV (j, s)).toArray)) rfl (by kernel_rfl) (by kernel_rfl) (by kernel_rfl) (fun _ _ _ h => h) (yieldsIf_build_row (S := fun W => Kp (fun k => k = p ∨ ob Pa = some k) v1 W) (by kernel_rfl) _ _ rfl (penV (j, s)).toArray (Eq.trans (b := Try.prog.built 95 [(0, .int .i64 (j : Int)), (1, secv s)]) (by kernel_rfl) (built_pen j s HSL.out))) hHeld ?_
  try simp only [Act.put, List.setIfInBounds_toArray, List.set_cons_zero, List.set_cons_succ]
  refine wpAnyH_ready (rs := [4, 8]) (by kernel_rfl) (by simp) ?_
  refine AllReadyH.cons rfl (fun K hK => ?_) (AllReadyH.cons rfl (fun K hK => ?_) AllReadyH.nil)
  · have k0 := H3.out.c2
    have k1 := fun o => (World.cell?_alloc_lt v2 o ⟨p, 2, none⟩ (lt_of_heap H3.out.box)).trans k0
    rw [if_pos (by kernel_rfl)]
    go_simp
    refine hK.out _ _ ?_ (fun hHelda => ?_)
    · exact hHeld
    clear hK K
    try simp only [Act.put, List.setIfInBounds_toArray, List.set_cons_zero, List.set_cons_succ]
    clear k0 k1
    refine wpAnyH_ready (rs := [8]) (by kernel_rfl) (by simp) ?_
    refine AllReadyH.cons rfl (fun K hK => ?_) AllReadyH.nil
    rw [if_pos (by kernel_rfl)]
    refine wp_slice_one 84 95 (.tmp 28) rfl 65 (.agg (.int .i64 0 :: bc zs).toArray) (penV (j, s)) (by kernel_rfl) Try.underlying84 pen_info rfl (by omega) (by omega) (by simp [penV, bc_length, HSL.out]) ?_
    refine hK.out _ _ ?_ (fun hHeldaa => ?_)
    · exact hHelda.alloc _
    clear hK K
    try simp only [Act.put, List.setIfInBounds_toArray, List.set_cons_zero, List.set_cons_succ]
    refine wpAnyH_ready (rs := [9]) (by kernel_rfl) (by simp) ?_
    refine AllReadyH.cons rfl (fun K hK => ?_) AllReadyH.nil
    rw [if_pos (by kernel_rfl)]
    refine wp_append_at (.tmp 25) (.tmp 29) 84 84 rfl 95 i0 _ 65 72 Try.underlying84 hi0 hz0 hz1 hz2 rfl Pa d.pend.length pc (penR d.pend).flatten rfl ((H3.out.alloc (.cells (penV (j, s)).toArray 95)).pend) _ 1 _ rfl (src_new (t := 95) Try.underlying84 v2 (penV (j, s)).toArray (by simp [penV, bc_length, HSL.out]) (by simpa using pen_one (j, s))) (by unfold maxLen; omega) (by omega) ?_
    intro A2 c2 v3 ho3 hg3 hat3
    have H4 := Lib.hid (show DkAt (v3.setCell ⟨p, 2, none⟩ (.slice A2 (d.pend.length + 1) c2)) p G (.slice (some ⟨g, 0, none⟩) d.now.length c) (.slice A2 (d.pend.length + 1) c2) { d with now := d.now.set j s, pend := d.pend ++ [(j, s)] } from DkAt.push (d := { d with now := d.now.set j s }) (H3.out.alloc (.cells (penV (j, s)).toArray 95)) hg3 hat3 ho3)
    have HF := Lib.hid ((H3.out.alloc (.cells (penV (j, s)).toArray 95)).grown hg3)
    have HBk := Lib.hid (fun k (hk : Blk p G (.slice (some ⟨g, 0, none⟩) d.now.length c) (.slice A2 (d.pend.length + 1) c2) k) (hkw : k < w.heap.size) => (show Blk p G (.slice (some ⟨g, 0, none⟩) d.now.length c) (.slice Pa d.pend.length pc) k from by
      rcases hk with x | x | x | x
      · exact .inl x
      · exact .inr (.inl x)
      · exact .inr (.inr (.inl x))
      · rw [ownBlock_slice] at x
        rcases hat3 with y | y
        · exact .inr (.inr (.inr (by rw [ownBlock_slice, ← y]; exact x)))
        · rw [y] at x; injection x with x; have := HLt.out; simp at x; omega))
    have hk3 := (Kp.refl (fun k => k = p ∨ ob Pa = some k) (v2.alloc (.cells (penV (j, s)).toArray 95))).grown hg3 (fun k e => .inl (.inr e))
    refine hK.out _ _ ?_ (fun hHeldaaa => ?_)
    · exact (hHeldaa).trans hk3 (fun _ _ x => x)
    clear hK K
    try simp only [Act.put, List.setIfInBounds_toArray, List.set_cons_zero, List.set_cons_succ]
    clear hk3 hg3 hat3 ho3
    refine wpAnyH_take (i := 10) (oi := ⟨_, _, _, _, _, _⟩) (v := ?_) rfl (by kernel_rfl) (by kernel_rfl) (by kernel_rfl) (fun _ _ _ h => h) (Or.inl ⟨by kernel_rfl, ?_⟩) hHeldaaa ?_
    rotate_left 1
    · intro W hW; first | (go_simp; done) | (go_simp; with_reducible rfl)
    try simp only [Act.put, List.setIfInBounds_toArray, List.set_cons_zero, List.set_cons_succ]
    refine wpAnyH_take (i := 11) (oi := ⟨_, _, _, _, _, _⟩) (v := ?_) rfl (by kernel_rfl) (by kernel_rfl) (by kernel_rfl) (fun _ _ _ h => h) (Or.inl ⟨by kernel_rfl, ?_⟩) hHeldaaa ?_
    rotate_left 1
    · intro W hW; first | (go_simp; done) | (go_simp; with_reducible rfl)
    try simp only [Act.put, List.setIfInBounds_toArray, List.set_cons_zero, List.set_cons_succ]
    refine wpAnyH_ready (rs := [12]) (by kernel_rfl) (by simp) ?_
    refine AllReadyH.cons rfl (fun K hK => ?_) AllReadyH.nil
    have k0 := HF.out.1
    have k1 := HF.out.2
    rw [if_pos (by kernel_rfl)]
    go_simp
    have hkx : Kp (fun k => k = p ∨ ob Pa = some k) v3 (v3.setCell ⟨p, 2, none⟩ (.slice A2 (d.pend.length + 1) c2)) := Kp.setCell (p := ⟨p, 2, none⟩) (Kp.refl _ v3) (.inl (.inl rfl)) _
    generalize v3.setCell ⟨p, 2, none⟩ (.slice A2 (d.pend.length + 1) c2) = v4 at *
    refine hK.out _ _ ?_ (fun hHeldaaaa => ?_)
    · exact hHeldaaa.trans hkx (fun _ _ x => x)
    clear hK K
    try simp only [Act.put, List.setIfInBounds_toArray, List.set_cons_zero, List.set_cons_succ]
    clear hkx HF k0 k1
    refine wpAnyH_done (by kernel_rfl) ?_ _
    have HK4 := Lib.hid hHeldaaaa
    clear hHeldaaaa
    have b3 := H4.out.c3
    have f3 := H4.out.fr 3
    go_wp2_with fail
    have HKw := Lib.hid (show Kp B w (v4.setCell ⟨p, 3, none⟩ (.int .i64 (wrap64 (d.writes + 1)))) from ((HK.out.trans HK1.out (fun k _ x => by rw [x]; exact HB.out g (.inr (.inr (.inl rfl))))).trans HK4.out (fun k _ x => by rcases x with x | x; exact HB.out k (.inl x); exact HB.out k (.inr (.inr (.inr (by rw [ownBlock_slice]; exact x)))))).setCell (.inl (HB.out p (.inl rfl))) _)
    have HD := Lib.hid (show Dsk (v4.setCell ⟨p, 3, none⟩ (.int .i64 (wrap64 (d.writes + 1)))) p (fun k => B k ∨ w.heap.size ≤ k) (d.put j s) from ⟨G, _, _, H4.out.upd 3 _ (d.put j s) rfl rfl rfl rfl, fun k hk => by
      by_cases hkw : w.heap.size ≤ k
      · exact .inr hkw
      · exact .inl (HB.out k (HBk.out k hk (by omega))), put_ok HOK.out HJ.out HSL.out⟩)
    refine (dWear_any p _ (d.put j s) _ HD.out).mono ?_
    rintro e w9 ⟨rfl, hD9, hk9⟩
    go_wp2_with fail
    go_ret
    rw [HW.out]
    exact ⟨rfl, hD9.mono (fun k hk hb => by rcases hb with hb | hb; exact .inl hb; exact .inr ⟨hb, hk⟩), HKw.out.trans hk9 (fun k hk hb => by rcases hb with hb | hb; exact hb; omega)⟩
  · rw [if_pos (by kernel_rfl)]
    refine wp_slice_one 84 95 (.tmp 28) rfl 65 (.agg (.int .i64 0 :: bc zs).toArray) (penV (j, s)) (by kernel_rfl) Try.underlying84 pen_info rfl (by omega) (by omega) (by simp [penV, bc_length, HSL.out]) ?_
    refine hK.out _ _ ?_ (fun hHelda => ?_)
    · exact hHeld.alloc _
    clear hK K
    try simp only [Act.put, List.setIfInBounds_toArray, List.set_cons_zero, List.set_cons_succ]
    refine wpAnyH_ready (rs := [4]) (by kernel_rfl) (by simp) ?_
    refine AllReadyH.cons rfl (fun K hK => ?_) AllReadyH.nil
    have k0 := H3.out.c2
    have k1 := fun o => (World.cell?_alloc_lt v2 o ⟨p, 2, none⟩ (lt_of_heap H3.out.box)).trans k0
    rw [if_pos (by kernel_rfl)]
    go_simp
    refine hK.out _ _ ?_ (fun hHeldaa => ?_)
    · exact hHelda
    clear hK K
    try simp only [Act.put, List.setIfInBounds_toArray, List.set_cons_zero, List.set_cons_succ]
    clear k0 k1
    refine wpAnyH_ready (rs := [9]) (by kernel_rfl) (by simp) ?_
    refine AllReadyH.cons rfl (fun K hK => ?_) AllReadyH.nil
    rw [if_pos (by kernel_rfl)]
    refine wp_append_at (.tmp 25) (.tmp 29) 84 84 rfl 95 i0 _ 65 72 Try.underlying84 hi0 hz0 hz1 hz2 rfl Pa d.pend.length pc (penR d.pend).flatten rfl ((H3.out.alloc (.cells (penV (j, s)).toArray 95)).pend) _ 1 _ rfl (src_new (t := 95) Try.underlying84 v2 (penV (j, s)).toArray (by simp [penV, bc_length, HSL.out]) (by simpa using pen_one (j, s))) (by unfold maxLen; omega) (by omega) ?_
    intro A2 c2 v3 ho3 hg3 hat3
    have H4 := Lib.hid (show DkAt (v3.setCell ⟨p, 2, none⟩ (.slice A2 (d.pend.length + 1) c2)) p G (.slice (some ⟨g, 0, none⟩) d.now.length c) (.slice A2 (d.pend.length + 1) c2) { d with now := d.now.set j s, pend := d.pend ++ [(j, s)] } from DkAt.push (d := { d with now := d.now.set j s }) (H3.out.alloc (.cells (penV (j, s)).toArray 95)) hg3 hat3 ho3)
    have HF := Lib.hid ((H3.out.alloc (.cells (penV (j, s)).toArray 95)).grown hg3)
    have HBk := Lib.hid (fun k (hk : Blk p G (.slice (some ⟨g, 0, none⟩) d.now.length c) (.slice A2 (d.pend.length + 1) c2) k) (hkw : k < w.heap.size) => (show Blk p G (.slice (some ⟨g, 0, none⟩) d.now.length c) (.slice Pa d.pend.length pc) k from by
      rcases hk with x | x | x | x
      · exact .inl x
      · exact .inr (.inl x)
      · exact .inr (.inr (.inl x))
      · rw [ownBlock_slice] at x
        rcases hat3 with y | y
        · exact .inr (.inr (.inr (by rw [ownBlock_slice, ← y]; exact x)))
        · rw [y] at x; injection x with x; have := HLt.out; simp at x; omega))
    have hk3 := (Kp.refl (fun k => k = p ∨ ob Pa = some k) (v2.alloc (.cells (penV (j, s)).toArray 95))).grown hg3 (fun k e => .inl (.inr e))
    refine hK.out _ _ ?_ (fun hHeldaaa => ?_)
    · exact (hHeldaa).trans hk3 (fun _ _ x => x)
    clear hK K
    try simp only [Act.put, List.setIfInBounds_toArray, List.set_cons_zero, List.set_cons_succ]
    clear hk3 hg3 hat3 ho3
    refine wpAnyH_take (i := 10) (oi := ⟨_, _, _, _, _, _⟩) (v := ?_) rfl (by kernel_rfl) (by kernel_rfl) (by kernel_rfl) (fun _ _ _ h => h) (Or.inl ⟨by kernel_rfl, ?_⟩) hHeldaaa ?_
    rotate_left 1
    · intro W hW; first | (go_simp; done) | (go_simp; with_reducible rfl)
    try simp only [Act.put, List.setIfInBounds_toArray, List.set_cons_zero, List.set_cons_succ]
    refine wpAnyH_take (i := 11) (oi := ⟨_, _, _, _, _, _⟩) (v := ?_) rfl (by kernel_rfl) (by kernel_rfl) (by kernel_rfl) (fun _ _ _ h => h) (Or.inl ⟨by kernel_rfl, ?_⟩) hHeldaaa ?_
    rotate_left 1
    · intro W hW; first | (go_simp; done) | (go_simp; with_reducible rfl)
    try simp only [Act.put, List.setIfInBounds_toArray, List.set_cons_zero, List.set_cons_succ]
    refine wpAnyH_ready (rs := [12]) (by kernel_rfl) (by simp) ?_
    refine AllReadyH.cons rfl (fun K hK => ?_) AllReadyH.nil
    have k0 := HF.out.1
    have k1 := HF.out.2
    rw [if_pos (by kernel_rfl)]
    go_simp
    have hkx : Kp (fun k => k = p ∨ ob Pa = some k) v3 (v3.setCell ⟨p, 2, none⟩ (.slice A2 (d.pend.length + 1) c2)) := Kp.setCell (p := ⟨p, 2, none⟩) (Kp.refl _ v3) (.inl (.inl rfl)) _
    generalize v3.setCell ⟨p, 2, none⟩ (.slice A2 (d.pend.length + 1) c2) = v4 at *
    refine hK.out _ _ ?_ (fun hHeldaaaa => ?_)
    · exact hHeldaaa.trans hkx (fun _ _ x => x)
    clear hK K
    try simp only [Act.put, List.setIfInBounds_toArray, List.set_cons_zero, List.set_cons_succ]
    clear hkx HF k0 k1
    refine wpAnyH_done (by kernel_rfl) ?_ _
    have HK4 := Lib.hid hHeldaaaa
    clear hHeldaaaa
    have b3 := H4.out.c3
    have f3 := H4.out.fr 3
    go_wp2_with fail
    have HKw := Lib.hid (show Kp B w (v4.setCell ⟨p, 3, none⟩ (.int .i64 (wrap64 (d.writes + 1)))) from ((HK.out.trans HK1.out (fun k _ x => by rw [x]; exact HB.out g (.inr (.inr (.inl rfl))))).trans HK4.out (fun k _ x => by rcases x with x | x; exact HB.out k (.inl x); exact HB.out k (.inr (.inr (.inr (by rw [ownBlock_slice]; exact x)))))).setCell (.inl (HB.out p (.inl rfl))) _)
    have HD := Lib.hid (show Dsk (v4.setCell ⟨p, 3, none⟩ (.int .i64 (wrap64 (d.writes + 1)))) p (fun k => B k ∨ w.heap.size ≤ k) (d.put j s) from ⟨G, _, _, H4.out.upd 3 _ (d.put j s) rfl rfl rfl rfl, fun k hk => by
      by_cases hkw : w.heap.size ≤ k
      · exact .inr hkw
      · exact .inl (HB.out k (HBk.out k hk (by omega))), put_ok HOK.out HJ.out HSL.out⟩)
    refine (dWear_any p _ (d.put j s) _ HD.out).mono ?_
    rintro e w9 ⟨rfl, hD9, hk9⟩
    go_wp2_with fail
    go_ret
    rw [HW.out]
    exact ⟨rfl, hD9.mono (fun k hk hb => by rcases hb with hb | hb; exact .inl hb; exact .inr ⟨hb, hk⟩), HKw.out.trans hk9 (fun k hk hb => by rcases hb with hb | hb; exact hb; omega)⟩

end Go.Proofs.Ytlaecnggbcagcaa
