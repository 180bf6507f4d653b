/- Contracts of package disk: Read, wear, Break. -/
import Derived.Test.YtlaecnggbcagcaaDk2
namespace Go.Proofs.Ytlaecnggbcagcaa
open Go.RowKit MM
set_option linter.unusedVariables false
set_option linter.unusedSimpArgs false

theorem Dk.err_cases (d : Dk) (i : Int) : d.err i ≠ 0 ∨ d.err i = 0 ∧ d.down = false ∧ ∃ j : Nat, i = (j : Int) ∧ j < d.now.length := by
  by_cases h : d.err i = 0
  · right
    refine ⟨h, ?_⟩
    unfold Dk.err at h
    split at h
    · cases h
    · rename_i hd
      split at h
      · cases h
      · rename_i hr
        exact ⟨by simpa using hd, i.toNat, by omega, by omega⟩
  · exact .inl h
def ReadPost (d : Dk) (i : Int) (w : World) (e : Ending) (w' : World) : Prop := e = .returned (.tuple #[secv (d.readS i), .int .i64 (d.err i : Nat)]) ∧ Below w.heap.size w w'

theorem Dk.readS_len {d : Dk} (h : d.ok) (i : Int) : (d.readS i).length = 64 := by
  unfold Dk.readS
  split
  · rw [List.getD_eq_getElem?_getD]
    cases hx : d.now[i.toNat]? with
    | none => rfl
    | some s => exact h.nows s (List.mem_of_getElem? hx)
  · rfl

set_option maxHeartbeats 1000000 in
set_option maxRecDepth 100000 in
theorem dRead_any (p : Nat) (B : Nat → Prop) (d : Dk) (i : Int) (w : World) (h : Dsk w p B d) :
    Calls Try.prog 25 #[.pointer (some ⟨p, 0, none⟩), .int .i64 i] w (ReadPost d i w) := by
  have HC := Lib.hid (dCheck_any p B d i (w.alloc (.cells (bc zs).toArray 40)) (h.below ((Below.refl _ _).alloc (Nat.le_refl _) _)))
  rcases d.err_cases i with h0 | ⟨h0, _, j, rfl, hj⟩
  · have HR := Lib.hid (show d.readS i = zs from if_neg h0)
    have hne : ¬ ((d.err i : Nat) : Int) = 0 := by omega
    unfold ReadPost
    rw [HR.out]
    generalize d.err i = e at *
    go_enter Try.func25, Try.ntmps25
    go_wp2_with (first
      | (refine wpList_alloc_row rfl _ rfl (secv zs) (bc zs).toArray sec_zero rfl ?_)
      | (refine wpList_build_row rfl _ #[] rfl (bc zs).toArray (by kernel_rfl) ?_)
      | (refine wpList_store_row rfl _ _ _ rfl _ (bc zs).toArray rfl rfl 40 (bc zs).toArray (heap_alloc_new _ _) sec_info (by rfl) (bc_all _) ?_
         rw [World.setRow_alloc_new])
      | (go_at_call 57; refine HC.out.mono ?_; rintro e w' ⟨rfl, rfl⟩))
    refine bodyPost_cell_tmp rfl w.heap.size 40 _ _ rfl (heap_alloc_new _ _) Try.underlying40 rfl sec_info rfl ⟨rfl, ?_⟩
    exact (Below.refl w.heap.size w).alloc (Nat.le_refl _) _
  · have hok := h.ok
    obtain ⟨G, N, Pd, h, _⟩ := h
    obtain ⟨s, hs⟩ : ∃ s, d.now[j]? = some s := ⟨_, List.getElem?_eq_getElem hj⟩
    have hsl := hok.nows s (List.mem_of_getElem? hs)
    have HR := Lib.hid (show d.readS (j : Int) = s by unfold Dk.readS; rw [if_pos h0, Int.toNat_natCast, List.getD_eq_getElem?_getD, hs]; rfl)
    obtain ⟨g, c, rfl⟩ := own_at1 h.now (by omega)
    have hR : (secR d.now)[j]? = some (bc s) := by simp [secR, hs]
    have hr := own_range h.now (secR_ok hok.nows) (by simp [secR]) hR
    have HRg := Lib.hid (World.rangeAt_alloc hr (.cells (bc zs).toArray 40))
    have HSL := Lib.hid hsl
    have b := World.cell?_alloc_lt w (.cells (bc zs).toArray 40) ⟨p, 1, none⟩ (lt_of_heap h.box)
    rw [h.c1] at b
    have hj' : (j : Int) < (d.now.length : Int) := by omega
    clear hr hR hs hsl h
    unfold ReadPost
    rw [HR.out, h0]
    rw [h0] at HC
    go_enter Try.func25, Try.ntmps25
    go_wp2_with (first
      | (refine wpList_alloc_row rfl _ rfl (secv zs) (bc zs).toArray sec_zero rfl ?_)
      | (go_at_call 57; refine HC.out.mono ?_; rintro e w' ⟨rfl, rfl⟩)
      | (refine wpList_load_mid rfl _ _ rfl g (j * 64) rfl (bc s) _ HRg.out Try.underlying40 rfl (sec_info2 s HSL.out) ?_)
      | (refine wpList_store_row rfl _ _ _ rfl _ (bc s).toArray rfl rfl 40 (bc zs).toArray (heap_alloc_new _ _) (sec_info' s HSL.out) (by rw [bc_size, bc_size, HSL.out]; rfl) (bc_all _) ?_
         rw [World.setRow_alloc_new]))
    refine bodyPost_cell_tmp rfl w.heap.size 40 _ _ rfl (heap_alloc_new _ _) Try.underlying40 rfl (sec_info' s HSL.out) rfl ⟨rfl, ?_⟩
    exact (Below.refl w.heap.size w).alloc (Nat.le_refl _) _

theorem DkAt.upd {w : World} {p : Nat} {G N Pd : Value} {d : Dk} (h : DkAt w p G N Pd d) (i : Nat) (v : Value) (d' : Dk) (hb : (dkC G N Pd d).setIfInBounds i v = dkC G N Pd d') (hg : d'.good = d.good) (hn : d'.now = d.now) (hp : d'.pend = d.pend) :
    DkAt (w.setCell ⟨p, i, none⟩ v) p G N Pd d' := by
  have hk : Kp (fun k => k = p) w (w.setCell ⟨p, i, none⟩ v) := Kp.setCell (S := fun k => k = p) (p := ⟨p, i, none⟩) (Kp.refl _ w) (.inl rfl) v
  refine ⟨by rw [← hb]; exact heap_setCell_same w p i _ _ v h.box, ?_, ?_, ?_, h.gn, h.np, h.pp⟩
  · rw [hg]; exact own_kp h.good hk fun b e x => (h.gn b e).2.2 x
  · rw [hn]; exact own_kp h.now hk fun b e x => (h.np b e).2 x
  · rw [hp]; exact own_kp h.pend hk fun b e x => h.pp b e x
theorem kp_box {w : World} {p : Nat} {G N Pd : Value} {d : Dk} {B : Nat → Prop} (hB : ∀ k, Blk p G N Pd k → B k) (i : Nat) (v : Value) : Kp B w (w.setCell ⟨p, i, none⟩ v) := Kp.setCell (p := ⟨p, i, none⟩) (Kp.refl _ w) (.inl (hB p (.inl rfl))) v

theorem dkC_left {G N Pd : Value} {d : Dk} (x : Int) (m : Nat) (hx : x = (m : Int)) : (dkC G N Pd d).setIfInBounds 4 (.int .i64 x) = dkC G N Pd { d with left := m } := by subst hx; rfl
/-- What a call does to a disk: nothing else turns. -/
def DkPost (p : Nat) (B : Nat → Prop) (d : Dk) (w w' : World) : Prop := Dsk w' p (Up B w w') d ∧ Kp B w w'

set_option maxRecDepth 100000 in
theorem dBreak_any (p : Nat) (B : Nat → Prop) (d : Dk) (n : Int) (w : World) (hn : n ≤ 9223372036854775807) (h : Dsk w p B d) :
    Calls Try.prog 38 #[.pointer (some ⟨p, 0, none⟩), .int .i64 n] w fun e w' => (∃ v, e = .returned v) ∧ DkPost p B (d.brk n) w w' := by
  obtain ⟨G, N, Pd, h, hB, hok⟩ := h
  have H := Lib.hid h
  have b := h.c4
  have f := h.fr 4
  have HO := Lib.hid (show (d.brk n).ok from ⟨hok.secs, hok.nows, hok.len, hok.pos, hok.lim, hok.pend, hok.play, by show n.toNat ≤ 9223372036854775807; omega⟩)
  have hm : max n 0 = ((n.toNat : Nat) : Int) := by omega
  clear h hok
  go_enter Try.func38, Try.ntmps38
  go_wp2
  all_goals go_end0
  all_goals exact ⟨⟨_, rfl⟩, ⟨G, N, Pd, H.out.upd 4 _ (d.brk n) (dkC_left _ _ (by omega)) rfl rfl rfl, fun k hk => .inl (hB k hk), HO.out⟩, kp_box (d := d) hB _ _⟩

def WearPost (p : Nat) (B : Nat → Prop) (r : Dk × Nat) (w : World) (e : Ending) (w' : World) : Prop := e = .returned (.int .i64 (r.2 : Nat)) ∧ Dsk w' p B r.1 ∧ Kp B w w'
theorem WearPost.mk {p : Nat} {B : Nat → Prop} {r : Dk × Nat} {d : Dk} {m : Nat} {w w' : World} {e : Ending} (hr : r = (d, m)) (he : e = .returned (.int .i64 (m : Nat))) (hD : Dsk w' p B d) (hk : Kp B w w') : WearPost p B r w e w' := by
  subst hr; exact ⟨he, hD, hk⟩

set_option maxRecDepth 100000 in
theorem dWear_any (p : Nat) (B : Nat → Prop) (d : Dk) (w : World) (h : Dsk w p B d) :
    Calls Try.prog 58 #[.pointer (some ⟨p, 0, none⟩)] w (WearPost p B d.wear w) := by
  obtain ⟨G, N, Pd, h, hB, hok⟩ := h
  have HB := Lib.hid hB
  have H := Lib.hid h
  have b := h.c4
  have f := h.fr 4
  have f5 := h.fr 5
  have b5 := h.c5
  have hlim := hok.left
  have HO := Lib.hid hok
  clear h hok hB
  by_cases h0 : d.left = 0
  · have hr : d.wear = (d, 0) := by unfold Dk.wear; rw [if_pos h0]
    have HR := Lib.hid hr
    rw [h0] at b
    clear hr
    go_enter Try.func58, Try.ntmps58
    go_wp2
    go_ret
    exact WearPost.mk HR.out rfl ⟨G, N, Pd, H.out, HB.out, HO.out⟩ (Kp.refl _ _)
  by_cases h1 : d.left = 1
  · have hr : d.wear = ({ d with left := 0, down := true }, 14) := by unfold Dk.wear; rw [if_neg h0, if_pos h1]
    have HR := Lib.hid hr
    rw [h1] at b
    have HO2 := Lib.hid (show ({ d with left := 0 } : Dk).ok from ⟨HO.out.secs, HO.out.nows, HO.out.len, HO.out.pos, HO.out.lim, HO.out.pend, HO.out.play, Nat.zero_le _⟩)
    have HO3 := Lib.hid (show ({ d with left := 0, down := true } : Dk).ok from ⟨HO.out.secs, HO.out.nows, HO.out.len, HO.out.pos, HO.out.lim, HO.out.pend, HO.out.play, Nat.zero_le _⟩)
    clear hr
    go_enter Try.func58, Try.ntmps58
    go_wp2
    go_ret
    exact WearPost.mk HR.out rfl ⟨G, N, Pd, (H.out.upd 4 (.int .i64 0) { d with left := 0 } rfl rfl rfl rfl).upd 5 _ { d with left := 0, down := true } rfl rfl rfl rfl, HB.out, HO3.out⟩ ((kp_box (d := d) HB.out _ _).trans (kp_box (d := d) HB.out _ _) (fun _ _ x => x))
  · have hr : d.wear = ({ d with left := d.left - 1 }, 0) := by unfold Dk.wear; rw [if_neg h0, if_neg h1]
    have HR := Lib.hid hr
    have HO2 := Lib.hid (show ({ d with left := d.left - 1 } : Dk).ok from ⟨HO.out.secs, HO.out.nows, HO.out.len, HO.out.pos, HO.out.lim, HO.out.pend, HO.out.play, by have : ({ d with left := d.left - 1 } : Dk).left = d.left - 1 := rfl; omega⟩)
    clear hr
    obtain ⟨m, hm⟩ : ∃ m, d.left = m + 2 := ⟨d.left - 2, by omega⟩
    have HM := Lib.hid hm
    rw [hm] at b hlim
    have hw : wrap64 (((m + 2 : Nat) : Int) - 1) = ((m + 1 : Nat) : Int) := by unfold wrap64; omega
    have hd : decide ((0 : Int) < ((m + 1 : Nat) : Int)) = true := by rw [decide_eq_true_eq]; omega
    have hz : ¬ ((m + 2 : Nat) : Int) = 0 := by omega
    clear hm h0 h1
    go_enter Try.func58, Try.ntmps58
    go_wp2
    go_ret
    refine WearPost.mk HR.out rfl ⟨G, N, Pd, H.out.upd 4 _ { d with left := d.left - 1 } (dkC_left _ _ (by have := HM.out; omega)) rfl rfl rfl, HB.out, HO2.out⟩ (kp_box (d := d) HB.out _ _)

end Go.Proofs.Ytlaecnggbcagcaa
