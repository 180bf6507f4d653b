/- Contract of package disk: Sync. -/
import Derived.Test.YtlaecnggbcagcaaDk5
namespace Go.Proofs.Ytlaecnggbcagcaa
open Go.RowKit MM
set_option linter.unusedVariables false
set_option linter.unusedSimpArgs false

theorem play_len : ∀ (l : List (Nat × List UInt8)) (g : List (List UInt8)), (play g l).length = g.length
  | [], g => rfl
  | x :: l, g => by
    show (play (g.set x.1 x.2) l).length = _
    rw [play_len l, List.length_set]
theorem play_secs : ∀ (l : List (Nat × List UInt8)) (g : List (List UInt8)), (∀ s ∈ g, s.length = 64) → (∀ x ∈ l, x.2.length = 64) → ∀ s ∈ play g l, s.length = 64
  | [], g, h, _ => h
  | x :: l, g, h, hl => play_secs l _ (fun s hs => by
      rcases List.mem_or_eq_of_mem_set hs with y | y
      · exact h s y
      · rw [y]; exact hl x (List.mem_cons_self ..)) (fun y hy => hl y (List.mem_cons_of_mem _ hy))
theorem play_step (g : List (List UInt8)) (l : List (Nat × List UInt8)) {i : Nat} {x : Nat × List UInt8} (h : l[i]? = some x) : play g (l.take (i + 1)) = (play g (l.take i)).set x.1 x.2 := by
  rw [List.take_add_one, h]
  unfold play
  rw [Option.toList_some, List.foldl_append]
  rfl
theorem penV_len {x : Nat × List UInt8} (h : x.2.length = 64) : (penV x).length = 65 := by simp [penV, bc_length, h]
theorem pen_size (x : Nat × List UInt8) (h : x.2.length = 64) : (Try.prog.info? 95).map (·.size) = some (penV x).length := by
  rw [penV_len h]; kernel_rfl
theorem pen_size' (x : Nat × List UInt8) (h : x.2.length = 64) : (Try.prog.info? 95).map (·.size) = some (penV x).toArray.size := by
  rw [List.size_toArray]; exact pen_size x h
theorem pen_all (x : Nat × List UInt8) : (penV x).toArray.all (·.oneCell') = true := all_oneCell_toArray (pen_one x)
theorem pen_zero : (Try.prog.info? 95).bind (·.zero) = some (.agg (penV (0, zs)).toArray) := by kernel_rfl
/-- Nothing is pending any more. -/
theorem DkAt.cut {w : World} {p : Nat} {G N Pd : Value} {d : Dk} (h : DkAt w p G N Pd d) : DkAt (w.setCell ⟨p, 2, none⟩ (.slice none 0 0)) p G N (.slice none 0 0) { d with pend := [] } := by
  have hk : Kp (fun k => k = p) w (w.setCell ⟨p, 2, none⟩ (.slice none 0 0)) := Kp.setCell (S := fun k => k = p) (p := ⟨p, 2, none⟩) (Kp.refl _ w) (.inl rfl) _
  exact ⟨heap_setCell_same w p 2 _ _ _ h.box, own_kp h.good hk fun b e x => (h.gn b e).2.2 x, own_kp h.now hk fun b e x => (h.np b e).2 x, World.ownsRow_nil _ _ _ _, fun k e => ⟨(h.gn k e).1, (by intro x; cases x), (h.gn k e).2.2⟩, fun k e => ⟨(by intro x; cases x), (h.np k e).2⟩, fun k e => by cases e⟩
/-- A row in memory: its cells from the second on are a sector's. -/
theorem pen_range {w : World} {b : Nat} {x : Nat × List UInt8} {t : TypeId} (h : w.heap[b]? = some (.cells (penV x).toArray t (0, 0))) : w.rangeAt b 1 (bc x.2) := fun j v hv => by
  rw [cell_of_row w b (1 + j) _ t (0, 0) h]
  show (penV x).toArray[1 + j]? = _
  rw [Nat.add_comm]
  simpa [penV] using hv

theorem pen_cell0 {w : World} {b : Nat} {x : Nat × List UInt8} {t : TypeId} (h : w.heap[b]? = some (.cells (penV x).toArray t (0, 0))) : w.cell? ⟨b, 0, none⟩ = some (.int .i64 (x.1 : Int)) := cell_of_row w b 0 _ t (0, 0) h

def SyncPost (p : Nat) (B : Nat → Prop) (r : Dk × Nat) (w : World) (e : Ending) (w' : World) : Prop := e = .returned (.int .i64 (r.2 : Nat)) ∧ DkPost p B r.1 w w'

set_option maxHeartbeats 4000000 in
set_option maxRecDepth 100000 in
theorem dSync_any (p : Nat) (B : Nat → Prop) (d : Dk) (w : World) (hfew : d.pend.length ≤ 1000000) (h : Dsk w p B d) :
    Calls Try.prog 24 #[.pointer (some ⟨p, 0, none⟩)] w (SyncPost p B d.sync w) := by
  have hok := h.ok
  have HOK := Lib.hid hok
  obtain ⟨G, N, Pd, h, hB, _⟩ := h
  have HB := Lib.hid hB
  have H := Lib.hid h
  have b5 := h.c5
  have b2 := h.c2
  cases hdn : d.down
  case true =>
    have HR := Lib.hid (show d.sync = (d, 14) from if_pos hdn)
    rw [hdn] at b5
    clear h hok hB hdn
    go_enter Try.func24, Try.ntmps24
    go_wp2_with fail
    go_ret
    rw [HR.out]
    exact ⟨rfl, ⟨G, N, Pd, H.out, fun k hk => .inl (HB.out k hk), HOK.out⟩, Kp.refl _ _⟩
  have HR := Lib.hid (show d.sync = ({ d with good := d.now, pend := [] }, 0) from if_neg (by rw [hdn]; decide))
  rw [hdn] at b5
  obtain ⟨gg, cg, rfl⟩ := own_at1 h.good hok.pos
  obtain ⟨Pa, pc, rfl⟩ := own_sl h.pend
  have HZ := Lib.hid (show (∀ k, ob Pa = some k → k ≠ gg) ∧ ¬ p = gg ∧ ∀ k, ob Pa = some k → k ≠ p from ⟨fun k e x => (h.gn gg rfl).2.1 (by rw [ownBlock_slice, e, x]), fun e => (h.gn gg rfl).2.2 e.symm, fun k e => h.pp k (by rw [ownBlock_slice]; exact e)⟩)
  have HN := Lib.hid (show ((d.pend.length : Nat) : Int) ≤ 1000000 by omega)
  clear h hok hB hdn
  go_enter Try.func24, Try.ntmps24
  go_wp2_with fail
  clear b5 b2
  go_loopw [14] (fun t wr => ∃ i : Nat, t = .int .i64 i ∧ i ≤ d.pend.length ∧ DkAt wr p (.slice (some ⟨gg, 0, none⟩) d.good.length cg) N (.slice Pa d.pend.length pc) { d with good := play d.good (d.pend.take i) } ∧ Kp B w wr) (fun t _ => d.pend.length - (intOf t).toNat)
  case atStart => exact ⟨0, rfl, Nat.zero_le _, H.out, Kp.refl _ _⟩
  case round =>
    obtain ⟨i, rfl, hi, h1, hk1⟩ := hrel
    have H1 := Lib.hid h1
    have HK1 := Lib.hid hk1
    clear h1 hk1 H
    by_cases hlt : i < d.pend.length
    · obtain ⟨x, hx⟩ : ∃ x, d.pend[i]? = some x := ⟨_, List.getElem?_eq_getElem hlt⟩
      have HX := Lib.hid hx
      have hxo := HOK.out.pend x (List.mem_of_getElem? hx)
      have HXO := Lib.hid hxo
      obtain ⟨gp, cp, hP⟩ := own_at1 H1.out.pend (by show 0 < d.pend.length; omega)
      injection hP with hA _ hc
      subst hA hc
      have HRg := Lib.hid (own_range (R := penR d.pend) H1.out.pend (penR_ok fun y hy => (HOK.out.pend y hy).2) (by simp [penR]) (i := i) (r := penV x) (by simp [penR, hx]))
      have hlt' : (i : Int) < ((d.pend.length : Nat) : Int) := by omega
      have hil := HN.out
      clear hx hxo
      go_upto_region 6 with (first
        | (refine wpList_load_mid rfl _ _ rfl gp (i * 65) rfl (penV x) _ HRg.out Try.underlying95 rfl (pen_size x HXO.out.2) ?_)
        | (refine wpList_alloc_row rfl _ rfl (.agg (penV (0, zs)).toArray) (penV (0, zs)).toArray pen_zero rfl ?_)
        | (refine wpList_store_row rfl _ _ _ rfl _ (penV x).toArray rfl rfl 95 (penV (0, zs)).toArray (heap_alloc_new _ _) (pen_size' x HXO.out.2) (by rw [List.size_toArray, List.size_toArray, penV_len HXO.out.2]; rfl) (pen_all x) ?_
           rw [World.setRow_alloc_new]))
      generalize hw1 : World.alloc wr _ = w1
      have HS := Lib.hid (show w1.heap[wr.heap.size]? = some (.cells (penV x).toArray 95 (0, 0)) by rw [← hw1]; exact heap_alloc_new _ _)
      have H2 := Lib.hid (show DkAt w1 p (.slice (some ⟨gg, 0, none⟩) d.good.length cg) N (.slice (some ⟨gp, 0, none⟩) d.pend.length pc) { d with good := play d.good (d.pend.take i) } by rw [← hw1]; exact H1.out.alloc _)
      have HK2 := Lib.hid (show Kp B w w1 by rw [← hw1]; exact HK1.out.alloc _)
      have HGS := Lib.hid (show gg < wr.heap.size from H1.out.lt gg (.inr (.inl rfl)))
      have hli : x.1 < d.good.length := HXO.out.1
      have hli' : ((x.1 : Nat) : Int) < ((d.good.length : Nat) : Int) := by omega
      have HLI := Lib.hid (show x.1 < (play d.good (d.pend.take i)).length by rw [play_len]; exact hli)
      have HPS := Lib.hid (play_secs (d.pend.take i) d.good HOK.out.secs (fun y hy => (HOK.out.pend y (List.mem_of_mem_take hy)).2))
      clear hw1 HRg hli
      refine wp_region_held_drew (S := fun W => Kp (fun k => k = gg) w1 W) (by kernel_rfl) (Kp.drew (Kp.refl _ _)) (fun hHeld => ?_)
      have H3 := Lib.hid (show DkAt (World.drew w1) p (.slice (some ⟨gg, 0, none⟩) d.good.length cg) N (.slice (some ⟨gp, 0, none⟩) d.pend.length pc) { d with good := play d.good (d.pend.take i) } from H2.out.keep (Kp.drew (Kp.refl (fun _ => False) w1)) (fun _ _ x => x))
      generalize World.drew w1 = v0 at *
      refine wpAnyH_take (i := 0) (oi := ⟨_, _, _, _, _, _⟩) (v := ?_) rfl (by kernel_rfl) (by kernel_rfl) (by kernel_rfl) (fun _ _ _ h => h) (Or.inl ⟨by kernel_rfl, ?_⟩) hHeld ?_
      rotate_left 1
      · intro W hW; first | (go_simp; done) | (go_simp; with_reducible rfl)
      try simp only [Act.put, List.setIfInBounds_toArray, List.set_cons_zero, List.set_cons_succ]
      refine wpAnyH_take (i := 1) (oi := ⟨_, _, _, _, _, _⟩) (v := ?_) rfl (by kernel_rfl) (by kernel_rfl) (by kernel_rfl) (fun _ _ _ h => h) (Or.inl ⟨by kernel_rfl, ?_⟩) hHeld ?_
      rotate_left 1
      · intro W hW; first | (go_simp; done) | (go_simp; with_reducible rfl)
      try simp only [Act.put, List.setIfInBounds_toArray, List.set_cons_zero, List.set_cons_succ]
      refine wpAnyH_take (i := 2) (oi := ⟨_, _, _, _, _, _⟩) (v := ?_) rfl (by kernel_rfl) (by kernel_rfl) (by kernel_rfl) (fun _ _ _ h => h) (Or.inl ⟨by kernel_rfl, ?_⟩) hHeld ?_
      rotate_left 1
      · intro W hW; first | (go_simp; done) | (go_simp; with_reducible rfl)
      try simp only [Act.put, List.setIfInBounds_toArray, List.set_cons_zero, List.set_cons_succ]
      refine wpAnyH_take (i := 3) (oi := ⟨_, _, _, _, _, _⟩) (v := ?_) rfl (by kernel_rfl) (by kernel_rfl) (by kernel_rfl) (fun _ _ _ h => h) (Or.inl ⟨by kernel_rfl, ?_⟩) hHeld ?_
      rotate_left 1
      · intro W hW; have k0 :=  hW.cell H2.out.c0 HZ.out.2.1; first | (go_simp; done) | (go_simp; with_reducible rfl)
      try simp only [Act.put, List.setIfInBounds_toArray, List.set_cons_zero, List.set_cons_succ]
      refine wpAnyH_take (i := 4) (oi := ⟨_, _, _, _, _, _⟩) (v := ?_) rfl (by kernel_rfl) (by kernel_rfl) (by kernel_rfl) (fun _ _ _ h => h) (Or.inl ⟨by kernel_rfl, ?_⟩) hHeld ?_
      rotate_left 1
      · intro W hW; first | (go_simp; done) | (go_simp; with_reducible rfl)
      try simp only [Act.put, List.setIfInBounds_toArray, List.set_cons_zero, List.set_cons_succ]
      refine wpAnyH_take (i := 5) (oi := ⟨_, _, _, _, _, _⟩) (v := ?_) rfl (by kernel_rfl) (by kernel_rfl) (by kernel_rfl) (fun _ _ _ h => h) (Or.inl ⟨by kernel_rfl, ?_⟩) hHeld ?_
      rotate_left 1
      · intro W hW; have k0 :=  pen_cell0 ((hW.block _ (lt_of_heap HS.out) (by have := HGS.out; show ¬ wr.heap.size = gg; omega)).trans HS.out); first | (go_simp; done) | (go_simp; with_reducible rfl)
      try simp only [Act.put, List.setIfInBounds_toArray, List.set_cons_zero, List.set_cons_succ]
      refine wpAnyH_take (i := 6) (oi := ⟨_, _, _, _, _, _⟩) (v := ?_) rfl (by kernel_rfl) (by kernel_rfl) (by kernel_rfl) (fun _ _ _ h => h) (Or.inl ⟨by kernel_rfl, ?_⟩) hHeld ?_
      rotate_left 1
      · intro W hW; first | (go_simp; done) | (go_simp; with_reducible rfl)
      try simp only [Act.put, List.setIfInBounds_toArray, List.set_cons_zero, List.set_cons_succ]
      refine wpAnyH_take (i := 7) (oi := ⟨_, _, _, _, _, _⟩) (v := (.agg (bc x.2).toArray)) rfl (by kernel_rfl) (by kernel_rfl) (by kernel_rfl) (fun _ _ _ h => h) (yieldsIf_load_mid (S := fun W => Kp (fun k => k = gg) w1 W) (by kernel_rfl) 40 (.tmp 24) rfl wr.heap.size 1 rfl (bc x.2) _ (fun W hW => pen_range ((hW.block _ (lt_of_heap HS.out) (by have := HGS.out; show ¬ wr.heap.size = gg; omega)).trans HS.out)) Try.underlying40 rfl (sec_info2 x.2 HXO.out.2)) hHeld ?_
      try simp only [Act.put, List.setIfInBounds_toArray, List.set_cons_zero, List.set_cons_succ]
      refine wpAnyH_take (i := 8) (oi := ⟨_, _, _, _, _, _⟩) (v := ?_) rfl (by kernel_rfl) (by kernel_rfl) (by kernel_rfl) (fun _ _ _ h => h) (Or.inl ⟨by kernel_rfl, ?_⟩) hHeld ?_
      rotate_left 1
      · intro W hW; first | (go_simp; done) | (go_simp; with_reducible rfl)
      try simp only [Act.put, List.setIfInBounds_toArray, List.set_cons_zero, List.set_cons_succ]
      refine wpAnyH_ready (rs := [9]) (by kernel_rfl) (by simp) ?_
      refine AllReadyH.cons rfl (fun K hK => ?_) AllReadyH.nil
      have HT := Lib.hid (show v0.there gg (x.1 * 64) (bc x.2).toArray.size by rw [bc_size, HXO.out.2]; exact own_there (R := secR (play d.good (d.pend.take i))) (n := d.good.length) (c := cg) (by have := H3.out.good; rw [show ({ d with good := play d.good (d.pend.take i) } : Dk).good.length = d.good.length from play_len _ _] at this; exact this) (secR_ok HPS.out) (by simp [secR, play_len]) (by simpa [secR] using HLI.out))
      rw [if_pos (by kernel_rfl)]
      refine wp_store_mid 40 _ _ rfl gg (x.1 * 64) (bc x.2).toArray rfl rfl HT.out (sec_info' x.2 HXO.out.2) (bc_all x.2) ?_
      have H4 := Lib.hid (show DkAt (v0.setCells gg (x.1 * 64) (bc x.2).toArray.toList) p (.slice (some ⟨gg, 0, none⟩) d.good.length cg) N (.slice (some ⟨gp, 0, none⟩) d.pend.length pc) { d with good := play d.good (d.pend.take (i + 1)) } by
    rw [play_step d.good d.pend HX.out]
    have := DkAt.storeG (d := { d with good := play d.good (d.pend.take i) }) (c := cg) (g := gg) (by rw [show ({ d with good := play d.good (d.pend.take i) } : Dk).good.length = d.good.length from play_len _ _]; exact H3.out) HPS.out HLI.out x.2 HXO.out.2
    rw [show ({ d with good := play d.good (d.pend.take i) } : Dk).good.length = d.good.length from play_len _ _] at this
    exact this)
      have hkx : Kp (fun k => k = gg) v0 (v0.setCells gg (x.1 * 64) (bc x.2).toArray.toList) := setCells_kp1 gg _ _ _
      generalize v0.setCells gg (x.1 * 64) (bc x.2).toArray.toList = v1 at *
      refine hK.out _ _ ?_ (fun hHelda => ?_)
      · exact hHeld.trans hkx (fun _ _ x => x)
      clear hK K
      try simp only [Act.put, List.setIfInBounds_toArray, List.set_cons_zero, List.set_cons_succ]
      clear hkx HT
      refine wpAnyH_done (by kernel_rfl) ?_ _
      have HK3 := Lib.hid hHelda
      clear hHelda
      go_wp2_with fail
      go_roundw
      case rel => exact ⟨i + 1, by go_num, by omega, H4.out, HK2.out.trans HK3.out (fun k _ x => by rw [x]; exact HB.out gg (.inr (.inl rfl)))⟩
      case measure => simp [intOf]; omega
    · obtain rfl : i = d.pend.length := by omega
      have hp : play d.good (d.pend.take d.pend.length) = d.now := by rw [List.take_length, ← HOK.out.play]
      rw [hp] at H1
      have b2 := H1.out.c2
      have f2 := H1.out.fr 2
      clear hp
      go_wp2_with fail
      go_ret
      rw [HR.out]
      have ho : ({ d with good := d.now, pend := [] } : Dk).ok := ⟨HOK.out.nows, HOK.out.nows, rfl, by rw [HOK.out.len]; exact HOK.out.pos, by rw [HOK.out.len]; exact HOK.out.lim, fun x hx => (by cases hx), rfl, HOK.out.left⟩
      refine ⟨rfl, ⟨_, _, _, H1.out.cut, fun k hk => ?_, ho⟩, HK1.out.setCell (.inl (HB.out p (.inl rfl))) _⟩
      rcases hk with y | y | y | y
      · exact .inl (HB.out k (.inl y))
      · exact .inl (HB.out k (.inr (.inl y)))
      · exact .inl (HB.out k (.inr (.inr (.inl y))))
      · cases y

end Go.Proofs.Ytlaecnggbcagcaa
