/- The walk of DiskKeeps. -/
import Derived.Test.YtmgkbgjchcekpaaSp17
import Derived.Test.YtmgkbgjchcekpaaKeepP
namespace Go.Proofs.Ytmgkbgjchcekpaa
open Go.RowKit MM
set_option linter.unusedVariables false
set_option linter.unusedSimpArgs false

/-- What was read. -/
def wasL (D : Dk) (n : Nat) : List (List UInt8) := (List.range 8).map fun j => if j < n then D.readS (j : Int) else zs
def was0 : List Value := List.replicate 512 (.int .u8 0)
set_option maxRecDepth 100000 in
theorem was_zero : (Try.prog.info? 43).bind (·.zero) = some (.agg was0.toArray) := by kernel_rfl
set_option maxRecDepth 100000 in
theorem wasL_zero (D : Dk) : (secR (wasL D 0)).flatten = was0 := by
  have h : wasL D 0 = List.replicate 8 zs := by simp [wasL, List.range_succ]
  exact (congrArg (fun L => (secR L).flatten) h).trans (by kernel_rfl)
theorem wasL_len (D : Dk) (n : Nat) : (wasL D n).length = 8 := by simp [wasL]
theorem wasL_step (D : Dk) (n : Nat) (h : n < 8) : (wasL D n).set n (D.readS (n : Int)) = wasL D (n + 1) := by
  apply List.ext_getElem?
  intro j
  rw [List.getElem?_set, wasL_len]
  unfold wasL
  rw [List.getElem?_map, List.getElem?_map]
  by_cases hj : n = j
  · subst hj
    rw [if_pos rfl, if_pos h, List.getElem?_range h]
    simp
  · rw [if_neg hj]
    by_cases hj8 : j < 8
    · rw [List.getElem?_range hj8, Option.map_some, Option.map_some]
      congr 1
      by_cases hjn : j < n
      · rw [if_pos hjn, if_pos (by omega)]
      · rw [if_neg hjn, if_neg (by omega)]
    · rw [List.getElem?_eq_none (by simp; omega)]
      rfl
theorem wasL_secs {D : Dk} (h : D.ok) (n : Nat) : ∀ s ∈ wasL D n, s.length = 64 := by
  intro s hs
  obtain ⟨j, _, rfl⟩ := List.mem_map.1 hs
  split
  · exact Dk.readS_len h _
  · exact zs_len
theorem was_len {D : Dk} (h : D.ok) (n : Nat) : (secR (wasL D n)).flatten.length = 512 := by
  rw [flat_len (secR_ok (wasL_secs h n))]
  simp [secR, wasL_len]
theorem was_there {w : World} {g i k : Nat} {L : List Value} {t : TypeId} (h : w.heap[g]? = some (.cells L.toArray t (0, 0))) (hi : i * 64 + k ≤ L.length) (hk : k = k) : w.there g (i * 64) k := by
  intro j hj
  refine ⟨?_, frozen_of_row w g _ _ _ h⟩
  rw [cell_of_row w g _ _ t (0, 0) h]
  simp
  omega

theorem was_set {D : Dk} (hD : D.ok) {w : World} {g : Nat} {t : TypeId} (i : Nat) (hi : i < 8) (h : w.heap[g]? = some (.cells (secR (wasL D i)).flatten.toArray t (0, 0))) :
    (w.setCells g (i * 64) (bc (D.readS (i : Int))).toArray.toList).heap[g]? = some (.cells (secR (wasL D (i + 1))).flatten.toArray t (0, 0)) := by
  have hl : (bc (D.readS (i : Int))).length = 64 := by rw [bc_length, Dk.readS_len hD]
  have h1 := setCells_row g t (bc (D.readS (i : Int))) (i * 64) w _ h (by rw [hl, was_len hD]; omega)
  rw [hl] at h1
  rw [show (bc (D.readS (i : Int))).toArray.toList = bc (D.readS (i : Int)) by simp]
  rw [h1, ← wasL_step D i hi, show secR ((wasL D i).set i (D.readS (i : Int))) = (secR (wasL D i)).set i (bc (D.readS (i : Int))) by simp [secR, List.map_set], flat_set (secR_ok (wasL_secs hD i)) _ (by simp [secR, wasL_len]; omega)]

theorem below1 (w : World) (o : Obj) : Below w.heap.size w (w.alloc o) := (Below.refl _ w).alloc (Nat.le_refl _) o
/-- What was touched. -/
def tchR (L : List Od) : List Value := (List.range 8).map fun j => .bool (tch L j)
theorem tch_zero : (Try.prog.info? 46).bind (·.zero) = some (.agg (tchR []).toArray) := by kernel_rfl
theorem tchR_len (L : List Od) : (tchR L).length = 8 := by simp [tchR]
theorem tchR_same (L : List Od) (o : Od) (h : ¬ (o.kind = 0 ∧ 0 ≤ o.n ∧ o.n < 8)) : tchR (L ++ [o]) = tchR L := by
  unfold tchR
  apply List.map_congr_left
  intro j hj
  have hj8 := List.mem_range.1 hj
  rw [tch_snoc, decide_eq_false (by omega), Bool.or_false]
theorem tchR_set (L : List Od) (o : Od) (j : Nat) (hk : o.kind = 0) (hn : o.n = (j : Int)) (hj : j < 8) : (tchR L).toArray.setIfInBounds j (.bool true) = (tchR (L ++ [o])).toArray := by
  rw [List.setIfInBounds_toArray]
  congr 1
  apply List.ext_getElem?
  intro i
  rw [List.getElem?_set, tchR_len]
  unfold tchR
  rw [List.getElem?_map, List.getElem?_map]
  by_cases hi : j = i
  · subst hi
    rw [if_pos rfl, if_pos hj, List.getElem?_range hj, Option.map_some, tch_snoc, decide_eq_true ⟨hk, hn⟩, Bool.or_true]
  · rw [if_neg hi]
    by_cases hi8 : i < 8
    · rw [List.getElem?_range hi8, Option.map_some, Option.map_some, tch_snoc, decide_eq_false (by omega), Bool.or_false]
    · rw [List.getElem?_eq_none (by simp; omega)]
      rfl

theorem tch_cell {w : World} {g i : Nat} {L : List Od} {t : TypeId} {v : Bool} (h : w.heap[g]? = some (.cells (tchR L).toArray t (0, 0))) (hi : i < 8) (ht : tch L i = v) : w.cell? ⟨g, i, none⟩ = some (.bool v) := by
  rw [cell_of_row w g i _ _ (0, 0) h]
  simp [tchR, hi, ht]
theorem range_below {w w' : World} {g o : Nat} {cs : List Value} (h : Below w.heap.size w w') (hg : g < w.heap.size) (hr : w.rangeAt g o cs) : w'.rangeAt g o cs := fun j v hj => (h.cell (p := ⟨g, o + j, none⟩) hg).trans (hr j v hj)
theorem was_range {D : Dk} (hD : ∀ j : Int, (D.readS j).length = 64) {w : World} {g i : Nat} {t : TypeId} (hi : i < 8) (h : w.heap[g]? = some (.cells (secR (wasL D 8)).flatten.toArray t (0, 0))) : w.rangeAt g (i * 64) (bc (D.readS (i : Int))) := by
  intro j v hj
  have hs : ∀ s ∈ wasL D 8, s.length = 64 := by
    intro s hs
    obtain ⟨j, _, rfl⟩ := List.mem_map.1 hs
    split
    · exact hD _
    · exact zs_len
  have hj64 : j < 64 := by
    have := (List.getElem?_eq_some_iff.1 hj).1
    rw [bc_length, hD] at this
    exact this
  rw [cell_of_row w g _ _ _ (0, 0) h]
  show (secR (wasL D 8)).flatten.toArray[i * 64 + j]? = some v
  rw [List.getElem?_toArray, flat_get (secR_ok hs) (i := i) (r := bc (D.readS (i : Int))) (by simp [secR, wasL, hi]) hj64]
  exact hj

set_option maxHeartbeats 4000000 in
set_option maxRecDepth 100000 in
theorem diskKeeps_any (A0 : Option Addr) (c0 : Nat) (l : List Od) (A1 : Option Addr) (c1 : Nat) (more : List Od) (A2 : Option Addr) (c2 : Nat) (ks : List Int) (w : World) (h0 : OdsIn w A0 l) (h1 : OdsIn w A1 more) (h2 : Ins w A2 ks) :
    Calls Try.prog 4 #[.slice A0 l.length c0, .slice A1 more.length c1, .slice A2 ks.length c2] w fun e w' => e = .returned (.bool true) ∧ Below w.heap.size w w' := by
  have H0 := Lib.hid h0
  have H1 := Lib.hid h1
  have H2 := Lib.hid h2
  clear h0 h1 h2
  cases hl : bigB l with
  | true =>
    go_enter Try.func4, Try.ntmps4
    go_wp2_with (first | (go_at_call 12; refine (speaks17_any _).mono ?_; rintro e w1 ⟨rfl, hb1⟩; have HB1 := Lib.hid hb1; clear hb1) | (go_at_call 13; refine (big_any A0 c0 l _ (H0.out.below HB1.out)).mono ?_; rintro e w2 ⟨rfl, hb2⟩; rw [hl]; have HB2 := Lib.hid (HB1.out.trans (hb2.mono HB1.out.size)); clear hb2))
    go_ret
    exact ⟨rfl, HB2.out⟩
  | false =>
  cases hm : bigB more with
  | true =>
    go_enter Try.func4, Try.ntmps4
    go_wp2_with (first | (go_at_call 12; refine (speaks17_any _).mono ?_; rintro e w1 ⟨rfl, hb1⟩; have HB1 := Lib.hid hb1; clear hb1) | (go_at_call 13; refine (big_any A1 c1 more _ (H1.out.below HB2.out)).mono ?_; rintro e w3 ⟨rfl, hb3⟩; rw [hm]; have HB3 := Lib.hid (HB2.out.trans (hb3.mono HB2.out.size)); clear hb3) | (go_at_call 13; refine (big_any A0 c0 l _ (H0.out.below HB1.out)).mono ?_; rintro e w2 ⟨rfl, hb2⟩; rw [hl]; have HB2 := Lib.hid (HB1.out.trans (hb2.mono HB1.out.size)); clear hb2))
    go_ret
    exact ⟨rfl, HB3.out⟩
  | false =>
  by_cases hk : 100 < ks.length
  · have hk' : (100 : Int) < (ks.length : Int) := by omega
    go_enter Try.func4, Try.ntmps4
    go_wp2_with (first | (go_at_call 12; refine (speaks17_any _).mono ?_; rintro e w1 ⟨rfl, hb1⟩; have HB1 := Lib.hid hb1; clear hb1) | (go_at_call 13; refine (big_any A1 c1 more _ (H1.out.below HB2.out)).mono ?_; rintro e w3 ⟨rfl, hb3⟩; rw [hm]; have HB3 := Lib.hid (HB2.out.trans (hb3.mono HB2.out.size)); clear hb3) | (go_at_call 13; refine (big_any A0 c0 l _ (H0.out.below HB1.out)).mono ?_; rintro e w2 ⟨rfl, hb2⟩; rw [hl]; have HB2 := Lib.hid (HB1.out.trans (hb2.mono HB1.out.size)); clear hb2))
    go_ret
    exact ⟨rfl, HB3.out⟩
  have hk' : ¬ (100 : Int) < (ks.length : Int) := by omega
  go_enter Try.func4, Try.ntmps4
  go_wp2_with (first | (go_at_call 12; refine (speaks17_any _).mono ?_; rintro e w1 ⟨rfl, hb1⟩; have HB1 := Lib.hid hb1; clear hb1) | (go_at_call 13; refine (big_any A1 c1 more _ (H1.out.below HB2.out)).mono ?_; rintro e w3 ⟨rfl, hb3⟩; rw [hm]; have HB3 := Lib.hid (HB2.out.trans (hb3.mono HB2.out.size)); clear hb3) | (go_at_call 13; refine (big_any A0 c0 l _ (H0.out.below HB1.out)).mono ?_; rintro e w2 ⟨rfl, hb2⟩; rw [hl]; have HB2 := Lib.hid (HB1.out.trans (hb2.mono HB1.out.size)); clear hb2))
  have HLl := Lib.hid (show l.length ≤ 100 by have := hl; unfold bigB at this; rw [Bool.or_eq_false_iff] at this; have := of_decide_eq_false this.1; omega)
  have HLm := Lib.hid (show more.length ≤ 100 by have := hm; unfold bigB at this; rw [Bool.or_eq_false_iff] at this; have := of_decide_eq_false this.1; omega)
  have HKk := Lib.hid (show ks.length ≤ 100 by omega)
  clear hl hm hk hk'
  have G0 := Lib.hid (H0.out.below HB3.out)
  have G1 := Lib.hid (H1.out.below HB3.out)
  have G2 := Lib.hid (H2.out.below HB3.out)
  clear H0 H1 H2 HB1 HB2
  refine (show Calls Try.prog 14 #[.int .i64 8] w3 _ from oNew 8 w3 (by omega) (by omega)).mono ?_
  rintro e w4 ⟨p, rfl, h4, hb4⟩
  have H4 := Lib.hid h4
  have HB4 := Lib.hid hb4
  clear h4 hb4
  go_wp2_with fail
  go_loopw [38] (fun t wr => ∃ i : Nat, t = .int .i64 i ∧ i ≤ l.length ∧ Own w3.heap.size wr p (wrL (Dk.new 8) (l.take i)) ∧ Below w3.heap.size w3 wr) (fun t _ => l.length - (intOf t).toNat)
  case atStart => exact ⟨0, rfl, by omega, H4.out, HB4.out⟩
  case round =>
    obtain ⟨i, rfl, hi, h5, hb5⟩ := hrel
    have H5 := Lib.hid h5
    have HB5 := Lib.hid hb5
    clear h5 hb5 H4 HB4
    by_cases hlt : i < l.length
    · have hlt' : (i : Int) < (l.length : Int) := by omega
      have hl100 := HLl.out
      obtain ⟨b, off, rfl, hbl, hrow⟩ := ods_at (G0.out.below HB5.out) hlt
      obtain ⟨o, ho⟩ : ∃ o, o = l[i] := ⟨_, rfl⟩
      have HR := Lib.hid (hrow i o (by rw [List.getElem?_eq_getElem hlt, ho]))
      have HS := Lib.hid (show wrL (Dk.new 8) (l.take (i + 1)) = wr1 (wrL (Dk.new 8) (l.take i)) o by rw [List.take_succ_eq_append_getElem hlt, wrL_snoc, ho])
      have HU := Lib.hid (show Up8 (wrL (Dk.new 8) (l.take i)) 100 by have := wrL_up new_up (l.take i); exact ⟨this.down, this.left, this.len, by have h1 := this.few; rw [List.length_take] at h1; have := HLl.out; omega⟩)
      generalize wrL (Dk.new 8) (l.take i) = d at *
      clear hrow ho
      by_cases hk0 : o.kind = 0
      · go_upto_region 10 with (first
          | (refine wpList_load_mid rfl _ _ rfl b (off + i * 4) rfl [.int .i64 o.kind, .int .i64 o.n, .int .u8 o.fill.toNat, .slice o.A o.kept.length o.c] _ HR.out Try.underlying34 rfl od_inf ?_)
          | (refine wpList_alloc_row rfl _ rfl (.agg odZ.toArray) odZ.toArray od_zero rfl ?_)
          | (refine wpList_store_row rfl _ _ _ rfl _ #[.int .i64 o.kind, .int .i64 o.n, .int .u8 o.fill.toNat, .slice o.A o.kept.length o.c] rfl rfl 34 _ (heap_alloc_new _ _) od_inf rfl (by kernel_rfl) ?_
             rw [World.setRow_alloc_new]))
        generalize hwb : World.alloc wr _ = wb
        have HRb := Lib.hid (show wb.heap[wr.heap.size]? = some (.cells #[.int .i64 o.kind, .int .i64 o.n, .int .u8 o.fill.toNat, .slice o.A o.kept.length o.c] 34 (0, 0)) by rw [← hwb, hk0]; exact heap_alloc_new _ _)
        have H9 := Lib.hid (show Own w3.heap.size wb p d by rw [← hwb]; exact H5.out.alloc _)
        have HB9 := Lib.hid (show Below w3.heap.size w3 wb by rw [← hwb]; exact HB5.out.alloc HB5.out.size _)
        have HD9 := Lib.hid (show Dsk (World.drew wb) p (fun k => w3.heap.size ≤ k ∧ k < wr.heap.size) d by rw [← hwb]; exact (H5.out.now ((Below.refl _ wr).alloc (Nat.le_refl _) _)).below (below_drew (Below.refl _ _)))
        clear hwb
        refine wp_region_held_drew (S := fun W => Kp (fun k => w3.heap.size ≤ k ∧ k < wr.heap.size) wb W) (by kernel_rfl) (Kp.drew (Kp.refl _ _)) (fun hHeld => ?_)
        refine wpAnyH_take (i := 0) (oi := ⟨_, _, _, _, _, _⟩) (v := ?_) rfl (by kernel_rfl) (by kernel_rfl) (by kernel_rfl) (fun _ _ _ h => h) (Or.inl ⟨by kernel_rfl, ?_⟩) hHeld ?_
        rotate_left 1
        · intro W hW; first | (go_simp; done) | (go_simp; with_reducible rfl)
        try simp only [Act.put, List.setIfInBounds_toArray, List.set_cons_zero, List.set_cons_succ]
        refine wpAnyH_take (i := 1) (oi := ⟨_, _, _, _, _, _⟩) (v := ?_) rfl (by kernel_rfl) (by kernel_rfl) (by kernel_rfl) (fun _ _ _ h => h) (Or.inl ⟨by kernel_rfl, ?_⟩) hHeld ?_
        rotate_left 1
        · intro W hW; first | (go_simp; done) | (go_simp; with_reducible rfl)
        try simp only [Act.put, List.setIfInBounds_toArray, List.set_cons_zero, List.set_cons_succ]
        refine wpAnyH_take (i := 2) (oi := ⟨_, _, _, _, _, _⟩) (v := ?_) rfl (by kernel_rfl) (by kernel_rfl) (by kernel_rfl) (fun _ _ _ h => h) (Or.inl ⟨by kernel_rfl, ?_⟩) hHeld ?_
        rotate_left 1
        · intro W hW; have k0 :=  cell_of_row W wr.heap.size 1 _ _ (0, 0) ((hW.block _ (lt_of_heap HRb.out) (fun x => Nat.lt_irrefl _ x.2)).trans HRb.out); first | (go_simp; done) | (go_simp; with_reducible rfl)
        try simp only [Act.put, List.setIfInBounds_toArray, List.set_cons_zero, List.set_cons_succ]
        refine wpAnyH_take (i := 3) (oi := ⟨_, _, _, _, _, _⟩) (v := ?_) rfl (by kernel_rfl) (by kernel_rfl) (by kernel_rfl) (fun _ _ _ h => h) (Or.inl ⟨by kernel_rfl, ?_⟩) hHeld ?_
        rotate_left 1
        · intro W hW; first | (go_simp; done) | (go_simp; with_reducible rfl)
        try simp only [Act.put, List.setIfInBounds_toArray, List.set_cons_zero, List.set_cons_succ]
        refine wpAnyH_take (i := 4) (oi := ⟨_, _, _, _, _, _⟩) (v := ?_) rfl (by kernel_rfl) (by kernel_rfl) (by kernel_rfl) (fun _ _ _ h => h) (Or.inl ⟨by kernel_rfl, ?_⟩) hHeld ?_
        rotate_left 1
        · intro W hW; have k0 :=  cell_of_row W wr.heap.size 2 _ _ (0, 0) ((hW.block _ (lt_of_heap HRb.out) (fun x => Nat.lt_irrefl _ x.2)).trans HRb.out); first | (go_simp; done) | (go_simp; with_reducible rfl)
        try simp only [Act.put, List.setIfInBounds_toArray, List.set_cons_zero, List.set_cons_succ]
        refine wpAnyH_ready (rs := [5]) (by kernel_rfl) (by simp) ?_
        refine AllReadyH.cons rfl (fun K hK => ?_) AllReadyH.nil
        rw [if_pos (by kernel_rfl)]
        go_simp
        refine (sector_any o.fill _).mono ?_
        rintro e ws ⟨rfl, hbs⟩
        go_wp2_with fail
        refine hK.out _ _ ?_ (fun hHelda => ?_)
        · exact hHeld.trans (Kp.of_below hbs _) (fun _ _ x => x)
        clear hK K
        try simp only [Act.put, List.setIfInBounds_toArray, List.set_cons_zero, List.set_cons_succ]
        refine wpAnyH_ready (rs := [6]) (by kernel_rfl) (by simp) ?_
        refine AllReadyH.cons rfl (fun K hK => ?_) AllReadyH.nil
        rw [if_pos (by kernel_rfl)]
        go_simp
        refine (dWrite_any p _ d o.n (filL o.fill) _ (filL_len _) (by have := HU.out.few; omega) (HD9.out.below hbs)).mono ?_
        rintro e wv ⟨rfl, hD, hkv⟩
        go_wp2_with fail
        refine hK.out _ _ ?_ (fun hHeldaa => ?_)
        · exact hHelda.trans hkv (fun _ _ x => x)
        clear hK K
        try simp only [Act.put, List.setIfInBounds_toArray, List.set_cons_zero, List.set_cons_succ]
        refine wpAnyH_done (by kernel_rfl) ?_ _
        have HKz := Lib.hid hHeldaa
        clear hHeldaa
        have hs : w3.heap.size ≤ ws.heap.size := Nat.le_trans H9.out.2 (Nat.le_trans (below_drew (Below.refl wb.heap.size wb)).size hbs.size)
        have HO := Lib.hid (show Own w3.heap.size wv p (d.write o.n (filL o.fill)).1 from ⟨hD.mono fun k hk hu => (by rcases hu with x | x; exact x.1; exact Nat.le_trans hs x.1), Nat.le_trans hs hkv.size⟩)
        clear hD hkv hbs hs
        go_wp2_with fail
        go_roundw
        case rel => exact ⟨i + 1, by go_num, by omega, by rw [HS.out]; unfold wr1; rw [if_pos hk0]; exact HO.out, HB9.out.trans (HKz.out.below H9.out.2 (fun i hi x => by have := x.1; omega))⟩
        case measure => simp [intOf]; omega
      · go_wp2_with (first
          | (refine wpList_load_mid rfl _ _ rfl b (off + i * 4) rfl [.int .i64 o.kind, .int .i64 o.n, .int .u8 o.fill.toNat, .slice o.A o.kept.length o.c] _ HR.out Try.underlying34 rfl od_inf ?_)
          | (refine wpList_alloc_row rfl _ rfl (.agg odZ.toArray) odZ.toArray od_zero rfl ?_)
          | (refine wpList_store_row rfl _ _ _ rfl _ #[.int .i64 o.kind, .int .i64 o.n, .int .u8 o.fill.toNat, .slice o.A o.kept.length o.c] rfl rfl 34 _ (heap_alloc_new _ _) od_inf rfl (by kernel_rfl) ?_
             rw [World.setRow_alloc_new]))
        go_roundw
        case rel => exact ⟨i + 1, by go_num, by omega, by rw [HS.out]; unfold wr1; rw [if_neg hk0]; exact H5.out.alloc _, HB5.out.alloc HB5.out.size _⟩
        case measure => simp [intOf]; omega
    · obtain rfl : i = l.length := by omega
      have HU := Lib.hid (show Up8 (wrL (Dk.new 8) (l.take l.length)) 100 by have := wrL_up new_up (l.take l.length); exact ⟨this.down, this.left, this.len, by have h1 := this.few; rw [List.length_take] at h1; have := HLl.out; omega⟩)
      generalize wrL (Dk.new 8) (l.take l.length) = E at *
      go_wp2_with fail
      refine (oSync w3.heap.size p E wr (by have := HU.out.few; omega) H5.out).mono ?_
      rintro e w6 ⟨rfl, h6, hb6⟩
      have HD := Lib.hid (sync_up HU.out)
      generalize E.sync.1 = D at *
      have H6 := Lib.hid h6
      have HB6 := Lib.hid (HB5.out.trans hb6)
      clear h6 hb6 H5 HB5 HU hlt hi
      go_upto_region 15 with (first
        | (refine wpList_alloc_row rfl _ rfl (.agg was0.toArray) was0.toArray was_zero rfl ?_))
      generalize hwa : World.alloc w6 _ = wa
      have HW := Lib.hid (show wa.heap[w6.heap.size]? = some (.cells (secR (wasL D 0)).flatten.toArray 43 (0, 0)) by rw [← hwa, wasL_zero]; exact heap_alloc_new _ _)
      have HP := Lib.hid (show Dsk wa p (fun k => w3.heap.size ≤ k ∧ k < w6.heap.size) D by rw [← hwa]; exact H6.out.now ((Below.refl _ w6).alloc (Nat.le_refl _) _))
      have HBa := Lib.hid (show Below w3.heap.size w3 wa by rw [← hwa]; exact HB6.out.alloc H6.out.2 _)
      have HSz := Lib.hid (show w3.heap.size ≤ w6.heap.size from H6.out.2)
      clear hwa H6 HB6
      go_loopw [55] (fun t wr => ∃ i : Nat, t = .int .i64 i ∧ i ≤ 8 ∧ wr.heap[w6.heap.size]? = some (.cells (secR (wasL D i)).flatten.toArray 43 (0, 0)) ∧ Dsk wr p (fun k => w3.heap.size ≤ k ∧ k < w6.heap.size) D ∧ Below w3.heap.size w3 wr) (fun t _ => 8 - (intOf t).toNat)
      case atStart => exact ⟨0, rfl, by omega, HW.out, HP.out, HBa.out⟩
      case round =>
        obtain ⟨i, rfl, hi, h7, h8, h9⟩ := hrel
        have H7 := Lib.hid h7
        have H8 := Lib.hid h8
        have H9 := Lib.hid h9
        clear h7 h8 h9 HW HP HBa
        by_cases hlt : i < 8
        · have hlt' : (i : Int) < 8 := by omega
          go_wp2_with fail
          refine (dRead_any p _ D (i : Int) wr H8.out).mono ?_
          rintro e wb ⟨rfl, hbb⟩
          have HSL := Lib.hid (show (D.readS (i : Int)).length = 64 from Dk.readS_len H8.out.ok _)
          have HG := Lib.hid ((hbb.block _ (lt_of_heap H7.out)).trans H7.out)
          have HT := Lib.hid (show wb.there w6.heap.size (i * 64) (bc (D.readS (i : Int))).toArray.size from was_there HG.out (by rw [was_len H8.out.ok, bc_size, HSL.out]; omega) rfl)
          have H8b := Lib.hid (H8.out.below hbb)
          have H9b := Lib.hid (H9.out.trans (hbb.mono H9.out.size))
          clear hbb
          go_upto_region 18 with (first
            | (refine wpList_store_mid rfl 40 _ _ rfl w6.heap.size (i * 64) (bc (D.readS (i : Int))).toArray rfl rfl HT.out (sec_info' _ HSL.out) (bc_all _) ?_))
          have HKc := Lib.hid (setCells_kp1 w6.heap.size (i * 64) (bc (D.readS (i : Int))).toArray.toList wb)
          have HRc := Lib.hid (was_set H8.out.ok i hlt HG.out)
          generalize hwc : wb.setCells _ _ _ = wc at *
          clear hwc
          go_wp2_with fail
          go_roundw
          case rel => exact ⟨i + 1, by go_num, by omega, HRc.out, H8b.out.keep HKc.out (fun k _ hk he => by have := hk.2; omega), H9b.out.trans (HKc.out.below H9b.out.size (fun k hk he => by have := HSz.out; omega))⟩
          case measure => simp [intOf]; omega
        · obtain rfl : i = 8 := by omega
          have HGl := Lib.hid (lt_of_heap H7.out)
          go_upto_region 21 with (first
            | (refine wpList_alloc_row rfl _ rfl (.agg (tchR []).toArray) (tchR []).toArray tch_zero rfl ?_))
          generalize hwa : World.alloc wr _ = wa
          have HDr := Lib.hid (fun j : Int => Dk.readS_len H8.out.ok j)
          have HV0 := Lib.hid (show wa.heap[w6.heap.size]? = some (.cells (secR (wasL D 8)).flatten.toArray 43 (0, 0)) by rw [← hwa]; exact (((below1 wr _).block _ HGl.out).trans H7.out))
          have HT0 := Lib.hid (show wa.heap[wr.heap.size]? = some (.cells (tchR (more.take 0)).toArray 46 (0, 0)) by rw [← hwa]; exact heap_alloc_new _ _)
          have HP0 := Lib.hid (show Dsk wa p (fun k => w3.heap.size ≤ k ∧ k ≠ w6.heap.size ∧ k ≠ wr.heap.size) (wrL D (more.take 0)) by rw [← hwa]; exact (H8.out.below (below1 wr _)).mono fun k _ hk => ⟨hk.1, by omega, by have := HGl.out; omega⟩)
          have HB0 := Lib.hid (show Below w3.heap.size w3 wa by rw [← hwa]; exact H9.out.trans ((below1 wr _).mono H9.out.size))
          clear hwa H7 H8 H9 hlt hi
          obtain ⟨gw, hgw⟩ : ∃ gw, gw = w6.heap.size := ⟨_, rfl⟩
          obtain ⟨gt, hgt⟩ : ∃ gt, gt = wr.heap.size := ⟨_, rfl⟩
          rw [← hgw] at HSz HGl HV0 HP0 ⊢
          rw [← hgt] at HGl HT0 HP0 ⊢
          clear hgw hgt
          go_loopw [69] (fun t wr => ∃ i : Nat, t = .int .i64 i ∧ i ≤ more.length ∧ wr.heap[gw]? = some (.cells (secR (wasL D 8)).flatten.toArray 43 (0, 0)) ∧ wr.heap[gt]? = some (.cells (tchR (more.take i)).toArray 46 (0, 0)) ∧ Dsk wr p (fun k => w3.heap.size ≤ k ∧ k ≠ gw ∧ k ≠ gt) (wrL D (more.take i)) ∧ Below w3.heap.size w3 wr) (fun t _ => more.length - (intOf t).toNat)
          case atStart => exact ⟨0, rfl, by omega, HV0.out, HT0.out, HP0.out, HB0.out⟩
          case round =>
            obtain ⟨i, rfl, hi, h1, h2, h3, h4⟩ := hrel
            have HV := Lib.hid h1
            have HT := Lib.hid h2
            have HP := Lib.hid h3
            have HB := Lib.hid h4
            clear h1 h2 h3 h4 HV0 HT0 HP0 HB0
            by_cases hlt : i < more.length
            · have hlt' : (i : Int) < (more.length : Int) := by omega
              have hl100 := HLm.out
              obtain ⟨b, off, rfl, hbl, hrow⟩ := ods_at (G1.out.below HB.out) hlt
              obtain ⟨o, ho⟩ : ∃ o, o = more[i] := ⟨_, rfl⟩
              have HR := Lib.hid (hrow i o (by rw [List.getElem?_eq_getElem hlt, ho]))
              have HS := Lib.hid (show more.take (i + 1) = more.take i ++ [o] by rw [List.take_succ_eq_append_getElem hlt, ho])
              have HU := Lib.hid (show Up8 (wrL D (more.take i)) 100 by have := wrL_up HD.out.1 (more.take i); exact ⟨this.down, this.left, this.len, by have h1 := this.few; rw [List.length_take] at h1; have := HLm.out; omega⟩)
              generalize more.take i = L at *
              obtain ⟨d, hd⟩ : ∃ d, d = wrL D L := ⟨_, rfl⟩
              have Hd := Lib.hid hd
              rw [← hd] at HP HU
              clear hrow ho hd
              by_cases hk0 : o.kind = 0
              · go_upto_region 24 with (first
                  | (refine wpList_load_mid rfl _ _ rfl b (off + i * 4) rfl [.int .i64 o.kind, .int .i64 o.n, .int .u8 o.fill.toNat, .slice o.A o.kept.length o.c] _ HR.out Try.underlying34 rfl od_inf ?_)
                  | (refine wpList_alloc_row rfl _ rfl (.agg odZ.toArray) odZ.toArray od_zero rfl ?_)
                  | (refine wpList_store_row rfl _ _ _ rfl _ #[.int .i64 o.kind, .int .i64 o.n, .int .u8 o.fill.toNat, .slice o.A o.kept.length o.c] rfl rfl 34 _ (heap_alloc_new _ _) od_inf rfl (by kernel_rfl) ?_
                     rw [World.setRow_alloc_new]))
                generalize hwb : World.alloc wr _ = wb
                have HRb := Lib.hid (show wb.heap[wr.heap.size]? = some (.cells #[.int .i64 o.kind, .int .i64 o.n, .int .u8 o.fill.toNat, .slice o.A o.kept.length o.c] 34 (0, 0)) by rw [← hwb, hk0]; exact heap_alloc_new _ _)
                have hba : Below wr.heap.size wr wb := by rw [← hwb]; exact below1 wr _
                have HV9 := Lib.hid ((hba.block _ (lt_of_heap HV.out)).trans HV.out)
                have HT9 := Lib.hid ((hba.block _ (lt_of_heap HT.out)).trans HT.out)
                have HB9 := Lib.hid (HB.out.trans (hba.mono HB.out.size))
                have HD9 := Lib.hid (show Dsk (World.drew wb) p (fun k => (w3.heap.size ≤ k ∧ k ≠ gw ∧ k ≠ gt) ∧ k < wr.heap.size) d from ((HP.out.mono (B' := fun k => (w3.heap.size ≤ k ∧ k ≠ gw ∧ k ≠ gt) ∧ k < wr.heap.size) fun k hk x => ⟨x, hk⟩).below hba).below (below_drew (Below.refl _ _)))
                clear hwb hba
                refine wp_region_held_drew (S := fun W => Kp (fun k => (w3.heap.size ≤ k ∧ k ≠ gw ∧ k ≠ gt) ∧ k < wr.heap.size) wb W) (by kernel_rfl) (Kp.drew (Kp.refl _ _)) (fun hHeld => ?_)
                refine wpAnyH_take (i := 0) (oi := ⟨_, _, _, _, _, _⟩) (v := ?_) rfl (by kernel_rfl) (by kernel_rfl) (by kernel_rfl) (fun _ _ _ h => h) (Or.inl ⟨by kernel_rfl, ?_⟩) hHeld ?_
                rotate_left 1
                · intro W hW; first | (go_simp; done) | (go_simp; with_reducible rfl)
                try simp only [Act.put, List.setIfInBounds_toArray, List.set_cons_zero, List.set_cons_succ]
                refine wpAnyH_take (i := 1) (oi := ⟨_, _, _, _, _, _⟩) (v := ?_) rfl (by kernel_rfl) (by kernel_rfl) (by kernel_rfl) (fun _ _ _ h => h) (Or.inl ⟨by kernel_rfl, ?_⟩) hHeld ?_
                rotate_left 1
                · intro W hW; first | (go_simp; done) | (go_simp; with_reducible rfl)
                try simp only [Act.put, List.setIfInBounds_toArray, List.set_cons_zero, List.set_cons_succ]
                refine wpAnyH_take (i := 2) (oi := ⟨_, _, _, _, _, _⟩) (v := ?_) rfl (by kernel_rfl) (by kernel_rfl) (by kernel_rfl) (fun _ _ _ h => h) (Or.inl ⟨by kernel_rfl, ?_⟩) hHeld ?_
                rotate_left 1
                · intro W hW; have k0 :=  cell_of_row W wr.heap.size 1 _ _ (0, 0) ((hW.block _ (lt_of_heap HRb.out) (fun x => Nat.lt_irrefl _ x.2)).trans HRb.out); first | (go_simp; done) | (go_simp; with_reducible rfl)
                try simp only [Act.put, List.setIfInBounds_toArray, List.set_cons_zero, List.set_cons_succ]
                refine wpAnyH_take (i := 3) (oi := ⟨_, _, _, _, _, _⟩) (v := ?_) rfl (by kernel_rfl) (by kernel_rfl) (by kernel_rfl) (fun _ _ _ h => h) (Or.inl ⟨by kernel_rfl, ?_⟩) hHeld ?_
                rotate_left 1
                · intro W hW; first | (go_simp; done) | (go_simp; with_reducible rfl)
                try simp only [Act.put, List.setIfInBounds_toArray, List.set_cons_zero, List.set_cons_succ]
                refine wpAnyH_take (i := 4) (oi := ⟨_, _, _, _, _, _⟩) (v := ?_) rfl (by kernel_rfl) (by kernel_rfl) (by kernel_rfl) (fun _ _ _ h => h) (Or.inl ⟨by kernel_rfl, ?_⟩) hHeld ?_
                rotate_left 1
                · intro W hW; have k0 :=  cell_of_row W wr.heap.size 2 _ _ (0, 0) ((hW.block _ (lt_of_heap HRb.out) (fun x => Nat.lt_irrefl _ x.2)).trans HRb.out); first | (go_simp; done) | (go_simp; with_reducible rfl)
                try simp only [Act.put, List.setIfInBounds_toArray, List.set_cons_zero, List.set_cons_succ]
                refine wpAnyH_ready (rs := [5]) (by kernel_rfl) (by simp) ?_
                refine AllReadyH.cons rfl (fun K hK => ?_) AllReadyH.nil
                rw [if_pos (by kernel_rfl)]
                go_simp
                refine (sector_any o.fill _).mono ?_
                rintro e ws ⟨rfl, hbs⟩
                go_wp2_with fail
                refine hK.out _ _ ?_ (fun hHelda => ?_)
                · exact hHeld.trans (Kp.of_below hbs _) (fun _ _ x => x)
                clear hK K
                try simp only [Act.put, List.setIfInBounds_toArray, List.set_cons_zero, List.set_cons_succ]
                refine wpAnyH_ready (rs := [6]) (by kernel_rfl) (by simp) ?_
                refine AllReadyH.cons rfl (fun K hK => ?_) AllReadyH.nil
                rw [if_pos (by kernel_rfl)]
                go_simp
                refine (dWrite_any p _ d o.n (filL o.fill) _ (filL_len _) (by have := HU.out.few; omega) (HD9.out.below hbs)).mono ?_
                rintro e wv ⟨rfl, hD, hkv⟩
                go_wp2_with fail
                refine hK.out _ _ ?_ (fun hHeldaa => ?_)
                · exact hHelda.trans hkv (fun _ _ x => x)
                clear hK K
                try simp only [Act.put, List.setIfInBounds_toArray, List.set_cons_zero, List.set_cons_succ]
                refine wpAnyH_done (by kernel_rfl) ?_ _
                have HKz := Lib.hid hHeldaa
                clear hHeldaa
                have hs : wb.heap.size ≤ ws.heap.size := Nat.le_trans (below_drew (Below.refl wb.heap.size wb)).size hbs.size
                have HPv := Lib.hid (show Dsk wv p (fun k => w3.heap.size ≤ k ∧ k ≠ gw ∧ k ≠ gt) (d.write o.n (filL o.fill)).1 from hD.mono fun k hk hu => (by
                  have l1 := lt_of_heap HV9.out
                  have l2 := lt_of_heap HT9.out
                  have l3 := HB9.out.size
                  rcases hu with x | x
                  · exact x.1
                  · have := x.1
                    exact ⟨by omega, by omega, by omega⟩))
                have HVv := Lib.hid ((HKz.out.block _ (lt_of_heap HV9.out) (fun x => x.1.2.1 rfl)).trans HV9.out)
                have HTv := Lib.hid ((HKz.out.block _ (lt_of_heap HT9.out) (fun x => x.1.2.2 rfl)).trans HT9.out)
                have HRv := Lib.hid ((HKz.out.block _ (lt_of_heap HRb.out) (fun x => Nat.lt_irrefl _ x.2)).trans HRb.out)
                have HBv := Lib.hid (HB9.out.trans (HKz.out.below HB9.out.size (fun k hk x => by have := x.1.1; omega)))
                clear hs hD hkv hbs
                generalize wr.heap.size = n at *
                by_cases hn : 0 ≤ o.n ∧ o.n < 8
                · obtain ⟨j, hj⟩ : ∃ j : Nat, o.n = (j : Int) := ⟨o.n.toNat, by omega⟩
                  have hj8 : j < 8 := by omega
                  have hj8' : (j : Int) < 8 := by omega
                  have HJ := Lib.hid hj
                  have c1 : wv.cell? ⟨n, 1, none⟩ = some (.int .i64 (j : Int)) := by rw [cell_of_row wv n 1 _ _ (0, 0) HRv.out, ← hj]; rfl
                  have HK0 := Lib.hid hk0
                  clear hj hn hk0
                  have c2 : wv.cell? ⟨gt, j, none⟩ = some (.bool (tch L j)) := by rw [cell_of_row wv gt j _ _ (0, 0) HTv.out]; simp [tchR, hj8]
                  have c3 := frozen_of_row wv gt j _ _ HTv.out
                  go_wp2_with fail
                  go_roundw
                  case rel =>
                    refine ⟨i + 1, by go_num, by omega, ?_, ?_, ?_, ?_⟩
                    · rw [heap_setCell_other _ _ _ _ (by have := HGl.out; show gw ≠ gt; omega)]
                      exact HVv.out
                    · rw [HS.out, ← tchR_set L o j HK0.out HJ.out hj8]
                      exact heap_setCell_same wv gt j _ _ _ HTv.out
                    · rw [HS.out, wrL_snoc, ← Hd.out]
                      unfold wr1
                      rw [if_pos HK0.out]
                      exact HPv.out.keep (Kp.setCell (S := fun k => k = gt) (p := ⟨gt, j, none⟩) (Kp.refl _ wv) (.inl rfl) _) (fun k _ hk he => hk.2.2 he)
                    · exact HBv.out.setCell (by have := HSz.out; have := HGl.out; show w3.heap.size ≤ gt; omega) _
                  case measure => simp [intOf]; omega
                · have c1 : wv.cell? ⟨n, 1, none⟩ = some (.int .i64 o.n) := by rw [cell_of_row wv n 1 _ _ (0, 0) HRv.out]; rfl
                  have HK0 := Lib.hid hk0
                  have HNn := Lib.hid (show ¬ (o.kind = 0 ∧ 0 ≤ o.n ∧ o.n < 8) from fun x => hn x.2)
                  clear hk0
                  by_cases hn1 : 0 ≤ o.n
                  · have hn2 : ¬ o.n < 8 := fun x => hn ⟨hn1, x⟩
                    clear hn
                    go_wp2_with fail
                    go_roundw
                    case rel =>
                      refine ⟨i + 1, by go_num, by omega, HVv.out, ?_, ?_, HBv.out⟩
                      · rw [HS.out, tchR_same L o HNn.out]
                        exact HTv.out
                      · rw [HS.out, wrL_snoc, ← Hd.out]
                        unfold wr1
                        rw [if_pos HK0.out]
                        exact HPv.out
                    case measure => simp [intOf]; omega
                  · clear hn
                    go_wp2_with fail
                    go_roundw
                    case rel =>
                      refine ⟨i + 1, by go_num, by omega, HVv.out, ?_, ?_, HBv.out⟩
                      · rw [HS.out, tchR_same L o HNn.out]
                        exact HTv.out
                      · rw [HS.out, wrL_snoc, ← Hd.out]
                        unfold wr1
                        rw [if_pos HK0.out]
                        exact HPv.out
                    case measure => simp [intOf]; omega
              · go_wp2_with (first
                  | (refine wpList_load_mid rfl _ _ rfl b (off + i * 4) rfl [.int .i64 o.kind, .int .i64 o.n, .int .u8 o.fill.toNat, .slice o.A o.kept.length o.c] _ HR.out Try.underlying34 rfl od_inf ?_)
                  | (refine wpList_alloc_row rfl _ rfl (.agg odZ.toArray) odZ.toArray od_zero rfl ?_)
                  | (refine wpList_store_row rfl _ _ _ rfl _ #[.int .i64 o.kind, .int .i64 o.n, .int .u8 o.fill.toNat, .slice o.A o.kept.length o.c] rfl rfl 34 _ (heap_alloc_new _ _) od_inf rfl (by kernel_rfl) ?_
                     rw [World.setRow_alloc_new]))
                go_roundw
                case rel =>
                  have hba := below1 wr (.cells #[.int .i64 o.kind, .int .i64 o.n, .int .u8 o.fill.toNat, .slice o.A o.kept.length o.c] 34 )
                  refine ⟨i + 1, by go_num, by omega, (hba.block _ (lt_of_heap HV.out)).trans HV.out, ?_, ?_, HB.out.trans (hba.mono HB.out.size)⟩
                  · rw [HS.out, tchR_same L o (fun x => hk0 x.1)]
                    exact (hba.block _ (lt_of_heap HT.out)).trans HT.out
                  · rw [HS.out, wrL_snoc, ← Hd.out]
                    unfold wr1
                    rw [if_neg hk0]
                    exact HP.out.below hba
                case measure => simp [intOf]; omega
            · obtain rfl : i = more.length := by omega
              have HT2 := Lib.hid (show wr.heap[gt]? = some (.cells (tchR more).toArray 46 (0, 0)) by have := HT.out; rwa [List.take_length] at this)
              have HP2 := Lib.hid (show Dsk wr p (fun k => w3.heap.size ≤ k ∧ k ≠ gw ∧ k ≠ gt) (wrL D more) by have := HP.out; rwa [List.take_length] at this)
              have HU := Lib.hid (wrL_up HD.out.1 more)
              clear HT HP hlt hi
              go_wp2_with fail
              refine (dCrash_weak p _ (wrL D more) A2 c2 ks wr (by have := HU.out.few; have := HLm.out; omega) (by have := HKk.out; omega) (G2.out.below HB.out) (fun h0 a ha hx => by
                rcases G2.out with h | ⟨b, off, he, hb, _⟩
                · exact h0 h
                · obtain rfl : a = ⟨b, off, none⟩ := Option.some.inj (ha.symm.trans he)
                  have := hx.1
                  exact absurd hb (by show ¬ b < w3.heap.size; exact Nat.not_lt.2 this)) HP2.out).mono ?_
              rintro e wc ⟨⟨v, rfl⟩, hD⟩
              have hkc := hD.2
              have HC := Lib.hid (crash_up HU.out HP2.out.ok ks)
              have HKs := Lib.hid (fun j hj ht => keeps_sec HD.out.1 HD.out.2 more ks j hj ht)
              have HOk := Lib.hid (crash_ok HP2.out.ok ks)
              have HDok := Lib.hid (show ∀ j : Int, (D.readS j).length = 64 from fun j => HDr.out j)
              generalize (wrL D more).crash ks = C at *
              have HVc := Lib.hid ((hkc.block _ (lt_of_heap HV.out) (fun x => x.2.1 rfl)).trans HV.out)
              have HTc := Lib.hid ((hkc.block _ (lt_of_heap HT2.out) (fun x => x.2.2 rfl)).trans HT2.out)
              have HPc := Lib.hid (show Dsk wc p (fun _ => True) C from hD.1.mono fun _ _ _ => trivial)
              have HBc := Lib.hid (HB.out.trans (hD.2.below HB.out.size (fun k hk x => by have := x.1; omega)))
              clear hD hkc HV HT2 HP2 HB HU
              go_wp2_with fail
              go_loopw [98] (fun t wr => ∃ i : Nat, t = .int .i64 i ∧ i ≤ 8 ∧ wr.heap[gw]? = some (.cells (secR (wasL D 8)).flatten.toArray 43 (0, 0)) ∧ wr.heap[gt]? = some (.cells (tchR more).toArray 46 (0, 0)) ∧ Dsk wr p (fun _ => True) C ∧ Below w3.heap.size w3 wr) (fun t _ => 8 - (intOf t).toNat)
              case atStart => exact ⟨0, rfl, by omega, HVc.out, HTc.out, HPc.out, HBc.out⟩
              case round =>
                obtain ⟨i, rfl, hi, h1, h2, h3, h4⟩ := hrel
                have HV := Lib.hid h1
                have HT := Lib.hid h2
                have HP := Lib.hid h3
                have HB := Lib.hid h4
                clear h1 h2 h3 h4 HVc HTc HPc HBc
                by_cases hlt : i < 8
                · have hlt' : (i : Int) < 8 := by omega
                  go_wp2_with fail
                  refine (dRead_any p _ C (i : Int) wr HP.out).mono ?_
                  rintro e wb ⟨rfl, hbb⟩
                  rw [show C.err (i : Int) = 0 by rw [err_up HC.out, if_neg (by omega)]]
                  have HX := Lib.hid (show (C.readS (i : Int)).length = 64 from Dk.readS_len HP.out.ok _)
                  have HKi := Lib.hid (HKs.out i hlt)
                  generalize C.readS (i : Int) = x at *
                  have HV8 := Lib.hid ((hbb.block _ (lt_of_heap HV.out)).trans HV.out)
                  have HT8 := Lib.hid ((hbb.block _ (lt_of_heap HT.out)).trans HT.out)
                  have HP8 := Lib.hid (HP.out.below hbb)
                  have HB8 := Lib.hid (HB.out.trans (hbb.mono HB.out.size))
                  clear hbb HV HT HP HB
                  go_upto_region 33 with (first
                    | (refine wpList_alloc_row rfl _ rfl (secv zs) (bc zs).toArray sec_zero rfl ?_)
                    | (refine wpList_store_row rfl _ _ _ rfl _ (bc x).toArray rfl rfl 40 (bc zs).toArray (heap_alloc_new _ _) (sec_info' _ HX.out) (by rw [bc_size, bc_size, HX.out]; rfl) (bc_all _) ?_
                       rw [World.setRow_alloc_new]))
                  generalize hwe : World.alloc wb _ = we
                  have hba : Below wb.heap.size wb we := by rw [← hwe]; exact below1 wb _
                  have HX9 := Lib.hid (show we.heap[wb.heap.size]? = some (.cells (bc x).toArray 40 (0, 0)) by rw [← hwe]; exact heap_alloc_new _ _)
                  have HV9 := Lib.hid ((hba.block _ (lt_of_heap HV8.out)).trans HV8.out)
                  have HT9 := Lib.hid ((hba.block _ (lt_of_heap HT8.out)).trans HT8.out)
                  have HP9 := Lib.hid (HP8.out.below hba)
                  have HB9 := Lib.hid (HB8.out.trans (hba.mono HB8.out.size))
                  have HR9 := Lib.hid (was_range HDok.out hlt HV9.out)
                  have HSL := Lib.hid (HDok.out (i : Int))
                  clear hwe hba HV8 HT8 HP8 HB8
                  generalize wb.heap.size = gx at *
                  cases ht : tch more i with
                  | true =>
                    refine wp_region_held_drew (S := fun W => Below we.heap.size we W) (by kernel_rfl) (below_drew (Below.refl _ _)) (fun hHeld => ?_)
                    refine wpAnyH_take (i := 0) (oi := ⟨_, _, _, _, _, _⟩) (v := ?_) rfl (by kernel_rfl) (by kernel_rfl) (by kernel_rfl) (fun _ _ _ h => h) (Or.inl ⟨by kernel_rfl, ?_⟩) hHeld ?_
                    rotate_left 1
                    · intro W hW; first | (go_simp; done) | (go_simp; with_reducible rfl)
                    try simp only [Act.put, List.setIfInBounds_toArray, List.set_cons_zero, List.set_cons_succ]
                    refine wpAnyH_take (i := 1) (oi := ⟨_, _, _, _, _, _⟩) (v := ?_) rfl (by kernel_rfl) (by kernel_rfl) (by kernel_rfl) (fun _ _ _ h => h) (Or.inl ⟨by kernel_rfl, ?_⟩) hHeld ?_
                    rotate_left 1
                    · intro W hW; first | (go_simp; done) | (go_simp; with_reducible rfl)
                    try simp only [Act.put, List.setIfInBounds_toArray, List.set_cons_zero, List.set_cons_succ]
                    refine wpAnyH_take (i := 2) (oi := ⟨_, _, _, _, _, _⟩) (v := ?_) rfl (by kernel_rfl) (by kernel_rfl) (by kernel_rfl) (fun _ _ _ h => h) (Or.inl ⟨by kernel_rfl, ?_⟩) hHeld ?_
                    rotate_left 1
                    · intro W hW; first | (go_simp; done) | (go_simp; with_reducible rfl)
                    try simp only [Act.put, List.setIfInBounds_toArray, List.set_cons_zero, List.set_cons_succ]
                    refine wpAnyH_take (i := 3) (oi := ⟨_, _, _, _, _, _⟩) (v := ?_) rfl (by kernel_rfl) (by kernel_rfl) (by kernel_rfl) (fun _ _ _ h => h) (Or.inl ⟨by kernel_rfl, ?_⟩) hHeld ?_
                    rotate_left 1
                    · intro W hW; first | (go_simp; done) | (go_simp; with_reducible rfl)
                    try simp only [Act.put, List.setIfInBounds_toArray, List.set_cons_zero, List.set_cons_succ]
                    refine wpAnyH_take (i := 4) (oi := ⟨_, _, _, _, _, _⟩) (v := ?_) rfl (by kernel_rfl) (by kernel_rfl) (by kernel_rfl) (fun _ _ _ h => h) (Or.inl ⟨by kernel_rfl, ?_⟩) hHeld ?_
                    rotate_left 1
                    · intro W hW; have k0 :=  hlt'; first | (go_simp; done) | (go_simp; with_reducible rfl)
                    try simp only [Act.put, List.setIfInBounds_toArray, List.set_cons_zero, List.set_cons_succ]
                    refine wpAnyH_take (i := 5) (oi := ⟨_, _, _, _, _, _⟩) (v := ?_) rfl (by kernel_rfl) (by kernel_rfl) (by kernel_rfl) (fun _ _ _ h => h) (Or.inl ⟨by kernel_rfl, ?_⟩) hHeld ?_
                    rotate_left 1
                    · intro W hW; have k0 :=  tch_cell ((hW.block _ (lt_of_heap HT9.out)).trans HT9.out) hlt ht; first | (go_simp; done) | (go_simp; with_reducible rfl)
                    try simp only [Act.put, List.setIfInBounds_toArray, List.set_cons_zero, List.set_cons_succ]
                    refine wpAnyH_take (i := 6) (oi := ⟨_, _, _, _, _, _⟩) (v := ?_) rfl (by kernel_rfl) (by kernel_rfl) (by kernel_rfl) (fun _ _ _ h => h) (Or.inl ⟨by kernel_rfl, ?_⟩) hHeld ?_
                    rotate_left 1
                    · intro W hW; first | (go_simp; done) | (go_simp; with_reducible rfl)
                    try simp only [Act.put, List.setIfInBounds_toArray, List.set_cons_zero, List.set_cons_succ]
                    refine wpAnyH_take (i := 7) (oi := ⟨_, _, _, _, _, _⟩) (v := ?_) rfl (by kernel_rfl) (by kernel_rfl) (by kernel_rfl) (fun _ _ _ h => h) (Or.inl ⟨by kernel_rfl, ?_⟩) hHeld ?_
                    rotate_left 1
                    · intro W hW; first | (go_simp; done) | (go_simp; with_reducible rfl)
                    try simp only [Act.put, List.setIfInBounds_toArray, List.set_cons_zero, List.set_cons_succ]
                    refine wpAnyH_take (i := 8) (oi := ⟨_, _, _, _, _, _⟩) (v := undef) rfl (by kernel_rfl) (by kernel_rfl) (by kernel_rfl) (fun _ _ _ h => h) (Or.inr ⟨by kernel_rfl, rfl⟩) hHeld ?_
                    try simp only [Act.put, List.setIfInBounds_toArray, List.set_cons_zero, List.set_cons_succ]
                    refine wpAnyH_take (i := 9) (oi := ⟨_, _, _, _, _, _⟩) (v := undef) rfl (by kernel_rfl) (by kernel_rfl) (by kernel_rfl) (fun _ _ _ h => h) (Or.inr ⟨by kernel_rfl, rfl⟩) hHeld ?_
                    try simp only [Act.put, List.setIfInBounds_toArray, List.set_cons_zero, List.set_cons_succ]
                    refine wpAnyH_take (i := 10) (oi := ⟨_, _, _, _, _, _⟩) (v := undef) rfl (by kernel_rfl) (by kernel_rfl) (by kernel_rfl) (fun _ _ _ h => h) (Or.inr ⟨by kernel_rfl, rfl⟩) hHeld ?_
                    try simp only [Act.put, List.setIfInBounds_toArray, List.set_cons_zero, List.set_cons_succ]
                    refine wpAnyH_take (i := 11) (oi := ⟨_, _, _, _, _, _⟩) (v := undef) rfl (by kernel_rfl) (by kernel_rfl) (by kernel_rfl) (fun _ _ _ h => h) (Or.inr ⟨by kernel_rfl, rfl⟩) hHeld ?_
                    try simp only [Act.put, List.setIfInBounds_toArray, List.set_cons_zero, List.set_cons_succ]
                    refine wpAnyH_take (i := 12) (oi := ⟨_, _, _, _, _, _⟩) (v := undef) rfl (by kernel_rfl) (by kernel_rfl) (by kernel_rfl) (fun _ _ _ h => h) (Or.inr ⟨by kernel_rfl, rfl⟩) hHeld ?_
                    try simp only [Act.put, List.setIfInBounds_toArray, List.set_cons_zero, List.set_cons_succ]
                    refine wpAnyH_take (i := 13) (oi := ⟨_, _, _, _, _, _⟩) (v := ?_) rfl (by kernel_rfl) (by kernel_rfl) (by kernel_rfl) (fun _ _ _ h => h) (Or.inl ⟨by kernel_rfl, ?_⟩) hHeld ?_
                    rotate_left 1
                    · intro W hW; first | (go_simp; done) | (go_simp; with_reducible rfl)
                    try simp only [Act.put, List.setIfInBounds_toArray, List.set_cons_zero, List.set_cons_succ]
                    refine wpAnyH_take (i := 14) (oi := ⟨_, _, _, _, _, _⟩) (v := ?_) rfl (by kernel_rfl) (by kernel_rfl) (by kernel_rfl) (fun _ _ _ h => h) (Or.inl ⟨by kernel_rfl, ?_⟩) hHeld ?_
                    rotate_left 1
                    · intro W hW; first | (go_simp; done) | (go_simp; with_reducible rfl)
                    try simp only [Act.put, List.setIfInBounds_toArray, List.set_cons_zero, List.set_cons_succ]
                    refine wpAnyH_done (by kernel_rfl) ?_ _
                    have HKz := Lib.hid hHeld
                    clear hHeld
                    go_wp2_with fail
                    go_roundw
                    case rel => exact ⟨i + 1, by go_num, by omega, (HKz.out.block _ (lt_of_heap HV9.out)).trans HV9.out, (HKz.out.block _ (lt_of_heap HT9.out)).trans HT9.out, HP9.out.below HKz.out, HB9.out.trans (HKz.out.mono HB9.out.size)⟩
                    case measure => simp [intOf]; omega
                  | false =>
                    obtain rfl : x = D.readS (i : Int) := HKi.out ht
                    generalize D.readS (i : Int) = s at *
                    have heq : ∀ w, (binOp .neq 40 (secv s) (secv s)).run Try.prog w = .ok (.bool false) w := fun w => by rw [sec_ne s s HSL.out HSL.out w]; simp
                    refine wp_region_held_drew (S := fun W => Below we.heap.size we W) (by kernel_rfl) (below_drew (Below.refl _ _)) (fun hHeld => ?_)
                    refine wpAnyH_take (i := 0) (oi := ⟨_, _, _, _, _, _⟩) (v := ?_) rfl (by kernel_rfl) (by kernel_rfl) (by kernel_rfl) (fun _ _ _ h => h) (Or.inl ⟨by kernel_rfl, ?_⟩) hHeld ?_
                    rotate_left 1
                    · intro W hW; first | (go_simp; done) | (go_simp; with_reducible rfl)
                    try simp only [Act.put, List.setIfInBounds_toArray, List.set_cons_zero, List.set_cons_succ]
                    refine wpAnyH_take (i := 1) (oi := ⟨_, _, _, _, _, _⟩) (v := ?_) rfl (by kernel_rfl) (by kernel_rfl) (by kernel_rfl) (fun _ _ _ h => h) (Or.inl ⟨by kernel_rfl, ?_⟩) hHeld ?_
                    rotate_left 1
                    · intro W hW; first | (go_simp; done) | (go_simp; with_reducible rfl)
                    try simp only [Act.put, List.setIfInBounds_toArray, List.set_cons_zero, List.set_cons_succ]
                    refine wpAnyH_take (i := 2) (oi := ⟨_, _, _, _, _, _⟩) (v := ?_) rfl (by kernel_rfl) (by kernel_rfl) (by kernel_rfl) (fun _ _ _ h => h) (Or.inl ⟨by kernel_rfl, ?_⟩) hHeld ?_
                    rotate_left 1
                    · intro W hW; first | (go_simp; done) | (go_simp; with_reducible rfl)
                    try simp only [Act.put, List.setIfInBounds_toArray, List.set_cons_zero, List.set_cons_succ]
                    refine wpAnyH_take (i := 3) (oi := ⟨_, _, _, _, _, _⟩) (v := ?_) rfl (by kernel_rfl) (by kernel_rfl) (by kernel_rfl) (fun _ _ _ h => h) (Or.inl ⟨by kernel_rfl, ?_⟩) hHeld ?_
                    rotate_left 1
                    · intro W hW; first | (go_simp; done) | (go_simp; with_reducible rfl)
                    try simp only [Act.put, List.setIfInBounds_toArray, List.set_cons_zero, List.set_cons_succ]
                    refine wpAnyH_take (i := 4) (oi := ⟨_, _, _, _, _, _⟩) (v := ?_) rfl (by kernel_rfl) (by kernel_rfl) (by kernel_rfl) (fun _ _ _ h => h) (Or.inl ⟨by kernel_rfl, ?_⟩) hHeld ?_
                    rotate_left 1
                    · intro W hW; have k0 :=  hlt'; first | (go_simp; done) | (go_simp; with_reducible rfl)
                    try simp only [Act.put, List.setIfInBounds_toArray, List.set_cons_zero, List.set_cons_succ]
                    refine wpAnyH_take (i := 5) (oi := ⟨_, _, _, _, _, _⟩) (v := ?_) rfl (by kernel_rfl) (by kernel_rfl) (by kernel_rfl) (fun _ _ _ h => h) (Or.inl ⟨by kernel_rfl, ?_⟩) hHeld ?_
                    rotate_left 1
                    · intro W hW; have k0 :=  tch_cell ((hW.block _ (lt_of_heap HT9.out)).trans HT9.out) hlt ht; first | (go_simp; done) | (go_simp; with_reducible rfl)
                    try simp only [Act.put, List.setIfInBounds_toArray, List.set_cons_zero, List.set_cons_succ]
                    refine wpAnyH_take (i := 6) (oi := ⟨_, _, _, _, _, _⟩) (v := ?_) rfl (by kernel_rfl) (by kernel_rfl) (by kernel_rfl) (fun _ _ _ h => h) (Or.inl ⟨by kernel_rfl, ?_⟩) hHeld ?_
                    rotate_left 1
                    · intro W hW; first | (go_simp; done) | (go_simp; with_reducible rfl)
                    try simp only [Act.put, List.setIfInBounds_toArray, List.set_cons_zero, List.set_cons_succ]
                    refine wpAnyH_take (i := 7) (oi := ⟨_, _, _, _, _, _⟩) (v := ?_) rfl (by kernel_rfl) (by kernel_rfl) (by kernel_rfl) (fun _ _ _ h => h) (Or.inl ⟨by kernel_rfl, ?_⟩) hHeld ?_
                    rotate_left 1
                    · intro W hW; first | (go_simp; done) | (go_simp; with_reducible rfl)
                    try simp only [Act.put, List.setIfInBounds_toArray, List.set_cons_zero, List.set_cons_succ]
                    refine wpAnyH_take (i := 8) (oi := ⟨_, _, _, _, _, _⟩) (v := .agg (bc s).toArray) rfl (by kernel_rfl) (by kernel_rfl) (by kernel_rfl) (fun _ _ _ h => h) (yieldsIf_load_row (S := fun W => Below we.heap.size we W) (by kernel_rfl) 40 _ rfl gx rfl (bc s).toArray 40 _ (fun W hW => (hW.block _ (lt_of_heap HX9.out)).trans HX9.out) Try.underlying40 rfl (sec_info' _ HSL.out)) hHeld ?_
                    try simp only [Act.put, List.setIfInBounds_toArray, List.set_cons_zero, List.set_cons_succ]
                    refine wpAnyH_take (i := 9) (oi := ⟨_, _, _, _, _, _⟩) (v := ?_) rfl (by kernel_rfl) (by kernel_rfl) (by kernel_rfl) (fun _ _ _ h => h) (Or.inl ⟨by kernel_rfl, ?_⟩) hHeld ?_
                    rotate_left 1
                    · intro W hW; first | (go_simp; done) | (go_simp; with_reducible rfl)
                    try simp only [Act.put, List.setIfInBounds_toArray, List.set_cons_zero, List.set_cons_succ]
                    refine wpAnyH_take (i := 10) (oi := ⟨_, _, _, _, _, _⟩) (v := ?_) rfl (by kernel_rfl) (by kernel_rfl) (by kernel_rfl) (fun _ _ _ h => h) (Or.inl ⟨by kernel_rfl, ?_⟩) hHeld ?_
                    rotate_left 1
                    · intro W hW; have k0 :=  hlt'; first | (go_simp; done) | (go_simp; with_reducible rfl)
                    try simp only [Act.put, List.setIfInBounds_toArray, List.set_cons_zero, List.set_cons_succ]
                    refine wpAnyH_take (i := 11) (oi := ⟨_, _, _, _, _, _⟩) (v := (.agg (bc s).toArray)) rfl (by kernel_rfl) (by kernel_rfl) (by kernel_rfl) (fun _ _ _ h => h) (yieldsIf_load_mid (S := fun W => Below we.heap.size we W) (by kernel_rfl) 40 (.tmp 117) rfl gw (i * 64) rfl (bc s) (.array 64 5) (fun W hW => range_below hW (lt_of_heap HV9.out) HR9.out) Try.underlying40 rfl (sec_info2 s HSL.out)) hHeld ?_
                    try simp only [Act.put, List.setIfInBounds_toArray, List.set_cons_zero, List.set_cons_succ]
                    refine wpAnyH_take (i := 12) (oi := ⟨_, _, _, _, _, _⟩) (v := ?_) rfl (by kernel_rfl) (by kernel_rfl) (by kernel_rfl) (fun _ _ _ h => h) (Or.inl ⟨by kernel_rfl, ?_⟩) hHeld ?_
                    rotate_left 1
                    · intro W hW; have k0 :=  heq W; first | (go_simp; done) | (go_simp; with_reducible rfl)
                    try simp only [Act.put, List.setIfInBounds_toArray, List.set_cons_zero, List.set_cons_succ]
                    refine wpAnyH_take (i := 13) (oi := ⟨_, _, _, _, _, _⟩) (v := ?_) rfl (by kernel_rfl) (by kernel_rfl) (by kernel_rfl) (fun _ _ _ h => h) (Or.inl ⟨by kernel_rfl, ?_⟩) hHeld ?_
                    rotate_left 1
                    · intro W hW; first | (go_simp; done) | (go_simp; with_reducible rfl)
                    try simp only [Act.put, List.setIfInBounds_toArray, List.set_cons_zero, List.set_cons_succ]
                    refine wpAnyH_take (i := 14) (oi := ⟨_, _, _, _, _, _⟩) (v := ?_) rfl (by kernel_rfl) (by kernel_rfl) (by kernel_rfl) (fun _ _ _ h => h) (Or.inl ⟨by kernel_rfl, ?_⟩) hHeld ?_
                    rotate_left 1
                    · intro W hW; first | (go_simp; done) | (go_simp; with_reducible rfl)
                    try simp only [Act.put, List.setIfInBounds_toArray, List.set_cons_zero, List.set_cons_succ]
                    refine wpAnyH_done (by kernel_rfl) ?_ _
                    have HKz := Lib.hid hHeld
                    clear hHeld
                    go_wp2_with fail
                    go_roundw
                    case rel => exact ⟨i + 1, by go_num, by omega, (HKz.out.block _ (lt_of_heap HV9.out)).trans HV9.out, (HKz.out.block _ (lt_of_heap HT9.out)).trans HT9.out, HP9.out.below HKz.out, HB9.out.trans (HKz.out.mono HB9.out.size)⟩
                    case measure => simp [intOf]; omega
                · obtain rfl : i = 8 := by omega
                  go_wp2_with (first
                    | (go_at_call 24; refine (dDown_any p _ C _ HP.out).mono ?_; rintro e w' ⟨rfl, rfl⟩; rw [HC.out.down])
                    | (go_at_call 25; refine (dPending_any p _ C _ HP.out).mono ?_; rintro e w' ⟨rfl, rfl⟩; rw [show C.pend.length = 0 from Nat.le_zero.1 HC.out.few]))
                  go_ret
                  exact ⟨rfl, HB3.out.trans (HB.out.mono HB3.out.size)⟩

end Go.Proofs.Ytmgkbgjchcekpaa
