/- Contracts: slices.Equal over sectors; roll.first: the entry that sectors begin with. -/
import Derived.Test.YtlaecnggbcagcaaRl3
namespace Go.Proofs.Ytlaecnggbcagcaa
open Go.RowKit MM
set_option linter.unusedVariables false
set_option linter.unusedSimpArgs false

/-- A slice that reads as sectors. -/
def Sls (w : World) (A : Option Addr) (L : List (List UInt8)) : Prop := L = [] ∨ ∃ b off, A = some ⟨b, off, none⟩ ∧ b < w.heap.size ∧ ∀ i s, L[i]? = some s → w.rangeAt b (off + i * 64) (bc s)
theorem Sls.kp {S : Nat → Prop} {w w' : World} {A : Option Addr} {L : List (List UInt8)} (h : Sls w A L) (hk : Kp S w w') (hn : L ≠ [] → ∀ a, A = some a → ¬ S a.block) : Sls w' A L := by
  by_cases h0 : L = []
  · exact .inl h0
  rcases h with h | ⟨b, off, he, hb, hc⟩
  · exact .inl h
  · exact .inr ⟨b, off, he, Nat.lt_of_lt_of_le hb hk.size, fun i s hi j v hv => hk.cell (hc i s hi j v hv) (show ¬ S b from hn h0 _ he)⟩
theorem Sls.below {w w' : World} {A : Option Addr} {L : List (List UInt8)} (h : Sls w A L) (hb : Below w.heap.size w w') : Sls w' A L := by
  rcases h with h | ⟨b, off, he, hl, hc⟩
  · exact .inl h
  · exact .inr ⟨b, off, he, Nat.lt_of_lt_of_le hl hb.size, fun i s hi j v hv => (hb.cell (p := ⟨b, off + i * 64 + j, none⟩) hl).trans (hc i s hi j v hv)⟩
theorem Sls.take {w : World} {A : Option Addr} {L : List (List UInt8)} (h : Sls w A L) (n : Nat) : Sls w A (L.take n) := by
  rcases h with h | ⟨b, off, he, hl, hc⟩
  · exact .inl (by rw [h, List.take_nil])
  · exact .inr ⟨b, off, he, hl, fun i s hi => hc i s (by
      rw [List.getElem?_take] at hi
      split at hi
      · exact hi
      · cases hi)⟩
theorem Sls.row {w : World} {g : Nat} {L : List (List UInt8)} {t : TypeId} (hL : ∀ s ∈ L, s.length = 64) (h : w.heap[g]? = some (.cells (secR L).flatten.toArray t (0, 0))) : Sls w (some ⟨g, 0, none⟩) L :=
  .inr ⟨g, 0, rfl, lt_of_heap h, fun i s hi => by rw [Nat.zero_add]; exact secs_range hL h hi⟩
theorem Sls.at_ {w : World} {A : Option Addr} {L : List (List UInt8)} (h : Sls w A L) {i : Nat} (hi : i < L.length) : ∃ b off, A = some ⟨b, off, none⟩ ∧ b < w.heap.size ∧ ∀ i s, L[i]? = some s → w.rangeAt b (off + i * 64) (bc s) := by
  rcases h with h | h
  · rw [h] at hi; cases hi
  · exact h
theorem slice_to (A : Option Addr) (n c hi : Nat) (h2 : hi ≤ c) (w : World) : (Instr.slice 63 (.slice A n c) none (some (.int .i64 (hi : Int))) none).run Try.prog w = .ok (.slice A hi c) w := by
  have h2' : (hi : Int) ≤ (c : Int) := by omega
  have h0 : (0 : Int) ≤ (hi : Int) := by omega
  go_simp
theorem range_below' {w w' : World} {g o : Nat} {cs : List Value} (h : Below w.heap.size w w') (hg : g < w.heap.size) (hr : w.rangeAt g o cs) : w'.rangeAt g o cs := fun j v hj => (h.cell (p := ⟨g, o + j, none⟩) hg).trans (hr j v hj)

set_option maxHeartbeats 2000000 in
set_option maxRecDepth 100000 in
theorem equal_any (A B : Option Addr) (c c' : Nat) (L M : List (List UInt8)) (w : World) (hA : Sls w A L) (hB : Sls w B M) (h1 : ∀ s ∈ L, s.length = 64) (h2 : ∀ s ∈ M, s.length = 64) (hl : L.length ≤ 9223372036854775807) :
    Calls Try.prog 68 #[.slice A L.length c, .slice B M.length c'] w fun e w' => e = .returned (.bool (decide (L = M))) ∧ Below w.heap.size w w' := by
  have HA := Lib.hid hA
  have HB := Lib.hid hB
  have H1 := Lib.hid h1
  have H2 := Lib.hid h2
  clear hA hB h1 h2
  by_cases hlen : L.length = M.length
  · have HLen := Lib.hid hlen
    rw [← hlen]
    have hl' : (L.length : Int) ≤ 9223372036854775807 := by omega
    clear hlen
    obtain ⟨r, hr⟩ : ∃ r, r = decide (L = M) := ⟨_, rfl⟩
    rw [← hr]
    have HR := Lib.hid hr
    clear hr
    go_enter Try.func68, Try.ntmps68
    go_wp2_with fail
    go_loopw [13] (fun t wr => ∃ i : Nat, t = .int .i64 i ∧ i ≤ L.length ∧ L.take i = M.take i ∧ Below w.heap.size w wr) (fun t _ => L.length - (intOf t).toNat)
    case atStart => exact ⟨0, rfl, Nat.zero_le _, rfl, Below.refl _ _⟩
    case round =>
      obtain ⟨i, rfl, hi, h3, h4⟩ := hrel
      have H3 := Lib.hid h3
      have H4 := Lib.hid h4
      clear h3 h4
      by_cases hlt : i < L.length
      · have hlt' : (i : Int) < (L.length : Int) := by omega
        obtain ⟨ba, oa, rfl, hba, hra⟩ := (HA.out.below H4.out).at_ hlt
        obtain ⟨bb, ob_, rfl, hbb, hrb⟩ := (HB.out.below H4.out).at_ (i := i) (by rw [← HLen.out]; exact hlt)
        obtain ⟨s, hs⟩ : ∃ s, L[i]? = some s := ⟨_, List.getElem?_eq_getElem hlt⟩
        obtain ⟨t, ht⟩ : ∃ t, M[i]? = some t := ⟨_, List.getElem?_eq_getElem (by rw [← HLen.out]; exact hlt)⟩
        have HRa := Lib.hid (hra i s hs)
        have HRb := Lib.hid (hrb i t ht)
        have HSa := Lib.hid (H1.out s (List.mem_of_getElem? hs))
        have HSb := Lib.hid (H2.out t (List.mem_of_getElem? ht))
        have HGs := Lib.hid hs
        have HGt := Lib.hid ht
        have HBl := Lib.hid (And.intro hba hbb)
        have heq := sec_ne s t HSa.out HSb.out
        clear hra hrb hs ht hba hbb
        go_upto_region 6 with fail
        refine wp_region_held_drew (S := fun W => Below wr.heap.size wr W) (by kernel_rfl) (below_drew (Below.refl _ _)) (fun hHeld => ?_)
        refine wpAnyH_take (i := 0) (oi := ⟨_, _, _, _, _, _⟩) (v := ?_) rfl (by kernel_rfl) (by kernel_rfl) (by kernel_rfl) (fun _ _ _ h => h) (Or.inl ⟨by kernel_rfl, ?_⟩) hHeld ?_
        rotate_left 1
        · intro W hW; first | (go_simp; done) | (go_simp; with_reducible rfl)
        try simp only [Act.put, List.setIfInBounds_toArray, List.set_cons_zero, List.set_cons_succ]
        refine wpAnyH_take (i := 1) (oi := ⟨_, _, _, _, _, _⟩) (v := ?_) rfl (by kernel_rfl) (by kernel_rfl) (by kernel_rfl) (fun _ _ _ h => h) (Or.inl ⟨by kernel_rfl, ?_⟩) hHeld ?_
        rotate_left 1
        · intro W hW; first | (go_simp; done) | (go_simp; with_reducible rfl)
        try simp only [Act.put, List.setIfInBounds_toArray, List.set_cons_zero, List.set_cons_succ]
        refine wpAnyH_take (i := 2) (oi := ⟨_, _, _, _, _, _⟩) (v := ?_) rfl (by kernel_rfl) (by kernel_rfl) (by kernel_rfl) (fun _ _ _ h => h) (Or.inl ⟨by kernel_rfl, ?_⟩) hHeld ?_
        rotate_left 1
        · intro W hW; first | (go_simp; done) | (go_simp; with_reducible rfl)
        try simp only [Act.put, List.setIfInBounds_toArray, List.set_cons_zero, List.set_cons_succ]
        refine wpAnyH_take (i := 3) (oi := ⟨_, _, _, _, _, _⟩) (v := (.agg (bc s).toArray)) rfl (by kernel_rfl) (by kernel_rfl) (by kernel_rfl) (fun _ _ _ h => h) (yieldsIf_load_mid (S := fun W => Below wr.heap.size wr W) (by kernel_rfl) 40 (.tmp 18) rfl ba (oa + i * 64) rfl (bc s) _ (fun W hW => range_below' hW HBl.out.1 HRa.out) Try.underlying40 rfl (sec_info2 s HSa.out)) hHeld ?_
        try simp only [Act.put, List.setIfInBounds_toArray, List.set_cons_zero, List.set_cons_succ]
        refine wpAnyH_take (i := 4) (oi := ⟨_, _, _, _, _, _⟩) (v := ?_) rfl (by kernel_rfl) (by kernel_rfl) (by kernel_rfl) (fun _ _ _ h => h) (Or.inl ⟨by kernel_rfl, ?_⟩) hHeld ?_
        rotate_left 1
        · intro W hW; first | (go_simp; done) | (go_simp; with_reducible rfl)
        try simp only [Act.put, List.setIfInBounds_toArray, List.set_cons_zero, List.set_cons_succ]
        refine wpAnyH_take (i := 5) (oi := ⟨_, _, _, _, _, _⟩) (v := ?_) rfl (by kernel_rfl) (by kernel_rfl) (by kernel_rfl) (fun _ _ _ h => h) (Or.inl ⟨by kernel_rfl, ?_⟩) hHeld ?_
        rotate_left 1
        · intro W hW; first | (go_simp; done) | (go_simp; with_reducible rfl)
        try simp only [Act.put, List.setIfInBounds_toArray, List.set_cons_zero, List.set_cons_succ]
        refine wpAnyH_take (i := 6) (oi := ⟨_, _, _, _, _, _⟩) (v := ?_) rfl (by kernel_rfl) (by kernel_rfl) (by kernel_rfl) (fun _ _ _ h => h) (Or.inl ⟨by kernel_rfl, ?_⟩) hHeld ?_
        rotate_left 1
        · intro W hW; first | (go_simp; done) | (go_simp; with_reducible rfl)
        try simp only [Act.put, List.setIfInBounds_toArray, List.set_cons_zero, List.set_cons_succ]
        refine wpAnyH_take (i := 7) (oi := ⟨_, _, _, _, _, _⟩) (v := (.agg (bc t).toArray)) rfl (by kernel_rfl) (by kernel_rfl) (by kernel_rfl) (fun _ _ _ h => h) (yieldsIf_load_mid (S := fun W => Below wr.heap.size wr W) (by kernel_rfl) 40 (.tmp 22) rfl bb (ob_ + i * 64) rfl (bc t) _ (fun W hW => range_below' hW HBl.out.2 HRb.out) Try.underlying40 rfl (sec_info2 t HSb.out)) hHeld ?_
        try simp only [Act.put, List.setIfInBounds_toArray, List.set_cons_zero, List.set_cons_succ]
        refine wpAnyH_take (i := 8) (oi := ⟨_, _, _, _, _, _⟩) (v := ?_) rfl (by kernel_rfl) (by kernel_rfl) (by kernel_rfl) (fun _ _ _ h => h) (Or.inl ⟨by kernel_rfl, ?_⟩) hHeld ?_
        rotate_left 1
        · intro W hW; first | (go_simp; done) | (go_simp; with_reducible rfl)
        try simp only [Act.put, List.setIfInBounds_toArray, List.set_cons_zero, List.set_cons_succ]
        refine wpAnyH_done (by kernel_rfl) ?_ _
        clear hHeld
        by_cases hst : s = t
        · have hd : (!decide (s = t)) = false := by rw [decide_eq_true hst]; rfl
          rw [hd]
          have HST := Lib.hid hst
          clear hst hd heq
          go_wp2_with fail
          go_roundw
          case rel => exact ⟨i + 1, by go_num, by omega, by rw [List.take_add_one, List.take_add_one, H3.out, HGs.out, HGt.out, HST.out], below_drew H4.out⟩
          case measure => simp [intOf]; omega
        · have hd : (!decide (s = t)) = true := by rw [decide_eq_false hst]; rfl
          rw [hd]
          have HF := Lib.hid (show r = false by rw [HR.out]; exact decide_eq_false (fun e => hst (by have h1 := HGs.out; rw [e, HGt.out] at h1; injection h1 with h1; exact h1.symm)))
          clear hst hd heq
          go_wp2_with fail
          go_ret
          rw [HF.out]
          exact ⟨rfl, below_drew H4.out⟩
      · obtain rfl : i = L.length := by omega
        have HT := Lib.hid (show r = true by
          rw [HR.out]
          apply decide_eq_true
          have h := H3.out
          rw [List.take_length, HLen.out, List.take_length] at h
          exact h)
        go_wp2_with fail
        go_ret
        rw [HT.out]
        exact ⟨rfl, H4.out⟩
  · have hne : ¬ (L.length : Int) = (M.length : Int) := by omega
    have HF := Lib.hid (show decide (L = M) = false from decide_eq_false (fun e => hlen (by rw [e])))
    rw [HF.out]
    clear hlen
    go_enter Try.func68, Try.ntmps68
    go_wp2_with fail
    go_ret
    exact ⟨rfl, Below.refl _ _⟩

def FirstPost (l : List (List UInt8)) (w : World) (e : Ending) (w' : World) : Prop :=
  Below w.heap.size w w' ∧ ((∃ b A c, Fst l b ∧ e = .returned (.tuple #[.slice A b.length c, .bool true]) ∧ w'.ownsRow 0 5 1 (.slice A b.length c) b.length (bc b) ∧ ∀ k, ob A = some k → w.heap.size ≤ k) ∨ (∀ b, ¬ Fst l b) ∧ ∃ v, e = .returned (.tuple #[v, .bool false]))
theorem slice_one (A : Option Addr) (n c : Nat) (h1 : 1 ≤ n) (w : World) : (Instr.slice 51 (.slice A n c) (some (.int .i64 1)) none none).run Try.prog w = .ok (.slice (cutA A 1 c) (n - 1) (c - 1)) w := by
  have h1' : (1 : Int) ≤ (n : Int) := by omega
  go_simp
  rfl

set_option maxHeartbeats 4000000 in
set_option maxRecDepth 100000 in
theorem first_any (A : Option Addr) (c : Nat) (l : List (List UInt8)) (w : World) (hA : Sls w A l) (hs : ∀ s ∈ l, s.length = 64) (hcap : l.length ≤ c) (hl : l.length ≤ 100000) :
    Calls Try.prog 65 #[.slice A l.length c] w (FirstPost l w) := by
  have HA := Lib.hid hA
  have HS := Lib.hid hs
  have HC := Lib.hid hcap
  have HL := Lib.hid hl
  have hl' : (l.length : Int) ≤ 100000 := by omega
  obtain ⟨i1, hi1, hy0, hy1, hy2⟩ := info_parts byte_info
  obtain ⟨n, hn⟩ : ∃ n, n = min l.length 64 := ⟨_, rfl⟩
  have hmin : (if (64 : Int) < (l.length : Int) then (64 : Int) else (l.length : Int)) = (n : Int) := by split <;> omega
  have hcut := slice_to A l.length c n (by omega)
  have HNn := Lib.hid hn
  have HNl := Lib.hid (show n ≤ 64 ∧ n ≤ l.length by omega)
  have HNd := Lib.hid (show Calls Try.prog 50 #[.int .i64 3840] w fun e w' => e = .returned (.int .i64 64) ∧ w' = w from need_any 3840 (by omega) w)
  clear hA hs hcap hl hn
  go_enter Try.func65, Try.ntmps65
  go_wp2_with (first
    | (go_at_call 50; refine HNd.out.mono ?_; rintro e wq ⟨rfl, hq⟩; rw [hq]; clear hq wq))
  clear hmin hcut
  go_loopw [4, 16] (fun t4 ti wr => ∃ (i : Nat) (acc : List UInt8) (Ab : Option Addr) (cb : Nat), ti = .int .i64 i ∧ t4 = .slice Ab acc.length cb ∧ i ≤ n ∧ acc.length ≤ 60 * i ∧ Cand l i acc ∧ wr.ownsRow 0 5 1 (.slice Ab acc.length cb) acc.length (bc acc) ∧ (∀ k, ob Ab = some k → w.heap.size ≤ k) ∧ Below w.heap.size w wr) (fun _ ti _ => n - (intOf ti).toNat)
  case atStart => exact ⟨0, [], none, 0, rfl, rfl, Nat.zero_le _, Nat.zero_le _, cand_zero l, World.ownsRow_nil _ _ _ _, (fun k e => by cases e), Below.refl _ _⟩
  case round =>
    obtain ⟨i, acc, Ab, cb, rfl, rfl, hi, hal, hcd, hown, hbk, hbw⟩ := hrel
    have HAl := Lib.hid hal
    have HCd := Lib.hid hcd
    have HOw := Lib.hid hown
    have HBk := Lib.hid hbk
    have HBw := Lib.hid hbw
    clear hal hcd hown hbk hbw
    by_cases hlt : i < n
    · have hlt' : (i : Int) < (n : Int) := by omega
      have hn64 : (n : Int) ≤ 64 := by have := HNl.out; omega
      obtain ⟨ba, oa, rfl, hba, hra⟩ := (HA.out.below HBw.out).at_ (i := i) (by have := HNl.out; omega)
      obtain ⟨s, hs⟩ : ∃ s, l[i]? = some s := ⟨_, List.getElem?_eq_getElem (by have := HNl.out; omega)⟩
      have HG := Lib.hid hs
      have HSL := Lib.hid (HS.out s (List.mem_of_getElem? hs))
      have HRa := Lib.hid (hra i s hs)
      have HOp := Lib.hid (fun w9 => openO_any s HSL.out w9)
      clear hra hs hba
      cases hop : openL s with
      | none =>
        have HNo := Lib.hid (cand_fail HCd.out HG.out (.inl hop))
        unfold OpenOwn at HOp
        rw [hop] at HOp
        clear hop
        go_wp2_with (first
          | (refine wpList_load_mid rfl _ _ rfl ba (oa + i * 64) rfl (bc s) _ HRa.out Try.underlying40 rfl (sec_info2 s HSL.out) ?_)
          | (refine wpList_alloc_row rfl _ rfl (secv zs) (bc zs).toArray sec_zero rfl ?_)
          | (refine wpList_store_row rfl _ _ _ rfl _ (bc s).toArray rfl rfl 40 (bc zs).toArray (heap_alloc_new _ _) (sec_info' s HSL.out) (by rw [bc_size, bc_size, HSL.out]; rfl) (bc_all s) ?_
             rw [World.setRow_alloc_new])
          | (refine wpList_load_row rfl _ _ rfl wr.heap.size rfl 40 _ (0, 0) _ (heap_alloc_new _ _) Try.underlying40 rfl (sec_info' _ HSL.out) ?_)
          | (go_at_call 33; refine (HOp.out _).mono ?_; rintro e w2 ⟨hb2, rfl⟩; have HB2 := Lib.hid hb2; clear hb2))
        go_ret2
        exact ⟨HBw.out.trans (((Below.refl wr.heap.size wr).alloc (Nat.le_refl _) _).trans (HB2.out.mono (by simp)) |>.mono HBw.out.size), .inr ⟨HNo.out, _, rfl⟩⟩
      | some x =>
        have HXL := Lib.hid (openL_len hop)
        unfold OpenOwn at HOp
        rw [hop] at HOp
        have HOp : Hid (∀ w9, Calls Try.prog 33 #[secv s] w9 fun e w' => Below w9.heap.size w9 w' ∧ ∃ A c, e = .returned (.tuple #[.slice A x.length c, .bool true]) ∧ w'.ownsRow 0 5 1 (.slice A x.length c) x.length (bc x) ∧ ∀ k, ob A = some k → w9.heap.size ≤ k) := HOp
        cases x with
        | nil =>
          have HNo := Lib.hid (cand_fail HCd.out HG.out (.inr hop))
          clear hop
          go_wp2_with (first
            | (refine wpList_load_mid rfl _ _ rfl ba (oa + i * 64) rfl (bc s) _ HRa.out Try.underlying40 rfl (sec_info2 s HSL.out) ?_)
            | (refine wpList_alloc_row rfl _ rfl (secv zs) (bc zs).toArray sec_zero rfl ?_)
            | (refine wpList_store_row rfl _ _ _ rfl _ (bc s).toArray rfl rfl 40 (bc zs).toArray (heap_alloc_new _ _) (sec_info' s HSL.out) (by rw [bc_size, bc_size, HSL.out]; rfl) (bc_all s) ?_
               rw [World.setRow_alloc_new])
            | (refine wpList_load_row rfl _ _ rfl wr.heap.size rfl 40 _ (0, 0) _ (heap_alloc_new _ _) Try.underlying40 rfl (sec_info' _ HSL.out) ?_)
            | (go_at_call 33; refine (HOp.out _).mono ?_; rintro e w2 ⟨hb2, A2, c2, rfl, ho2, hk2⟩; have HB2 := Lib.hid hb2; clear hb2 ho2 hk2))
          go_ret2
          exact ⟨HBw.out.trans (((Below.refl wr.heap.size wr).alloc (Nat.le_refl _) _).trans (HB2.out.mono (by simp)) |>.mono HBw.out.size), .inr ⟨HNo.out, _, rfl⟩⟩
        | cons f r =>
          have HOx := Lib.hid hop
          have HRl := Lib.hid (show r.length ≤ 60 by have := HXL.out; simp at this; omega)
          clear hop
          obtain ⟨X, hX⟩ : ∃ X, X = (f :: r).length := ⟨_, rfl⟩
          have HXe := Lib.hid (show X = r.length + 1 by rw [hX]; simp)
          rw [← hX] at HOp
          have hc1 := fun A2 c2 => slice_one A2 X c2 (by have := HXe.out; omega)
          have HSrc := Lib.hid (fun A2 c2 w9 (h9 : World.ownsRow w9 0 5 1 (.slice A2 X c2) X (bc (f :: r))) => show Src Try.prog 1 51 (.slice (cutA A2 1 c2) (X - 1) (c2 - 1)) r.length (bc r) w9 from by
            rw [hX] at h9 ⊢
            have hcap := own_room h9
            have h1 := (Bts.own h9).cut 1 r.length c2 (by simp; omega) hcap
            rw [List.drop_succ_cons, List.drop_zero, List.take_length] at h1
            have := h1.src (c := c2 - 1) (P := Try.prog) Try.underlying51 (cut_none (fun e => by subst e; exact own_cap h9))
            rw [show (f :: r).length - 1 = r.length by simp]
            exact this)
          have HF0 := Lib.hid (fun A2 c2 w9 (h9 : World.ownsRow w9 0 5 1 (.slice A2 X c2) X (bc (f :: r))) => show ∃ g, A2 = some ⟨g, 0, none⟩ ∧ w9.cell? ⟨g, 0, none⟩ = some (.int .u8 f.toNat) from by
            rw [hX] at h9
            obtain ⟨g, c, hg⟩ := own_at1 h9 (by simp)
            injection hg with hg _ _
            subst hg
            exact ⟨g, rfl, by rw [h9.cellAt 0 (by simp)]; rfl⟩)
          clear hX
          go_upto_region 6 with (first
            | (refine wpList_load_mid rfl _ _ rfl ba (oa + i * 64) rfl (bc s) _ HRa.out Try.underlying40 rfl (sec_info2 s HSL.out) ?_)
            | (refine wpList_alloc_row rfl _ rfl (secv zs) (bc zs).toArray sec_zero rfl ?_)
            | (refine wpList_store_row rfl _ _ _ rfl _ (bc s).toArray rfl rfl 40 (bc zs).toArray (heap_alloc_new _ _) (sec_info' s HSL.out) (by rw [bc_size, bc_size, HSL.out]; rfl) (bc_all s) ?_
               rw [World.setRow_alloc_new])
            | (refine wpList_load_row rfl _ _ rfl wr.heap.size rfl 40 _ (0, 0) _ (heap_alloc_new _ _) Try.underlying40 rfl (sec_info' _ HSL.out) ?_)
            | (go_at_call 33; refine (HOp.out _).mono ?_; rintro e w2 ⟨hb2, A2, c2, rfl, ho2, hk2⟩; have HB2 := Lib.hid hb2; have HO2 := Lib.hid ho2; have HK2 := Lib.hid hk2; clear hb2 ho2 hk2))
          have hb2 : Below wr.heap.size wr w2 := ((Below.refl wr.heap.size wr).alloc (Nat.le_refl _) _).trans (HB2.out.mono (by simp))
          have HBr := Lib.hid hb2
          have HOb := Lib.hid (own_below HOw.out hb2)
          clear hb2 HB2
          obtain ⟨g2, rfl, hcell⟩ := HF0.out A2 c2 w2 HO2.out
          have HCell := Lib.hid hcell
          clear hcell
          have hlenI : (0 : Int) < (X : Int) := by have := HXe.out; omega
          have hlen0 : ¬ (X : Int) = 0 := by omega
          have hacc : acc.length ≤ 3840 := by have := HAl.out; have := HNl.out; omega
          have hrl : r.length ≤ 60 := HRl.out
          have hc2 := hc1 (some ⟨g2, 0, none⟩) c2
          have HG2 := Lib.hid (show w.heap.size ≤ g2 from Nat.le_trans HBw.out.size (Nat.le_trans (Nat.le_trans (by simp) (HK2.out g2 rfl)) (Nat.le_refl _)))
          have HSr := Lib.hid (HSrc.out _ _ _ HO2.out)
          have HFar := Lib.hid (show ∀ k, ob Ab = some k → k ≠ g2 from fun k e he => by
            have h1 := (HOw.out.lt k (by rw [ownBlock_slice]; exact e)).2
            have h2 := HK2.out g2 rfl
            simp at h2
            omega)
          clear hc1
          go_wp2_with (first
            | (at_builtin
               refine wpList_append_at rfl (.tmp 33) (.tmp 35) _ _ rfl 5 i1 _ 1 1 Try.underlying51 hi1 hy0 hy1 hy2 rfl Ab acc.length cb (bc acc) rfl HOb.out _ r.length _ rfl HSr.out (by unfold maxLen; omega) (by omega) ?_
               intro A3 c3 w3 ho3 hg3 hat3
               have HO3 := Lib.hid ho3
               have HG3 := Lib.hid hg3
               have HAt3 := Lib.hid hat3
               have hk3 := (Kp.refl (fun k => ob Ab = some k) w2).grown hg3 (fun k e => .inl e)
               have hcell3 : w3.cell? ⟨g2, 0, none⟩ = some (.int .u8 f.toNat) := hk3.cell HCell.out (fun e => HFar.out g2 e rfl)
               have HB3 := Lib.hid <| hk3.below (Nat.le_trans HBw.out.size HBr.out.size) (fun k hk e => by have := HBk.out k e; omega)
               clear ho3 hg3 hat3 hk3))
          all_goals
            have hb23 : Below w.heap.size w w3 := HBw.out.trans ((HBr.out.mono HBw.out.size).trans HB3.out)
            have HB03 := Lib.hid hb23
            have hk' : ∀ k, ob A3 = some k → w.heap.size ≤ k := fun k e => by
              rcases HAt3.out with h | h
              · rw [h] at e; exact HBk.out k e
              · rw [h] at e; injection e with e; have := HBw.out.size; have := HBr.out.size; omega
            have HK3 := Lib.hid hk'
            have HOa := Lib.hid (show w3.ownsRow 0 5 1 (.slice A3 (acc ++ r).length c3) (acc ++ r).length (bc (acc ++ r)) by rw [List.length_append, bc_append]; exact HO3.out)
            clear hb23 hk' HSr HFar HCell HO2 HK2 HG3 HAt3 HO3
          · have hf : ((f.toNat : Int) == 0) = true := by assumption
            have HF0' := Lib.hid (show f.toNat = 0 by simpa using hf)
            have hwr : IntKind.i64.wrap ((i : Int) + 1) = (i : Int) + 1 := by have := HNl.out; simp [IntKind.wrap, IntKind.signed, IntKind.bits]; omega
            have hcut10 := slice_to (some ⟨ba, oa, none⟩) l.length c (i + 1) (by have := HNl.out; have := HC.out; omega)
            rw [show ((i + 1 : Nat) : Int) = (i : Int) + 1 by omega] at hcut10
            have HLa := Lib.hid (show (acc ++ r).length ≤ 3840 by rw [List.length_append]; have := HAl.out; have := HNl.out; have := HRl.out; omega)
            obtain ⟨N, hN⟩ : ∃ N, N = needN (acc ++ r).length := ⟨_, rfl⟩
            obtain ⟨V, hV⟩ : ∃ V, V = secsL (acc ++ r) := ⟨_, rfl⟩
            have HSe := Lib.hid (fun w9 (h9 : Below w3.heap.size w3 w9) => show Calls Try.prog 67 #[.slice A3 (acc.length + r.length) c3] w9 (fun e w' => ∃ g, e = .returned (.slice (some ⟨g, 0, none⟩) N N) ∧ w'.heap[g]? = some (.cells (secR V).flatten.toArray 40 (0, 0)) ∧ w9.heap.size ≤ g ∧ Below w9.heap.size w9 w') from by
              have h := sectors_any A3 c3 (acc ++ r) w9 (Bts.own (own_below HOa.out h9)) HLa.out (own_room HOa.out) (fun e => by have h0 := HOa.out; rw [e] at h0; exact own_cap h0)
              unfold SecsPost at h
              rw [← hN, ← hV, List.length_append] at h
              exact h)
            have HEq := Lib.hid (fun w9 g (h9 : Below w3.heap.size w3 w9) (hg : w9.heap[g]? = some (.cells (secR V).flatten.toArray 40 (0, 0))) => show Calls Try.prog 68 #[.slice (some ⟨ba, oa, none⟩) (i + 1) c, .slice (some ⟨g, 0, none⟩) N N] w9 (fun e w' => e = .returned (.bool (decide (l.take (i + 1) = V))) ∧ Below w9.heap.size w9 w') from by
              have hl1 : (l.take (i + 1)).length = i + 1 := by rw [List.length_take]; have := HNl.out; omega
              rw [hV] at hg ⊢
              have h := equal_any (some ⟨ba, oa, none⟩) (some ⟨g, 0, none⟩) c N (l.take (i + 1)) (secsL (acc ++ r)) w9 (((HA.out.below HB03.out).below h9).take _) (Sls.row (secsL_secs _) hg) (fun s hs => HS.out s (List.mem_of_mem_take hs)) (secsL_secs _) (by rw [hl1]; have := HNl.out; omega)
              rwa [hl1, secsL_len, ← hN] at h)
            have HV := Lib.hid hV
            obtain ⟨D, hD⟩ : ∃ D, D = decide (l.take (i + 1) = V) := ⟨_, rfl⟩
            rw [← hD] at HEq
            have HD := Lib.hid hD
            clear hN hV hD
            clear hf
            clear hacc hrl hc2 hlenI hlen0 hcell3
            refine wp_region_held_drew (S := fun W => Below w3.heap.size w3 W) (by kernel_rfl) (below_drew (Below.refl _ _)) (fun hHeld => ?_)
            refine wpAnyH_take (i := 0) (oi := ⟨_, _, _, _, _, _⟩) (v := ?_) rfl (by kernel_rfl) (by kernel_rfl) (by kernel_rfl) (fun _ _ _ h => h) (Or.inl ⟨by kernel_rfl, ?_⟩) hHeld ?_
            rotate_left 1
            · intro W hW; first | (go_simp; done) | (go_simp; with_reducible rfl)
            try simp only [Act.put, List.setIfInBounds_toArray, List.set_cons_zero, List.set_cons_succ]
            refine wpAnyH_take (i := 1) (oi := ⟨_, _, _, _, _, _⟩) (v := ?_) rfl (by kernel_rfl) (by kernel_rfl) (by kernel_rfl) (fun _ _ _ h => h) (Or.inl ⟨by kernel_rfl, ?_⟩) hHeld ?_
            rotate_left 1
            · intro W hW; first | (go_simp; done) | (go_simp; with_reducible rfl)
            try simp only [Act.put, List.setIfInBounds_toArray, List.set_cons_zero, List.set_cons_succ]
            refine wpAnyH_take (i := 2) (oi := ⟨_, _, _, _, _, _⟩) (v := ?_) rfl (by kernel_rfl) (by kernel_rfl) (by kernel_rfl) (fun _ _ _ h => h) (Or.inl ⟨by kernel_rfl, ?_⟩) hHeld ?_
            rotate_left 1
            · intro W hW; first | (go_simp; done) | (go_simp; with_reducible rfl)
            try simp only [Act.put, List.setIfInBounds_toArray, List.set_cons_zero, List.set_cons_succ]
            refine wpAnyH_take (i := 3) (oi := ⟨_, _, _, _, _, _⟩) (v := ?_) rfl (by kernel_rfl) (by kernel_rfl) (by kernel_rfl) (fun _ _ _ h => h) (Or.inl ⟨by kernel_rfl, ?_⟩) hHeld ?_
            rotate_left 1
            · intro W hW; first | (go_simp; done) | (go_simp; with_reducible rfl)
            try simp only [Act.put, List.setIfInBounds_toArray, List.set_cons_zero, List.set_cons_succ]
            refine wpAnyH_take (i := 4) (oi := ⟨_, _, _, _, _, _⟩) (v := ?_) rfl (by kernel_rfl) (by kernel_rfl) (by kernel_rfl) (fun _ _ _ h => h) (Or.inl ⟨by kernel_rfl, ?_⟩) hHeld ?_
            rotate_left 1
            · intro W hW; first | (go_simp; done) | (go_simp; with_reducible rfl)
            try simp only [Act.put, List.setIfInBounds_toArray, List.set_cons_zero, List.set_cons_succ]
            refine wpAnyH_take (i := 5) (oi := ⟨_, _, _, _, _, _⟩) (v := ?_) rfl (by kernel_rfl) (by kernel_rfl) (by kernel_rfl) (fun _ _ _ h => h) (Or.inl ⟨by kernel_rfl, ?_⟩) hHeld ?_
            rotate_left 1
            · intro W hW; first | (go_simp; done) | (go_simp; with_reducible rfl)
            try simp only [Act.put, List.setIfInBounds_toArray, List.set_cons_zero, List.set_cons_succ]
            refine wpAnyH_ready (rs := [6]) (by kernel_rfl) (by simp) ?_
            refine AllReadyH.cons rfl (fun K hK => ?_) AllReadyH.nil
            rw [if_pos (by kernel_rfl)]
            go_simp
            refine (HSe.out _ hHeld).mono ?_
            rintro e w5 ⟨g5, rfl, hg5, hk5, hb5⟩
            go_wp2_with fail
            refine hK.out _ _ ?_ (fun hHelda => ?_)
            · exact hHeld.trans (hb5.mono hHeld.size)
            clear hK K
            try simp only [Act.put, List.setIfInBounds_toArray, List.set_cons_zero, List.set_cons_succ]
            have HG5 := Lib.hid hg5
            clear hg5 hk5 hb5
            refine wpAnyH_ready (rs := [7]) (by kernel_rfl) (by simp) ?_
            refine AllReadyH.cons rfl (fun K hK => ?_) AllReadyH.nil
            rw [if_pos (by kernel_rfl)]
            go_simp
            refine (HEq.out _ g5 hHelda HG5.out).mono ?_
            rintro e w6 ⟨rfl, hb6⟩
            go_wp2_with fail
            refine hK.out _ _ ?_ (fun hHeldaa => ?_)
            · exact hHelda.trans (hb6.mono hHelda.size)
            clear hK K
            try simp only [Act.put, List.setIfInBounds_toArray, List.set_cons_zero, List.set_cons_succ]
            clear hb6
            refine wpAnyH_take (i := 8) (oi := ⟨_, _, _, _, _, _⟩) (v := ?_) rfl (by kernel_rfl) (by kernel_rfl) (by kernel_rfl) (fun _ _ _ h => h) (Or.inl ⟨by kernel_rfl, ?_⟩) hHeldaa ?_
            rotate_left 1
            · intro W hW; first | (go_simp; done) | (go_simp; with_reducible rfl)
            try simp only [Act.put, List.setIfInBounds_toArray, List.set_cons_zero, List.set_cons_succ]
            refine wpAnyH_take (i := 9) (oi := ⟨_, _, _, _, _, _⟩) (v := ?_) rfl (by kernel_rfl) (by kernel_rfl) (by kernel_rfl) (fun _ _ _ h => h) (Or.inl ⟨by kernel_rfl, ?_⟩) hHeldaa ?_
            rotate_left 1
            · intro W hW; first | (go_simp; done) | (go_simp; with_reducible rfl)
            try simp only [Act.put, List.setIfInBounds_toArray, List.set_cons_zero, List.set_cons_succ]
            refine wpAnyH_done (by kernel_rfl) ?_ _
            have HB6 := Lib.hid hHeldaa
            clear hHeldaa
            go_wp2_with fail
            go_ret2
            by_cases hq : l.take (i + 1) = V
            · have hd : D = true := by rw [HD.out]; exact decide_eq_true hq
              rw [hd]
              exact ⟨HB03.out.trans (HB6.out.mono HB03.out.size), .inl ⟨acc ++ r, A3, c3, fst_of HLa.out (hq.trans HV.out), by rw [List.length_append]; rfl, own_below HOa.out HB6.out, HK3.out⟩⟩
            · have hd : D = false := by rw [HD.out]; exact decide_eq_false hq
              rw [hd]
              exact ⟨HB03.out.trans (HB6.out.mono HB03.out.size), .inr ⟨fst_not HCd.out HG.out HOx.out HF0'.out (fun e => hq (e.trans HV.out.symm)), _, rfl⟩⟩
          · have hf : ((f.toNat : Int) == 0) = false := by assumption
            have hf0 : f.toNat ≠ 0 := by
              intro e
              rw [e] at hf
              exact absurd hf (by decide)
            exact ⟨⟨i + 1, acc ++ r, A3, c3, by go_num, by rw [List.length_append], by omega, by rw [List.length_append]; have := HAl.out; have := HRl.out; omega, cand_next HCd.out HG.out HOx.out hf0, HOa.out, HK3.out, HB03.out⟩, by simp [intOf]; omega⟩
    · obtain rfl : i = n := by omega
      have HNo := Lib.hid (cand_no HCd.out (by rw [HNn.out]; exact Nat.le_refl _))
      go_wp2_with fail
      go_ret2
      exact ⟨HBw.out, .inr ⟨HNo.out, _, rfl⟩⟩

end Go.Proofs.Ytlaecnggbcagcaa
