/- Contracts of package roll: check, read. -/
import Derived.Test.YtlaecnggbcagcaaRl4
import Derived.BigQuiet
namespace Go.Proofs.Ytlaecnggbcagcaa
open Go.RowKit MM
set_option linter.unusedVariables false
set_option linter.unusedSimpArgs false

theorem below_drewN' {B : Nat} {a w : World} (h : Below B a w) (n : Nat) : Below B a (w.drewN n) := ⟨h.os, h.tape, h.output, h.size, h.block⟩
/-- Why an area can't be used. -/
def areaE (d : Dk) (f n : Int) : Nat := if d.down = true then 14 else if f < 0 ∨ n < 1 ∨ (d.now.length : Int) - f < n then 1 else 0
theorem areaE_ok {d : Dk} {f n : Int} (h : areaE d f n = 0) : d.down = false ∧ ∃ f' n' : Nat, f = (f' : Int) ∧ n = (n' : Int) ∧ 0 < n' ∧ f' + n' ≤ d.now.length := by
  unfold areaE at h
  split at h
  · cases h
  · rename_i hd
    split at h
    · cases h
    · rename_i hr
      exact ⟨by simpa using hd, f.toNat, n.toNat, by omega, by omega, by omega, by omega⟩
abbrev arV (f n : Int) : Array Value := #[.int .i64 f, .int .i64 n]
theorem area_info (f n : Int) : (Try.prog.info? 65).map (·.size) = some (arV f n).size := by kernel_rfl

set_option maxHeartbeats 2000000 in
set_option maxRecDepth 100000 in
theorem check_any (p : Nat) (B : Nat → Prop) (d : Dk) (f n : Int) (hf : -9223372036854775808 ≤ f ∧ f ≤ 9223372036854775807) (w : World) (h : Dsk w p B d) :
    Calls Try.prog 63 #[.pointer (some ⟨p, 0, none⟩), .agg (arV f n)] w fun e w' => e = .returned (.int .i64 (areaE d f n : Nat)) ∧ Below w.heap.size w w' := by
  have hA := (Below.refl w.heap.size w).alloc (Nat.le_refl _) (.cells (arV f n) 65)
  have H := Lib.hid (h.below hA)
  have HLim := Lib.hid (show ((d.now.length : Nat) : Int) ≤ 4096 by have := h.ok.lim; have := h.ok.len; omega)
  have k0 := cell_of_row _ w.heap.size 0 _ _ (0, 0) (heap_alloc_new w (.cells (arV f n) 65))
  have k1 := cell_of_row _ w.heap.size 1 _ _ (0, 0) (heap_alloc_new w (.cells (arV f n) 65))
  have HB := Lib.hid hA
  have HE := Lib.hid (show areaE d f n = if d.down = true then 14 else if f < 0 ∨ n < 1 ∨ (d.now.length : Int) - f < n then 1 else 0 from rfl)
  generalize areaE d f n = e at *
  generalize hw1 : World.alloc w _ = w1 at *
  clear h hA
  cases hdn : d.down
  case true =>
    rw [hdn, if_pos rfl] at HE
    obtain rfl : e = 14 := HE.out
    go_enter Try.func63, Try.ntmps63
    go_upto_region 1 with fail
    try rw [hw1]
    go_wp2_with (first
      | (go_at_call 27; refine (dDown_any p B d _ H.out).mono ?_; rintro e wq ⟨rfl, hq⟩; rw [hq, hdn]; clear hq wq))
    go_ret
    exact ⟨rfl, HB.out⟩
  rw [hdn, if_neg (by decide)] at HE
  go_enter Try.func63, Try.ntmps63
  go_upto_region 1 with fail
  try rw [hw1]
  go_wp2_with (first
    | (go_at_call 27; refine (dDown_any p B d _ H.out).mono ?_; rintro e wq ⟨rfl, hq⟩; rw [hq, hdn]; clear hq wq))
  by_cases h1 : f < 0
  · obtain rfl : e = 1 := by rw [HE.out, if_pos (.inl h1)]
    have hd : decide (f < 0) = true := decide_eq_true h1
    clear HE
    go_quiet (fail)
    go_wp2
    go_ret
    exact ⟨rfl, below_drewN' HB.out _⟩
  have hd : decide (f < 0) = false := decide_eq_false h1
  by_cases h2 : n < 1
  · obtain rfl : e = 1 := by rw [HE.out, if_pos (.inr (.inl h2))]
    have hd2 : decide (n < 1) = true := decide_eq_true h2
    clear HE
    go_quiet (fail)
    go_wp2
    go_ret
    exact ⟨rfl, below_drewN' HB.out _⟩
  have hd2 : decide (n < 1) = false := decide_eq_false h2
  have hw : IntKind.i64.wrap ((d.now.length : Int) - f) = (d.now.length : Int) - f := by have := HLim.out; simp [IntKind.wrap, IntKind.signed, IntKind.bits]; omega
  have HQ := Lib.hid (fun q => dLen_any p B d (w1.drewN q) (H.out.below (below_drewN' (Below.refl _ w1) q)))
  generalize (d.now.length : Int) = m at *
  by_cases h3 : m - f < n
  · obtain rfl : e = 1 := by rw [HE.out, if_pos (.inr (.inr h3))]
    have hd3 : decide (m - f < n) = true := decide_eq_true h3
    clear HE
    go_quiet (first
      | (go_at_call 18; refine Calls.quiet_of_same (HQ.out _)))
    go_wp2
    go_ret
    exact ⟨rfl, below_drewN' HB.out _⟩
  · obtain rfl : e = 0 := by rw [HE.out, if_neg (by omega)]
    have hd3 : decide (m - f < n) = false := decide_eq_false h3
    clear HE
    go_quiet (first
      | (go_at_call 18; refine Calls.quiet_of_same (HQ.out _)))
    go_wp2
    go_ret
    exact ⟨rfl, below_drewN' HB.out _⟩

/-- The sectors of an area. -/
def areaL (d : Dk) (f n : Nat) : List (List UInt8) := (d.now.drop f).take n
theorem areaL_len {d : Dk} {f n : Nat} (h : f + n ≤ d.now.length) : (areaL d f n).length = n := by
  unfold areaL
  rw [List.length_take, List.length_drop]
  omega
theorem areaL_secs {d : Dk} (h : d.ok) (f n : Nat) : ∀ s ∈ areaL d f n, s.length = 64 := fun s hs => h.nows s (List.mem_of_mem_drop (List.mem_of_mem_take hs))
theorem areaL_get {d : Dk} {f n i : Nat} (hd : d.down = false) (h : f + n ≤ d.now.length) (hi : i < n) : (areaL d f n)[i]? = some (d.readS (((f + i : Nat)) : Int)) ∧ d.err (((f + i : Nat)) : Int) = 0 := by
  have he : d.err (((f + i : Nat)) : Int) = 0 := by
    unfold Dk.err
    rw [if_neg (by rw [hd]; decide), if_neg (by omega)]
  refine ⟨?_, he⟩
  unfold areaL Dk.readS
  rw [if_pos he, Int.toNat_natCast, List.getElem?_take, if_pos hi, List.getElem?_drop, List.getD_eq_getElem?_getD, List.getElem?_eq_getElem (by omega)]
  rfl

set_option maxHeartbeats 2000000 in
set_option maxRecDepth 100000 in
theorem read_any (p : Nat) (B : Nat → Prop) (d : Dk) (f n : Nat) (w : World) (hd : d.down = false) (hfn : f + n ≤ d.now.length) (h : Dsk w p B d) :
    Calls Try.prog 64 #[.pointer (some ⟨p, 0, none⟩), .agg (arV f n)] w fun e w' => ∃ g, e = .returned (.slice (some ⟨g, 0, none⟩) n n) ∧ w'.heap[g]? = some (.cells (secR (areaL d f n)).flatten.toArray 40 (0, 0)) ∧ w.heap.size ≤ g ∧ Below w.heap.size w w' := by
  have H := Lib.hid h
  have HLim := Lib.hid (show d.now.length ≤ 4096 by have := h.ok.lim; have := h.ok.len; omega)
  have HOK := Lib.hid h.ok
  obtain ⟨L, hL⟩ : ∃ L, L = areaL d f n := ⟨_, rfl⟩
  have HLL := Lib.hid (show L.length = n by rw [hL]; exact areaL_len hfn)
  have HLs := Lib.hid (show ∀ s ∈ L, s.length = 64 by rw [hL]; exact areaL_secs h.ok f n)
  have HLg := Lib.hid (show ∀ i, i < n → L[i]? = some (d.readS (((f + i : Nat)) : Int)) ∧ d.err (((f + i : Nat)) : Int) = 0 by rw [hL]; exact fun i hi => areaL_get hd hfn hi)
  rw [← hL]
  have HFN := Lib.hid hfn
  obtain ⟨i0, hi0, hz0, hz1, hz2⟩ := info_parts sec_info3
  have HI := Lib.hid (And.intro hz1 hz2)
  have hn : n ≤ 4096 := by have := HLim.out; omega
  have k1 := cell_of_row _ w.heap.size 1 _ _ (0, 0) (heap_alloc_new w (.cells (arV f n) 65))
  clear h hL hd hfn
  go_enter Try.func64, Try.ntmps64
  go_wp2_with (first
    | (refine wpList_make rfl 63 40 (.tmp 8) rfl i0 (secv zs) Try.underlying63 hi0 hz0 n (by kernel_rfl) (by have := HI.out.2; rw [this]; omega) (by omega) ?_
       rw [HI.out.1, made_secs]))
  clear k1
  have HA0 := Lib.hid (heap_alloc_new w (.cells (arV f n) 65))
  have HAs := Lib.hid (show w.heap.size < (w.alloc (.cells (arV f n) 65)).heap.size by simp)
  have HAb := Lib.hid (show Below w.heap.size w (w.alloc (.cells (arV f n) 65)) from (Below.refl _ w).alloc (Nat.le_refl _) _)
  have HGa := Lib.hid (show (w.alloc (.cells (arV f n) 65)).heap.size = w.heap.size + 1 by simp)
  generalize World.alloc w (.cells (arV f n) 65) = wa at *
  generalize hw1 : World.alloc wa _ = w1
  have hb1 : Below wa.heap.size wa w1 := by rw [← hw1]; exact (Below.refl _ wa).alloc (Nat.le_refl _) _
  have HG1 := Lib.hid (show w1.heap[wa.heap.size]? = some (.cells (secR (cpz L 0)).flatten.toArray 40 (0, 0)) by rw [← hw1, cpz_zero, HLL.out]; exact heap_alloc_new _ _)
  have HB1 := Lib.hid (show Below w.heap.size w w1 from HAb.out.trans (hb1.mono HAb.out.size))
  have HR1 := Lib.hid ((hb1.block _ HAs.out).trans HA0.out)
  have HG := Lib.hid (show w.heap.size < wa.heap.size from HAs.out)
  clear hw1 hb1 HA0 HAs HAb
  rw [HGa.out] at HG1
  clear HG HGa
  have HG := Lib.hid (show w.heap.size < w.heap.size + 1 from Nat.lt_succ_self _)
  generalize w.heap.size + 1 = g at *
  go_loopw [12] (fun t wr => ∃ i : Nat, t = .int .i64 i ∧ i ≤ n ∧ wr.heap[g]? = some (.cells (secR (cpz L i)).flatten.toArray 40 (0, 0)) ∧ wr.heap[w.heap.size]? = some (.cells (arV f n) 65 (0, 0)) ∧ Below w.heap.size w wr) (fun t _ => n - (intOf t).toNat)
  case atStart => exact ⟨0, rfl, Nat.zero_le _, HG1.out, HR1.out, HB1.out⟩
  case round =>
    obtain ⟨i, rfl, hi, h1, h2, h3⟩ := hrel
    have H1 := Lib.hid h1
    have H2 := Lib.hid h2
    have H3 := Lib.hid h3
    clear h1 h2 h3 HG1 HR1 HB1
    by_cases hlt : i < n
    · have hlt' : (i : Int) < (n : Int) := by omega
      have hfi : (f : Int) + (i : Int) ≤ 4096 := by have := HFN.out; have := HLim.out; omega
      have hfi2 : (f : Int) + (i : Int) = ((f + i : Nat) : Int) := by omega
      have k0 := cell_of_row _ w.heap.size 0 _ _ (0, 0) H2.out
      have HX := Lib.hid (HLg.out i hlt).1
      have HSL := Lib.hid (HLs.out _ (List.mem_of_getElem? HX.out))
      have HRd := Lib.hid (show Calls Try.prog 25 #[.pointer (some ⟨p, 0, none⟩), .int .i64 ((f : Int) + (i : Int))] wr _ from by rw [hfi2]; exact dRead_any p B d _ wr (H.out.below H3.out))
      unfold ReadPost at HRd
      rw [hfi2] at HRd
      rw [← hfi2] at HRd HX HSL
      generalize d.readS ((f : Int) + (i : Int)) = s at *
      generalize d.err ((f : Int) + (i : Int)) = er at *
      clear hfi2
      go_wp2_with (first
        | (go_at_call 25
           refine HRd.out.mono ?_
           rintro e w3 ⟨rfl, hb3⟩
           have HG3 := Lib.hid ((hb3.block _ (lt_of_heap H1.out)).trans H1.out)
           have HR3 := Lib.hid ((hb3.block _ (lt_of_heap H2.out)).trans H2.out)
           have HB3 := Lib.hid (H3.out.trans (hb3.mono H3.out.size))
           have HT := Lib.hid (show w3.there g (i * 64) (bc s).toArray.size by rw [bc_size, HSL.out]; exact secs_there (cpz_secs HLs.out i) HG3.out (by rw [cpz_len L (by rw [HLL.out]; exact hi), HLL.out]; exact hlt))
           clear hb3)
        | (refine wpList_store_mid rfl 40 _ _ rfl g (i * 64) (bc s).toArray rfl rfl HT.out (sec_info' _ HSL.out) (bc_all s) ?_
           have HRc := Lib.hid (show (World.setCells w3 g (i * 64) (bc s).toArray.toList).heap[g]? = some (Obj.cells (secR (cpz L (i + 1))).flatten.toArray 40 (0, 0)) from by rw [← cpz_step L HX.out]; exact secs_set (cpz_secs HLs.out i) HG3.out (by rw [cpz_len L (by rw [HLL.out]; exact hi), HLL.out]; exact hlt) s HSL.out)
           have HKc := Lib.hid (setCells_kp1 g (i * 64) (bc s).toArray.toList w3)
           generalize World.setCells w3 g (i * 64) (bc s).toArray.toList = w4 at *))
      go_roundw
      case rel => exact ⟨i + 1, by go_num, by omega, HRc.out, (HKc.out.block _ (lt_of_heap HR3.out) (fun e => by have := HG.out; omega)).trans HR3.out, HB3.out.trans (HKc.out.below HB3.out.size (fun k hk he => by have := HG.out; omega))⟩
      case measure => simp [intOf]; omega
    · obtain rfl : i = n := by omega
      go_wp2_with fail
      go_ret
      refine ⟨_, rfl, ?_, by have := HG.out; omega, H3.out⟩
      have h3 := H1.out
      rw [show cpz L i = L by rw [← HLL.out]; exact cpz_full L] at h3
      exact h3

end Go.Proofs.Ytlaecnggbcagcaa
