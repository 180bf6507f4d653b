/- The walk of DiskDoes. -/
import Derived.Test.YtlaecnggbcagcaaRk8
import Derived.Test.YtlaecnggbcagcaaSp17
namespace Go.Proofs.Ytlaecnggbcagcaa
open Go.RowKit MM
set_option linter.unusedVariables false
set_option linter.unusedSimpArgs false

/-- Ops, one behind the other. -/
def stL (d : Dk) (L : List Od) : Dk := L.foldl stepD d
theorem stL_snoc (d : Dk) (L : List Od) (o : Od) : stL d (L ++ [o]) = stepD (stL d L) o := by
  unfold stL
  rw [List.foldl_append]
  rfl
theorem stL_few : ∀ (L : List Od) (d : Dk), (stL d L).pend.length ≤ d.pend.length + L.length
  | [], d => Nat.le_refl _
  | o :: L, d => by
    have h1 := stL_few L (stepD d o)
    have h2 := stepD_few d o
    show (stL (stepD d o) L).pend.length ≤ _
    rw [List.length_cons]
    omega
theorem bigB_small {l : List Od} (h : bigB l = false) : l.length ≤ 100 ∧ ∀ o ∈ l, o.kept.length ≤ 100 := by
  unfold bigB at h
  rw [Bool.or_eq_false_iff] at h
  refine ⟨by have := of_decide_eq_false h.1; omega, fun o ho => ?_⟩
  have h2 := List.any_eq_false.1 h.2 o ho
  simp at h2
  omega
theorem Od.apart {w : World} {o : Od} (h : OdIn w o) : o.kept ≠ [] → ∀ a, o.A = some a → a.block < w.heap.size := fun h0 a ha => h.blk a ha h0

set_option maxHeartbeats 8000000 in
set_option maxRecDepth 100000 in
theorem diskDoes_any (n : Int) (A0 : Option Addr) (c0 : Nat) (l : List Od) (w : World) {P : Prop} (_hP : P) (h0 : OdsIn w A0 l) :
    Calls Try.prog 3 #[.int .i64 n, .slice A0 l.length c0] w fun e w' => e = .returned (.bool true) ∧ Below w.heap.size w w' := by
  have H0 := Lib.hid h0
  clear h0
  cases hl : bigB l with
  | true =>
    go_enter Try.func3, Try.ntmps3
    go_wp2_with (first | (go_at_call 15; refine (speaks17_any _).mono ?_; rintro e w1 ⟨rfl, hb1⟩; have HB1 := Lib.hid hb1; clear hb1) | (go_at_call 16; refine (big_any A0 c0 l _ (H0.out.below HB1.out)).mono ?_; rintro e w2 ⟨rfl, hb2⟩; rw [hl]; have HB2 := Lib.hid (HB1.out.trans (hb2.mono HB1.out.size)); clear hb2))
    go_ret
    exact ⟨rfl, HB2.out⟩
  | false =>
  go_enter Try.func3, Try.ntmps3
  go_wp2_with (first | (go_at_call 15; refine (speaks17_any _).mono ?_; rintro e w1 ⟨rfl, hb1⟩; have HB1 := Lib.hid hb1; clear hb1) | (go_at_call 16; refine (big_any A0 c0 l _ (H0.out.below HB1.out)).mono ?_; rintro e w2 ⟨rfl, hb2⟩; rw [hl]; have HB2 := Lib.hid (HB1.out.trans (hb2.mono HB1.out.size)); clear hb2))
  have HSm := Lib.hid (bigB_small hl)
  clear hl
  have G0 := Lib.hid (H0.out.below HB2.out)
  clear H0 HB1
  refine (dNew_any n w2).mono ?_
  rintro e w3 ⟨hb3, hx⟩
  have HB3 := Lib.hid hb3
  clear hb3
  rcases hx with ⟨hr, rfl⟩ | ⟨m, p, rfl, h1, h2, rfl, hD⟩
  · by_cases hr1 : n < 1
    · clear hr
      go_wp2_with fail
      go_ret
      exact ⟨rfl, HB2.out.trans (HB3.out.mono HB2.out.size)⟩
    · have hr2 : 4096 < n := by omega
      have hd1 : decide (n < 1) = false := decide_eq_false hr1
      clear hr
      go_wp2_with fail
      go_ret
      exact ⟨rfl, HB2.out.trans (HB3.out.mono HB2.out.size)⟩
  have hm1 : ¬ (m : Int) < 1 := by omega
  have hm2 : ¬ (4096 : Int) < (m : Int) := by omega
  have hd1 : decide ((m : Int) < 1) = false := decide_eq_false hm1
  have HD3 := Lib.hid hD
  clear hD
  by_cases h64 : 64 < m
  · have h64' : (64 : Int) < (m : Int) := by omega
    have HLn := Lib.hid (show ((Dk.new m).now.length : Int) = (m : Int) by simp [Dk.new])
    go_wp2_with (first
      | (go_at_call 18; refine (dLen_any p _ (Dk.new m) _ HD3.out).mono ?_; rintro e w' ⟨rfl, rfl⟩; rw [HLn.out]))
    go_ret
    exact ⟨rfl, HB2.out.trans (HB3.out.mono HB2.out.size)⟩
  have h64' : ¬ (64 : Int) < (m : Int) := by omega
  go_wp2_with fail
  refine (rNew_any m w3 h1 h2).mono ?_
  rintro e w4 ⟨q, rfl, hR, hb4⟩
  have HDuo := Lib.hid (Duo.start (B := fun k => w2.heap.size ≤ k ∧ k < w3.heap.size) (C := fun k => w3.heap.size ≤ k ∧ k < w4.heap.size) ((HD3.out.mono (B' := fun k => w2.heap.size ≤ k ∧ k < w3.heap.size) (fun k hk hb => ⟨hb, hk⟩)).below hb4) (hR.mono (fun k hk hb => ⟨hb, hk⟩)) (fun k hk => Nat.lt_of_lt_of_le hk.2 hb4.size) (fun k hk => hk.2) (fun k hk hc => by have := hk.2; have := hc.1; omega))
  have HSz := Lib.hid (show w2.heap.size ≤ w3.heap.size ∧ w3.heap.size ≤ w4.heap.size from ⟨HB3.out.size, hb4.size⟩)
  have HB4 := Lib.hid (show Below w2.heap.size w2 w4 from HB3.out.trans (hb4.mono HB3.out.size))
  clear hR hb4 HD3 HB3 hm1 hm2 hd1 h64 h64' h1 h2
  go_wp2_with fail
  go_loopw [49] (fun t wr => ∃ i : Nat, t = .int .i64 i ∧ i ≤ l.length ∧ Duo w4 (fun k => w2.heap.size ≤ k ∧ k < w3.heap.size) (fun k => w3.heap.size ≤ k ∧ k < w4.heap.size) wr p q (stL (Dk.new m) (l.take i)) (stL (Dk.new m) (l.take i))) (fun t _ => l.length - (intOf t).toNat)
  case atStart => exact ⟨0, rfl, by omega, HDuo.out⟩
  case round =>
    obtain ⟨i, rfl, hi, h5⟩ := hrel
    have H5 := Lib.hid h5
    have HBr := Lib.hid (show Below w2.heap.size w2 wr from HB4.out.trans (h5.kp.below HB4.out.size (fun k hk hx => by rcases hx with z | z; have := z.1; omega; have := z.1; have := HSz.out; omega)))
    clear h5 HDuo
    by_cases hlt : i < l.length
    · have hlt' : (i : Int) < (l.length : Int) := by omega
      have hl100 := HSm.out.1
      obtain ⟨b, off, rfl, hbl, hrow⟩ := ods_at (G0.out.below HBr.out) hlt
      obtain ⟨o, ho⟩ : ∃ o, o = l[i] := ⟨_, rfl⟩
      have HR := Lib.hid (hrow i o (by rw [List.getElem?_eq_getElem hlt, ho]))
      have hom : o ∈ l := by rw [ho]; exact List.getElem_mem hlt
      have HO := Lib.hid ((G0.out.all o hom).below HBr.out)
      have HOa := Lib.hid (Od.apart (G0.out.all o hom))
      have HOk := Lib.hid (HSm.out.2 o hom)
      have HS := Lib.hid (show stL (Dk.new m) (l.take (i + 1)) = stepD (stL (Dk.new m) (l.take i)) o by rw [List.take_succ_eq_append_getElem hlt, stL_snoc, ho])
      have HFw := Lib.hid (show (stL (Dk.new m) (l.take i)).pend.length ≤ 100 by have h1 := stL_few (l.take i) (Dk.new m); rw [List.length_take] at h1; have : (Dk.new m).pend.length = 0 := rfl; omega)
      generalize stL (Dk.new m) (l.take i) = d at *
      clear hrow ho hom
      have hbA := below_one wr (.cells #[.int .i64 o.kind, .int .i64 o.n, .int .u8 o.fill.toNat, .slice o.A o.kept.length o.c] 34)
      have HX := Lib.hid (show Calls Try.prog 20 #[.pointer (some ⟨p, 0, none⟩), .pointer (some ⟨q, 0, none⟩), .agg #[.int .i64 o.kind, .int .i64 o.n, .int .u8 o.fill.toNat, .slice o.A o.kept.length o.c]] (wr.alloc (.cells #[.int .i64 o.kind, .int .i64 o.n, .int .u8 o.fill.toNat, .slice o.A o.kept.length o.c] 34)) _ from do17_any w4 _ _ p q d d o (wr.alloc (.cells #[.int .i64 o.kind, .int .i64 o.n, .int .u8 o.fill.toNat, .slice o.A o.kept.length o.c] 34)) (H5.out.below hbA) (HO.out.below hbA) (fun h0 a ha => by
        have z := HOa.out h0 a ha
        have y := HSz.out
        exact ⟨by omega, fun u => by have := u.1; omega, fun u => by have := u.1; omega⟩) (by have := HFw.out; omega) (by have := HFw.out; omega) (by have := HOk.out; omega))
      have HK := Lib.hid (hbA.mono (Nat.le_refl _))
      clear hbA
      go_wp2_with (first
        | (refine wpList_load_mid rfl _ _ rfl b (off + i * 4) rfl [.int .i64 o.kind, .int .i64 o.n, .int .u8 o.fill.toNat, .slice o.A o.kept.length o.c] _ HR.out Try.underlying34 rfl od_inf ?_)
        | (refine wpList_alloc_row rfl _ rfl (.agg odZ.toArray) odZ.toArray od_zero rfl ?_)
        | (refine wpList_store_row rfl _ _ _ rfl _ #[.int .i64 o.kind, .int .i64 o.n, .int .u8 o.fill.toNat, .slice o.A o.kept.length o.c] rfl rfl 34 _ (heap_alloc_new _ _) od_inf rfl (by kernel_rfl) ?_
           rw [World.setRow_alloc_new])
        | (refine wpList_load_row rfl _ _ rfl wr.heap.size rfl 34 _ (0, 0) _ (heap_alloc_new _ _) Try.underlying34 rfl od_inf ?_)
        | (go_at_call 20; refine HX.out.mono ?_; rintro e w6 ⟨r, rfl, hr, hd6⟩; obtain rfl : r = true := hr rfl; have HD6 := Lib.hid hd6; clear hd6 hr)
        | (go_at_call 21; refine (same17_any p q _ _ (stepD d o) _ HD6.out.dsk HD6.out.rsk).mono ?_; rintro e w7 ⟨rfl, hb7⟩; have HB7 := Lib.hid hb7; clear hb7))
      go_roundw
      case rel => exact ⟨i + 1, by go_num, by omega, by rw [HS.out]; exact HD6.out.below HB7.out⟩
      case measure => simp [intOf]; omega
    · obtain rfl : i = l.length := by omega
      go_wp2_with fail
      go_ret
      exact ⟨rfl, HB2.out.trans (HBr.out.mono HB2.out.size)⟩

end Go.Proofs.Ytlaecnggbcagcaa
