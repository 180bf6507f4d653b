/- The walk of DiskApart. -/
import Derived.Test.YtlaecnggbcagcaaDiskDoes
namespace Go.Proofs.Ytlaecnggbcagcaa
open Go.RowKit MM
set_option linter.unusedVariables false
set_option linter.unusedSimpArgs false

set_option maxHeartbeats 8000000 in
set_option maxRecDepth 100000 in
theorem diskApart_any (A0 : Option Addr) (c0 : Nat) (l : List Od) (A1 : Option Addr) (c1 : Nat) (more : List Od) (w : World) (h0 : OdsIn w A0 l) (h1 : OdsIn w A1 more) :
    Calls Try.prog 5 #[.slice A0 l.length c0, .slice A1 more.length c1] w fun e w' => e = .returned (.bool true) ∧ Below w.heap.size w w' := by
  have H0 := Lib.hid h0
  have H1 := Lib.hid h1
  clear h0 h1
  cases hl : bigB l with
  | true =>
    go_enter Try.func5, Try.ntmps5
    go_wp2_with (first | (go_at_call 15; refine (speaks17_any _).mono ?_; rintro e w1 ⟨rfl, hb1⟩; have HB1 := Lib.hid hb1; clear hb1) | (go_at_call 16; refine (big_any A0 c0 l _ (H0.out.below HB1.out)).mono ?_; rintro e w2 ⟨rfl, hb2⟩; rw [hl]; have HB2 := Lib.hid (HB1.out.trans (hb2.mono HB1.out.size)); clear hb2))
    go_ret
    exact ⟨rfl, HB2.out⟩
  | false =>
  cases hm : bigB more with
  | true =>
    go_enter Try.func5, Try.ntmps5
    go_wp2_with (first | (go_at_call 15; refine (speaks17_any _).mono ?_; rintro e w1 ⟨rfl, hb1⟩; have HB1 := Lib.hid hb1; clear hb1) | (go_at_call 16; refine (big_any A1 c1 more _ (H1.out.below HB2.out)).mono ?_; rintro e w3 ⟨rfl, hb3⟩; rw [hm]; have HB3 := Lib.hid (HB2.out.trans (hb3.mono HB2.out.size)); clear hb3) | (go_at_call 16; refine (big_any A0 c0 l _ (H0.out.below HB1.out)).mono ?_; rintro e w2 ⟨rfl, hb2⟩; rw [hl]; have HB2 := Lib.hid (HB1.out.trans (hb2.mono HB1.out.size)); clear hb2))
    go_ret
    exact ⟨rfl, HB3.out⟩
  | false =>
  go_enter Try.func5, Try.ntmps5
  go_wp2_with (first | (go_at_call 15; refine (speaks17_any _).mono ?_; rintro e w1 ⟨rfl, hb1⟩; have HB1 := Lib.hid hb1; clear hb1) | (go_at_call 16; refine (big_any A1 c1 more _ (H1.out.below HB2.out)).mono ?_; rintro e w3 ⟨rfl, hb3⟩; rw [hm]; have HB3 := Lib.hid (HB2.out.trans (hb3.mono HB2.out.size)); clear hb3) | (go_at_call 16; refine (big_any A0 c0 l _ (H0.out.below HB1.out)).mono ?_; rintro e w2 ⟨rfl, hb2⟩; rw [hl]; have HB2 := Lib.hid (HB1.out.trans (hb2.mono HB1.out.size)); clear hb2))
  have HSl := Lib.hid (bigB_small hl)
  have HSm := Lib.hid (bigB_small hm)
  have G0 := Lib.hid (H0.out.below HB3.out)
  have G1 := Lib.hid (H1.out.below HB3.out)
  clear hl hm H0 H1 HB1 HB2
  refine (show Calls Try.prog 17 #[.int .i64 8] w3 _ from oNew 8 w3 (by omega) (by omega)).mono ?_
  rintro e w4 ⟨p, rfl, h4, hb4⟩
  have HD4 := Lib.hid (h4.1.mono (B' := fun k => w3.heap.size ≤ k ∧ k < w4.heap.size) (fun k hk hb => ⟨hb, hk⟩))
  have HB4 := Lib.hid hb4
  clear h4 hb4
  go_wp2_with fail
  refine (show Calls Try.prog 19 #[.int .i64 8] w4 _ from rNew_any 8 w4 (by omega) (by omega)).mono ?_
  rintro e w5 ⟨q, rfl, hR, hb5⟩
  have HDuo := Lib.hid (Duo.start (B := fun k => w3.heap.size ≤ k ∧ k < w4.heap.size) (C := fun k => w4.heap.size ≤ k ∧ k < w5.heap.size) (HD4.out.below hb5) (hR.mono (fun k hk hb => ⟨hb, hk⟩)) (fun k hk => Nat.lt_of_lt_of_le hk.2 hb5.size) (fun k hk => hk.2) (fun k hk hc => by have := hk.2; have := hc.1; omega))
  have HSz := Lib.hid (show w3.heap.size ≤ w4.heap.size ∧ w4.heap.size ≤ w5.heap.size from ⟨HB4.out.size, hb5.size⟩)
  have HB5 := Lib.hid (show Below w3.heap.size w3 w5 from HB4.out.trans (hb5.mono HB4.out.size))
  clear hR hb5 HD4 HB4
  go_wp2_with fail
  go_loopw [31] (fun t wr => ∃ i : Nat, t = .int .i64 i ∧ i ≤ l.length ∧ Duo w5 (fun k => w3.heap.size ≤ k ∧ k < w4.heap.size) (fun k => w4.heap.size ≤ k ∧ k < w5.heap.size) wr p q (stL (Dk.new 8) (l.take i)) (stL (Dk.new 8) (l.take i))) (fun t _ => l.length - (intOf t).toNat)
  case atStart => exact ⟨0, rfl, by omega, HDuo.out⟩
  case round =>
    obtain ⟨i, rfl, hi, h5⟩ := hrel
    have H5 := Lib.hid h5
    have HBr := Lib.hid (show Below w3.heap.size w3 wr from HB5.out.trans (h5.kp.below HB5.out.size (fun k hk hx => by rcases hx with z | z; have := z.1; omega; have := z.1; have := HSz.out; omega)))
    clear h5
    by_cases hlt : i < l.length
    · have hlt' : (i : Int) < (l.length : Int) := by omega
      have hl100 := HSl.out.1
      obtain ⟨b, off, rfl, hbl, hrow⟩ := ods_at (G0.out.below HBr.out) hlt
      obtain ⟨o, ho⟩ : ∃ o, o = l[i] := ⟨_, rfl⟩
      have HR := Lib.hid (hrow i o (by rw [List.getElem?_eq_getElem hlt, ho]))
      have hom : o ∈ l := by rw [ho]; exact List.getElem_mem hlt
      have HO := Lib.hid ((G0.out.all o hom).below HBr.out)
      have HOa := Lib.hid (Od.apart (G0.out.all o hom))
      have HOk := Lib.hid (HSl.out.2 o hom)
      have HS := Lib.hid (fun z => show stL z (l.take (i + 1)) = stepD (stL z (l.take i)) o by rw [List.take_succ_eq_append_getElem hlt, stL_snoc, ho])
      have HFx := Lib.hid (show (stL (Dk.new 8) (l.take i)).pend.length ≤ 1000 by have h1 := stL_few (l.take i) (Dk.new 8); rw [List.length_take] at h1; have := HSl.out.1; have : (Dk.new 8).pend.length = 0 := rfl; omega)
      have HFy := Lib.hid (show (stL (Dk.new 8) (l.take i)).pend.length ≤ 1000 by have h1 := stL_few (l.take i) (Dk.new 8); rw [List.length_take] at h1; have := HSl.out.1; have : (Dk.new 8).pend.length = 0 := rfl; omega)
      have HE := Lib.hid (show (Dk.new 8) = (Dk.new 8) → stL (Dk.new 8) (l.take i) = stL (Dk.new 8) (l.take i) from fun e => by rw [e])
      have HS1 := Lib.hid (HS.out (Dk.new 8))
      have HS2 := Lib.hid (HS.out (Dk.new 8))
      clear HS
      have HE := Lib.hid True.intro
      obtain ⟨d, hd⟩ : ∃ d, d = stL (Dk.new 8) (l.take i) := ⟨_, rfl⟩
      rw [← hd] at H5 HS1 HFx HS2 HFy
      clear hrow ho hom hd
      have hbA := below_one wr (.cells #[.int .i64 o.kind, .int .i64 o.n, .int .u8 o.fill.toNat, .slice o.A o.kept.length o.c] 34)
      have HX := Lib.hid (show Calls Try.prog 20 #[.pointer (some ⟨p, 0, none⟩), .pointer (some ⟨q, 0, none⟩), .agg #[.int .i64 o.kind, .int .i64 o.n, .int .u8 o.fill.toNat, .slice o.A o.kept.length o.c]] (wr.alloc (.cells #[.int .i64 o.kind, .int .i64 o.n, .int .u8 o.fill.toNat, .slice o.A o.kept.length o.c] 34)) _ from do17_any w5 _ _ p q d d o (wr.alloc (.cells #[.int .i64 o.kind, .int .i64 o.n, .int .u8 o.fill.toNat, .slice o.A o.kept.length o.c] 34)) (H5.out.below hbA) (HO.out.below hbA) (fun h0 a ha => by
        have z := HOa.out h0 a ha
        exact ⟨by have := HSz.out; omega, fun u => by have := u.1; omega, fun u => by have := u.1; have := HSz.out; omega⟩) HFx.out HFy.out (by have := HOk.out; omega))
      clear hbA
      go_wp2_with (first
        | (refine wpList_load_mid rfl _ _ rfl b (off + i * 4) rfl [.int .i64 o.kind, .int .i64 o.n, .int .u8 o.fill.toNat, .slice o.A o.kept.length o.c] _ HR.out Try.underlying34 rfl od_inf ?_)
        | (refine wpList_alloc_row rfl _ rfl (.agg odZ.toArray) odZ.toArray od_zero rfl ?_)
        | (refine wpList_store_row rfl _ _ _ rfl _ #[.int .i64 o.kind, .int .i64 o.n, .int .u8 o.fill.toNat, .slice o.A o.kept.length o.c] rfl rfl 34 _ (heap_alloc_new _ _) od_inf rfl (by kernel_rfl) ?_
           rw [World.setRow_alloc_new])
        | (refine wpList_load_row rfl _ _ rfl wr.heap.size rfl 34 _ (0, 0) _ (heap_alloc_new _ _) Try.underlying34 rfl od_inf ?_)
        | (go_at_call 20; refine HX.out.mono ?_; rintro e w6 ⟨r, rfl, hr, hd6⟩; clear hr; have hr := True.intro; have HD6 := Lib.hid hd6; clear hd6 hr))
      go_roundw
      case rel => exact ⟨i + 1, by go_num, by omega, by rw [HS1.out]; exact HD6.out⟩
      case measure => simp [intOf]; omega
    · obtain rfl : i = l.length := by omega
      rw [List.take_length] at H5
      clear hlt hi
      obtain ⟨B1, C1, g1, g2, g3, g4, g5, g6⟩ := H5.out
      obtain ⟨D, hD⟩ : ∃ D, D = stL (Dk.new 8) l := ⟨_, rfl⟩
      have HFD := Lib.hid (show D.pend.length ≤ 100 by have h1 := stL_few l (Dk.new 8); rw [← hD] at h1; have := HSl.out.1; have : (Dk.new 8).pend.length = 0 := rfl; omega)
      rw [← hD] at g1 g2
      have HB1l := Lib.hid (show ∀ k, B1 k → w3.heap.size ≤ k from fun k hk => by have u := HSz.out; rcases (g3 k hk).1 with z | z; exact z.1; omega)
      have HC8 := Lib.hid (show ∀ k, C1 k → w3.heap.size ≤ k from fun k hk => by have u := HSz.out; rcases (g4 k hk).1 with z | z; have := z.1; omega; omega)
      have HB1b := Lib.hid (show ∀ k, B1 k → k < wr.heap.size from fun k hk => (g3 k hk).2)
      have HC1b := Lib.hid (show ∀ k, C1 k → k < wr.heap.size from fun k hk => (g4 k hk).2)
      have HBC := Lib.hid g5
      have HD1 := Lib.hid g1
      have HR1 := Lib.hid g2
      clear g1 g2 g3 g4 g5 g6 H5 hD
      go_wp2_with fail
      refine (dClone_any p B1 D wr (by have := HFD.out; omega) HD1.out).mono ?_
      rintro e w6 ⟨pc, rfl, hc6, hb6⟩
      have HDc6 := Lib.hid (hc6.mono (B' := fun k => wr.heap.size ≤ k ∧ k < w6.heap.size) (fun k hk hb => ⟨hb, hk⟩))
      have HB6 := Lib.hid hb6
      clear hc6 hb6
      go_wp2_with fail
      refine (show Calls Try.prog 19 #[.int .i64 8] w6 _ from rNew_any 8 w6 (by omega) (by omega)).mono ?_
      rintro e w7 ⟨qo, rfl, hr7, hb7⟩
      have hb67 : Below wr.heap.size wr w7 := HB6.out.trans (hb7.mono HB6.out.size)
      have HS67 := Lib.hid (show wr.heap.size ≤ w6.heap.size ∧ w6.heap.size ≤ w7.heap.size from ⟨HB6.out.size, hb7.size⟩)
      have HDu2 := Lib.hid (Duo.start (B := B1) (C := fun k => w6.heap.size ≤ k ∧ k < w7.heap.size) (HD1.out.below hb67) (hr7.mono (fun k hk hb => ⟨hb, hk⟩)) (fun k hk => by have := HB1b.out k hk; have := HS67.out; omega) (fun k hk => hk.2) (fun k hk hc => by have := HB1b.out k hk; have := hc.1; have := HS67.out; omega))
      have HRw0 := Lib.hid (HR1.out.below hb67)
      have HDc0 := Lib.hid (HDc6.out.below hb7)
      have HB7 := Lib.hid (show Below w3.heap.size w3 w7 from HBr.out.trans (hb67.mono HBr.out.size))
      have HZ7 := Lib.hid HB7.out.size
      have HZ6 := Lib.hid (show w3.heap.size ≤ w6.heap.size from Nat.le_trans HBr.out.size HB6.out.size)
      have HZr := Lib.hid HBr.out.size
      obtain ⟨E, hE⟩ : ∃ E : Nat → Prop, E = fun k => wr.heap.size ≤ k ∧ k < w6.heap.size := ⟨_, rfl⟩
      have HE8 := Lib.hid (show ∀ k, E k → w3.heap.size ≤ k ∧ wr.heap.size ≤ k from fun k hk => by rw [hE] at hk; have := HZr.out; have := hk.1; omega)
      have HEu := Lib.hid (show ∀ k, E k → k < w7.heap.size ∧ k < w6.heap.size from fun k hk => by rw [hE] at hk; have := HS67.out; have := hk.2; omega)
      rw [← hE] at HDc0
      clear hr7 hb7 hb67 HB6 HDc6 HD1 HR1 hE HBr
      go_wp2_with fail
      go_loopw [45] (fun t wr => ∃ i : Nat, t = .int .i64 i ∧ i ≤ more.length ∧ Duo w7 B1 (fun k => w6.heap.size ≤ k ∧ k < w7.heap.size) wr p qo (stL D (more.take i)) (stL (Dk.new 8) (more.take i))) (fun t _ => more.length - (intOf t).toNat)
      case atStart => exact ⟨0, rfl, by omega, HDu2.out⟩
      case round =>
        obtain ⟨i, rfl, hi, h5⟩ := hrel
        have H5 := Lib.hid h5
        have HBr := Lib.hid (show Below w3.heap.size w3 wr from HB7.out.trans (h5.kp.below HB7.out.size (fun k hk hx => by rcases hx with z | z; have := HB1l.out k z; omega; have := z.1; have := HZ6.out; omega)))
        clear h5
        by_cases hlt : i < more.length
        · have hlt' : (i : Int) < (more.length : Int) := by omega
          have hl100 := HSm.out.1
          obtain ⟨b, off, rfl, hbl, hrow⟩ := ods_at (G1.out.below HBr.out) hlt
          obtain ⟨o, ho⟩ : ∃ o, o = more[i] := ⟨_, rfl⟩
          have HR := Lib.hid (hrow i o (by rw [List.getElem?_eq_getElem hlt, ho]))
          have hom : o ∈ more := by rw [ho]; exact List.getElem_mem hlt
          have HO := Lib.hid ((G1.out.all o hom).below HBr.out)
          have HOa := Lib.hid (Od.apart (G1.out.all o hom))
          have HOk := Lib.hid (HSm.out.2 o hom)
          have HS := Lib.hid (fun z => show stL z (more.take (i + 1)) = stepD (stL z (more.take i)) o by rw [List.take_succ_eq_append_getElem hlt, stL_snoc, ho])
          have HFx := Lib.hid (show (stL D (more.take i)).pend.length ≤ 1000 by have h1 := stL_few (more.take i) D; rw [List.length_take] at h1; have := HFD.out; have := HSm.out.1; have : (Dk.new 8).pend.length = 0 := rfl; omega)
          have HFy := Lib.hid (show (stL (Dk.new 8) (more.take i)).pend.length ≤ 1000 by have h1 := stL_few (more.take i) (Dk.new 8); rw [List.length_take] at h1; have := HFD.out; have := HSm.out.1; have : (Dk.new 8).pend.length = 0 := rfl; omega)
          have HE := Lib.hid (show D = (Dk.new 8) → stL D (more.take i) = stL (Dk.new 8) (more.take i) from fun e => by rw [e])
          have HS1 := Lib.hid (HS.out D)
          have HS2 := Lib.hid (HS.out (Dk.new 8))
          clear HS
          obtain ⟨d, hd⟩ : ∃ d, d = stL D (more.take i) := ⟨_, rfl⟩
          obtain ⟨d2, hd2⟩ : ∃ d, d = stL (Dk.new 8) (more.take i) := ⟨_, rfl⟩
          rw [← hd, ← hd2] at H5 HE
          rw [← hd] at HS1 HFx
          rw [← hd2] at HS2 HFy
          clear hrow ho hom hd hd2
          have hbA := below_one wr (.cells #[.int .i64 o.kind, .int .i64 o.n, .int .u8 o.fill.toNat, .slice o.A o.kept.length o.c] 34)
          have HX := Lib.hid (show Calls Try.prog 20 #[.pointer (some ⟨p, 0, none⟩), .pointer (some ⟨qo, 0, none⟩), .agg #[.int .i64 o.kind, .int .i64 o.n, .int .u8 o.fill.toNat, .slice o.A o.kept.length o.c]] (wr.alloc (.cells #[.int .i64 o.kind, .int .i64 o.n, .int .u8 o.fill.toNat, .slice o.A o.kept.length o.c] 34)) _ from do17_any w7 _ _ p qo d d2 o (wr.alloc (.cells #[.int .i64 o.kind, .int .i64 o.n, .int .u8 o.fill.toNat, .slice o.A o.kept.length o.c] 34)) (H5.out.below hbA) (HO.out.below hbA) (fun h0 a ha => by
            have z := HOa.out h0 a ha
            exact ⟨by have := HZ7.out; omega, fun u => by have := (HB1l.out _ u); omega, fun u => by have := u.1; have := HZ6.out; omega⟩) HFx.out HFy.out (by have := HOk.out; omega))
          clear hbA
          go_wp2_with (first
            | (refine wpList_load_mid rfl _ _ rfl b (off + i * 4) rfl [.int .i64 o.kind, .int .i64 o.n, .int .u8 o.fill.toNat, .slice o.A o.kept.length o.c] _ HR.out Try.underlying34 rfl od_inf ?_)
            | (refine wpList_alloc_row rfl _ rfl (.agg odZ.toArray) odZ.toArray od_zero rfl ?_)
            | (refine wpList_store_row rfl _ _ _ rfl _ #[.int .i64 o.kind, .int .i64 o.n, .int .u8 o.fill.toNat, .slice o.A o.kept.length o.c] rfl rfl 34 _ (heap_alloc_new _ _) od_inf rfl (by kernel_rfl) ?_
               rw [World.setRow_alloc_new])
            | (refine wpList_load_row rfl _ _ rfl wr.heap.size rfl 34 _ (0, 0) _ (heap_alloc_new _ _) Try.underlying34 rfl od_inf ?_)
            | (go_at_call 20; refine HX.out.mono ?_; rintro e w6 ⟨r, rfl, hr, hd6⟩; clear HE; have HD6 := Lib.hid hd6; clear hd6 hr))
          go_roundw
          case rel => exact ⟨i + 1, by go_num, by omega, by rw [HS1.out, HS2.out]; exact HD6.out⟩
          case measure => simp [intOf]; omega
        · obtain rfl : i = more.length := by omega
          rw [List.take_length] at H5
          clear hlt hi
          obtain ⟨Bd, Bo, g1, g2, g3, g4, g5, g6⟩ := H5.out
          have HLw := Lib.hid g6.size
          have HDd := Lib.hid g1
          have HDc := Lib.hid (show Dsk wr pc E D from HDc0.out.keep g6 (fun k hk he hx => by
            have := HE8.out k he
            rcases hx with z | z
            · have := (HB1b.out k z); have := HE8.out k he; omega
            · have := z.1; have := HEu.out k he; omega))
          have HRw := Lib.hid (show Rsk wr q C1 D from HRw0.out.keep g6 (fun k hk he hx => by
            rcases hx with z | z
            · exact HBC.out k z he
            · have := z.1; have := HC1b.out k he; have := HS67.out; omega))
          have HDj0 := Lib.hid (show ∀ k, Bd k → ¬ (E k ∨ C1 k) from fun k hb hx => by
            have u := HS67.out
            rcases (g3 k hb).1 with z | z
            · rcases hx with x | x
              · have := HB1b.out k z; have := HE8.out k x; omega
              · exact HBC.out k z x
            · rcases hx with x | x
              · have := HEu.out k x; omega
              · have := HC1b.out k x; omega)
          clear g1 g2 g3 g4 g5 g6 H5 HDc0 HRw0
          go_wp2_with (first
            | (go_at_call 21; refine (same17_any pc q _ _ D _ HDc.out HRw.out).mono ?_; rintro e w8 ⟨rfl, hb8⟩; have HBs := Lib.hid hb8; clear hb8))
          have HDd8 := Lib.hid (HDd.out.below HBs.out)
          have HDu3 := Lib.hid (Duo.start (HDc.out.below HBs.out) (HRw.out.below HBs.out) (fun k hk => by have := HEu.out k hk; have := HBs.out.size; have := HLw.out; omega) (fun k hk => by have := HC1b.out k hk; have := HBs.out.size; have := HLw.out; have := HS67.out; omega) (fun k he hc => by have := HE8.out k he; have := HC1b.out k hc; omega))
          have HB8 := Lib.hid (show Below w3.heap.size w3 w8 from HBr.out.trans (HBs.out.mono HBr.out.size))
          have HZ8 := Lib.hid HB8.out.size
          obtain ⟨DM, hDM⟩ : ∃ DM, DM = stL D more := ⟨_, rfl⟩
          have HDMe := Lib.hid hDM
          rw [← hDM] at HDd8
          clear hDM HDd HDc HRw HBs HBr
          have HDd := HDd8
          have HDj := HDj0
          clear HDd8 HDj0
          go_wp2_with fail
          go_loopw [60] (fun t wr => ∃ i : Nat, t = .int .i64 i ∧ i ≤ more.length ∧ Duo w8 E C1 wr pc q (stL D (more.take i)) (stL D (more.take i))) (fun t _ => more.length - (intOf t).toNat)
          case atStart => exact ⟨0, rfl, by omega, HDu3.out⟩
          case round =>
            obtain ⟨i, rfl, hi, h5⟩ := hrel
            have H5 := Lib.hid h5
            have HBr := Lib.hid (show Below w3.heap.size w3 wr from HB8.out.trans (h5.kp.below HB8.out.size (fun k hk hx => by rcases hx with z | z; have := HE8.out k z; omega; have := HC8.out k z; omega)))
            clear h5
            by_cases hlt : i < more.length
            · have hlt' : (i : Int) < (more.length : Int) := by omega
              have hl100 := HSm.out.1
              obtain ⟨b, off, rfl, hbl, hrow⟩ := ods_at (G1.out.below HBr.out) hlt
              obtain ⟨o, ho⟩ : ∃ o, o = more[i] := ⟨_, rfl⟩
              have HR := Lib.hid (hrow i o (by rw [List.getElem?_eq_getElem hlt, ho]))
              have hom : o ∈ more := by rw [ho]; exact List.getElem_mem hlt
              have HO := Lib.hid ((G1.out.all o hom).below HBr.out)
              have HOa := Lib.hid (Od.apart (G1.out.all o hom))
              have HOk := Lib.hid (HSm.out.2 o hom)
              have HS := Lib.hid (fun z => show stL z (more.take (i + 1)) = stepD (stL z (more.take i)) o by rw [List.take_succ_eq_append_getElem hlt, stL_snoc, ho])
              have HFx := Lib.hid (show (stL D (more.take i)).pend.length ≤ 1000 by have h1 := stL_few (more.take i) D; rw [List.length_take] at h1; have := HFD.out; have := HSm.out.1; omega)
              have HFy := Lib.hid (show (stL D (more.take i)).pend.length ≤ 1000 by have h1 := stL_few (more.take i) D; rw [List.length_take] at h1; have := HFD.out; have := HSm.out.1; omega)
              have HE := Lib.hid (show D = D → stL D (more.take i) = stL D (more.take i) from fun e => by rw [e])
              have HS1 := Lib.hid (HS.out D)
              have HS2 := Lib.hid (HS.out D)
              clear HS
              have HE := Lib.hid True.intro
              obtain ⟨d, hd⟩ : ∃ d, d = stL D (more.take i) := ⟨_, rfl⟩
              rw [← hd] at H5 HS1 HFx HS2 HFy
              clear hrow ho hom hd
              have hbA := below_one wr (.cells #[.int .i64 o.kind, .int .i64 o.n, .int .u8 o.fill.toNat, .slice o.A o.kept.length o.c] 34)
              have HX := Lib.hid (show Calls Try.prog 20 #[.pointer (some ⟨pc, 0, none⟩), .pointer (some ⟨q, 0, none⟩), .agg #[.int .i64 o.kind, .int .i64 o.n, .int .u8 o.fill.toNat, .slice o.A o.kept.length o.c]] (wr.alloc (.cells #[.int .i64 o.kind, .int .i64 o.n, .int .u8 o.fill.toNat, .slice o.A o.kept.length o.c] 34)) _ from do17_any w8 _ _ pc q d d o (wr.alloc (.cells #[.int .i64 o.kind, .int .i64 o.n, .int .u8 o.fill.toNat, .slice o.A o.kept.length o.c] 34)) (H5.out.below hbA) (HO.out.below hbA) (fun h0 a ha => by
                have z := HOa.out h0 a ha
                exact ⟨by have := HZ8.out; omega, fun u => by have := (HE8.out _ u); omega, fun u => by have := (HC8.out _ u); omega⟩) HFx.out HFy.out (by have := HOk.out; omega))
              clear hbA
              go_wp2_with (first
                | (refine wpList_load_mid rfl _ _ rfl b (off + i * 4) rfl [.int .i64 o.kind, .int .i64 o.n, .int .u8 o.fill.toNat, .slice o.A o.kept.length o.c] _ HR.out Try.underlying34 rfl od_inf ?_)
                | (refine wpList_alloc_row rfl _ rfl (.agg odZ.toArray) odZ.toArray od_zero rfl ?_)
                | (refine wpList_store_row rfl _ _ _ rfl _ #[.int .i64 o.kind, .int .i64 o.n, .int .u8 o.fill.toNat, .slice o.A o.kept.length o.c] rfl rfl 34 _ (heap_alloc_new _ _) od_inf rfl (by kernel_rfl) ?_
                   rw [World.setRow_alloc_new])
                | (refine wpList_load_row rfl _ _ rfl wr.heap.size rfl 34 _ (0, 0) _ (heap_alloc_new _ _) Try.underlying34 rfl od_inf ?_)
                | (go_at_call 20; refine HX.out.mono ?_; rintro e w6 ⟨r, rfl, hr, hd6⟩; obtain rfl : r = true := hr rfl; have HD6 := Lib.hid hd6; clear hd6 hr))
              go_roundw
              case rel => exact ⟨i + 1, by go_num, by omega, by rw [HS1.out]; exact HD6.out⟩
              case measure => simp [intOf]; omega
            · obtain rfl : i = more.length := by omega
              rw [List.take_length, ← HDMe.out] at H5
              clear hlt hi
              have h6 := H5.out.kp
              have HP := Lib.hid (show Dsk wr p Bd DM from HDd.out.keep h6 (fun k _ hb hx => HDj.out k hb hx))
              clear h6
              go_wp2_with (first
                | (go_at_call 21; refine (same17_any pc q _ _ DM _ H5.out.dsk H5.out.rsk).mono ?_; rintro e w9 ⟨rfl, hb9⟩; have HB9 := Lib.hid hb9; have HR9 := Lib.hid (H5.out.rsk.below hb9); have HP9 := Lib.hid (HP.out.below hb9); clear hb9 HP H5)
                | (go_at_call 21; refine (same17_any p q _ _ DM _ HP9.out HR9.out).mono ?_; rintro e wA ⟨rfl, hbA⟩; have HBA := Lib.hid hbA; clear hbA))
              go_ret
              exact ⟨rfl, HB3.out.trans ((HBr.out.trans ((HB9.out.trans (HBA.out.mono HB9.out.size)).mono HBr.out.size)).mono HB3.out.size)⟩
end Go.Proofs.Ytlaecnggbcagcaa
