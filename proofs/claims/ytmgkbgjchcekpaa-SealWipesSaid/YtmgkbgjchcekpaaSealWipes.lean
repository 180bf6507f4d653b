/- The walk of SealWipes. -/
import Derived.Test.YtmgkbgjchcekpaaSealWp
import Derived.Test.YtmgkbgjchcekpaaSec7
namespace Go.Proofs.Ytmgkbgjchcekpaa
open Go.RowKit MM
set_option linter.unusedVariables false
set_option linter.unusedSimpArgs false

theorem built_fx (c : UInt8) : Try.prog.built 40 [(5, .int .u8 c.toNat)] = some (bc (fx c)).toArray := by kernel_rfl
theorem wpListG_load_at {P : Program} {ops : Array Oper} {rest : List Oper} {o : Oper} {a : Act} {w : World} {Q : Exit → Act → World → Prop} (gd : Nat × Bool) (hgd : o.guard = some gd) (hw : Region.wanted o (yielded ops a.tmps) = true) (ty : TypeId) (x : Operand) (ho : o.op = .load ty x)
    (g : Nat) (hx : a.eval x = .pointer (some ⟨g, 0, none⟩)) (t : TypeId) (cs : Array Value) (fr : Nat × Nat) (d : TypeDesc) (hg : w.heap[g]? = some (.cells cs t fr))
    (hu : P.underlying ty = some d) (hd : (match d with | .struct _ | .array _ _ => true | _ => false) = true) (hi : (P.info? ty).map (·.size) = some cs.size)
    (h : wpList P ops Q rest (a.put o.dst (.agg cs)) w) : wpList P ops Q (o :: rest) a w := wpListG_load_row hw ty x ho g hx t cs fr d hg hu hd hi h
theorem set_fx (x : UInt8) : (bc zs).set 5 (.int .u8 x.toNat) = bc (fx x) := by
  rw [show bc (fx x) = bc (zs.set 5 x) from rfl]
  simp [bc, List.map_set]

set_option maxHeartbeats 8000000 in
set_option maxRecDepth 100000 in
theorem sealWipes_any (A : Option Addr) (c : Nat) (xs : List UInt8) (a n : Int) (w : World) (hb : Bts w A xs) (ha : (Lit.int .i64 a).wf = true) (hn : (Lit.int .i64 n).wf = true) :
    Calls Try.prog 10 #[.slice A xs.length c, .int .i64 a, .int .i64 n] w fun e w' => e = .returned (.bool true) ∧ Below w.heap.size w w' := by
  have HX := Lib.hid hb
  have ba : -9223372036854775808 ≤ a ∧ a ≤ 9223372036854775807 := by simpa [Lit.wf, IntKind.min, IntKind.max, IntKind.signed, IntKind.bits] using ha
  have HAb := Lib.hid ba
  clear hb ha hn ba
  by_cases h16 : 16 < xs.length
  · have hd1 : decide ((16 : Int) < (xs.length : Int)) = true := decide_eq_true (by omega)
    go_enter Try.func10, Try.ntmps10
    go_wp2_with (go_at_call 27; refine (speaks18_any _).mono ?_; rintro e w1 ⟨rfl, hb1⟩)
    go_ret
    exact ⟨rfl, hb1⟩
  have hd1 : decide ((16 : Int) < (xs.length : Int)) = false := decide_eq_false (by omega)
  by_cases h100 : 100 < n
  · have hd2 : decide ((100 : Int) < n) = true := decide_eq_true h100
    go_enter Try.func10, Try.ntmps10
    go_wp2_with (go_at_call 27; refine (speaks18_any _).mono ?_; rintro e w1 ⟨rfl, hb1⟩)
    go_ret
    exact ⟨rfl, hb1⟩
  have hd2 : decide ((100 : Int) < n) = false := decide_eq_false h100
  by_cases h0 : n < 0
  · have hd3 : decide (n < 0) = true := decide_eq_true h0
    go_enter Try.func10, Try.ntmps10
    go_wp2_with (go_at_call 27; refine (speaks18_any _).mono ?_; rintro e w1 ⟨rfl, hb1⟩)
    go_ret
    exact ⟨rfl, hb1⟩
  have hd3 : decide (n < 0) = false := decide_eq_false h0
  obtain ⟨nn, rfl⟩ : ∃ nn : Nat, n = (nn : Int) := ⟨n.toNat, by omega⟩
  have HL := Lib.hid (show xs.length ≤ 16 ∧ nn ≤ 100 by omega)
  clear h16 h100 h0
  go_enter Try.func10, Try.ntmps10
  go_wp2_with (go_at_call 27; refine (speaks18_any _).mono ?_; rintro e w1 ⟨rfl, hb1⟩)
  have HB1 := Lib.hid hb1
  have HX1 := Lib.hid (HX.out.below hb1)
  clear hb1 hd1 hd2 hd3
  refine (show Calls Try.prog 14 #[.int .i64 16] w1 _ from oNew 16 w1 (by omega) (by omega)).mono ?_
  rintro e w2 ⟨p, rfl, h2, hb2⟩
  have H2 := Lib.hid h2
  have HB2 := Lib.hid hb2
  have hL := HL.out
  clear h2 hb2
  go_wp2_with fail
  go_loopw [38] (fun t wr => ∃ i : Nat, t = .int .i64 i ∧ i ≤ xs.length ∧ Own w1.heap.size wr p (fillD xs i) ∧ Below w1.heap.size w1 wr) (fun t _ => xs.length - (intOf t).toNat)
  case atStart => exact ⟨0, rfl, Nat.zero_le _, H2.out, HB2.out⟩
  case round =>
    obtain ⟨i, rfl, hi, h3, hb3⟩ := hrel
    have H3 := Lib.hid h3
    have HB3 := Lib.hid hb3
    clear h3 hb3 H2 HB2
    by_cases hlt : i < xs.length
    · have hlt' : (i : Int) < (xs.length : Int) := by omega
      obtain ⟨g, off, rfl, hg, hc⟩ := bts_at (HX1.out.below HB3.out) hlt
      have hrd := hc i hlt
      obtain ⟨x, hx⟩ : ∃ x, x = xs[i] := ⟨_, rfl⟩
      rw [← hx] at hrd
      have hxs : xs[i]? = some x := by rw [hx]; exact List.getElem?_eq_getElem hlt
      have hUp := fillD_up xs i (by omega)
      by_cases hx0 : x = 0
      · have HF := Lib.hid (show fillD xs (i + 1) = fillD xs i by rw [fillD, hxs]; simp only; rw [if_pos hx0])
        have hx1 : x.toNat = 0 := by rw [hx0]; rfl
        rw [hx1] at hrd
        clear hx hxs hc hUp hx0 hx1
        go_wp2_with fail
        go_roundw
        case rel => exact ⟨i + 1, by go_num, by omega, by rw [HF.out]; exact H3.out, HB3.out⟩
        case measure => simp [intOf]; omega
      · have HF := Lib.hid (show fillD xs (i + 1) = (fillD xs i).put i (fx x) by rw [fillD, hxs]; simp only; rw [if_neg hx0])
        have hx1 : 0 < x.toNat := by
          rcases Nat.eq_zero_or_pos x.toNat with h | h
          · exact absurd (UInt8.toNat_inj.1 (by rw [h]; rfl)) hx0
          · exact h
        have hdx : decide ((0 : Int) < ((x.toNat : Nat) : Int)) = true := decide_eq_true (by omega)
        have HW := Lib.hid (show (fillD xs i).write (i : Int) (fx x) = (fillD xs (i + 1), 0) by rw [HF.out]; exact Dk.write_up hUp.1 hUp.2.1 (by rw [hUp.2.2.1]; omega))
        have HPn := Lib.hid (show (fillD xs i).pend.length ≤ 100000 by omega)
        have HBt := Lib.hid (built_fx x)
        clear hx hxs hc hUp hx0
        go_wp2_with (first | (refine wpList_build_row rfl _ _ rfl (bc (fx x)).toArray (Eq.trans (b := Try.prog.built 40 [(5, .int .u8 x.toNat)]) (by kernel_rfl) HBt.out) ?_))
        refine (oWrite w1.heap.size p (fillD xs i) (i : Int) (fx x) wr rfl HPn.out H3.out).mono ?_
        rintro e w4 ⟨rfl, h4, hb4⟩
        rw [HW.out] at h4 ⊢
        have H4 := Lib.hid h4
        have HB4 := Lib.hid (HB3.out.trans hb4)
        clear h4 hb4
        go_wp2_with fail
        go_roundw
        case rel => exact ⟨i + 1, by go_num, by omega, H4.out, HB4.out⟩
        case measure => simp [intOf]; omega
    · obtain rfl : i = xs.length := by omega
      have hUp := fillD_up xs xs.length (by omega)
      obtain ⟨hu1, hu2, hu3, hu4, m, hu5, hu6⟩ := hUp
      have hAll := fun j hj => fillD_all xs HL.out.1 j hj
      generalize fillD xs xs.length = F at *
      go_wp2_with fail
      refine (oSync w1.heap.size p F wr (by omega) H3.out).mono ?_
      rintro e w4 ⟨rfl, h4, hb4⟩
      rw [Dk.sync_up hu1] at h4 ⊢
      obtain ⟨D, hD⟩ : ∃ D : Dk, D = { F with good := F.now, pend := [] } := ⟨_, rfl⟩
      rw [← hD] at h4 ⊢
      have HD := Lib.hid (show D.down = false ∧ D.left = 0 ∧ D.good = D.now ∧ D.pend = [] ∧ D.writes = (m : Int) ∧ D.now.length = 16 ∧ ∀ j, j < 16 → D.now[j]? = some (fL xs j) by rw [hD]; exact ⟨hu1, hu2, rfl, rfl, hu5, hu3, hAll⟩)
      have HM := Lib.hid (show m ≤ 16 by omega)
      have H4 := Lib.hid h4
      have HB4 := Lib.hid (HB3.out.trans hb4)
      clear h4 hb4 hD hu1 hu2 hu3 hu4 hu5 hu6 hAll H3 HB3 hlt hi
      clear F
      go_wp2_with (first | (go_at_call 33; refine (dWrites_any p _ _ _ H4.out.1).mono ?_; rintro e w' ⟨rfl, rfl⟩; rw [HD.out.2.2.2.2.1]))
      refine (wipe_any w1.heap.size p D a (nn : Int) _ (by omega) (by rw [HD.out.2.2.2.1]; exact Nat.zero_le _) H4.out).mono ?_
      rintro e w5 ⟨rfl, h5, hb5⟩
      have HB5 := Lib.hid (HB4.out.trans hb5)
      have hw16 : wrap64 (16 - (nn : Int)) = 16 - (nn : Int) := by unfold wrap64; omega
      by_cases hout : 0 < nn ∧ (a < 0 ∨ 16 - (nn : Int) < a)
      · have HE := Lib.hid (show (D.wipe a nn).2 = 1 from wipe_out (m := m) HD.out.1 HD.out.2.1 (by have := HM.out; omega) HD.out.2.2.2.2.1 (by rw [HD.out.2.2.2.2.2.1]; omega) (by omega) (by omega) HAb.out.1 HAb.out.2 (by rw [HD.out.2.2.2.2.2.1]; exact hout.2))
        rw [HE.out]
        have hd1 : decide ((0 : Int) < (nn : Int)) = true := decide_eq_true (by omega)
        have hp : 0 < nn := hout.1
        clear h5 hb5
        by_cases ha0 : a < 0
        · have hd2 : decide (a < 0) = true := decide_eq_true ha0
          clear hout ha0
          go_wp2_with fail
          go_ret
          exact ⟨rfl, HB1.out.trans (HB5.out.mono HB1.out.size)⟩
        · have hd2 : decide (a < 0) = false := decide_eq_false ha0
          have hd3 : decide (16 - (nn : Int) < a) = true := decide_eq_true (by omega)
          clear hout ha0
          go_wp2_with fail
          go_ret
          exact ⟨rfl, HB1.out.trans (HB5.out.mono HB1.out.size)⟩
      · obtain ⟨aa, haa, hwa, han⟩ : ∃ aa : Nat, aa + nn ≤ 16 ∧ D.wipe a nn = D.wipe (aa : Int) nn ∧ (0 < nn → a = (aa : Int)) := by
          by_cases hz : nn = 0
          · subst hz
            exact ⟨0, by omega, rfl, fun h => by omega⟩
          · exact ⟨a.toNat, by omega, by rw [show ((a.toNat : Nat) : Int) = a by omega], fun _ => by omega⟩
        obtain ⟨E, hE1, hE2, hE3, hE4, hE5⟩ := wipe_in (a := aa) (n := nn) (m := m) HD.out.1 HD.out.2.1 HD.out.2.2.1 HD.out.2.2.2.1 (by have := HM.out; omega) HD.out.2.2.2.2.1 (by rw [HD.out.2.2.2.2.2.1]; omega) (by rw [HD.out.2.2.2.2.2.1]; omega)
        rw [hwa, hE1] at h5 ⊢
        obtain ⟨L, hLd⟩ : ∃ L, L = D.now := ⟨_, rfl⟩
        have HLf := Lib.hid (show L.length = 16 ∧ ∀ j, j < 16 → L[j]? = some (fL xs j) by rw [hLd]; exact HD.out.2.2.2.2.2)
        rw [← hLd] at hE2 hE3 hE5
        have HE := Lib.hid (And.intro hE2 (And.intro hE3 (And.intro hE4 hE5)))
        have HAn := Lib.hid (And.intro haa han)
        have H5 := Lib.hid h5
        have hc0 : decide ((0 : Int) < (nn : Int)) = decide (0 < nn) := by by_cases h : 0 < nn <;> simp [h]
        have HNo := Lib.hid hout
        clear h5 hb5 hwa hE1 hE2 hE3 hE4 hE5 haa han hLd hout
        have hcut : ∃ t15 : Bool, True := ⟨true, trivial⟩
        clear hcut
        by_cases hnn : 0 < nn
        · have ha : a = (aa : Int) := HAn.out.2 hnn
          have hd1 : decide ((0 : Int) < (nn : Int)) = true := decide_eq_true (by omega)
          have hd2 : decide (a < 0) = false := decide_eq_false (by omega)
          have hd3 : decide (16 - (nn : Int) < a) = false := decide_eq_false (by have := HAn.out.1; omega)
          have HNN := Lib.hid hnn
          have HAA := Lib.hid ha
          clear ha hc0
          go_wp2_with fail
          refine (show Calls Try.prog 23 #[.pointer (some ⟨p, 0, none⟩), .slice none 0 0] w5 _ from oCrash w1.heap.size p w5.heap.size E none 0 [] w5 (by rw [HE.out.2.2.1]; exact Nat.zero_le _) (by decide) (.inl rfl) (H5.out.now (Below.refl _ _)) H5.out.2 (fun a ha => by cases ha)).mono ?_
          rintro e w6 ⟨⟨v6, rfl⟩, h6, hb6⟩
          obtain ⟨Q, hQ⟩ : ∃ Q, Q = E.crash [] := ⟨_, rfl⟩
          rw [← hQ] at h6
          have HQ := Lib.hid (show Q.down = false ∧ Q.now = wz L aa nn ∧ Q.writes = ((m + wcnt L aa nn : Nat) : Int) by rw [hQ]; refine ⟨rfl, ?_, HE.out.2.2.2⟩; show crashL E.good E.pend [] = _; rw [crash_none]; exact HE.out.2.1)
          have HRd := Lib.hid (show ∀ i : Nat, i < 16 → Q.err (i : Int) = 0 ∧ Q.readS (i : Int) = if aa ≤ i ∧ i < aa + nn then zs else fL xs i from fun i hi => by
            have hl : Q.now.length = 16 := by rw [HQ.out.2.1, wz_len, HLf.out.1]
            have he : Q.err (i : Int) = 0 := by unfold Dk.err; rw [if_neg (by rw [HQ.out.1]; decide), if_neg (by rw [hl]; omega)]
            refine ⟨he, ?_⟩
            unfold Dk.readS
            rw [if_pos he, Int.toNat_natCast, HQ.out.2.1, List.getD_eq_getElem?_getD, wz_at _ _ _ _ (by rw [HLf.out.1]; exact hi)]
            split
            · rfl
            · rw [HLf.out.2 i hi]; rfl)
          have H6 := Lib.hid h6
          have HB6 := Lib.hid (HB5.out.trans hb6)
          clear h6 hb6 hQ
          go_wp2_with fail
          go_loopw [13, 75] (fun tm ti wq => ∃ (i cn : Nat), ti = .int .i64 i ∧ i ≤ 16 ∧ tm = .int .i64 cn ∧ cn = wcnt L aa (min (i - aa) nn) ∧ Own w1.heap.size wq p Q ∧ Below w1.heap.size w1 wq) (fun _ ti _ => 16 - (intOf ti).toNat)
          case atStart => exact ⟨0, 0, rfl, by omega, rfl, by rw [show min (0 - aa) nn = 0 by omega]; rfl, H6.out, HB6.out⟩
          case round =>
            obtain ⟨i, cn, rfl, hi, rfl, hcn, h7, hb7⟩ := hrel
            have H7 := Lib.hid h7
            have HB7 := Lib.hid hb7
            have HCn := Lib.hid hcn
            have HCl := Lib.hid (show cn ≤ 100 by rw [hcn]; have := wcnt_le L aa (min (i - aa) nn); omega)
            clear h7 hb7 hcn H6 HB6
            by_cases hlt : i < 16
            · have hlt' : (i : Int) < 16 := by omega
              have HStep := Lib.hid (wcnt_min L aa nn i)
              have HRi := Lib.hid (HRd.out i hlt)
              have HLi := Lib.hid (HLf.out.2 i hlt)
              have HFl := Lib.hid (fL_len xs i)
              go_wp2_with fail
              refine (oRead w1.heap.size p Q (i : Int) wr H7.out).mono ?_
              rintro e w8 ⟨rfl, hb8⟩
              rw [HRi.out.1, HRi.out.2]
              have H8 := Lib.hid (H7.out.below hb8)
              have HB8 := Lib.hid (HB7.out.trans (hb8.mono H7.out.2))
              have HX8 := Lib.hid (HX1.out.below HB8.out)
              clear hb8
              by_cases hcase : aa ≤ i ∧ i < aa + nn
              · by_cases hlen : i < xs.length
                · skip
                  have hin : aa ≤ i ∧ i < aa + nn := hcase
                  have hf1 : decide (a ≤ (i : Int)) = true := decide_eq_true (by have := HAA.out; omega)
                  have hf2 : decide ((i : Int) < a + (nn : Int)) = true := decide_eq_true (by have := HAA.out; omega)
                  have haN := HAn.out.1
                  have hwa : wrap64 (a + (nn : Int)) = a + (nn : Int) := by have := HAA.out; have := HL.out; unfold wrap64; omega
                  rw [if_pos hin]
                  obtain ⟨s, hs⟩ : ∃ s, s = zs := ⟨_, rfl⟩
                  rw [← hs]
                  have HSl := Lib.hid (show s.length = 64 by rw [hs]; rfl)
                  have HS := Lib.hid hs
                  have HIn := Lib.hid hin
                  clear hs hin
                  obtain ⟨g, off, rfl, hg, hc⟩ := bts_at HX8.out hlen
                  have hrd1 := hc i hlen
                  obtain ⟨x, hx⟩ : ∃ x, x = xs[i] := ⟨_, rfl⟩
                  rw [← hx] at hrd1
                  have hrd : ∀ o o', ((w8.alloc o).alloc o').cell? ⟨g, off + i, none⟩ = some (.int .u8 (x.toNat : Nat)) := fun o o' => by
                    rw [World.cell?_alloc_lt _ _ _ (by show g < (w8.alloc o).heap.size; rw [World.size_alloc]; omega), World.cell?_alloc_lt _ _ _ hg]
                    exact hrd1
                  have HOld := Lib.hid (show fL xs i = fx x by unfold fL; rw [hx, List.getElem?_eq_getElem hlen])
                  have hlen' : (i : Int) < (xs.length : Int) := by omega
                  clear hc hrd1 hx
                  go_upto_region 24 with (first
                    | (refine wpList_alloc_row rfl _ rfl (secv zs) (bc zs).toArray sec_zero rfl ?_)
                    | (refine wpList_build_row rfl _ #[] rfl (bc zs).toArray (by kernel_rfl) ?_)
                    | (refine wpList_store_row rfl _ _ _ rfl _ (bc s).toArray rfl rfl 40 (bc zs).toArray (heap_alloc_new _ _) (sec_info' _ HSl.out) (by rw [bc_size, bc_size, HSl.out]; rfl) (bc_all _) ?_
                       rw [World.setRow_alloc_new])
                    | (refine wpList_store_row rfl _ _ _ rfl _ (bc zs).toArray rfl rfl 40 (bc zs).toArray (heap_alloc_new _ _) sec_info (by rfl) (bc_all _) ?_
                       rw [World.setRow_alloc_new]))
                  go_upto_region 26 with fail
                  generalize hw9 : World.alloc (World.alloc _ _) _ = w9
                  obtain ⟨old, hold⟩ : ∃ old, old = fL xs i := ⟨_, rfl⟩
                  have HO := Lib.hid (show w9.heap[w8.heap.size + 1]? = some (.cells (bc old).toArray 40 (0, 0)) by rw [hold, HOld.out, ← hw9]; first | exact heap_alloc2_new _ _ _ | (rw [← set_fx]; exact heap_alloc2_new _ _ _))
                  have HSr := Lib.hid (show w9.heap[w8.heap.size]? = some (.cells (bc s).toArray 40 (0, 0)) by rw [← hw9]; exact heap_alloc2_old _ _ _)
                  have H9 := Lib.hid (show Own w1.heap.size w9 p Q by rw [← hw9]; exact (H8.out.alloc _).alloc _)
                  have HB9 := Lib.hid (show Below w1.heap.size w1 w9 by rw [← hw9]; exact (HB8.out.alloc H8.out.2 _).alloc (by rw [World.size_alloc]; exact Nat.le_succ_of_le H8.out.2) _)
                  have HOl := Lib.hid (show old.length = 64 by rw [hold]; exact fL_len xs i)
                  rw [← hold] at HLi
                  have HOd := Lib.hid hold
                  clear hw9 hold
                  have hcl := HCl.out
                  by_cases hoz : old = zs
                  · have HN := Lib.hid (show wcnt L aa (min (i + 1 - aa) nn) = cn by rw [HStep.out, ← HCn.out, if_neg (fun x => x.2 (by rw [HLi.out, hoz])), Nat.add_zero])
                    have HZ := Lib.hid hoz
                    clear hoz
                    go_wp2_with (first
                      | (refine wpListG_load_at (1, true) rfl (by kernel_rfl) _ _ rfl (w8.heap.size + 1) rfl 40 _ (0, 0) _ HO.out Try.underlying40 rfl (sec_info' _ HOl.out) ?_)
                      | (go_at_call 29; refine (blank_any old HOl.out _).mono ?_; rintro e wa ⟨rfl, hba⟩; rw [decide_eq_true HZ.out]; have HSa := Lib.hid ((hba.block _ (lt_of_heap HSr.out)).trans HSr.out); have Ha := Lib.hid (H9.out.below hba); have HBa := Lib.hid (HB9.out.trans (hba.mono H9.out.2)); clear hba)
                      | (refine wpListG_load_at (1, true) rfl (by kernel_rfl) _ _ rfl w8.heap.size rfl 40 _ (0, 0) _ HSa.out Try.underlying40 rfl (sec_info' _ HSl.out) ?_)
                      | (go_at_call 29; refine (blank_any s HSl.out _).mono ?_; rintro e wb ⟨rfl, hbb⟩; rw [decide_eq_true HS.out]; have Hb := Lib.hid (Ha.out.below hbb); have HBb := Lib.hid (HBa.out.trans (hbb.mono Ha.out.2)); clear hbb))
                    go_roundw
                    case rel => first | exact ⟨i + 1, cn, by go_num, by omega, rfl, HN.out.symm, Hb.out, HBb.out⟩ | (repeat apply Exists.intro; refine And.intro ?_ rfl; exact ⟨i + 1, cn, by go_num, by omega, rfl, HN.out.symm, Hb.out, HBb.out⟩)
                    case measure => simp [intOf]; omega
                  · have HN := Lib.hid (show wcnt L aa (min (i + 1 - aa) nn) = cn + 1 by rw [HStep.out, ← HCn.out, if_pos ⟨HIn.out, by rw [HLi.out]; intro x; injection x with x; exact hoz x⟩])
                    have HZ := Lib.hid hoz
                    clear hoz
                    go_wp2_with (first
                      | (refine wpListG_load_at (1, true) rfl (by kernel_rfl) _ _ rfl (w8.heap.size + 1) rfl 40 _ (0, 0) _ HO.out Try.underlying40 rfl (sec_info' _ HOl.out) ?_)
                      | (go_at_call 29; refine (blank_any old HOl.out _).mono ?_; rintro e wa ⟨rfl, hba⟩; rw [decide_eq_false HZ.out]; have HSa := Lib.hid ((hba.block _ (lt_of_heap HSr.out)).trans HSr.out); have Ha := Lib.hid (H9.out.below hba); have HBa := Lib.hid (HB9.out.trans (hba.mono H9.out.2)); clear hba)
                      | (refine wpListG_load_at (1, true) rfl (by kernel_rfl) _ _ rfl w8.heap.size rfl 40 _ (0, 0) _ HSa.out Try.underlying40 rfl (sec_info' _ HSl.out) ?_)
                      | (go_at_call 29; refine (blank_any s HSl.out _).mono ?_; rintro e wb ⟨rfl, hbb⟩; rw [decide_eq_true HS.out]; have Hb := Lib.hid (Ha.out.below hbb); have HBb := Lib.hid (HBa.out.trans (hbb.mono Ha.out.2)); clear hbb))
                    go_roundw
                    case rel => first | exact ⟨i + 1, cn + 1, by go_num, by omega, by go_num, HN.out.symm, Hb.out, HBb.out⟩ | (repeat apply Exists.intro; refine And.intro ?_ rfl; exact ⟨i + 1, cn + 1, by go_num, by omega, by go_num, HN.out.symm, Hb.out, HBb.out⟩)
                    case measure => simp [intOf]; omega
                · skip
                  have hin : aa ≤ i ∧ i < aa + nn := hcase
                  have hf1 : decide (a ≤ (i : Int)) = true := decide_eq_true (by have := HAA.out; omega)
                  have hf2 : decide ((i : Int) < a + (nn : Int)) = true := decide_eq_true (by have := HAA.out; omega)
                  have haN := HAn.out.1
                  have hwa : wrap64 (a + (nn : Int)) = a + (nn : Int) := by have := HAA.out; have := HL.out; unfold wrap64; omega
                  rw [if_pos hin]
                  obtain ⟨s, hs⟩ : ∃ s, s = zs := ⟨_, rfl⟩
                  rw [← hs]
                  have HSl := Lib.hid (show s.length = 64 by rw [hs]; rfl)
                  have HS := Lib.hid hs
                  have HIn := Lib.hid hin
                  clear hs hin
                  have HOld := Lib.hid (show fL xs i = zs by unfold fL; rw [List.getElem?_eq_none (by omega)])
                  have hlen' : ¬ (i : Int) < (xs.length : Int) := by omega
                  have hlend : decide ((i : Int) < (xs.length : Int)) = false := decide_eq_false hlen'
                  go_upto_region 24 with (first
                    | (refine wpList_alloc_row rfl _ rfl (secv zs) (bc zs).toArray sec_zero rfl ?_)
                    | (refine wpList_build_row rfl _ #[] rfl (bc zs).toArray (by kernel_rfl) ?_)
                    | (refine wpList_store_row rfl _ _ _ rfl _ (bc s).toArray rfl rfl 40 (bc zs).toArray (heap_alloc_new _ _) (sec_info' _ HSl.out) (by rw [bc_size, bc_size, HSl.out]; rfl) (bc_all _) ?_
                       rw [World.setRow_alloc_new])
                    | (refine wpList_store_row rfl _ _ _ rfl _ (bc zs).toArray rfl rfl 40 (bc zs).toArray (heap_alloc_new _ _) sec_info (by rfl) (bc_all _) ?_
                       rw [World.setRow_alloc_new]))
                  go_upto_region 26 with fail
                  generalize hw9 : World.alloc (World.alloc _ _) _ = w9
                  obtain ⟨old, hold⟩ : ∃ old, old = fL xs i := ⟨_, rfl⟩
                  have HO := Lib.hid (show w9.heap[w8.heap.size + 1]? = some (.cells (bc old).toArray 40 (0, 0)) by rw [hold, HOld.out, ← hw9]; exact heap_alloc2_new _ _ _)
                  have HSr := Lib.hid (show w9.heap[w8.heap.size]? = some (.cells (bc s).toArray 40 (0, 0)) by rw [← hw9]; exact heap_alloc2_old _ _ _)
                  have H9 := Lib.hid (show Own w1.heap.size w9 p Q by rw [← hw9]; exact (H8.out.alloc _).alloc _)
                  have HB9 := Lib.hid (show Below w1.heap.size w1 w9 by rw [← hw9]; exact (HB8.out.alloc H8.out.2 _).alloc (by rw [World.size_alloc]; exact Nat.le_succ_of_le H8.out.2) _)
                  have HOl := Lib.hid (show old.length = 64 by rw [hold]; exact fL_len xs i)
                  rw [← hold] at HLi
                  have HOd := Lib.hid hold
                  clear hw9 hold
                  have hcl := HCl.out
                  by_cases hoz : old = zs
                  · have HN := Lib.hid (show wcnt L aa (min (i + 1 - aa) nn) = cn by rw [HStep.out, ← HCn.out, if_neg (fun x => x.2 (by rw [HLi.out, hoz])), Nat.add_zero])
                    have HZ := Lib.hid hoz
                    clear hoz
                    go_wp2_with (first
                      | (refine wpListG_load_at (1, true) rfl (by kernel_rfl) _ _ rfl (w8.heap.size + 1) rfl 40 _ (0, 0) _ HO.out Try.underlying40 rfl (sec_info' _ HOl.out) ?_)
                      | (go_at_call 29; refine (blank_any old HOl.out _).mono ?_; rintro e wa ⟨rfl, hba⟩; rw [decide_eq_true HZ.out]; have HSa := Lib.hid ((hba.block _ (lt_of_heap HSr.out)).trans HSr.out); have Ha := Lib.hid (H9.out.below hba); have HBa := Lib.hid (HB9.out.trans (hba.mono H9.out.2)); clear hba)
                      | (refine wpListG_load_at (1, true) rfl (by kernel_rfl) _ _ rfl w8.heap.size rfl 40 _ (0, 0) _ HSa.out Try.underlying40 rfl (sec_info' _ HSl.out) ?_)
                      | (go_at_call 29; refine (blank_any s HSl.out _).mono ?_; rintro e wb ⟨rfl, hbb⟩; rw [decide_eq_true HS.out]; have Hb := Lib.hid (Ha.out.below hbb); have HBb := Lib.hid (HBa.out.trans (hbb.mono Ha.out.2)); clear hbb))
                    go_roundw
                    case rel => first | exact ⟨i + 1, cn, by go_num, by omega, rfl, HN.out.symm, Hb.out, HBb.out⟩ | (repeat apply Exists.intro; refine And.intro ?_ rfl; exact ⟨i + 1, cn, by go_num, by omega, rfl, HN.out.symm, Hb.out, HBb.out⟩)
                    case measure => simp [intOf]; omega
                  · have HN := Lib.hid (show wcnt L aa (min (i + 1 - aa) nn) = cn + 1 by rw [HStep.out, ← HCn.out, if_pos ⟨HIn.out, by rw [HLi.out]; intro x; injection x with x; exact hoz x⟩])
                    have HZ := Lib.hid hoz
                    clear hoz
                    go_wp2_with (first
                      | (refine wpListG_load_at (1, true) rfl (by kernel_rfl) _ _ rfl (w8.heap.size + 1) rfl 40 _ (0, 0) _ HO.out Try.underlying40 rfl (sec_info' _ HOl.out) ?_)
                      | (go_at_call 29; refine (blank_any old HOl.out _).mono ?_; rintro e wa ⟨rfl, hba⟩; rw [decide_eq_false HZ.out]; have HSa := Lib.hid ((hba.block _ (lt_of_heap HSr.out)).trans HSr.out); have Ha := Lib.hid (H9.out.below hba); have HBa := Lib.hid (HB9.out.trans (hba.mono H9.out.2)); clear hba)
                      | (refine wpListG_load_at (1, true) rfl (by kernel_rfl) _ _ rfl w8.heap.size rfl 40 _ (0, 0) _ HSa.out Try.underlying40 rfl (sec_info' _ HSl.out) ?_)
                      | (go_at_call 29; refine (blank_any s HSl.out _).mono ?_; rintro e wb ⟨rfl, hbb⟩; rw [decide_eq_true HS.out]; have Hb := Lib.hid (Ha.out.below hbb); have HBb := Lib.hid (HBa.out.trans (hbb.mono Ha.out.2)); clear hbb))
                    go_roundw
                    case rel => first | exact ⟨i + 1, cn + 1, by go_num, by omega, by go_num, HN.out.symm, Hb.out, HBb.out⟩ | (repeat apply Exists.intro; refine And.intro ?_ rfl; exact ⟨i + 1, cn + 1, by go_num, by omega, by go_num, HN.out.symm, Hb.out, HBb.out⟩)
                    case measure => simp [intOf]; omega
              · by_cases hai : aa ≤ i
                · have hcase : aa ≤ i ∧ ¬ i < aa + nn := ⟨hai, fun x => hcase ⟨hai, x⟩⟩
                  by_cases hlen : i < xs.length
                  · skip
                    have hin : ¬ (aa ≤ i ∧ i < aa + nn) := fun x => hcase.2 x.2
                    have hf1 : decide (a ≤ (i : Int)) = true := decide_eq_true (by have := HAA.out; omega)
                    have hf2 : decide ((i : Int) < a + (nn : Int)) = false := decide_eq_false (by have := HAA.out; omega)
                    have haN := HAn.out.1
                    have hwa : wrap64 (a + (nn : Int)) = a + (nn : Int) := by have := HAA.out; have := HL.out; unfold wrap64; omega
                    rw [if_neg hin]
                    obtain ⟨s, hs⟩ : ∃ s, s = fL xs i := ⟨_, rfl⟩
                    rw [← hs]
                    have HSl := Lib.hid (show s.length = 64 by rw [hs]; exact fL_len xs i)
                    have HS := Lib.hid hs
                    have HIn := Lib.hid hin
                    clear hs hin
                    obtain ⟨g, off, rfl, hg, hc⟩ := bts_at HX8.out hlen
                    have hrd1 := hc i hlen
                    obtain ⟨x, hx⟩ : ∃ x, x = xs[i] := ⟨_, rfl⟩
                    rw [← hx] at hrd1
                    have hrd : ∀ o o', ((w8.alloc o).alloc o').cell? ⟨g, off + i, none⟩ = some (.int .u8 (x.toNat : Nat)) := fun o o' => by
                      rw [World.cell?_alloc_lt _ _ _ (by show g < (w8.alloc o).heap.size; rw [World.size_alloc]; omega), World.cell?_alloc_lt _ _ _ hg]
                      exact hrd1
                    have HOld := Lib.hid (show fL xs i = fx x by unfold fL; rw [hx, List.getElem?_eq_getElem hlen])
                    have hlen' : (i : Int) < (xs.length : Int) := by omega
                    clear hc hrd1 hx
                    go_upto_region 24 with (first
                      | (refine wpList_alloc_row rfl _ rfl (secv zs) (bc zs).toArray sec_zero rfl ?_)
                      | (refine wpList_build_row rfl _ #[] rfl (bc zs).toArray (by kernel_rfl) ?_)
                      | (refine wpList_store_row rfl _ _ _ rfl _ (bc s).toArray rfl rfl 40 (bc zs).toArray (heap_alloc_new _ _) (sec_info' _ HSl.out) (by rw [bc_size, bc_size, HSl.out]; rfl) (bc_all _) ?_
                         rw [World.setRow_alloc_new])
                      | (refine wpList_store_row rfl _ _ _ rfl _ (bc zs).toArray rfl rfl 40 (bc zs).toArray (heap_alloc_new _ _) sec_info (by rfl) (bc_all _) ?_
                         rw [World.setRow_alloc_new]))
                    go_upto_region 26 with fail
                    generalize hw9 : World.alloc (World.alloc _ _) _ = w9
                    obtain ⟨old, hold⟩ : ∃ old, old = fL xs i := ⟨_, rfl⟩
                    have HO := Lib.hid (show w9.heap[w8.heap.size + 1]? = some (.cells (bc old).toArray 40 (0, 0)) by rw [hold, HOld.out, ← hw9]; first | exact heap_alloc2_new _ _ _ | (rw [← set_fx]; exact heap_alloc2_new _ _ _))
                    have HSr := Lib.hid (show w9.heap[w8.heap.size]? = some (.cells (bc s).toArray 40 (0, 0)) by rw [← hw9]; exact heap_alloc2_old _ _ _)
                    have H9 := Lib.hid (show Own w1.heap.size w9 p Q by rw [← hw9]; exact (H8.out.alloc _).alloc _)
                    have HB9 := Lib.hid (show Below w1.heap.size w1 w9 by rw [← hw9]; exact (HB8.out.alloc H8.out.2 _).alloc (by rw [World.size_alloc]; exact Nat.le_succ_of_le H8.out.2) _)
                    have HOl := Lib.hid (show old.length = 64 by rw [hold]; exact fL_len xs i)
                    rw [← hold] at HLi
                    have HOd := Lib.hid hold
                    clear hw9 hold
                    have HN := Lib.hid (show wcnt L aa (min (i + 1 - aa) nn) = cn by rw [HStep.out, ← HCn.out, if_neg (fun x => HIn.out x.1), Nat.add_zero])
                    have heq : ∀ w, (binOp .neq 40 (secv s) (secv old)).run Try.prog w = .ok (.bool false) w := fun w => by rw [sec_ne _ _ HSl.out HOl.out w, HS.out, HOd.out]; simp
                    go_wp2_with (first
                      | (refine wpListG_load_at (9, true) rfl (by kernel_rfl) _ _ rfl (w8.heap.size + 1) rfl 40 _ (0, 0) _ HO.out Try.underlying40 rfl (sec_info' _ HOl.out) ?_)
                      | (refine wpListG_load_at (9, true) rfl (by kernel_rfl) _ _ rfl w8.heap.size rfl 40 _ (0, 0) _ HSr.out Try.underlying40 rfl (sec_info' _ HSl.out) ?_))
                    go_roundw
                    case rel => first | exact ⟨i + 1, cn, by go_num, by omega, rfl, HN.out.symm, H9.out, HB9.out⟩ | (repeat apply Exists.intro; refine And.intro ?_ rfl; exact ⟨i + 1, cn, by go_num, by omega, rfl, HN.out.symm, H9.out, HB9.out⟩)
                    case measure => simp [intOf]; omega
                  · skip
                    have hin : ¬ (aa ≤ i ∧ i < aa + nn) := fun x => hcase.2 x.2
                    have hf1 : decide (a ≤ (i : Int)) = true := decide_eq_true (by have := HAA.out; omega)
                    have hf2 : decide ((i : Int) < a + (nn : Int)) = false := decide_eq_false (by have := HAA.out; omega)
                    have haN := HAn.out.1
                    have hwa : wrap64 (a + (nn : Int)) = a + (nn : Int) := by have := HAA.out; have := HL.out; unfold wrap64; omega
                    rw [if_neg hin]
                    obtain ⟨s, hs⟩ : ∃ s, s = fL xs i := ⟨_, rfl⟩
                    rw [← hs]
                    have HSl := Lib.hid (show s.length = 64 by rw [hs]; exact fL_len xs i)
                    have HS := Lib.hid hs
                    have HIn := Lib.hid hin
                    clear hs hin
                    have HOld := Lib.hid (show fL xs i = zs by unfold fL; rw [List.getElem?_eq_none (by omega)])
                    have hlen' : ¬ (i : Int) < (xs.length : Int) := by omega
                    have hlend : decide ((i : Int) < (xs.length : Int)) = false := decide_eq_false hlen'
                    go_upto_region 24 with (first
                      | (refine wpList_alloc_row rfl _ rfl (secv zs) (bc zs).toArray sec_zero rfl ?_)
                      | (refine wpList_build_row rfl _ #[] rfl (bc zs).toArray (by kernel_rfl) ?_)
                      | (refine wpList_store_row rfl _ _ _ rfl _ (bc s).toArray rfl rfl 40 (bc zs).toArray (heap_alloc_new _ _) (sec_info' _ HSl.out) (by rw [bc_size, bc_size, HSl.out]; rfl) (bc_all _) ?_
                         rw [World.setRow_alloc_new])
                      | (refine wpList_store_row rfl _ _ _ rfl _ (bc zs).toArray rfl rfl 40 (bc zs).toArray (heap_alloc_new _ _) sec_info (by rfl) (bc_all _) ?_
                         rw [World.setRow_alloc_new]))
                    go_upto_region 26 with fail
                    generalize hw9 : World.alloc (World.alloc _ _) _ = w9
                    obtain ⟨old, hold⟩ : ∃ old, old = fL xs i := ⟨_, rfl⟩
                    have HO := Lib.hid (show w9.heap[w8.heap.size + 1]? = some (.cells (bc old).toArray 40 (0, 0)) by rw [hold, HOld.out, ← hw9]; exact heap_alloc2_new _ _ _)
                    have HSr := Lib.hid (show w9.heap[w8.heap.size]? = some (.cells (bc s).toArray 40 (0, 0)) by rw [← hw9]; exact heap_alloc2_old _ _ _)
                    have H9 := Lib.hid (show Own w1.heap.size w9 p Q by rw [← hw9]; exact (H8.out.alloc _).alloc _)
                    have HB9 := Lib.hid (show Below w1.heap.size w1 w9 by rw [← hw9]; exact (HB8.out.alloc H8.out.2 _).alloc (by rw [World.size_alloc]; exact Nat.le_succ_of_le H8.out.2) _)
                    have HOl := Lib.hid (show old.length = 64 by rw [hold]; exact fL_len xs i)
                    rw [← hold] at HLi
                    have HOd := Lib.hid hold
                    clear hw9 hold
                    have HN := Lib.hid (show wcnt L aa (min (i + 1 - aa) nn) = cn by rw [HStep.out, ← HCn.out, if_neg (fun x => HIn.out x.1), Nat.add_zero])
                    have heq : ∀ w, (binOp .neq 40 (secv s) (secv old)).run Try.prog w = .ok (.bool false) w := fun w => by rw [sec_ne _ _ HSl.out HOl.out w, HS.out, HOd.out]; simp
                    go_wp2_with (first
                      | (refine wpListG_load_at (9, true) rfl (by kernel_rfl) _ _ rfl (w8.heap.size + 1) rfl 40 _ (0, 0) _ HO.out Try.underlying40 rfl (sec_info' _ HOl.out) ?_)
                      | (refine wpListG_load_at (9, true) rfl (by kernel_rfl) _ _ rfl w8.heap.size rfl 40 _ (0, 0) _ HSr.out Try.underlying40 rfl (sec_info' _ HSl.out) ?_))
                    go_roundw
                    case rel => first | exact ⟨i + 1, cn, by go_num, by omega, rfl, HN.out.symm, H9.out, HB9.out⟩ | (repeat apply Exists.intro; refine And.intro ?_ rfl; exact ⟨i + 1, cn, by go_num, by omega, rfl, HN.out.symm, H9.out, HB9.out⟩)
                    case measure => simp [intOf]; omega
                · have hcase : ¬ aa ≤ i := hai
                  by_cases hlen : i < xs.length
                  · skip
                    have hin : ¬ (aa ≤ i ∧ i < aa + nn) := fun x => hcase x.1
                    have hf1 : decide (a ≤ (i : Int)) = false := decide_eq_false (by have := HAA.out; omega)
                    have haN := HAn.out.1
                    have hwa : wrap64 (a + (nn : Int)) = a + (nn : Int) := by have := HAA.out; have := HL.out; unfold wrap64; omega
                    rw [if_neg hin]
                    obtain ⟨s, hs⟩ : ∃ s, s = fL xs i := ⟨_, rfl⟩
                    rw [← hs]
                    have HSl := Lib.hid (show s.length = 64 by rw [hs]; exact fL_len xs i)
                    have HS := Lib.hid hs
                    have HIn := Lib.hid hin
                    clear hs hin
                    obtain ⟨g, off, rfl, hg, hc⟩ := bts_at HX8.out hlen
                    have hrd1 := hc i hlen
                    obtain ⟨x, hx⟩ : ∃ x, x = xs[i] := ⟨_, rfl⟩
                    rw [← hx] at hrd1
                    have hrd : ∀ o o', ((w8.alloc o).alloc o').cell? ⟨g, off + i, none⟩ = some (.int .u8 (x.toNat : Nat)) := fun o o' => by
                      rw [World.cell?_alloc_lt _ _ _ (by show g < (w8.alloc o).heap.size; rw [World.size_alloc]; omega), World.cell?_alloc_lt _ _ _ hg]
                      exact hrd1
                    have HOld := Lib.hid (show fL xs i = fx x by unfold fL; rw [hx, List.getElem?_eq_getElem hlen])
                    have hlen' : (i : Int) < (xs.length : Int) := by omega
                    clear hc hrd1 hx
                    go_upto_region 24 with (first
                      | (refine wpList_alloc_row rfl _ rfl (secv zs) (bc zs).toArray sec_zero rfl ?_)
                      | (refine wpList_build_row rfl _ #[] rfl (bc zs).toArray (by kernel_rfl) ?_)
                      | (refine wpList_store_row rfl _ _ _ rfl _ (bc s).toArray rfl rfl 40 (bc zs).toArray (heap_alloc_new _ _) (sec_info' _ HSl.out) (by rw [bc_size, bc_size, HSl.out]; rfl) (bc_all _) ?_
                         rw [World.setRow_alloc_new])
                      | (refine wpList_store_row rfl _ _ _ rfl _ (bc zs).toArray rfl rfl 40 (bc zs).toArray (heap_alloc_new _ _) sec_info (by rfl) (bc_all _) ?_
                         rw [World.setRow_alloc_new]))
                    go_upto_region 26 with fail
                    generalize hw9 : World.alloc (World.alloc _ _) _ = w9
                    obtain ⟨old, hold⟩ : ∃ old, old = fL xs i := ⟨_, rfl⟩
                    have HO := Lib.hid (show w9.heap[w8.heap.size + 1]? = some (.cells (bc old).toArray 40 (0, 0)) by rw [hold, HOld.out, ← hw9]; first | exact heap_alloc2_new _ _ _ | (rw [← set_fx]; exact heap_alloc2_new _ _ _))
                    have HSr := Lib.hid (show w9.heap[w8.heap.size]? = some (.cells (bc s).toArray 40 (0, 0)) by rw [← hw9]; exact heap_alloc2_old _ _ _)
                    have H9 := Lib.hid (show Own w1.heap.size w9 p Q by rw [← hw9]; exact (H8.out.alloc _).alloc _)
                    have HB9 := Lib.hid (show Below w1.heap.size w1 w9 by rw [← hw9]; exact (HB8.out.alloc H8.out.2 _).alloc (by rw [World.size_alloc]; exact Nat.le_succ_of_le H8.out.2) _)
                    have HOl := Lib.hid (show old.length = 64 by rw [hold]; exact fL_len xs i)
                    rw [← hold] at HLi
                    have HOd := Lib.hid hold
                    clear hw9 hold
                    have HN := Lib.hid (show wcnt L aa (min (i + 1 - aa) nn) = cn by rw [HStep.out, ← HCn.out, if_neg (fun x => HIn.out x.1), Nat.add_zero])
                    have heq : ∀ w, (binOp .neq 40 (secv s) (secv old)).run Try.prog w = .ok (.bool false) w := fun w => by rw [sec_ne _ _ HSl.out HOl.out w, HS.out, HOd.out]; simp
                    go_wp2_with (first
                      | (refine wpListG_load_at (9, true) rfl (by kernel_rfl) _ _ rfl (w8.heap.size + 1) rfl 40 _ (0, 0) _ HO.out Try.underlying40 rfl (sec_info' _ HOl.out) ?_)
                      | (refine wpListG_load_at (9, true) rfl (by kernel_rfl) _ _ rfl w8.heap.size rfl 40 _ (0, 0) _ HSr.out Try.underlying40 rfl (sec_info' _ HSl.out) ?_))
                    go_roundw
                    case rel => first | exact ⟨i + 1, cn, by go_num, by omega, rfl, HN.out.symm, H9.out, HB9.out⟩ | (repeat apply Exists.intro; refine And.intro ?_ rfl; exact ⟨i + 1, cn, by go_num, by omega, rfl, HN.out.symm, H9.out, HB9.out⟩)
                    case measure => simp [intOf]; omega
                  · skip
                    have hin : ¬ (aa ≤ i ∧ i < aa + nn) := fun x => hcase x.1
                    have hf1 : decide (a ≤ (i : Int)) = false := decide_eq_false (by have := HAA.out; omega)
                    have haN := HAn.out.1
                    have hwa : wrap64 (a + (nn : Int)) = a + (nn : Int) := by have := HAA.out; have := HL.out; unfold wrap64; omega
                    rw [if_neg hin]
                    obtain ⟨s, hs⟩ : ∃ s, s = fL xs i := ⟨_, rfl⟩
                    rw [← hs]
                    have HSl := Lib.hid (show s.length = 64 by rw [hs]; exact fL_len xs i)
                    have HS := Lib.hid hs
                    have HIn := Lib.hid hin
                    clear hs hin
                    have HOld := Lib.hid (show fL xs i = zs by unfold fL; rw [List.getElem?_eq_none (by omega)])
                    have hlen' : ¬ (i : Int) < (xs.length : Int) := by omega
                    have hlend : decide ((i : Int) < (xs.length : Int)) = false := decide_eq_false hlen'
                    go_upto_region 24 with (first
                      | (refine wpList_alloc_row rfl _ rfl (secv zs) (bc zs).toArray sec_zero rfl ?_)
                      | (refine wpList_build_row rfl _ #[] rfl (bc zs).toArray (by kernel_rfl) ?_)
                      | (refine wpList_store_row rfl _ _ _ rfl _ (bc s).toArray rfl rfl 40 (bc zs).toArray (heap_alloc_new _ _) (sec_info' _ HSl.out) (by rw [bc_size, bc_size, HSl.out]; rfl) (bc_all _) ?_
                         rw [World.setRow_alloc_new])
                      | (refine wpList_store_row rfl _ _ _ rfl _ (bc zs).toArray rfl rfl 40 (bc zs).toArray (heap_alloc_new _ _) sec_info (by rfl) (bc_all _) ?_
                         rw [World.setRow_alloc_new]))
                    go_upto_region 26 with fail
                    generalize hw9 : World.alloc (World.alloc _ _) _ = w9
                    obtain ⟨old, hold⟩ : ∃ old, old = fL xs i := ⟨_, rfl⟩
                    have HO := Lib.hid (show w9.heap[w8.heap.size + 1]? = some (.cells (bc old).toArray 40 (0, 0)) by rw [hold, HOld.out, ← hw9]; exact heap_alloc2_new _ _ _)
                    have HSr := Lib.hid (show w9.heap[w8.heap.size]? = some (.cells (bc s).toArray 40 (0, 0)) by rw [← hw9]; exact heap_alloc2_old _ _ _)
                    have H9 := Lib.hid (show Own w1.heap.size w9 p Q by rw [← hw9]; exact (H8.out.alloc _).alloc _)
                    have HB9 := Lib.hid (show Below w1.heap.size w1 w9 by rw [← hw9]; exact (HB8.out.alloc H8.out.2 _).alloc (by rw [World.size_alloc]; exact Nat.le_succ_of_le H8.out.2) _)
                    have HOl := Lib.hid (show old.length = 64 by rw [hold]; exact fL_len xs i)
                    rw [← hold] at HLi
                    have HOd := Lib.hid hold
                    clear hw9 hold
                    have HN := Lib.hid (show wcnt L aa (min (i + 1 - aa) nn) = cn by rw [HStep.out, ← HCn.out, if_neg (fun x => HIn.out x.1), Nat.add_zero])
                    have heq : ∀ w, (binOp .neq 40 (secv s) (secv old)).run Try.prog w = .ok (.bool false) w := fun w => by rw [sec_ne _ _ HSl.out HOl.out w, HS.out, HOd.out]; simp
                    go_wp2_with (first
                      | (refine wpListG_load_at (9, true) rfl (by kernel_rfl) _ _ rfl (w8.heap.size + 1) rfl 40 _ (0, 0) _ HO.out Try.underlying40 rfl (sec_info' _ HOl.out) ?_)
                      | (refine wpListG_load_at (9, true) rfl (by kernel_rfl) _ _ rfl w8.heap.size rfl 40 _ (0, 0) _ HSr.out Try.underlying40 rfl (sec_info' _ HSl.out) ?_))
                    go_roundw
                    case rel => first | exact ⟨i + 1, cn, by go_num, by omega, rfl, HN.out.symm, H9.out, HB9.out⟩ | (repeat apply Exists.intro; refine And.intro ?_ rfl; exact ⟨i + 1, cn, by go_num, by omega, rfl, HN.out.symm, H9.out, HB9.out⟩)
                    case measure => simp [intOf]; omega
            · obtain rfl : i = 16 := by omega
              have HMn := Lib.hid (show cn = wcnt L aa nn by rw [HCn.out, show min (16 - aa) nn = nn by have := HAn.out.1; omega])
              have HWr := Lib.hid (dWrites_any p _ _ wr H7.out.1)
              rw [HQ.out.2.2, ← HMn.out] at HWr
              have hcl := HCl.out
              have hmm := HM.out
              have hws : wrap64 ((m : Int) + (cn : Int)) = ((m + cn : Nat) : Int) := by unfold wrap64; omega
              go_wp2_with (first | (go_at_call 33; refine HWr.out.mono ?_; rintro e w' ⟨rfl, rfl⟩))
              go_ret
              exact ⟨by simp, HB1.out.trans (HB7.out.mono HB1.out.size)⟩
        · have hz : nn = 0 := by omega
          have hd1 : decide ((0 : Int) < (nn : Int)) = false := decide_eq_false (by omega)
          have HNZ := Lib.hid hz
          clear hz hc0
          go_wp2_with fail
          refine (show Calls Try.prog 23 #[.pointer (some ⟨p, 0, none⟩), .slice none 0 0] w5 _ from oCrash w1.heap.size p w5.heap.size E none 0 [] w5 (by rw [HE.out.2.2.1]; exact Nat.zero_le _) (by decide) (.inl rfl) (H5.out.now (Below.refl _ _)) H5.out.2 (fun a ha => by cases ha)).mono ?_
          rintro e w6 ⟨⟨v6, rfl⟩, h6, hb6⟩
          obtain ⟨Q, hQ⟩ : ∃ Q, Q = E.crash [] := ⟨_, rfl⟩
          rw [← hQ] at h6
          have HQ := Lib.hid (show Q.down = false ∧ Q.now = wz L aa nn ∧ Q.writes = ((m + wcnt L aa nn : Nat) : Int) by rw [hQ]; refine ⟨rfl, ?_, HE.out.2.2.2⟩; show crashL E.good E.pend [] = _; rw [crash_none]; exact HE.out.2.1)
          have HRd := Lib.hid (show ∀ i : Nat, i < 16 → Q.err (i : Int) = 0 ∧ Q.readS (i : Int) = if aa ≤ i ∧ i < aa + nn then zs else fL xs i from fun i hi => by
            have hl : Q.now.length = 16 := by rw [HQ.out.2.1, wz_len, HLf.out.1]
            have he : Q.err (i : Int) = 0 := by unfold Dk.err; rw [if_neg (by rw [HQ.out.1]; decide), if_neg (by rw [hl]; omega)]
            refine ⟨he, ?_⟩
            unfold Dk.readS
            rw [if_pos he, Int.toNat_natCast, HQ.out.2.1, List.getD_eq_getElem?_getD, wz_at _ _ _ _ (by rw [HLf.out.1]; exact hi)]
            split
            · rfl
            · rw [HLf.out.2 i hi]; rfl)
          have H6 := Lib.hid h6
          have HB6 := Lib.hid (HB5.out.trans hb6)
          clear h6 hb6 hQ
          go_wp2_with fail
          go_loopw [13, 75] (fun tm ti wq => ∃ (i cn : Nat), ti = .int .i64 i ∧ i ≤ 16 ∧ tm = .int .i64 cn ∧ cn = wcnt L aa (min (i - aa) nn) ∧ Own w1.heap.size wq p Q ∧ Below w1.heap.size w1 wq) (fun _ ti _ => 16 - (intOf ti).toNat)
          case atStart => exact ⟨0, 0, rfl, by omega, rfl, by rw [show min (0 - aa) nn = 0 by omega]; rfl, H6.out, HB6.out⟩
          case round =>
            obtain ⟨i, cn, rfl, hi, rfl, hcn, h7, hb7⟩ := hrel
            have H7 := Lib.hid h7
            have HB7 := Lib.hid hb7
            have HCn := Lib.hid hcn
            have HCl := Lib.hid (show cn ≤ 100 by rw [hcn]; have := wcnt_le L aa (min (i - aa) nn); omega)
            clear h7 hb7 hcn H6 HB6
            by_cases hlt : i < 16
            · have hlt' : (i : Int) < 16 := by omega
              have HStep := Lib.hid (wcnt_min L aa nn i)
              have HRi := Lib.hid (HRd.out i hlt)
              have HLi := Lib.hid (HLf.out.2 i hlt)
              have HFl := Lib.hid (fL_len xs i)
              go_wp2_with fail
              refine (oRead w1.heap.size p Q (i : Int) wr H7.out).mono ?_
              rintro e w8 ⟨rfl, hb8⟩
              rw [HRi.out.1, HRi.out.2]
              have H8 := Lib.hid (H7.out.below hb8)
              have HB8 := Lib.hid (HB7.out.trans (hb8.mono H7.out.2))
              have HX8 := Lib.hid (HX1.out.below HB8.out)
              clear hb8
              by_cases hlen : i < xs.length
              · skip
                have hin : ¬ (aa ≤ i ∧ i < aa + nn) := fun x => by have := HNZ.out; omega

                rw [if_neg hin]
                obtain ⟨s, hs⟩ : ∃ s, s = fL xs i := ⟨_, rfl⟩
                rw [← hs]
                have HSl := Lib.hid (show s.length = 64 by rw [hs]; exact fL_len xs i)
                have HS := Lib.hid hs
                have HIn := Lib.hid hin
                clear hs hin
                obtain ⟨g, off, rfl, hg, hc⟩ := bts_at HX8.out hlen
                have hrd1 := hc i hlen
                obtain ⟨x, hx⟩ : ∃ x, x = xs[i] := ⟨_, rfl⟩
                rw [← hx] at hrd1
                have hrd : ∀ o o', ((w8.alloc o).alloc o').cell? ⟨g, off + i, none⟩ = some (.int .u8 (x.toNat : Nat)) := fun o o' => by
                  rw [World.cell?_alloc_lt _ _ _ (by show g < (w8.alloc o).heap.size; rw [World.size_alloc]; omega), World.cell?_alloc_lt _ _ _ hg]
                  exact hrd1
                have HOld := Lib.hid (show fL xs i = fx x by unfold fL; rw [hx, List.getElem?_eq_getElem hlen])
                have hlen' : (i : Int) < (xs.length : Int) := by omega
                clear hc hrd1 hx
                go_upto_region 24 with (first
                  | (refine wpList_alloc_row rfl _ rfl (secv zs) (bc zs).toArray sec_zero rfl ?_)
                  | (refine wpList_build_row rfl _ #[] rfl (bc zs).toArray (by kernel_rfl) ?_)
                  | (refine wpList_store_row rfl _ _ _ rfl _ (bc s).toArray rfl rfl 40 (bc zs).toArray (heap_alloc_new _ _) (sec_info' _ HSl.out) (by rw [bc_size, bc_size, HSl.out]; rfl) (bc_all _) ?_
                     rw [World.setRow_alloc_new])
                  | (refine wpList_store_row rfl _ _ _ rfl _ (bc zs).toArray rfl rfl 40 (bc zs).toArray (heap_alloc_new _ _) sec_info (by rfl) (bc_all _) ?_
                     rw [World.setRow_alloc_new]))
                go_upto_region 26 with fail
                generalize hw9 : World.alloc (World.alloc _ _) _ = w9
                obtain ⟨old, hold⟩ : ∃ old, old = fL xs i := ⟨_, rfl⟩
                have HO := Lib.hid (show w9.heap[w8.heap.size + 1]? = some (.cells (bc old).toArray 40 (0, 0)) by rw [hold, HOld.out, ← hw9]; first | exact heap_alloc2_new _ _ _ | (rw [← set_fx]; exact heap_alloc2_new _ _ _))
                have HSr := Lib.hid (show w9.heap[w8.heap.size]? = some (.cells (bc s).toArray 40 (0, 0)) by rw [← hw9]; exact heap_alloc2_old _ _ _)
                have H9 := Lib.hid (show Own w1.heap.size w9 p Q by rw [← hw9]; exact (H8.out.alloc _).alloc _)
                have HB9 := Lib.hid (show Below w1.heap.size w1 w9 by rw [← hw9]; exact (HB8.out.alloc H8.out.2 _).alloc (by rw [World.size_alloc]; exact Nat.le_succ_of_le H8.out.2) _)
                have HOl := Lib.hid (show old.length = 64 by rw [hold]; exact fL_len xs i)
                rw [← hold] at HLi
                have HOd := Lib.hid hold
                clear hw9 hold
                have HN := Lib.hid (show wcnt L aa (min (i + 1 - aa) nn) = cn by rw [HStep.out, ← HCn.out, if_neg (fun x => HIn.out x.1), Nat.add_zero])
                have heq : ∀ w, (binOp .neq 40 (secv s) (secv old)).run Try.prog w = .ok (.bool false) w := fun w => by rw [sec_ne _ _ HSl.out HOl.out w, HS.out, HOd.out]; simp
                go_wp2_with (first
                  | (refine wpListG_load_at (9, true) rfl (by kernel_rfl) _ _ rfl (w8.heap.size + 1) rfl 40 _ (0, 0) _ HO.out Try.underlying40 rfl (sec_info' _ HOl.out) ?_)
                  | (refine wpListG_load_at (9, true) rfl (by kernel_rfl) _ _ rfl w8.heap.size rfl 40 _ (0, 0) _ HSr.out Try.underlying40 rfl (sec_info' _ HSl.out) ?_))
                go_roundw
                case rel => first | exact ⟨i + 1, cn, by go_num, by omega, rfl, HN.out.symm, H9.out, HB9.out⟩ | (repeat apply Exists.intro; refine And.intro ?_ rfl; exact ⟨i + 1, cn, by go_num, by omega, rfl, HN.out.symm, H9.out, HB9.out⟩)
                case measure => simp [intOf]; omega
              · skip
                have hin : ¬ (aa ≤ i ∧ i < aa + nn) := fun x => by have := HNZ.out; omega

                rw [if_neg hin]
                obtain ⟨s, hs⟩ : ∃ s, s = fL xs i := ⟨_, rfl⟩
                rw [← hs]
                have HSl := Lib.hid (show s.length = 64 by rw [hs]; exact fL_len xs i)
                have HS := Lib.hid hs
                have HIn := Lib.hid hin
                clear hs hin
                have HOld := Lib.hid (show fL xs i = zs by unfold fL; rw [List.getElem?_eq_none (by omega)])
                have hlen' : ¬ (i : Int) < (xs.length : Int) := by omega
                have hlend : decide ((i : Int) < (xs.length : Int)) = false := decide_eq_false hlen'
                go_upto_region 24 with (first
                  | (refine wpList_alloc_row rfl _ rfl (secv zs) (bc zs).toArray sec_zero rfl ?_)
                  | (refine wpList_build_row rfl _ #[] rfl (bc zs).toArray (by kernel_rfl) ?_)
                  | (refine wpList_store_row rfl _ _ _ rfl _ (bc s).toArray rfl rfl 40 (bc zs).toArray (heap_alloc_new _ _) (sec_info' _ HSl.out) (by rw [bc_size, bc_size, HSl.out]; rfl) (bc_all _) ?_
                     rw [World.setRow_alloc_new])
                  | (refine wpList_store_row rfl _ _ _ rfl _ (bc zs).toArray rfl rfl 40 (bc zs).toArray (heap_alloc_new _ _) sec_info (by rfl) (bc_all _) ?_
                     rw [World.setRow_alloc_new]))
                go_upto_region 26 with fail
                generalize hw9 : World.alloc (World.alloc _ _) _ = w9
                obtain ⟨old, hold⟩ : ∃ old, old = fL xs i := ⟨_, rfl⟩
                have HO := Lib.hid (show w9.heap[w8.heap.size + 1]? = some (.cells (bc old).toArray 40 (0, 0)) by rw [hold, HOld.out, ← hw9]; exact heap_alloc2_new _ _ _)
                have HSr := Lib.hid (show w9.heap[w8.heap.size]? = some (.cells (bc s).toArray 40 (0, 0)) by rw [← hw9]; exact heap_alloc2_old _ _ _)
                have H9 := Lib.hid (show Own w1.heap.size w9 p Q by rw [← hw9]; exact (H8.out.alloc _).alloc _)
                have HB9 := Lib.hid (show Below w1.heap.size w1 w9 by rw [← hw9]; exact (HB8.out.alloc H8.out.2 _).alloc (by rw [World.size_alloc]; exact Nat.le_succ_of_le H8.out.2) _)
                have HOl := Lib.hid (show old.length = 64 by rw [hold]; exact fL_len xs i)
                rw [← hold] at HLi
                have HOd := Lib.hid hold
                clear hw9 hold
                have HN := Lib.hid (show wcnt L aa (min (i + 1 - aa) nn) = cn by rw [HStep.out, ← HCn.out, if_neg (fun x => HIn.out x.1), Nat.add_zero])
                have heq : ∀ w, (binOp .neq 40 (secv s) (secv old)).run Try.prog w = .ok (.bool false) w := fun w => by rw [sec_ne _ _ HSl.out HOl.out w, HS.out, HOd.out]; simp
                go_wp2_with (first
                  | (refine wpListG_load_at (9, true) rfl (by kernel_rfl) _ _ rfl (w8.heap.size + 1) rfl 40 _ (0, 0) _ HO.out Try.underlying40 rfl (sec_info' _ HOl.out) ?_)
                  | (refine wpListG_load_at (9, true) rfl (by kernel_rfl) _ _ rfl w8.heap.size rfl 40 _ (0, 0) _ HSr.out Try.underlying40 rfl (sec_info' _ HSl.out) ?_))
                go_roundw
                case rel => first | exact ⟨i + 1, cn, by go_num, by omega, rfl, HN.out.symm, H9.out, HB9.out⟩ | (repeat apply Exists.intro; refine And.intro ?_ rfl; exact ⟨i + 1, cn, by go_num, by omega, rfl, HN.out.symm, H9.out, HB9.out⟩)
                case measure => simp [intOf]; omega
            · obtain rfl : i = 16 := by omega
              have HMn := Lib.hid (show cn = wcnt L aa nn by rw [HCn.out, show min (16 - aa) nn = nn by have := HAn.out.1; omega])
              have HWr := Lib.hid (dWrites_any p _ _ wr H7.out.1)
              rw [HQ.out.2.2, ← HMn.out] at HWr
              have hcl := HCl.out
              have hmm := HM.out
              have hws : wrap64 ((m : Int) + (cn : Int)) = ((m + cn : Nat) : Int) := by unfold wrap64; omega
              go_wp2_with (first | (go_at_call 33; refine HWr.out.mono ?_; rintro e w' ⟨rfl, rfl⟩))
              go_ret
              exact ⟨by simp, HB1.out.trans (HB7.out.mono HB1.out.size)⟩

end Go.Proofs.Ytmgkbgjchcekpaa
