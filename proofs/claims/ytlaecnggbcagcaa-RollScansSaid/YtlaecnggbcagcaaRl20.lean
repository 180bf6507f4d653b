/- Contract: moietyref19.one: the entry that sectors begin with. -/
import Derived.Test.YtlaecnggbcagcaaRl19
namespace Go.Proofs.Ytlaecnggbcagcaa
open Go.RowKit MM
set_option linter.unusedVariables false
set_option linter.unusedSimpArgs false

/-- Who may be there yet, of whom it is known how many sectors he has. -/
def CandN (l : List (List UInt8)) (n i : Nat) (acc : List UInt8) : Prop := ∀ b, Fst l b → needN b.length = n ∧ acc = b.take (60 * i)
theorem candN_zero {l : List (List UInt8)} {s : List UInt8} (hs : l[0]? = some s) {f : UInt8} {r : List UInt8} (ho : openL s = some (f :: r)) : CandN l (f.toNat + 1) 0 [] := fun b hb => by
  have h := (cand_head (cand_zero l) hs ho hb).1
  have := needN_pos b.length
  exact ⟨by omega, rfl⟩
theorem candN_fail {l : List (List UInt8)} {n i : Nat} {acc : List UInt8} (h : CandN l n i acc) (hi : i < n) {s : List UInt8} (hs : l[i]? = some s) (ho : openL s = none ∨ openL s = some []) : ∀ b, ¬ Fst l b := fun b hb => by
  have h1 := hb.get (i := i) (by rw [(h b hb).1]; exact hi)
  rw [hs] at h1
  injection h1 with h1
  have h2 := openL_sealL _ (partL_len b i)
  rw [← h1] at h2
  rcases ho with ho | ho
  · rw [ho] at h2; cases h2
  · rw [ho] at h2; injection h2 with h2; cases h2
theorem candN_next {l : List (List UInt8)} {n i : Nat} {acc : List UInt8} (h : CandN l n i acc) (hi : i < n) {s : List UInt8} (hs : l[i]? = some s) {f : UInt8} {r : List UInt8} (ho : openL s = some (f :: r)) : CandN l n (i + 1) (acc ++ r) := fun b hb => by
  have h1 := hb.get (i := i) (by rw [(h b hb).1]; exact hi)
  rw [hs] at h1
  injection h1 with h1
  have h2 := openL_sealL _ (partL_len b i)
  rw [← h1, ho] at h2
  injection h2 with h2
  unfold partL at h2
  injection h2 with _ h3
  exact ⟨(h b hb).1, by rw [take_step, ← (h b hb).2, h3]⟩
theorem candN_end {l : List (List UInt8)} {n : Nat} {acc : List UInt8} (h : CandN l n n acc) (hne : l.take n ≠ secsL acc) : ∀ b, ¬ Fst l b := fun b hb => by
  obtain ⟨h1, h2⟩ := h b hb
  rw [← h1, take_all] at h2
  apply hne
  obtain ⟨t, rfl⟩ := hb.2
  rw [h2, ← h1, ← secsL_len, List.take_left]
theorem candN_len {l : List (List UInt8)} {n : Nat} {acc : List UInt8} (h : CandN l n n acc) (hne : needN acc.length ≠ n) : ∀ b, ¬ Fst l b := fun b hb => by
  obtain ⟨h1, h2⟩ := h b hb
  rw [← h1, take_all] at h2
  exact hne (by rw [h2]; exact h1)

def OnePost (l : List (List UInt8)) (w : World) (e : Ending) (w' : World) : Prop :=
  Below w.heap.size w w' ∧ ((∃ b A c, Fst l b ∧ e = .returned (.tuple #[.slice A b.length c, .int .i64 (needN b.length : Nat)]) ∧ w'.ownsRow 0 5 1 (.slice A b.length c) b.length (bc b) ∧ ∀ k, ob A = some k → w.heap.size ≤ k) ∨ (∀ b, ¬ Fst l b) ∧ e = .returned (.tuple #[.slice none 0 0, .int .i64 0]))

set_option maxHeartbeats 4000000 in
set_option maxRecDepth 100000 in
theorem rone_any (A : Option Addr) (c : Nat) (l : List (List UInt8)) (w : World) (hA : Sls w A l) (hs : ∀ s ∈ l, s.length = 64) (hl : l.length ≤ 100000) :
    Calls Try.prog 66 #[.slice A l.length c] w (OnePost l w) := by
  have HA := Lib.hid hA
  have HS := Lib.hid hs
  have HL := Lib.hid hl
  have hl' : (l.length : Int) ≤ 100000 := by omega
  obtain ⟨i1, hi1, hy0, hy1, hy2⟩ := info_parts byte_info
  obtain ⟨i2, hi2, hz0, hz1, hz2⟩ := info_parts sec_info3
  clear hA hs
  by_cases h0 : l.length = 0
  · have h0' : (l.length : Int) = 0 := by omega
    have HNo := Lib.hid (show ∀ b, ¬ Fst l b from fun b hb => by have := hb.le; have := needN_pos b.length; omega)
    clear h0
    go_enter Try.func66, Try.ntmps66
    go_wp2_with fail
    go_ret2
    exact ⟨Below.refl _ _, .inr ⟨HNo.out, rfl⟩⟩
  have h0' : ¬ (l.length : Int) = 0 := by omega
  have h0p : (0 : Int) < (l.length : Int) := by omega
  obtain ⟨s0, hs0⟩ : ∃ s, l[0]? = some s := ⟨_, List.getElem?_eq_getElem (by omega)⟩
  have HG0 := Lib.hid hs0
  have HS0 := Lib.hid (HS.out s0 (List.mem_of_getElem? hs0))
  obtain ⟨ba, oa, rfl, hba, hra⟩ := HA.out.at_ (i := 0) (by omega)
  have HR0 := Lib.hid (show w.rangeAt ba oa (bc s0) by have := hra 0 s0 hs0; rwa [Nat.zero_mul, Nat.add_zero] at this)
  have HOp0 := Lib.hid (fun w9 => ropenO_any s0 HS0.out w9)
  have HRa := Lib.hid hra
  have HBa := Lib.hid hba
  clear hs0 hba hra
  cases hop : openL s0 with
  | none =>
    have HNo := Lib.hid (cand_fail (cand_zero l) HG0.out (.inl hop))
    unfold OpenOwn at HOp0
    rw [hop] at HOp0
    clear hop
    go_enter Try.func66, Try.ntmps66
    go_wp2_with (first
      | (refine wpList_load_mid rfl _ _ rfl ba oa rfl (bc s0) _ HR0.out Try.underlying40 rfl (sec_info2 s0 HS0.out) ?_)
      | (go_at_call 35; refine (HOp0.out _).mono ?_; rintro e w2 ⟨hb2, rfl⟩; have HB2 := Lib.hid hb2; clear hb2))
    go_ret2
    exact ⟨HB2.out, .inr ⟨HNo.out, rfl⟩⟩
  | some x =>
    unfold OpenOwn at HOp0
    rw [hop] at HOp0
    have HOp0 : Hid (∀ w9, Calls Try.prog 35 #[secv s0] w9 fun e w' => Below w9.heap.size w9 w' ∧ ∃ A c, e = .returned (.tuple #[.slice A x.length c, .bool true]) ∧ w'.ownsRow 0 5 1 (.slice A x.length c) x.length (bc x) ∧ ∀ k, ob A = some k → w9.heap.size ≤ k) := HOp0
    cases x with
    | nil =>
      have HNo := Lib.hid (cand_fail (cand_zero l) HG0.out (.inr hop))
      clear hop
      go_enter Try.func66, Try.ntmps66
      go_wp2_with (first
        | (refine wpList_load_mid rfl _ _ rfl ba oa rfl (bc s0) _ HR0.out Try.underlying40 rfl (sec_info2 s0 HS0.out) ?_)
        | (go_at_call 35; refine (HOp0.out _).mono ?_; rintro e w2 ⟨hb2, A2, c2, rfl, ho2, hk2⟩; have HB2 := Lib.hid hb2; clear hb2 ho2 hk2))
      go_ret2
      exact ⟨HB2.out, .inr ⟨HNo.out, rfl⟩⟩
    | cons f r =>
      have HN0 := Lib.hid (candN_zero HG0.out hop)
      have HOx := Lib.hid hop
      clear hop
      obtain ⟨X, hX⟩ : ∃ X, X = (f :: r).length := ⟨_, rfl⟩
      rw [← hX] at HOp0
      have HXe := Lib.hid (show 1 ≤ X by rw [hX]; simp)
      have hX1 : ¬ (X : Int) < 1 := by have := HXe.out; omega
      have hX0 : (0 : Int) < (X : Int) := by have := HXe.out; omega
      have HF0 := Lib.hid (fun A2 c2 w9 (h9 : World.ownsRow w9 0 5 1 (.slice A2 X c2) X (bc (f :: r))) => show ∃ g, A2 = some ⟨g, 0, none⟩ ∧ w9.cell? ⟨g, 0, none⟩ = some (.int .u8 f.toNat) from by
        rw [hX] at h9
        obtain ⟨g, c, hg⟩ := own_at1 h9 (by simp)
        injection hg with hg _ _
        subst hg
        exact ⟨g, rfl, by rw [h9.cellAt 0 (by simp)]; rfl⟩)
      have hwf : IntKind.i64.wrap (f.toNat : Int) = (f.toNat : Int) := by have := f.toNat_lt; simp [IntKind.wrap, IntKind.signed, IntKind.bits]; omega
      have hfr := f.toNat_lt
      have HNof := Lib.hid (show 63 < f.toNat ∨ l.length < f.toNat + 1 → ∀ b, ¬ Fst l b from fun h b hb => by
        have h1 := (HN0.out b hb).1
        have h2 := hb.le
        have h3 := needN_le hb.1
        omega)
      obtain ⟨F, hF⟩ : ∃ F, F = f.toNat := ⟨_, rfl⟩
      rw [← hF] at HN0 HF0 hwf hfr HNof
      clear hX hF
      go_enter Try.func66, Try.ntmps66
      go_upto_region 4 with (first
        | (refine wpList_load_mid rfl _ _ rfl ba oa rfl (bc s0) _ HR0.out Try.underlying40 rfl (sec_info2 s0 HS0.out) ?_)
        | (go_at_call 35; refine (HOp0.out _).mono ?_; rintro e w2 ⟨hb2, A2, c2, rfl, ho2, hk2⟩; have HB2 := Lib.hid hb2; have HO2 := Lib.hid ho2; clear hb2 ho2 hk2))
      obtain ⟨g2, rfl, hcell⟩ := HF0.out A2 c2 w2 HO2.out
      clear HF0 HO2 HOp0 HR0
      by_cases hf1 : 63 < F
      · have hf1' : (63 : Int) < (F : Int) := by omega
        have HNo := Lib.hid (HNof.out (.inl hf1))
        go_wp2_with fail
        go_ret2
        exact ⟨HB2.out, .inr ⟨HNo.out, rfl⟩⟩
      have hf1' : ¬ (63 : Int) < (F : Int) := by omega
      by_cases hf2 : l.length < F + 1
      · have hf2' : (l.length : Int) < (F : Int) + 1 := by omega
        have HNo := Lib.hid (HNof.out (.inr hf2))
        go_wp2_with fail
        go_ret2
        exact ⟨HB2.out, .inr ⟨HNo.out, rfl⟩⟩
      have hf2' : ¬ (l.length : Int) < (F : Int) + 1 := by omega
      obtain ⟨n, hn⟩ : ∃ n, n = F + 1 := ⟨_, rfl⟩
      have HFn := Lib.hid (show (F : Int) + 1 = (n : Int) by omega)
      have HNe := Lib.hid hn
      have HNn := Lib.hid (show 0 < n ∧ n ≤ 64 ∧ n ≤ l.length by omega)
      rw [← hn] at HN0
      clear hn
      go_wp2_with fail
      rw [HFn.out]
      clear hcell hf1 hf1' hf2 hf2' hwf hfr hX1 hX0 HNof HFn
      generalize hw3 : World.alloc w2 _ = w3
      have HO3 := Lib.hid (show w3.ownsRow 0 5 1 (.slice (some ⟨w2.heap.size, 0, none⟩) 0 0) 0 (bc []) by rw [← hw3]; exact World.ownsRow_lit (base := 0) (e := 5) (size := 1) w2 #[] 0 (Nat.zero_le _) (by unfold maxLen; omega) rfl)
      have HB3 := Lib.hid (show Below w.heap.size w w3 by rw [← hw3]; exact HB2.out.alloc HB2.out.size _)
      have HL3 := Lib.hid HB2.out.size
      clear hw3
      go_loopw [7, 8] (fun tp ti wr => ∃ (i : Nat) (acc : List UInt8) (A1 : Option Addr) (c1 : Nat), tp = .slice A1 acc.length c1 ∧ ti = .int .i64 i ∧ i ≤ n ∧ acc.length ≤ 60 * i ∧ CandN l n i acc ∧ wr.ownsRow 0 5 1 (.slice A1 acc.length c1) acc.length (bc acc) ∧ (∀ k, ob A1 = some k → w.heap.size ≤ k) ∧ Below w.heap.size w wr) (fun _ t _ => n - (intOf t).toNat)
      case atStart => exact ⟨0, [], _, _, rfl, rfl, Nat.zero_le _, Nat.zero_le _, HN0.out, HO3.out, fun k e => by injection e with e; have := HL3.out; simp at e; omega, HB3.out⟩
      case round =>
        obtain ⟨i, acc, Ab, cb, rfl, rfl, hi, hal, hcn, hown, hbk, hbw⟩ := hrel
        have HAl := Lib.hid hal
        have HCn := Lib.hid hcn
        have HOw := Lib.hid hown
        have HBk := Lib.hid hbk
        have HBw := Lib.hid hbw
        clear hal hcn hown hbk hbw HO3 HB3 HN0
        have hn64 : (n : Int) ≤ 64 := by have := HNn.out; omega
        by_cases hlt : i < n
        · have hlt' : (i : Int) < (n : Int) := by omega
          have hil : (i : Int) < (l.length : Int) := by have := HNn.out; omega
          obtain ⟨s, hs⟩ : ∃ s, l[i]? = some s := ⟨_, List.getElem?_eq_getElem (by have := HNn.out; omega)⟩
          have HG := Lib.hid hs
          have HSL := Lib.hid (HS.out s (List.mem_of_getElem? hs))
          have HRi := Lib.hid (range_below' (HBw.out.mono (Nat.le_refl _)) HBa.out (HRa.out i s hs))
          have HOp := Lib.hid (fun w9 => ropenO_any s HSL.out w9)
          clear hs
          cases hop : openL s with
          | none =>
            have HNo := Lib.hid (candN_fail HCn.out hlt HG.out (.inl hop))
            unfold OpenOwn at HOp
            rw [hop] at HOp
            clear hop
            go_wp2_with (first
              | (refine wpList_load_mid rfl _ _ rfl ba (oa + i * 64) rfl (bc s) _ HRi.out Try.underlying40 rfl (sec_info2 s HSL.out) ?_)
              | (go_at_call 35; refine (HOp.out _).mono ?_; rintro e w4 ⟨hb4, rfl⟩; have HB4 := Lib.hid hb4; clear hb4))
            go_ret2
            exact ⟨HBw.out.trans (HB4.out.mono HBw.out.size), .inr ⟨HNo.out, rfl⟩⟩
          | some x =>
            have HXL := Lib.hid (openL_len hop)
            unfold OpenOwn at HOp
            rw [hop] at HOp
            have HOp : Hid (∀ w9, Calls Try.prog 35 #[secv s] w9 fun e w' => Below w9.heap.size w9 w' ∧ ∃ A c, e = .returned (.tuple #[.slice A x.length c, .bool true]) ∧ w'.ownsRow 0 5 1 (.slice A x.length c) x.length (bc x) ∧ ∀ k, ob A = some k → w9.heap.size ≤ k) := HOp
            cases x with
            | nil =>
              have HNo := Lib.hid (candN_fail HCn.out hlt HG.out (.inr hop))
              clear hop
              go_wp2_with (first
                | (refine wpList_load_mid rfl _ _ rfl ba (oa + i * 64) rfl (bc s) _ HRi.out Try.underlying40 rfl (sec_info2 s HSL.out) ?_)
                | (go_at_call 35; refine (HOp.out _).mono ?_; rintro e w4 ⟨hb4, A4, c4, rfl, ho4, hk4⟩; have HB4 := Lib.hid hb4; clear hb4 ho4 hk4))
              go_ret2
              exact ⟨HBw.out.trans (HB4.out.mono HBw.out.size), .inr ⟨HNo.out, rfl⟩⟩
            | cons f2 r2 =>
              have HCn2 := Lib.hid (candN_next HCn.out hlt HG.out hop)
              have HRl := Lib.hid (show r2.length ≤ 60 by have := HXL.out; simp at this; omega)
              clear hop
              obtain ⟨Y, hY⟩ : ∃ Y, Y = (f2 :: r2).length := ⟨_, rfl⟩
              have HYe := Lib.hid (show 1 ≤ Y ∧ Y = r2.length + 1 by rw [hY]; simp)
              rw [← hY] at HOp
              have HSrc := Lib.hid (fun A2 c2 w9 (h9 : World.ownsRow w9 0 5 1 (.slice A2 Y c2) Y (bc (f2 :: r2))) => show Src Try.prog 1 51 (.slice (cutA A2 1 c2) (Y - 1) (c2 - 1)) r2.length (bc r2) w9 from by
                rw [hY] at h9 ⊢
                have hcap := own_room h9
                have h1 := (Bts.own h9).cut 1 r2.length c2 (by simp; omega) hcap
                rw [List.drop_succ_cons, List.drop_zero, List.take_length] at h1
                have := h1.src (c := c2 - 1) (P := Try.prog) Try.underlying51 (cut_none (fun e => by subst e; exact own_cap h9))
                rw [show (f2 :: r2).length - 1 = r2.length by simp]
                exact this)
              have hY1 : ¬ (Y : Int) < 1 := by have := HYe.out; omega
              have hc1 := fun A2 c2 => slice_one A2 Y c2 (by have := HYe.out; omega)
              have hacc : acc.length ≤ 3840 := by have := HAl.out; have := HNn.out; omega
              have hrl : r2.length ≤ 60 := HRl.out
              clear hY
              go_wp2_with (first
                | (refine wpList_load_mid rfl _ _ rfl ba (oa + i * 64) rfl (bc s) _ HRi.out Try.underlying40 rfl (sec_info2 s HSL.out) ?_)
                | (go_at_call 35
                   refine (HOp.out _).mono ?_
                   rintro e w4 ⟨hb4, A4, c4, rfl, ho4, hk4⟩
                   have HB4 := Lib.hid hb4
                   have HS4 := Lib.hid (HSrc.out _ _ _ ho4)
                   have HO4 := Lib.hid (own_below HOw.out hb4)
                   clear hb4 ho4 hk4)
                | (at_builtin
                   refine wpList_append_at rfl (.tmp 72) (.tmp 74) _ _ rfl 5 i1 _ 1 1 Try.underlying51 hi1 hy0 hy1 hy2 rfl Ab acc.length cb (bc acc) rfl HO4.out _ r2.length _ rfl HS4.out (by unfold maxLen; omega) (by omega) ?_
                   intro A5 c5 w5 ho5 hg5 hat5))
              go_roundw
              case rel =>
                have hs := HBw.out.size
                have hb5 : Below w.heap.size w w5 := (HBw.out.trans (HB4.out.mono hs)).grown hg5 (Nat.le_trans hs HB4.out.size) (fun k e => HBk.out k e)
                refine ⟨i + 1, acc ++ r2, A5, c5, by rw [List.length_append], by go_num, by omega, by have := HAl.out; rw [List.length_append]; omega, HCn2.out, by rw [List.length_append, bc_append]; exact ho5, fun k e => ?_, hb5⟩
                rcases hat5 with h | h
                · rw [h] at e; exact HBk.out k e
                · rw [h] at e; injection e with e; have := HB4.out.size; omega
              case measure => simp [intOf]; omega
        · obtain rfl : i = n := by omega
          have HBx := Lib.hid (Bts.own HOw.out)
          have hacc : acc.length ≤ 3840 := by have := HAl.out; have := HNn.out; omega
          have HSc := Lib.hid (rsecs_any Ab cb acc wr HBx.out hacc)
          obtain ⟨L2, hL2⟩ : ∃ L2, L2 = secsL acc := ⟨_, rfl⟩
          have HL2 := Lib.hid hL2
          have HL2s := Lib.hid (show ∀ s ∈ L2, s.length = 64 by rw [hL2]; exact secsL_secs acc)
          have HL2l := Lib.hid (show L2.length = needN acc.length by rw [hL2, secsL_len])
          rw [← hL2] at HSc
          have hacc' : (acc.length : Int) ≤ 3840 := by omega
          clear hL2
          rename World => wq
          by_cases hlen : L2.length = i
          · have hlen' : (L2.length : Int) = (i : Int) := by omega
            go_wp2_with (first
              | (go_at_call 49
                 refine HSc.out.mono ?_
                 rintro e w6 ⟨hb6, O, co, rfl, ho6⟩
                 obtain ⟨gO, cO, hO⟩ := own_at1 ho6.1 (by rw [HL2l.out]; exact needN_pos _)
                 injection hO with e1 e2 e3
                 subst e1 e3
                 have HB6 := Lib.hid (HBw.out.trans (hb6.mono HBw.out.size))
                 have HO6 := Lib.hid ho6
                 have HQ6 := Lib.hid (own_below HOw.out hb6)
                 clear hb6 ho6 e2))
            clear HSc
            go_loopw [12] (fun ti wr => ∃ j : Nat, ti = .int .i64 j ∧ j ≤ i ∧ L2.take j = l.take j ∧ Below w6.heap.size w6 wr) (fun t _ => i - (intOf t).toNat)
            case atStart => exact ⟨0, rfl, Nat.zero_le _, rfl, Below.refl _ _⟩
            case round =>
              obtain ⟨j, rfl, hj, htk, hbj⟩ := hrel
              have HTk := Lib.hid htk
              have HBj := Lib.hid hbj
              clear htk hbj
              by_cases hjlt : j < i
              · have hjlt' : (j : Int) < (i : Int) := by omega
                have hjl : (j : Int) < (l.length : Int) := by have := HNn.out; omega
                have hjL : (j : Int) < (L2.length : Int) := by omega
                obtain ⟨s, hs⟩ : ∃ s, l[j]? = some s := ⟨_, List.getElem?_eq_getElem (by have := HNn.out; omega)⟩
                obtain ⟨t, ht⟩ : ∃ t, L2[j]? = some t := ⟨_, List.getElem?_eq_getElem (by omega)⟩
                have HG := Lib.hid hs
                have HGt := Lib.hid ht
                have HSl := Lib.hid (HS.out s (List.mem_of_getElem? hs))
                have HTl := Lib.hid (HL2s.out t (List.mem_of_getElem? ht))
                have HBw2 := Lib.hid (show ba < wr.heap.size from Nat.lt_of_lt_of_le HBa.out (Nat.le_trans HB6.out.size HBj.out.size))
                have HRs := Lib.hid (range_below' (HB6.out.trans (HBj.out.mono HB6.out.size)) HBa.out (HRa.out j s hs))
                have HOj := Lib.hid (own_below HO6.out.1 HBj.out)
                have HGl := Lib.hid (show gO < wr.heap.size from own_block HOj.out)
                have HRt := Lib.hid (own_range (i := j) (r := bc t) HOj.out (secR_ok HL2s.out) (by simp [secR]) (by rw [secR, List.getElem?_map, ht]; rfl))
                have heq := sec_ne t s HTl.out HSl.out
                clear hs ht
                go_upto_region 21 with fail
                refine wp_region_held_drew (S := fun W => Below wr.heap.size wr W) (by kernel_rfl) (below_drew (Below.refl _ _)) (fun hHeld => ?_)
                refine wpAnyH_take (i := 0) (oi := ⟨_, _, _, _, _, _⟩) (v := ?_) rfl (by kernel_rfl) (by kernel_rfl) (by kernel_rfl) (fun _ _ _ h => h) (Or.inl ⟨by kernel_rfl, ?_⟩) hHeld ?_
                rotate_left 1
                · intro W hW; first | (go_simp; done) | (go_simp; with_reducible rfl)
                try simp only [Act.put, List.setIfInBounds_toArray, List.set_cons_zero, List.set_cons_succ]
                refine wpAnyH_take (i := 1) (oi := ⟨_, _, _, _, _, _⟩) (v := ?_) rfl (by kernel_rfl) (by kernel_rfl) (by kernel_rfl) (fun _ _ _ h => h) (Or.inl ⟨by kernel_rfl, ?_⟩) hHeld ?_
                rotate_left 1
                · intro W hW; first | (go_simp; done) | (go_simp; with_reducible rfl)
                try simp only [Act.put, List.setIfInBounds_toArray, List.set_cons_zero, List.set_cons_succ]
                refine wpAnyH_take (i := 2) (oi := ⟨_, _, _, _, _, _⟩) (v := ?_) rfl (by kernel_rfl) (by kernel_rfl) (by kernel_rfl) (fun _ _ _ h => h) (Or.inl ⟨by kernel_rfl, ?_⟩) hHeld ?_
                rotate_left 1
                · intro W hW; first | (go_simp; done) | (go_simp; with_reducible rfl)
                try simp only [Act.put, List.setIfInBounds_toArray, List.set_cons_zero, List.set_cons_succ]
                refine wpAnyH_take (i := 3) (oi := ⟨_, _, _, _, _, _⟩) (v := (.agg (bc t).toArray)) rfl (by kernel_rfl) (by kernel_rfl) (by kernel_rfl) (fun _ _ _ h => h) (yieldsIf_load_mid (S := fun W => Below wr.heap.size wr W) (by kernel_rfl) 40 (.tmp 89) rfl gO (j * 64) rfl (bc t) _ (fun W hW => range_below' hW HGl.out HRt.out) Try.underlying40 rfl (sec_info2 t HTl.out)) hHeld ?_
                try simp only [Act.put, List.setIfInBounds_toArray, List.set_cons_zero, List.set_cons_succ]
                refine wpAnyH_take (i := 4) (oi := ⟨_, _, _, _, _, _⟩) (v := ?_) rfl (by kernel_rfl) (by kernel_rfl) (by kernel_rfl) (fun _ _ _ h => h) (Or.inl ⟨by kernel_rfl, ?_⟩) hHeld ?_
                rotate_left 1
                · intro W hW; first | (go_simp; done) | (go_simp; with_reducible rfl)
                try simp only [Act.put, List.setIfInBounds_toArray, List.set_cons_zero, List.set_cons_succ]
                refine wpAnyH_take (i := 5) (oi := ⟨_, _, _, _, _, _⟩) (v := ?_) rfl (by kernel_rfl) (by kernel_rfl) (by kernel_rfl) (fun _ _ _ h => h) (Or.inl ⟨by kernel_rfl, ?_⟩) hHeld ?_
                rotate_left 1
                · intro W hW; first | (go_simp; done) | (go_simp; with_reducible rfl)
                try simp only [Act.put, List.setIfInBounds_toArray, List.set_cons_zero, List.set_cons_succ]
                refine wpAnyH_take (i := 6) (oi := ⟨_, _, _, _, _, _⟩) (v := ?_) rfl (by kernel_rfl) (by kernel_rfl) (by kernel_rfl) (fun _ _ _ h => h) (Or.inl ⟨by kernel_rfl, ?_⟩) hHeld ?_
                rotate_left 1
                · intro W hW; first | (go_simp; done) | (go_simp; with_reducible rfl)
                try simp only [Act.put, List.setIfInBounds_toArray, List.set_cons_zero, List.set_cons_succ]
                refine wpAnyH_take (i := 7) (oi := ⟨_, _, _, _, _, _⟩) (v := (.agg (bc s).toArray)) rfl (by kernel_rfl) (by kernel_rfl) (by kernel_rfl) (fun _ _ _ h => h) (yieldsIf_load_mid (S := fun W => Below wr.heap.size wr W) (by kernel_rfl) 40 (.tmp 93) rfl ba (oa + j * 64) rfl (bc s) _ (fun W hW => range_below' hW HBw2.out HRs.out) Try.underlying40 rfl (sec_info2 s HSl.out)) hHeld ?_
                try simp only [Act.put, List.setIfInBounds_toArray, List.set_cons_zero, List.set_cons_succ]
                refine wpAnyH_take (i := 8) (oi := ⟨_, _, _, _, _, _⟩) (v := ?_) rfl (by kernel_rfl) (by kernel_rfl) (by kernel_rfl) (fun _ _ _ h => h) (Or.inl ⟨by kernel_rfl, ?_⟩) hHeld ?_
                rotate_left 1
                · intro W hW; first | (go_simp; done) | (go_simp; with_reducible rfl)
                try simp only [Act.put, List.setIfInBounds_toArray, List.set_cons_zero, List.set_cons_succ]
                refine wpAnyH_done (by kernel_rfl) ?_ _
                clear hHeld
                by_cases hst : t = s
                · have hd : (!decide (t = s)) = false := by rw [decide_eq_true hst]; rfl
                  rw [hd]
                  have HST := Lib.hid hst
                  clear hst hd heq
                  go_wp2_with fail
                  go_roundw
                  case rel => exact ⟨j + 1, by go_num, by omega, by rw [List.take_add_one, List.take_add_one, HTk.out, HG.out, HGt.out, HST.out], below_drew HBj.out⟩
                  case measure => simp [intOf]; omega
                · have hd : (!decide (t = s)) = true := by rw [decide_eq_false hst]; rfl
                  rw [hd]
                  have HNo := Lib.hid (candN_end HCn.out (fun e => hst (by
                    rw [← HL2.out] at e
                    have h1 := HG.out
                    have h2 := HGt.out
                    rw [← e, List.getElem?_take, if_pos hjlt, h1] at h2
                    injection h2 with h2
                    exact h2.symm)))
                  clear hst hd heq
                  go_wp2_with fail
                  go_ret2
                  exact ⟨HB6.out.trans ((below_drew HBj.out).mono HB6.out.size), .inr ⟨HNo.out, rfl⟩⟩
              · obtain rfl : j = i := by omega
                have HFs := Lib.hid (show Fst l acc from ⟨hacc, by
                  have h := HTk.out
                  rw [List.take_of_length_le (by omega), HL2.out] at h
                  rw [h]
                  exact List.take_prefix _ _⟩)
                have HQ := Lib.hid (own_below HQ6.out HBj.out)
                go_wp2_with fail
                go_ret2
                exact ⟨HB6.out.trans (HBj.out.mono HB6.out.size), .inl ⟨acc, Ab, cb, HFs.out, by rw [← HL2l.out, hlen]; rfl, HQ.out, HBk.out⟩⟩
          · have hlen' : ¬ (L2.length : Int) = (i : Int) := by omega
            have HNo := Lib.hid (candN_len HCn.out (by rw [← HL2l.out]; exact hlen))
            go_wp2_with (first
              | (go_at_call 49
                 refine HSc.out.mono ?_
                 rintro e w6 ⟨hb6, O, co, rfl, ho6⟩
                 have HB6 := Lib.hid (HBw.out.trans (hb6.mono HBw.out.size))
                 clear hb6 ho6))
            go_ret2
            exact ⟨HB6.out, .inr ⟨HNo.out, rfl⟩⟩

end Go.Proofs.Ytlaecnggbcagcaa
