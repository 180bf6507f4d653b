/- Contract: moietyref19.Sectors. -/
import Derived.Test.YtlaecnggbcagcaaRl14
namespace Go.Proofs.Ytlaecnggbcagcaa
open Go.RowKit MM
set_option linter.unusedVariables false
set_option linter.unusedSimpArgs false

/-- A new slice of sectors, nobody else's. -/
def SlsO (w' : World) (base : Nat) (O : Option Addr) (c : Nat) (L : List (List UInt8)) : Prop :=
  w'.ownsRow 0 40 64 (.slice O L.length c) L.length (secR L).flatten ∧ ∀ k, ob O = some k → base ≤ k
theorem wpList_slice_one {P : Program} {ops : Array Oper} {rest : List Oper} {o : Oper} {a : Act} {w : World} {Q : Exit → Act → World → Prop} (hgd : o.guard = none) (T e : TypeId) (x : Operand) (ho : o.op = .buildSlice T 1 #[(0, x)]) (k : Nat) (z : Value) (cs : List Value) (hx : a.eval x = .agg cs.toArray)
    (ht : P.underlying T = some (.slice e)) (hi : (P.info? e).map (fun i => (i.zero, i.size)) = some (some z, k)) (hz : z.cells.size = k) (hk : 0 < k) (hm : k ≤ 16777216) (hl : cs.length = k)
    (h : wpList P ops Q rest (a.put o.dst (.slice (some ⟨w.heap.size, 0, none⟩) 1 1)) (w.alloc (.cells cs.toArray e))) : wpList P ops Q (o :: rest) a w :=
  wpList_plain hgd fun _ hK => wp_slice_one T e x ho k z cs hx ht hi hz hk hm hl (hK _ _ h)
theorem sec_infoZ' : (Try.prog.info? 40).map (fun i => (i.zero, i.size)) = some (some (secv zs), 64) := by kernel_rfl
theorem part_step (b : List UInt8) (f x : UInt8) (i k : Nat) (h1 : 60 * i ≤ k) (hx : b[k]? = some x) : f :: (b.drop (60 * i)).take (k + 1 - 60 * i) = (f :: (b.drop (60 * i)).take (k - 60 * i)) ++ [x] := by
  have : (b.drop (60 * i))[k - 60 * i]? = some x := by rw [List.getElem?_drop, show 60 * i + (k - 60 * i) = k by omega]; exact hx
  rw [show k + 1 - 60 * i = (k - 60 * i) + 1 by omega, List.take_add_one, this]
  rfl
theorem part_end (b : List UInt8) (f : UInt8) (i k : Nat) (h : k = 60 * i + 60 ∨ k = b.length) (h2 : k ≤ 60 * i + 60) : f :: (b.drop (60 * i)).take (k - 60 * i) = f :: (b.drop (60 * i)).take 60 := by
  rcases h with h | h
  · rw [h, show 60 * i + 60 - 60 * i = 60 by omega]
  · rw [List.take_of_length_le (l := b.drop (60 * i)) (i := k - 60 * i) (by rw [List.length_drop]; omega), List.take_of_length_le (by rw [List.length_drop]; omega)]

set_option maxHeartbeats 4000000 in
set_option maxRecDepth 100000 in
theorem rsecs_any (A : Option Addr) (c : Nat) (b : List UInt8) (w : World) (hb : Bts w A b) (hl : b.length ≤ 3840) :
    Calls Try.prog 49 #[.slice A b.length c] w fun e w' => Below w.heap.size w w' ∧ ∃ O co, e = .returned (.slice O (secsL b).length co) ∧ SlsO w' w.heap.size O co (secsL b) := by
  have HB := Lib.hid hb
  have HL := Lib.hid hl
  have HM := Lib.hid (And.intro (needN_pos b.length) (needN_le hl))
  obtain ⟨L, hL⟩ : ∃ L, L = secsL b := ⟨_, rfl⟩
  have HLL := Lib.hid (show L.length = needN b.length by rw [hL, secsL_len])
  have HLg := Lib.hid (show ∀ i, i < needN b.length → L[i]? = some (sealL (partL b i)) by rw [hL]; exact fun i hi => secsL_get b hi)
  rw [← hL]
  obtain ⟨m, hm⟩ : ∃ m, m = needN b.length := ⟨_, rfl⟩
  have HMm := Lib.hid hm
  have HPl := Lib.hid (show ∀ i, i < m → 60 * i ≤ b.length from fun i hi => need_start (by rw [← hm]; exact hi))
  have HNd := Lib.hid (rneed_any b.length (by omega) (w.alloc (.cells #[] 40)))
  rw [← hm] at HM HLL HLg HNd
  obtain ⟨i0, hi0, hz0, hz1, hz2⟩ := info_parts byte_info
  obtain ⟨i1, hi1, hy0, hy1, hy2⟩ := info_parts sec_info3
  have hbl : (b.length : Int) ≤ 3840 := by omega
  have HO1 := Lib.hid (show (w.alloc (.cells #[] 40)).ownsRow 0 40 64 (.slice (some ⟨w.heap.size, 0, none⟩) 0 0) 0 [] from World.ownsRow_lit (base := 0) (e := 40) (size := 64) w #[] 0 (Nat.zero_le _) (by unfold maxLen; omega) rfl)
  have HQ1 := Lib.hid ((Below.refl w.heap.size w).alloc (Nat.le_refl _) (.cells #[] 40))
  clear hb hl hL hm
  go_enter Try.func49, Try.ntmps49
  go_wp2_with (first
    | (go_at_call 47; refine HNd.out.mono ?_; rintro e wq ⟨rfl, hq⟩; rw [hq]; clear hq wq))
  generalize hw1 : World.alloc w _ = w1 at *
  clear hw1
  go_loopw [3, 5] (fun ts ti wr => ∃ (i : Nat) (O : Option Addr) (co : Nat), ts = .slice O i co ∧ ti = .int .i64 i ∧ i ≤ m ∧ wr.ownsRow 0 40 64 (.slice O i co) i (secR (L.take i)).flatten ∧ (∀ k, ob O = some k → w.heap.size ≤ k) ∧ Below w.heap.size w wr) (fun _ t _ => m - (intOf t).toNat)
  case atStart => exact ⟨0, _, _, rfl, rfl, Nat.zero_le _, by rw [List.take_zero]; exact HO1.out, fun k e => by injection e with e; exact Nat.le_of_eq e, HQ1.out⟩
  case round =>
    obtain ⟨i, O, co, rfl, rfl, hi, h1, h2, h3⟩ := hrel
    have H1 := Lib.hid h1
    have H2 := Lib.hid h2
    have H3 := Lib.hid h3
    clear h1 h2 h3 HO1 HQ1
    rename World => w0
    by_cases hlt : i < m
    · have hlt' : (i : Int) < (m : Int) := by omega
      have hm64 : (m : Int) ≤ 64 := by have := HM.out; omega
      obtain ⟨f, hf⟩ : ∃ f, f = UInt8.ofNat (m - 1 - i) := ⟨_, rfl⟩
      have hwf : IntKind.u8.wrap ((m : Int) - 1 - (i : Int)) = (f.toNat : Int) := by
        rw [hf, follow_nat (by omega)]
        simp [IntKind.wrap, IntKind.signed, IntKind.bits]
        omega
      have HP := Lib.hid (show partL b i = f :: (b.drop (60 * i)).take 60 by unfold partL; rw [← HMm.out, hf])
      have HLt := Lib.hid (show L.take (i + 1) = L.take i ++ [sealL (partL b i)] by rw [List.take_add_one, HLg.out i hlt]; rfl)
      have hlo := HPl.out i hlt
      have hlo' : 60 * (i : Int) ≤ (b.length : Int) := by omega
      clear hf
      go_wp2_with fail
      generalize hw2 : World.alloc w0 _ = w2
      have HP2 := Lib.hid (show w2.ownsRow 0 5 1 (.slice (some ⟨w0.heap.size, 0, none⟩) 1 1) 1 (bc [f]) by
        rw [← hw2]
        have := World.ownsRow_lit (base := 0) (e := 5) (size := 1) w0 #[.int .u8 (f.toNat : Int)] 1 (Nat.zero_le _) (by unfold maxLen; omega) rfl
        first | exact this | (rw [hwf]; exact this))
      have HB2 := Lib.hid (show Below w0.heap.size w0 w2 by rw [← hw2]; exact (Below.refl _ _).alloc (Nat.le_refl _) _)
      clear hw2
      go_loopw [6, 7] (fun tp tk wq => ∃ (k : Nat) (xs : List UInt8) (A1 : Option Addr) (c1 : Nat), tp = .slice A1 xs.length c1 ∧ tk = .int .i64 k ∧ 60 * i ≤ k ∧ k ≤ 60 * i + 60 ∧ k ≤ b.length ∧ xs = f :: (b.drop (60 * i)).take (k - 60 * i) ∧ xs.length = k - 60 * i + 1 ∧ wq.ownsRow 0 5 1 (.slice A1 xs.length c1) xs.length (bc xs) ∧ (∀ k, ob A1 = some k → w0.heap.size ≤ k) ∧ Below w0.heap.size w0 wq) (fun _ t _ => b.length - (intOf t).toNat)
      case atStart => exact ⟨60 * i, [f], _, _, rfl, by go_num, Nat.le_refl _, by omega, hlo, by rw [Nat.sub_self, List.take_zero], by rw [Nat.sub_self]; rfl, HP2.out, fun k e => by injection e with e; exact Nat.le_of_eq e, HB2.out⟩
      case round =>
        obtain ⟨k, xs, A1, c1, rfl, rfl, hk1, hk2, hk3, hxs, hxl, h4, h5, h6⟩ := hrel
        have HX := Lib.hid hxs
        have HXl := Lib.hid hxl
        have H4 := Lib.hid h4
        have H5 := Lib.hid h5
        have H6 := Lib.hid h6
        clear hxs hxl h4 h5 h6 HP2 HB2
        by_cases hin : k < 60 * i + 60 ∧ k < b.length
        · obtain ⟨hin1, hin2⟩ := hin
          have hin1' : (k : Int) < 60 * (i : Int) + 60 := by omega
          have hin2' : (k : Int) < (b.length : Int) := by omega
          obtain ⟨g, off, rfl, hg, hc⟩ := bts_at ((HB.out.below H3.out).below H6.out) hin2
          have hx0 : b[k]? = some b[k] := List.getElem?_eq_getElem hin2
          obtain ⟨x, hxx⟩ : ∃ x, x = b[k] := ⟨_, rfl⟩
          have hrd := hc k hin2
          rw [← hxx] at hx0 hrd
          have HNX := Lib.hid (part_step b f x i k hk1 hx0)
          rw [← HX.out] at HNX
          clear hc hxx hx0 hg
          go_wp2_with (first
            | (at_builtin
               refine wpList_append_at rfl (.tmp 38) (.tmp 43) _ _ rfl 5 i0 _ 1 1 Try.underlying51 hi0 hz0 hz1 hz2 rfl A1 xs.length c1 (bc xs) rfl (own_below H4.out ((Below.refl _ _).alloc (Nat.le_refl _) _)) _ 1 _ rfl (src_one Try.underlying51 _ _ rfl) (by have := HXl.out; unfold maxLen; omega) (by have := HXl.out; omega) ?_
               intro A2 c2 w3 ho2 hg2 hat2))
          go_roundw
          case rel =>
            have hs := H6.out.size
            have hb2 : Below w0.heap.size wr w3 := ((Below.refl _ wr).alloc hs _).grown hg2 (by simp; omega) (fun k e => by have := H5.out k e; omega)
            refine ⟨k + 1, xs ++ [x], A2, c2, by rw [List.length_append]; rfl, by go_num, by omega, by omega, by omega, HNX.out.symm, by rw [List.length_append, HXl.out]; simp; omega, ?_, fun k e => ?_, H6.out.trans hb2⟩
            · rw [bc_append, List.length_append]; exact ho2
            · rcases hat2 with h | h
              · rw [h] at e; exact H5.out k e
              · rw [h] at e; injection e with e; simp at e; omega
          case measure => simp [intOf]; omega
        · have HE := Lib.hid (show xs = partL b i by rw [HP.out, HX.out]; exact part_end b f i k (by omega) hk2)
          have HBx := Lib.hid (Bts.own H4.out)
          have HSl := Lib.hid (rseal_any A1 c1 xs wr HBx.out (by have := HXl.out; omega))
          have HSl64 := Lib.hid (show (bc (sealL xs)).length = 64 by rw [bc_length, sealL_len _ (by have := HXl.out; omega)])
          have HOw := Lib.hid (own_below H1.out H6.out)
          by_cases hin1 : k < 60 * i + 60
          · have hin1' : (k : Int) < 60 * (i : Int) + 60 := by omega
            have hin2' : ¬ (k : Int) < (b.length : Int) := by omega
            go_wp2_with (first
              | (go_at_call 34; refine HSl.out.mono ?_; rintro e w4 ⟨rfl, hb4⟩; have HB4 := Lib.hid hb4; clear hb4)
              | (refine wpList_slice_one rfl 63 40 (.tmp 47) rfl 64 (secv zs) (bc (sealL xs)) (by kernel_rfl) Try.underlying63 sec_infoZ' rfl (by omega) (by omega) HSl64.out ?_)
              | (at_builtin
                 refine wpList_append_at rfl (.tmp 45) (.tmp 48) _ _ rfl 40 i1 _ 64 64 Try.underlying63 hi1 hy0 hy1 hy2 rfl O i co _ rfl (own_below HOw.out (HB4.out.alloc (by have := HB4.out.size; omega) _)) _ 1 _ rfl (src_new (t := 40) Try.underlying63 _ (bc (sealL xs)).toArray (by rw [List.size_toArray, HSl64.out]) (by simpa using bc_one _)) (by unfold maxLen; omega) (by omega) ?_
                 intro A2 c2 w5 ho2 hg2 hat2))
            go_roundw
            case rel =>
              have hs := H6.out.size
              have hs4 := HB4.out.size
              have hsr := H3.out.size
              have hb2 : Below w.heap.size wr w5 := ((HB4.out.mono (by omega)).alloc (by omega) _).grown hg2 (by simp; omega) (fun k e => by have := H2.out k e; omega)
              refine ⟨i + 1, A2, c2, rfl, by go_num, by omega, ?_, fun k e => ?_, (H3.out.trans (H6.out.mono hsr)).trans hb2⟩
              · rw [HLt.out, ← HE.out]
                have : (secR (L.take i ++ [sealL xs])).flatten = (secR (L.take i)).flatten ++ bc (sealL xs) := by simp [secR]
                rw [this]; simpa using ho2
              · rcases hat2 with h | h
                · rw [h] at e; exact H2.out k e
                · rw [h] at e; injection e with e; simp at e; omega
            case measure => simp [intOf]; omega
          · have hin1' : ¬ (k : Int) < 60 * (i : Int) + 60 := by omega
            go_wp2_with (first
              | (go_at_call 34; refine HSl.out.mono ?_; rintro e w4 ⟨rfl, hb4⟩; have HB4 := Lib.hid hb4; clear hb4)
              | (refine wpList_slice_one rfl 63 40 (.tmp 47) rfl 64 (secv zs) (bc (sealL xs)) (by kernel_rfl) Try.underlying63 sec_infoZ' rfl (by omega) (by omega) HSl64.out ?_)
              | (at_builtin
                 refine wpList_append_at rfl (.tmp 45) (.tmp 48) _ _ rfl 40 i1 _ 64 64 Try.underlying63 hi1 hy0 hy1 hy2 rfl O i co _ rfl (own_below HOw.out (HB4.out.alloc (by have := HB4.out.size; omega) _)) _ 1 _ rfl (src_new (t := 40) Try.underlying63 _ (bc (sealL xs)).toArray (by rw [List.size_toArray, HSl64.out]) (by simpa using bc_one _)) (by unfold maxLen; omega) (by omega) ?_
                 intro A2 c2 w5 ho2 hg2 hat2))
            go_roundw
            case rel =>
              have hs := H6.out.size
              have hs4 := HB4.out.size
              have hsr := H3.out.size
              have hb2 : Below w.heap.size wr w5 := ((HB4.out.mono (by omega)).alloc (by omega) _).grown hg2 (by simp; omega) (fun k e => by have := H2.out k e; omega)
              refine ⟨i + 1, A2, c2, rfl, by go_num, by omega, ?_, fun k e => ?_, (H3.out.trans (H6.out.mono hsr)).trans hb2⟩
              · rw [HLt.out, ← HE.out]
                have : (secR (L.take i ++ [sealL xs])).flatten = (secR (L.take i)).flatten ++ bc (sealL xs) := by simp [secR]
                rw [this]; simpa using ho2
              · rcases hat2 with h | h
                · rw [h] at e; exact H2.out k e
                · rw [h] at e; injection e with e; simp at e; omega
            case measure => simp [intOf]; omega
    · obtain rfl : i = m := by omega
      have HF := Lib.hid (show L.take i = L by rw [List.take_of_length_le (by rw [HLL.out]; exact Nat.le_refl _)])
      go_wp2_with fail
      go_ret
      rw [HLL.out]
      refine ⟨H3.out, O, co, rfl, ?_, H2.out⟩
      have := H1.out
      rw [HF.out] at this
      rw [HLL.out]
      exact this

end Go.Proofs.Ytlaecnggbcagcaa
