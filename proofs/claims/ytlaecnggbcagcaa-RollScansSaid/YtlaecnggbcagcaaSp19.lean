/- Layer 19's statements' own head: an entry of two sectors. -/
import Derived.Test.YtlaecnggbcagcaaRl12
namespace Go.Proofs.Ytlaecnggbcagcaa
open Go.RowKit MM
set_option linter.unusedVariables false
set_option linter.unusedSimpArgs false

theorem made_byte (n : Nat) : madeCells (Value.int .u8 0).cells (n * 1) = (bc (List.replicate n 0)).toArray := by
  rw [Nat.mul_one]
  apply Array.ext_getElem?
  intro j
  unfold madeCells
  by_cases hj : j < n
  · rw [Array.getElem?_map, Array.getElem?_eq_getElem (by simpa using hj), Array.getElem_range]
    have : j % (Value.int .u8 0).cells.size = 0 := by show j % 1 = 0; omega
    simp only [Option.map_some, this]
    rw [List.getElem?_toArray, bc, List.map_replicate, List.getElem?_replicate, if_pos hj]
    rfl
  · rw [Array.getElem?_eq_none (by simpa using hj), List.getElem?_toArray, List.getElem?_eq_none (by simpa [bc] using hj)]
def b19 : List UInt8 := List.replicate 61 0
theorem b19_own (w : World) : (w.alloc (.cells (bc b19).toArray 5)).ownsRow 0 5 1 (.slice (some ⟨w.heap.size, 0, none⟩) 61 61) 61 (bc b19) :=
  World.ownsRow_lit w (bc b19).toArray 61 (Nat.zero_le _) (by unfold maxLen; omega) rfl

set_option maxHeartbeats 4000000 in
set_option maxRecDepth 100000 in
theorem speaks19_any (w : World) :
    Calls Try.prog 39 #[] w fun e w' => e = .returned (.bool true) ∧ Below w.heap.size w w' := by
  obtain ⟨i1, hi1, hy0, hy1, hy2⟩ := info_parts byte_info
  have HI := Lib.hid (And.intro hy1 hy2)
  go_enter Try.func39, Try.ntmps39
  go_wp2_with fail
  refine (show Calls Try.prog 17 #[.int .i64 4] w _ from tNew 4 w (by omega) (by omega)).mono ?_
  rintro e w1 ⟨p, rfl, h1, hb1⟩
  have HN := Lib.hid (RSt.new (f := 1) (k := 3) (r := 0) (N := 4) rfl (by decide))
  obtain ⟨d1, hd1⟩ : ∃ d1, d1 = Dk.new 4 := ⟨_, rfl⟩
  have HPd := Lib.hid (show d1.pend.length ≤ 5000 by rw [hd1]; exact Nat.zero_le _)
  rw [← hd1] at h1 HN
  have H1 := Lib.hid h1
  have HB1 := Lib.hid hb1
  clear h1 hb1 hd1
  go_wp2_with fail
  refine (show Calls Try.prog 41 #[.pointer (some ⟨p, 0, none⟩), .agg (arV 1 3)] w1 _ from open_st _ p d1 _ _ [] 3 1 3 w1 HN.out.1 rfl rfl (by decide) HPd.out H1.out).mono ?_
  rintro e w2 ⟨hk2, q, A2, c2, vs2, U2, rfl, hr2, h2, -, hq2, hu2⟩
  have HR2 := Lib.hid (show RlAt w2 q p 1 4 from hr2)
  obtain ⟨T2, hT2⟩ : ∃ T2 : Nat → Prop, T2 = fun k => w.heap.size ≤ k ∧ ¬ U2 k := ⟨_, rfl⟩
  rw [← hT2] at h2
  have H2 := Lib.hid h2
  have HT2 := Lib.hid (show (∀ k, T2 k → w.heap.size ≤ k) ∧ ¬ T2 q ∧ w.heap.size ≤ q by rw [hT2]; exact ⟨fun k x => x.1, fun x => x.2 hq2, Nat.le_trans HB1.out.size (hu2 q hq2).1⟩)
  have HB2 := Lib.hid (HB1.out.trans (hk2.below HB1.out.size (fun k hk x => by omega)))
  have HL2 := Lib.hid (left_any q p 1 4 w2 hr2 (by decide) (by decide))
  clear hT2 h2 hr2 hk2 hu2 hq2
  obtain ⟨d2, hap, hs2, -, hpe⟩ := HN.out.1.app (b := b19) (a := 1) (e := 4) (by decide) (by decide) rfl rfl
  obtain ⟨d3, hsy, hs3, hf3⟩ := hs2.sync
  have HAp := Lib.hid (show d1.app 1 4 b19 = (d2, 0, 3) from hap)
  have HP2 := Lib.hid (show d2.pend.length ≤ 5000 by rw [hpe, List.length_append, atL_len, secsL_len, HN.out.2.2]; decide)
  have HSy := Lib.hid hsy
  have HP3 := Lib.hid (show d3.pend.length ≤ 5000 by rw [hf3.2]; exact Nat.zero_le _)
  have HS3 := Lib.hid hs3
  have HFu := Lib.hid (show d3.app 3 4 b19 = (d3, 8, 3) from hs3.app_full (by decide) (by decide))
  obtain ⟨d4, hwi, -⟩ := wipe_up (a := 1) (n := 3) hs3.up hs3.left (by rw [hs3.len]; decide) hs3.lim
  have HCl := Lib.hid (show (d3.clearA 1 3).2 = 0 by unfold Dk.clearA; rw [if_pos (show areaE d3 1 3 = 0 from hs3.areaE (n := 3) rfl (by decide))]; exact congrArg (·.2) hwi)
  clear hap hs2 hpe hsy hs3 hf3 hwi HN
  go_wp2_with (first
    | (go_at_call 45; refine HL2.out.mono ?_; rintro e w3 ⟨rfl, hb3⟩; have HB3 := Lib.hid hb3; clear hb3)
    | (go_at_call 50; refine (show Calls Try.prog 50 #[.int .i64 61] _ _ from need_any 61 (by decide) _).mono ?_; rintro e wq ⟨rfl, hq⟩; rw [hq]; clear hq wq)
    | (refine wpList_make rfl 51 5 (.const (.int .i64 61)) rfl i1 (.int .u8 0) Try.underlying51 hi1 hy0 61 (by kernel_rfl) (by rw [HI.out.2]; omega) (by omega) ?_
       rw [HI.out.1, made_byte]
       change wpList _ _ _ _ _ (w3.alloc (.cells (bc b19).toArray 5))
       have hb4 := (Below.refl w3.heap.size w3).alloc (Nat.le_refl _) (.cells (bc b19).toArray 5)
       have ho4 := b19_own w3
       have hsz4 : (w3.alloc (.cells (bc b19).toArray 5)).heap.size = w3.heap.size + 1 := by simp
       generalize World.alloc w3 _ = w4 at *
       generalize hg4 : w3.heap.size = g4 at *
       have HBt := Lib.hid (Bts.own (xs := b19) ho4)
       have HB24 := Lib.hid (HB3.out.trans (hb4.mono (by have := HB3.out.size; omega)))
       clear hb4 ho4))
  have HG4 := Lib.hid (And.intro hg4 hsz4)
  have H4 := Lib.hid (H2.out.now HB24.out)
  obtain ⟨T4, hT4⟩ : ∃ T4 : Nat → Prop, T4 = fun k => T2 k ∧ (k < w2.heap.size ∨ w4.heap.size ≤ k) := ⟨_, rfl⟩
  rw [← hT4] at H4
  have HT4 := Lib.hid (show (∀ k, T4 k → w.heap.size ≤ k) ∧ ¬ T4 q ∧ ¬ T4 g4 by
    rw [hT4]
    refine ⟨fun k x => HT2.out.1 k x.1, fun x => HT2.out.2.1 x.1, fun x => ?_⟩
    have := HG4.out
    have := HB3.out.size
    rcases x.2 with y | y <;> omega)
  have HR4 := Lib.hid (HR2.out.below HB24.out)
  have HQ := Lib.hid (show q < g4 by have := lt_of_heap HR2.out; have := HG4.out; have := HB3.out.size; omega)
  have HGw := Lib.hid (show w.heap.size ≤ g4 by have := HB2.out.size; have := HG4.out; have := HB3.out.size; omega)
  have HB4 := Lib.hid (HB2.out.trans (HB24.out.mono HB2.out.size))
  clear hT4 hg4 hsz4 HB3 HL2 HB24
  refine (show Calls Try.prog 48 #[.pointer (some ⟨q, 0, none⟩), .slice (some ⟨g4, 0, none⟩) 61 61] w4 _ from append_any T4 p q 1 4 d1 (some ⟨g4, 0, none⟩) 61 b19 w4 HBt.out (by decide) (fun h => by cases h) (by decide) (by decide) (by decide) HPd.out HR4.out HT4.out.2.1 H4.out).mono ?_
  rintro e w5 ⟨rfl, h5, hr5, hk5⟩
  rw [HAp.out] at h5 hr5 ⊢
  have H5 := Lib.hid h5
  have HR5 := Lib.hid (show RlAt w5 q p 3 4 from hr5)
  have HB5 := Lib.hid (HB4.out.trans (hk5.below HB4.out.size (fun k hk x => by rcases x with x | x; exact absurd (HT4.out.1 k x) (by omega); have := HT2.out.2.2; omega)))
  have HBt5 := Lib.hid (HBt.out.kp hk5 (fun ad e => by injection e with e; subst e; rintro (x | x); exact HT4.out.2.2 x; exact absurd (show g4 = q from x) (by have := HQ.out; omega)))
  clear h5 hr5 hk5 HBt HR4 H4
  go_wp2_with (first
    | (go_at_call 51
       refine (rsync_any T4 p q 3 4 d2 w5 (by have := HP2.out; omega) HR5.out H5.out).mono ?_
       rintro e w6 ⟨rfl, h6, hk6⟩
       rw [HSy.out] at h6 ⊢
       have H6 := Lib.hid h6
       have HR6 := Lib.hid (HR5.out.kp hk6 HT4.out.2.1)
       have HB6 := Lib.hid (HB5.out.trans (hk6.below HB5.out.size (fun k hk x => absurd (HT4.out.1 k x) (by omega))))
       have HBt6 := Lib.hid (HBt5.out.kp hk6 (fun ad e => by injection e with e; subst e; exact HT4.out.2.2))
       clear h6 hk6)
    | (go_at_call 48
       refine (show Calls Try.prog 48 #[.pointer (some ⟨q, 0, none⟩), .slice (some ⟨g4, 0, none⟩) 61 61] w6 _ from append_any T4 p q 3 4 d3 (some ⟨g4, 0, none⟩) 61 b19 w6 HBt6.out (by decide) (fun h => by cases h) (by decide) (by decide) (by decide) HP3.out HR6.out HT4.out.2.1 H6.out).mono ?_
       rintro e w7 ⟨rfl, h7, hr7, hk7⟩
       rw [HFu.out] at h7 hr7 ⊢
       have H7 := Lib.hid h7
       have HR7 := Lib.hid (show RlAt w7 q p 3 4 from hr7)
       have HB7 := Lib.hid (HB6.out.trans (hk7.below HB6.out.size (fun k hk x => by rcases x with x | x; exact absurd (HT4.out.1 k x) (by omega); have := HT2.out.2.2; omega)))
       have HBt7 := Lib.hid (HBt6.out.kp hk7 (fun ad e => by injection e with e; subst e; rintro (x | x); exact HT4.out.2.2 x; exact absurd (show g4 = q from x) (by have := HQ.out; omega)))
       clear h7 hr7 hk7)
    | (go_at_call 45
       refine (left_any q p 3 4 w7 HR7.out (by decide) (by decide)).mono ?_
       rintro e w8 ⟨rfl, hb8⟩
       have H8 := Lib.hid (H7.out.below hb8)
       have HB8 := Lib.hid (HB7.out.trans (hb8.mono HB7.out.size))
       have HBt8 := Lib.hid (HBt7.out.below hb8)
       clear hb8))
  refine (show Calls Try.prog 40 #[.pointer (some ⟨p, 0, none⟩), .agg (arV 1 3)] w8 (fun x w' => Below w8.heap.size w8 w' ∧ ∃ vs A c, x = .returned (.tuple #[.slice A 1 c, .int .i64 2, .int .i64 0]) ∧ EntsO w' (fun k => w8.heap.size ≤ k) A c [b19] vs) from by
    have h := scan_st T4 p d3 _ _ _ _ 1 3 w8 HS3.out rfl rfl (by decide) H8.out
    rw [show (((flE ([] ++ [b19])).length : Nat) : Int) = 2 by rw [show flE ([] ++ [b19]) = secsL b19 by simp [flE], secsL_len]; rfl] at h
    exact h).mono ?_
  rintro e w9 ⟨hb9, vs, A9, c9, rfl, hes⟩
  have H9 := Lib.hid (H8.out.now hb9)
  have HB9 := Lib.hid (HB8.out.trans (hb9.mono HB8.out.size))
  have HBt9 := Lib.hid (HBt8.out.below hb9)
  obtain ⟨g, o, a, c, hA, hEg, hg, hcl, hbt, hlc, hcn, hbk⟩ := hes.read.at_ (i := 0) (x := b19) rfl
  subst hA
  clear hb9
  have hcl' : w9.cell? ⟨g, o, none⟩ = some (.slice a 61 c) := hcl
  have hs1 : (convert 51 9 (.slice a 61 c)).run Try.prog w9.drew = .ok (.string ⟨b19.toArray⟩) w9.drew := run_str (xs := b19) (hbt.below (below_drew (Below.refl _ _))) rfl rfl
  have hs2 : (convert 51 9 (.slice (some ⟨g4, 0, none⟩) 61 61)).run Try.prog w9.drew = .ok (.string ⟨b19.toArray⟩) w9.drew := run_str (xs := b19) (HBt9.out.below (below_drew (Below.refl _ _))) rfl rfl
  have HCc := Lib.hid (clear_any _ p d3 1 3 (by decide) w9.drew HP3.out (H9.out.below (below_drew (Below.refl _ _))))
  have HT9 := Lib.hid (show ∀ k, k < w.heap.size → ¬ (T4 k ∧ (k < w8.heap.size ∨ w9.heap.size ≤ k)) from fun k hk x => by have := HT4.out.1 k x.1; omega)
  clear hes hlc hcn hbk hEg hcl hbt
  go_upto_region 9 with fail
  go_still_tail 23, (by kernel_rfl)
  change wpList _ _ _ _ _ (World.drew w9)
  clear hs1 hs2 hcl'
  have HB9d := Lib.hid (show Below w.heap.size w (World.drew w9) from HB9.out.trans ((below_drew (Below.refl _ _)).mono HB9.out.size))
  generalize World.drew w9 = v0 at *
  go_wp2_with (first
    | (go_at_call 42; refine (show Calls Try.prog 42 #[.pointer (some ⟨p, 0, none⟩), .agg (arV 1 3)] v0 _ from HCc.out).mono ?_; rintro e w10 ⟨rfl, -, hk10⟩; rw [HCl.out]; have HBz := Lib.hid (HB9d.out.trans (hk10.below HB9d.out.size (fun k hk x => absurd x (HT9.out k hk)))); clear hk10))
  go_ret
  exact ⟨rfl, HBz.out⟩

end Go.Proofs.Ytlaecnggbcagcaa
