/- Contracts of the document's own answers for layer 2: the text that bytes begin with. -/
import Derived.Test.YtmfjacehompmmaaFirst
namespace Go.Proofs.Ytmfjacehompmmaa
open Go.RowKit MM

set_option maxHeartbeats 1000000 in
set_option maxRecDepth 100000 in
theorem first_s (A : Option Addr) (c : Nat) (xs : List UInt8) (m : Int) (w : World) (hb : Bts w A xs) (hl : Lim xs.length) (hcap : xs.length ≤ c) (hm : (Lit.int .i64 m).wf = true) :
    Calls Try.prog 43 #[.slice A xs.length c, .int .u8 115, .int .i64 m] w (FPost (partR 115 m xs) w) := by
  have hm' := wf_i64 hm
  have hP : partR 115 m xs = Res.map (fun s => { PK.zeroPt 115 with s := ⟨s.toArray⟩ }) (txtR m xs) := rfl
  rw [hP]
  clear hP
  obtain ⟨a, b, e, hN⟩ : ∃ a b e, PK.numL 0 0 xs = (a, b, e) := ⟨_, _, _, rfl⟩
  have hx := fun o o' => rnum_at A c xs xs.length a b e ((w.alloc o).alloc o') ((hb.alloc o).alloc o') hl rfl hN
  have Hx := Lib.hid hx
  clear hx
  cases e with
  | succ e =>
    rw [txtR_bad (numR_bad hN)]
    clear hN hb
    generalize xs.length = n at *
    have he : ¬ ((e + 1 : Nat) : Int) = 0 := by omega
    go_enter Try.func43, Try.ntmps43
    go_wp2_with (go_at_call 66; refine (Hx.out _ _).mono ?_; rintro e1 w1 ⟨rfl, rfl⟩)
    refine bodyPost_ret (v := .tuple #[.agg #[.int .u8 115, .int .u64 0, .int .i64 0, .int .u64 0, .string ⟨#[]⟩, .bool false], .int .i64 b, .int .i64 ((e + 1 : Nat) : Int)]) (by simp [results, Try.results43, go_sem]) rfl ?_
    exact FPost.mis ⟨115, 0, 0, 0, ⟨#[]⟩, false⟩ rfl rfl rfl rfl (below2 w _ _)
  | zero =>
    have hR := numR_ok hN
    rw [txtR_of hR]
    have hbl := numR_len hR
    have haw := numR_w hR
    clear hN
    have hn32 : (xs.length : Int) ≤ 4294967296 := by unfold Lim at hl; omega
    obtain ⟨M, hM, hMs⟩ : ∃ M : Nat, m.toNat = M ∧ (M : Int) ≤ 9223372036854775807 := ⟨m.toNat, rfl, by omega⟩
    have htb : tooB a m = decide (M < a) := by unfold tooB; rw [hM]
    rw [htb]
    have hwM : IntKind.u64.wrap (M : Int) = (M : Int) := by rw [IntKind.wrap_u64]; omega
    have hw2 : IntKind.u64.wrap ((xs.length : Int) - (b : Int)) = (xs.length : Int) - (b : Int) := by rw [IntKind.wrap_u64]; omega
    have hMm : m < 0 ∧ M = 0 ∨ m = (M : Int) := by omega
    clear htb hM hm hm' haw
    by_cases ht : M < a
    · have hti : (M : Int) < (a : Int) := by omega
      rw [decide_eq_true ht, if_pos rfl]
      clear hR hw2 hb
      generalize xs.length = n at *
      rcases hMm with ⟨h0, rfl⟩ | rfl
      · have hti : (0 : Int) < (a : Int) := by omega
        clear hwM
        go_enter Try.func43, Try.ntmps43
        go_wp2_with (go_at_call 66; refine (Hx.out _ _).mono ?_; rintro e1 w1 ⟨rfl, rfl⟩)
        refine bodyPost_ret (v := .tuple #[.agg #[.int .u8 115, .int .u64 0, .int .i64 0, .int .u64 0, .string ⟨#[]⟩, .bool false], .int .i64 b, .int .i64 3]) (by simp [results, Try.results43, go_sem]) rfl ?_
        exact FPost.mis ⟨115, 0, 0, 0, ⟨#[]⟩, false⟩ rfl rfl rfl rfl (below2 w _ _)
      · have h0 : ¬ (M : Int) < 0 := by omega
        go_enter Try.func43, Try.ntmps43
        go_wp2_with (go_at_call 66; refine (Hx.out _ _).mono ?_; rintro e1 w1 ⟨rfl, rfl⟩)
        refine bodyPost_ret (v := .tuple #[.agg #[.int .u8 115, .int .u64 0, .int .i64 0, .int .u64 0, .string ⟨#[]⟩, .bool false], .int .i64 b, .int .i64 3]) (by simp [results, Try.results43, go_sem]) rfl ?_
        exact FPost.mis ⟨115, 0, 0, 0, ⟨#[]⟩, false⟩ rfl rfl rfl rfl (below2 w _ _)
    · have hti : ¬ (M : Int) < (a : Int) := by omega
      rw [decide_eq_false ht, if_neg (by simp)]
      by_cases hs : xs.length - b < a
      · have hsi : (xs.length : Int) - (b : Int) < (a : Int) := by omega
        rw [if_pos hs]
        clear hR hb
        generalize xs.length = n at *
        rcases hMm with ⟨h0, rfl⟩ | rfl
        · omega
        · have h0 : ¬ (M : Int) < 0 := by omega
          go_enter Try.func43, Try.ntmps43
          go_wp2_with (go_at_call 66; refine (Hx.out _ _).mono ?_; rintro e1 w1 ⟨rfl, rfl⟩)
          refine bodyPost_ret (v := .tuple #[.agg #[.int .u8 115, .int .u64 0, .int .i64 0, .int .u64 0, .string ⟨#[]⟩, .bool false], .int .i64 b, .int .i64 2]) (by simp [results, Try.results43, go_sem]) rfl ?_
          exact FPost.mis ⟨115, 0, 0, 0, ⟨#[]⟩, false⟩ rfl rfl rfl rfl (below2 w _ _)
      · have hsi : ¬ (xs.length : Int) - (b : Int) < (a : Int) := by omega
        rw [if_neg hs]
        obtain ⟨g, off, rfl, hgl, hcl⟩ := bts_at hb (i := 0) (by omega)
        clear hcl
        have hwa : IntKind.i64.wrap (a : Int) = (a : Int) := by rw [IntKind.wrap_i64]; omega
        have hlo : (0 : Int) ≤ (b : Int) := by omega
        have hhi : (b : Int) + (a : Int) ≤ (c : Int) := by omega
        have hbc : (b : Int) ≤ (b : Int) + (a : Int) := by omega
        obtain ⟨T, hT⟩ : ∃ T, (xs.drop b).take a = T := ⟨_, rfl⟩
        have hTl : T.length = a := by rw [← hT, List.length_take, List.length_drop]; omega
        have hcut := hb.cut b a c (by omega) hcap
        rw [hT] at hcut ⊢
        clear hR hb hT
        generalize xs.length = n at *
        by_cases hcc : c = b
        · have ha0 : a = 0 := by omega
          have hT0 : T = [] := List.eq_nil_of_length_eq_zero (by omega)
          subst hcc ha0 hT0
          have hcv := fun o o' => run_text (P := Try.prog) ((w.alloc o).alloc o') 26 9 5 (some ⟨g, off, none⟩) 0 [] Try.underlying26 Try.underlying5 Try.underlying9 (Bts.nil _)
          rw [List.length_nil] at hcv
          clear hcut hTl hs ht
          rcases hMm with ⟨h0, rfl⟩ | rfl
          · clear hwM
            go_enter Try.func43, Try.ntmps43
            go_wp2_with (go_at_call 66; refine (Hx.out _ _).mono ?_; rintro e1 w1 ⟨rfl, rfl⟩)
            refine bodyPost_ret (v := .tuple #[.agg #[.int .u8 115, .int .u64 0, .int .i64 0, .int .u64 0, .string ⟨#[]⟩, .bool false], .int .i64 (c : Int), .int .i64 0]) (by simp [results, Try.results43, go_sem]) rfl ?_
            exact FPost.good rfl rfl (by omega) (below2 w _ _)
          · have h0 : ¬ (M : Int) < 0 := by omega
            go_enter Try.func43, Try.ntmps43
            go_wp2_with (go_at_call 66; refine (Hx.out _ _).mono ?_; rintro e1 w1 ⟨rfl, rfl⟩)
            refine bodyPost_ret (v := .tuple #[.agg #[.int .u8 115, .int .u64 0, .int .i64 0, .int .u64 0, .string ⟨#[]⟩, .bool false], .int .i64 (c : Int), .int .i64 0]) (by simp [results, Try.results43, go_sem]) rfl ?_
            exact FPost.good rfl rfl (by omega) (below2 w _ _)
        · have hA : cutA (some ⟨g, off, none⟩) b c = some ⟨g, off + b, none⟩ := by unfold cutA; rw [if_neg hcc]; simp [add_plain]
          rw [hA] at hcut
          have hcv := fun o o' => run_text (P := Try.prog) ((w.alloc o).alloc o') 26 9 5 _ (c - b) _ Try.underlying26 Try.underlying5 Try.underlying9 ((hcut.alloc o).alloc o')
          rw [hTl] at hcv
          clear hA hcut hTl
          rcases hMm with ⟨h0, rfl⟩ | rfl
          · clear hwM
            have hti : ¬ (0 : Int) < (a : Int) := by omega
            go_enter Try.func43, Try.ntmps43
            go_wp2_with (go_at_call 66; refine (Hx.out _ _).mono ?_; rintro e1 w1 ⟨rfl, rfl⟩)
            refine bodyPost_ret (v := .tuple #[.agg #[.int .u8 115, .int .u64 0, .int .i64 0, .int .u64 0, .string ⟨T.toArray⟩, .bool false], .int .i64 ((b : Int) + (a : Int)), .int .i64 0]) (by simp [results, Try.results43, go_sem]) rfl ?_
            exact FPost.good rfl rfl (by omega) (below2 w _ _)
          · have h0 : ¬ (M : Int) < 0 := by omega
            go_enter Try.func43, Try.ntmps43
            go_wp2_with (go_at_call 66; refine (Hx.out _ _).mono ?_; rintro e1 w1 ⟨rfl, rfl⟩)
            refine bodyPost_ret (v := .tuple #[.agg #[.int .u8 115, .int .u64 0, .int .i64 0, .int .u64 0, .string ⟨T.toArray⟩, .bool false], .int .i64 ((b : Int) + (a : Int)), .int .i64 0]) (by simp [results, Try.results43, go_sem]) rfl ?_
            exact FPost.good rfl rfl (by omega) (below2 w _ _)

end Go.Proofs.Ytmfjacehompmmaa
