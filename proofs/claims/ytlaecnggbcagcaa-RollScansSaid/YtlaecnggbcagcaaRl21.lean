/- Contract: moietyref19.Scan. -/
import Derived.Test.YtlaecnggbcagcaaRl20
namespace Go.Proofs.Ytlaecnggbcagcaa
open Go.RowKit MM
set_option linter.unusedVariables false
set_option linter.unusedSimpArgs false

theorem fst_none : ∀ b, ¬ Fst [] b := fun b hb => by
  have := hb.le
  have := needN_pos b.length
  simp at *
  omega
def RScanPost (l : List (List UInt8)) (w : World) (e : Ending) (w' : World) : Prop :=
  Below w.heap.size w w' ∧ ∃ es vs A c r, Scn l es r ∧ e = .returned (.tuple #[.slice A es.length c, .int .i64 ((flE es).length : Nat)]) ∧ EntsO w' (fun k => w.heap.size ≤ k) A c es vs

set_option maxHeartbeats 4000000 in
set_option maxRecDepth 100000 in
theorem rscan_any (A : Option Addr) (c : Nat) (l : List (List UInt8)) (w : World) (hA : Sls w A l) (hs : ∀ s ∈ l, s.length = 64) (hcap : l.length ≤ c) (hl : l.length ≤ 4096) :
    Calls Try.prog 43 #[.slice A l.length c] w (RScanPost l w) := by
  have HA := Lib.hid hA
  have HS := Lib.hid hs
  have HC := Lib.hid hcap
  have HL := Lib.hid hl
  have hl' : (l.length : Int) ≤ 4096 := by omega
  obtain ⟨i2, hi2, hz0, hz1, hz2⟩ := info_parts bt_info3
  clear hA hs hcap
  go_enter Try.func43, Try.ntmps43
  go_wp2_with fail
  generalize hw1 : World.alloc w _ = w1
  have HO1 := Lib.hid (show EntsO w1 (fun k => w.heap.size ≤ k) (some ⟨w.heap.size, 0, none⟩) 0 [] [] from ⟨by rw [← hw1]; exact World.ownsRow_lit (base := 0) (e := 51) (size := 1) w #[] 0 (Nat.zero_le _) (by unfold maxLen; omega) rfl, fun i x v hx => (by cases hx), fun k e => (by injection e with e; simp at e; omega), fun v hv => (by cases hv)⟩)
  have HB1 := Lib.hid (show Below w.heap.size w w1 by rw [← hw1]; exact (Below.refl _ _).alloc (Nat.le_refl _) _)
  clear hw1
  go_loopw [4, 5] (fun to_ ta wr => ∃ (lo : Nat) (es : List (List UInt8)) (vs : List Value) (Ae : Option Addr) (ce : Nat) (rest : List (List UInt8)), to_ = .slice Ae es.length ce ∧ ta = .int .i64 (lo : Int) ∧ lo = (flE es).length ∧ l = flE es ++ rest ∧ (∀ e ∈ es, e.length ≤ 3840) ∧ es.length ≤ lo ∧ EntsO wr (fun k => w.heap.size ≤ k) Ae ce es vs ∧ Below w.heap.size w wr) (fun _ t _ => l.length - (intOf t).toNat)
  case atStart => exact ⟨0, [], [], _, 0, l, rfl, rfl, rfl, rfl, fun e he => (by cases he), Nat.le_refl _, HO1.out, HB1.out⟩
  case round =>
    obtain ⟨lo, es, vs, Ae, ce, rest, rfl, rfl, hlo, hsp, hel, hle, hen, hbw⟩ := hrel
    have HLo := Lib.hid hlo
    have HSp := Lib.hid hsp
    have HEl := Lib.hid hel
    have HLe := Lib.hid hle
    have HEn := Lib.hid hen
    have HBw := Lib.hid hbw
    have HLl := Lib.hid (show l.length = lo + rest.length by rw [hsp, List.length_append, hlo])
    clear hsp hel hen hbw HO1 HB1 hlo hle
    by_cases hlt : lo < l.length
    · have hlt' : (lo : Int) < (l.length : Int) := by omega
      have hdr : l.drop lo = rest := by rw [HSp.out, HLo.out, List.drop_left]
      have HSl := Lib.hid (show Sls wr (cut64 A lo c) rest by have h := (HA.out.below HBw.out).drop (n := lo) (cap := c) (by omega) HC.out; rwa [hdr] at h)
      have HRs := Lib.hid (show ∀ s ∈ rest, s.length = 64 from fun s hs => HS.out s (by rw [HSp.out]; exact List.mem_append_right _ hs))
      have hcut : ∀ w9, (Instr.slice 63 (.slice A l.length c) (some (.int .i64 (lo : Int))) none none).run Try.prog w9 = .ok (.slice (cut64 A lo c) rest.length (c - lo)) w9 := fun w9 => by
        have h := slice_from64 A l.length c lo (by omega) w9
        rwa [show l.length - lo = rest.length by have := HLl.out; omega] at h
      have HOn := Lib.hid (rone_any (cut64 A lo c) (c - lo) rest wr HSl.out HRs.out (by have := HLl.out; have := HL.out; omega))
      clear hdr
      go_wp2_with fail
      refine HOn.out.mono ?_
      rintro e w4 ⟨hb4, ⟨b, A4, c4, hfst, rfl, ho4, hk4⟩ | ⟨hno, rfl⟩⟩
      · have HB4 := Lib.hid hb4
        have HF4 := Lib.hid hfst
        have HO4 := Lib.hid ho4
        have HK4 := Lib.hid (show ∀ k, ob A4 = some k → wr.heap.size ≤ k from hk4)
        have HEn4 := Lib.hid (HEn.out.below hb4)
        obtain ⟨N, hN⟩ : ∃ N, N = needN b.length := ⟨_, rfl⟩
        have HNe := Lib.hid hN
        have HNp := Lib.hid (show 0 < N ∧ N ≤ 64 ∧ N ≤ rest.length by rw [hN]; exact ⟨needN_pos _, needN_le hfst.1, hfst.le⟩)
        have HBl := Lib.hid hfst.1
        rw [← hN]
        have hn0 : ¬ (N : Int) = 0 := by have := HNp.out; omega
        have hn64 : (N : Int) ≤ 64 := by have := HNp.out; omega
        have hlo4 : (lo : Int) ≤ 4096 := by omega
        have hes : es.length ≤ 4096 := by have := HLe.out; omega
        clear hb4 hfst ho4 hk4 hN
        go_wp2_with (first
          | (at_builtin
             refine wpList_append_at rfl (.tmp 24) (.tmp 26) _ _ rfl 51 i2 _ 1 24 Try.underlying66 hi2 hz0 hz1 hz2 rfl Ae es.length ce vs rfl (HEn4.out.own.alloc _) _ 1 _ rfl (src_one Try.underlying66 _ _ rfl) (by unfold maxLen; omega) (by omega) ?_
             intro A5 c5 w5 ho5 hg5 hat5
             have HEn5 := Lib.hid (HEn4.out.push (EntV.own HO4.out (fun k e => Nat.le_trans HBw.out.size (HK4.out k e))) (fun k e z => by
               rw [ownBlock_slice] at e
               have h1 := HK4.out k e
               have h2 := (HEn.out.own.lt k (by rw [ownBlock_slice]; exact z)).2
               omega) hg5 hat5 ho5 (fun k hk => Nat.le_trans (Nat.le_trans HBw.out.size HB4.out.size) hk))
             have hb5 : Below w.heap.size w4 w5 := ((Kp.refl (fun k => ob Ae = some k) w4).alloc _).grown hg5 (fun k e => .inl e) |>.below (Nat.le_trans HBw.out.size HB4.out.size) (fun k hk e => by have := HEn.out.blk k e; omega)
             have HB5 := Lib.hid (HBw.out.trans ((HB4.out.mono HBw.out.size).trans hb5))
             clear ho5 hg5 hat5 hb5))
        go_roundw
        case rel =>
          refine ⟨lo + N, es ++ [b], vs ++ [_], _, _, rest.drop N, ?_, by go_num, ?_, ?_, ?_, ?_, HEn5.out, HB5.out⟩
          · rw [List.length_append]; rfl
          · rw [flE_snoc, List.length_append, secsL_len, ← HLo.out, HNe.out]
          · rw [HNe.out]; exact scn_snoc HSp.out HF4.out
          · intro e he
            rcases List.mem_append.1 he with y | y
            · exact HEl.out e y
            · have : e = b := by simpa using y
              rw [this]; exact HBl.out
          · rw [List.length_append, List.length_singleton]; have := HLe.out; have := HNp.out; omega
        case measure => simp [intOf]; have := HNp.out; omega
      · have HNo := Lib.hid hno
        have HB4 := Lib.hid (HBw.out.trans (hb4.mono HBw.out.size))
        have HE4 := Lib.hid (HEn.out.below hb4)
        clear hno hb4
        go_wp2_with fail
        go_ret2
        exact ⟨HB4.out, es, vs, Ae, ce, rest, ⟨HSp.out, HEl.out, HNo.out⟩, by rw [← HLo.out]; rfl, HE4.out⟩
    · have hlt' : ¬ (lo : Int) < (l.length : Int) := by omega
      obtain rfl : rest = [] := List.eq_nil_of_length_eq_zero (by have := HLl.out; omega)
      go_wp2_with fail
      go_ret2
      exact ⟨HBw.out, es, vs, Ae, ce, [], ⟨HSp.out, HEl.out, fst_none⟩, by rw [← HLo.out]; rfl, HEn.out⟩

end Go.Proofs.Ytlaecnggbcagcaa
