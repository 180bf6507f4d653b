/- The walk of RecChecks. -/
import Derived.Test.YtjonkchmechecaaDoorBig3
import Derived.Test.YtjonkchmechecaaDoorOpn3
import Derived.Deep.RegionHeld3
namespace Go.Proofs.YtjonkchmechecaaDoor
open Go.RowKit MM

set_option maxHeartbeats 2000000 in
set_option maxRecDepth 100000 in
theorem recChecks_any (r : RC.Rc) (A : Option Addr) (c : Nat) (k : Int) (w : World) (hr : RecIn w r A c) (hk : (Lit.int .i64 k).wf = true) (hN : NamesAt w) :
    Calls Tryd.prog 3 #[recV r A c, .int .i64 k] w fun e w' => e = .returned (.bool true) ∧ Below w.heap.size w w' := by
  have HS := Lib.hid (fun w hN => speaks3_any w hN)
  have HG := Lib.hid (fun w hA => big3_any r A c w hA hr.len)
  have HC := Lib.hid (fun w hA hn => recCheck_any r A c w hr.ok hA hn)
  have HR := Lib.hid (fun w hA hn => rcheck_any r A c w hr.ok hA hn)
  have HI := Lib.hid hr.its
  have Hn := Lib.hid (fun h => (big_not (r := r) h).1)
  have HN := Lib.hid hN
  have HName := Lib.hid (fun w hN => recName_any k w hN)
  clear hN
  generalize RC.big r = g at *
  generalize RC.chk r = E at *
  obtain ⟨kk, n, l, h, x, cap, t, s⟩ := r
  go_enter Tryd.func3, Tryd.ntmps3
  go_wp2_with fail
  refine (HS.out _ (HN.out.below (below1 w _))).mono ?_
  rintro e w1 ⟨rfl, hb1⟩
  have e0 := (hb1.block w.heap.size (by simp)).trans (heap_alloc_new w _)
  have c0 := fun o => cell_of_row w1 _ o _ _ (0, 0) e0
  have HB1 := Lib.hid (show Below w.heap.size w w1 from (below1 w _).trans (hb1.mono (by simp)))
  have E0 := Lib.hid e0
  clear hb1 e0
  go_wp2_with fail
  refine (HG.out _ (HI.out.below HB1.out)).mono ?_
  rintro e w2 ⟨rfl, hb2⟩
  have E2 := Lib.hid ((hb2.block _ (lt_of_heap E0.out)).trans E0.out)
  have HB2 := Lib.hid (HB1.out.trans (hb2.mono HB1.out.size))
  clear hb2 c0 E0
  have c0 := fun o => cell_of_row w2 _ o _ _ (0, 0) E2.out
  cases g
  · have hn := Hn.out rfl
    have hlim : Lim s.length := by unfold Lim; omega
    have hcase : (0 ≤ k ∧ k < 10) ∨ k < 0 ∨ 10 ≤ k := by omega
    have Hnm := Lib.hid (show ∀ h : k.toNat < 10, 0 ≤ k → k < 10 → [Value.string ⟨#[]⟩, .string ⟨#[116, 101, 120, 116]⟩, .string ⟨#[115, 117, 109]⟩, .string ⟨#[99, 111, 117, 110, 116]⟩, .string ⟨#[112, 117, 114, 115, 101]⟩, .string ⟨#[112, 101, 97, 107]⟩, .string ⟨#[100, 105, 112]⟩, .string ⟨#[108, 101, 118, 101, 108]⟩, .string ⟨#[115, 101, 116]⟩, .string ⟨#[116, 111, 112]⟩][k.toNat] = .string (recNameOf k) by
      intro h h0 h1
      have : k = 0 ∨ k = 1 ∨ k = 2 ∨ k = 3 ∨ k = 4 ∨ k = 5 ∨ k = 6 ∨ k = 7 ∨ k = 8 ∨ k = 9 := by omega
      rcases this with rfl | rfl | rfl | rfl | rfl | rfl | rfl | rfl | rfl | rfl <;> rfl)
    have Hout := Lib.hid (show ¬ (0 ≤ k ∧ k < 10) → recNameOf k = ⟨#[]⟩ by intro h; unfold recNameOf; rw [if_neg h])
    generalize recNameOf k = nm at *
    rcases hcase with ⟨k0, k1⟩ | k0 | k0
    · go_wp2_with fail
      have hv := Hnm.out (by omega) k0 k1
      rw [hv]
      clear hv
      generalize hw3 : w2.alloc _ = w3
      have hb3 : Below w2.heap.size w2 w3 := by rw [← hw3]; exact below1 w2 _
      have HI3 := Lib.hid ((HI.out.below HB2.out).below hb3)
      have HB3 := Lib.hid (HB2.out.trans (hb3.mono HB2.out.size))
      have HN3 := Lib.hid (HN.out.below HB3.out)
      have e3 := (hb3.block _ (lt_of_heap E2.out)).trans E2.out
      have f0 : w3.cell? ⟨w.heap.size, 0, none⟩ = some (.int .i64 kk) := (cell_of_row w3 _ 0 _ _ (0, 0) e3).trans rfl
      have f1 : w3.cell? ⟨w.heap.size, 1, none⟩ = some (.int .i64 n) := (cell_of_row w3 _ 1 _ _ (0, 0) e3).trans rfl
      have f2 : w3.cell? ⟨w.heap.size, 2, none⟩ = some (.int .i64 l) := (cell_of_row w3 _ 2 _ _ (0, 0) e3).trans rfl
      have f3 : w3.cell? ⟨w.heap.size, 3, none⟩ = some (.int .i64 h) := (cell_of_row w3 _ 3 _ _ (0, 0) e3).trans rfl
      have f4 : w3.cell? ⟨w.heap.size, 4, none⟩ = some (.float .f64 x) := (cell_of_row w3 _ 4 _ _ (0, 0) e3).trans rfl
      have f5 : w3.cell? ⟨w.heap.size, 5, none⟩ = some (.int .i64 cap) := (cell_of_row w3 _ 5 _ _ (0, 0) e3).trans rfl
      have f6 : w3.cell? ⟨w.heap.size, 6, none⟩ = some (.string t) := (cell_of_row w3 _ 6 _ _ (0, 0) e3).trans rfl
      have f7 : w3.cell? ⟨w.heap.size, 7, none⟩ = some (.slice A s.length c) := (cell_of_row w3 _ 7 _ _ (0, 0) e3).trans rfl
      clear hw3 hb3 e3 c0
      go_region_held3 (fun w' => w'.cell? ⟨w.heap.size, 0, none⟩ = some (.int .i64 kk) ∧ w'.cell? ⟨w.heap.size, 1, none⟩ = some (.int .i64 n) ∧ w'.cell? ⟨w.heap.size, 2, none⟩ = some (.int .i64 l) ∧ w'.cell? ⟨w.heap.size, 3, none⟩ = some (.int .i64 h) ∧ w'.cell? ⟨w.heap.size, 4, none⟩ = some (.float .f64 x) ∧ w'.cell? ⟨w.heap.size, 5, none⟩ = some (.int .i64 cap) ∧ w'.cell? ⟨w.heap.size, 6, none⟩ = some (.string t) ∧ w'.cell? ⟨w.heap.size, 7, none⟩ = some (.slice A s.length c) ∧ Below w3.heap.size w3 w')
        (first
          | (go_split_ands; exact ⟨by assumption, by assumption, by assumption, by assumption, by assumption, by assumption, by assumption, by assumption, below_drew (Below.refl _ _)⟩)
          | (go_split_ands; exact ⟨by assumption, by assumption, by assumption, by assumption, by assumption, by assumption, by assumption, by assumption, below_drew (by assumption)⟩)
          | (go_split_ands; exact ⟨below_keep hb5 (by assumption), below_keep hb5 (by assumption), below_keep hb5 (by assumption), below_keep hb5 (by assumption), below_keep hb5 (by assumption), below_keep hb5 (by assumption), below_keep hb5 (by assumption), below_keep hb5 (by assumption), Below.trans (by assumption) (hb5.mono (Below.size (by assumption)))⟩)
          | (go_split_ands; exact ⟨below_keep hb4 (by assumption), below_keep hb4 (by assumption), below_keep hb4 (by assumption), below_keep hb4 (by assumption), below_keep hb4 (by assumption), below_keep hb4 (by assumption), below_keep hb4 (by assumption), below_keep hb4 (by assumption), Below.trans (by assumption) (hb4.mono (Below.size (by assumption)))⟩))
        (first
          | (go_at_call 15; go_split_ands; refine (HC.out _ (HI3.out.below (by assumption)) hlim).mono ?_; rintro e w4 ⟨rfl, hb4⟩)
          | (go_at_call 16; go_split_ands; refine (HR.out _ (HI3.out.below (by assumption)) hlim).mono ?_; rintro e w5 ⟨rfl, hb5⟩)
          | (go_at_call 17; go_split_ands; refine (HName.out _ (HN3.out.below (by assumption))).mono ?_; rintro e w6 ⟨rfl, rfl⟩))
      go_wp2_with fail
      go_ret
      exact ⟨rfl, HB3.out.trans (Below.mono (by assumption) HB3.out.size)⟩
    · have hnm : nm = ⟨#[]⟩ := Hout.out (by omega)
      subst hnm
      go_wp2_with fail
      generalize hw3 : w2.alloc _ = w3
      have hb3 : Below w2.heap.size w2 w3 := by rw [← hw3]; exact below1 w2 _
      have HI3 := Lib.hid ((HI.out.below HB2.out).below hb3)
      have HB3 := Lib.hid (HB2.out.trans (hb3.mono HB2.out.size))
      have HN3 := Lib.hid (HN.out.below HB3.out)
      have e3 := (hb3.block _ (lt_of_heap E2.out)).trans E2.out
      have f0 : w3.cell? ⟨w.heap.size, 0, none⟩ = some (.int .i64 kk) := (cell_of_row w3 _ 0 _ _ (0, 0) e3).trans rfl
      have f1 : w3.cell? ⟨w.heap.size, 1, none⟩ = some (.int .i64 n) := (cell_of_row w3 _ 1 _ _ (0, 0) e3).trans rfl
      have f2 : w3.cell? ⟨w.heap.size, 2, none⟩ = some (.int .i64 l) := (cell_of_row w3 _ 2 _ _ (0, 0) e3).trans rfl
      have f3 : w3.cell? ⟨w.heap.size, 3, none⟩ = some (.int .i64 h) := (cell_of_row w3 _ 3 _ _ (0, 0) e3).trans rfl
      have f4 : w3.cell? ⟨w.heap.size, 4, none⟩ = some (.float .f64 x) := (cell_of_row w3 _ 4 _ _ (0, 0) e3).trans rfl
      have f5 : w3.cell? ⟨w.heap.size, 5, none⟩ = some (.int .i64 cap) := (cell_of_row w3 _ 5 _ _ (0, 0) e3).trans rfl
      have f6 : w3.cell? ⟨w.heap.size, 6, none⟩ = some (.string t) := (cell_of_row w3 _ 6 _ _ (0, 0) e3).trans rfl
      have f7 : w3.cell? ⟨w.heap.size, 7, none⟩ = some (.slice A s.length c) := (cell_of_row w3 _ 7 _ _ (0, 0) e3).trans rfl
      clear hw3 hb3 e3 c0
      go_region_held3 (fun w' => w'.cell? ⟨w.heap.size, 0, none⟩ = some (.int .i64 kk) ∧ w'.cell? ⟨w.heap.size, 1, none⟩ = some (.int .i64 n) ∧ w'.cell? ⟨w.heap.size, 2, none⟩ = some (.int .i64 l) ∧ w'.cell? ⟨w.heap.size, 3, none⟩ = some (.int .i64 h) ∧ w'.cell? ⟨w.heap.size, 4, none⟩ = some (.float .f64 x) ∧ w'.cell? ⟨w.heap.size, 5, none⟩ = some (.int .i64 cap) ∧ w'.cell? ⟨w.heap.size, 6, none⟩ = some (.string t) ∧ w'.cell? ⟨w.heap.size, 7, none⟩ = some (.slice A s.length c) ∧ Below w3.heap.size w3 w')
        (first
          | (go_split_ands; exact ⟨by assumption, by assumption, by assumption, by assumption, by assumption, by assumption, by assumption, by assumption, below_drew (Below.refl _ _)⟩)
          | (go_split_ands; exact ⟨by assumption, by assumption, by assumption, by assumption, by assumption, by assumption, by assumption, by assumption, below_drew (by assumption)⟩)
          | (go_split_ands; exact ⟨below_keep hb5 (by assumption), below_keep hb5 (by assumption), below_keep hb5 (by assumption), below_keep hb5 (by assumption), below_keep hb5 (by assumption), below_keep hb5 (by assumption), below_keep hb5 (by assumption), below_keep hb5 (by assumption), Below.trans (by assumption) (hb5.mono (Below.size (by assumption)))⟩)
          | (go_split_ands; exact ⟨below_keep hb4 (by assumption), below_keep hb4 (by assumption), below_keep hb4 (by assumption), below_keep hb4 (by assumption), below_keep hb4 (by assumption), below_keep hb4 (by assumption), below_keep hb4 (by assumption), below_keep hb4 (by assumption), Below.trans (by assumption) (hb4.mono (Below.size (by assumption)))⟩))
        (first
          | (go_at_call 15; go_split_ands; refine (HC.out _ (HI3.out.below (by assumption)) hlim).mono ?_; rintro e w4 ⟨rfl, hb4⟩)
          | (go_at_call 16; go_split_ands; refine (HR.out _ (HI3.out.below (by assumption)) hlim).mono ?_; rintro e w5 ⟨rfl, hb5⟩)
          | (go_at_call 17; go_split_ands; refine (HName.out _ (HN3.out.below (by assumption))).mono ?_; rintro e w6 ⟨rfl, rfl⟩))
      go_wp2_with fail
      go_ret
      exact ⟨rfl, HB3.out.trans (Below.mono (by assumption) HB3.out.size)⟩
    · have hnm : nm = ⟨#[]⟩ := Hout.out (by omega)
      subst hnm
      go_wp2_with fail
      generalize hw3 : w2.alloc _ = w3
      have hb3 : Below w2.heap.size w2 w3 := by rw [← hw3]; exact below1 w2 _
      have HI3 := Lib.hid ((HI.out.below HB2.out).below hb3)
      have HB3 := Lib.hid (HB2.out.trans (hb3.mono HB2.out.size))
      have HN3 := Lib.hid (HN.out.below HB3.out)
      have e3 := (hb3.block _ (lt_of_heap E2.out)).trans E2.out
      have f0 : w3.cell? ⟨w.heap.size, 0, none⟩ = some (.int .i64 kk) := (cell_of_row w3 _ 0 _ _ (0, 0) e3).trans rfl
      have f1 : w3.cell? ⟨w.heap.size, 1, none⟩ = some (.int .i64 n) := (cell_of_row w3 _ 1 _ _ (0, 0) e3).trans rfl
      have f2 : w3.cell? ⟨w.heap.size, 2, none⟩ = some (.int .i64 l) := (cell_of_row w3 _ 2 _ _ (0, 0) e3).trans rfl
      have f3 : w3.cell? ⟨w.heap.size, 3, none⟩ = some (.int .i64 h) := (cell_of_row w3 _ 3 _ _ (0, 0) e3).trans rfl
      have f4 : w3.cell? ⟨w.heap.size, 4, none⟩ = some (.float .f64 x) := (cell_of_row w3 _ 4 _ _ (0, 0) e3).trans rfl
      have f5 : w3.cell? ⟨w.heap.size, 5, none⟩ = some (.int .i64 cap) := (cell_of_row w3 _ 5 _ _ (0, 0) e3).trans rfl
      have f6 : w3.cell? ⟨w.heap.size, 6, none⟩ = some (.string t) := (cell_of_row w3 _ 6 _ _ (0, 0) e3).trans rfl
      have f7 : w3.cell? ⟨w.heap.size, 7, none⟩ = some (.slice A s.length c) := (cell_of_row w3 _ 7 _ _ (0, 0) e3).trans rfl
      clear hw3 hb3 e3 c0
      go_region_held3 (fun w' => w'.cell? ⟨w.heap.size, 0, none⟩ = some (.int .i64 kk) ∧ w'.cell? ⟨w.heap.size, 1, none⟩ = some (.int .i64 n) ∧ w'.cell? ⟨w.heap.size, 2, none⟩ = some (.int .i64 l) ∧ w'.cell? ⟨w.heap.size, 3, none⟩ = some (.int .i64 h) ∧ w'.cell? ⟨w.heap.size, 4, none⟩ = some (.float .f64 x) ∧ w'.cell? ⟨w.heap.size, 5, none⟩ = some (.int .i64 cap) ∧ w'.cell? ⟨w.heap.size, 6, none⟩ = some (.string t) ∧ w'.cell? ⟨w.heap.size, 7, none⟩ = some (.slice A s.length c) ∧ Below w3.heap.size w3 w')
        (first
          | (go_split_ands; exact ⟨by assumption, by assumption, by assumption, by assumption, by assumption, by assumption, by assumption, by assumption, below_drew (Below.refl _ _)⟩)
          | (go_split_ands; exact ⟨by assumption, by assumption, by assumption, by assumption, by assumption, by assumption, by assumption, by assumption, below_drew (by assumption)⟩)
          | (go_split_ands; exact ⟨below_keep hb5 (by assumption), below_keep hb5 (by assumption), below_keep hb5 (by assumption), below_keep hb5 (by assumption), below_keep hb5 (by assumption), below_keep hb5 (by assumption), below_keep hb5 (by assumption), below_keep hb5 (by assumption), Below.trans (by assumption) (hb5.mono (Below.size (by assumption)))⟩)
          | (go_split_ands; exact ⟨below_keep hb4 (by assumption), below_keep hb4 (by assumption), below_keep hb4 (by assumption), below_keep hb4 (by assumption), below_keep hb4 (by assumption), below_keep hb4 (by assumption), below_keep hb4 (by assumption), below_keep hb4 (by assumption), Below.trans (by assumption) (hb4.mono (Below.size (by assumption)))⟩))
        (first
          | (go_at_call 15; go_split_ands; refine (HC.out _ (HI3.out.below (by assumption)) hlim).mono ?_; rintro e w4 ⟨rfl, hb4⟩)
          | (go_at_call 16; go_split_ands; refine (HR.out _ (HI3.out.below (by assumption)) hlim).mono ?_; rintro e w5 ⟨rfl, hb5⟩)
          | (go_at_call 17; go_split_ands; refine (HName.out _ (HN3.out.below (by assumption))).mono ?_; rintro e w6 ⟨rfl, rfl⟩))
      go_wp2_with fail
      go_ret
      exact ⟨rfl, HB3.out.trans (Below.mono (by assumption) HB3.out.size)⟩
  · go_wp2_with fail
    go_ret
    exact ⟨rfl, HB2.out⟩

end Go.Proofs.YtjonkchmechecaaDoor
