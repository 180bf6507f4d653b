/- The walk of ActChecks. -/
import Derived.Test.YtafjginegipakaaDoorSp4
import Derived.Test.YtafjginegipakaaDoorBig4
import Derived.Test.YtafjginegipakaaDoorRef4b
import Derived.Test.YtafjginegipakaaDoorOpn4
import Derived.Deep.RegionHeld3
namespace Go.Proofs.YtafjginegipakaaDoor
open Go.RowKit MM

/-- What holds of an act that isn't too big. -/
theorem act_small {w : World} {a : AC.Ac} {A : Option Addr} {c : Nat} (_h : ActIn w a A c) (hb : AC.big a = false) : Lim a.make.list.length ∧ Lim a.key.size ∧ Lim a.s.size := by
  obtain ⟨h1, h2, h3⟩ := AC.big_not hb
  have := (big_not h3).1
  unfold Lim
  omega

set_option maxHeartbeats 4000000 in
set_option maxRecDepth 100000 in
theorem actChecks_any (a : AC.Ac) (A : Option Addr) (c : Nat) (w : World) (hr : ActIn w a A c) (hR : RowsAt w) :
    Calls Tryd.prog 5 #[actV a A c] w fun e w' => e = .returned (.bool true) ∧ Below w.heap.size w w' := by
  have HR := Lib.hid hR
  have HS := Lib.hid (fun w hR => speaks4_any w hR)
  have HI := Lib.hid hr.make.its
  have HGa := Lib.hid (fun w hA => big4_any a A c w hA hr.make.len)
  have HCa := Lib.hid (fun (h : AC.big a = false) w hR hI => actCheck_any a A c w hr.ok hR hI (act_small hr h).1 (act_small hr h).2.1 (act_small hr h).2.2)
  have HDa := Lib.hid (fun (h : AC.big a = false) w hI => rcheck4_any a A c w hr.ok hI (act_small hr h).1 (act_small hr h).2.1 (act_small hr h).2.2)
  have B := Lib.hid (AB.new 44 w (actC a A c))
  clear hr hR
  generalize AC.big a = g at *
  generalize AC.chk a = E at *
  obtain ⟨k, key, n, x, s, m, must⟩ := a
  go_enter Tryd.func5, Tryd.ntmps5
  go_wp2_with fail
  refine (HS.out _ (HR.out.below B.out.bel)).mono ?_
  rintro e w1 ⟨rfl, hb1⟩
  have B1 := Lib.hid (B.out.next hb1)
  have e0 := B1.out.box
  have f0 : w1.cell? ⟨w.heap.size, 0, none⟩ = some (.int .i64 k) := (cell_of_row w1 _ 0 _ _ (0, 0) e0).trans rfl
  have f1 : w1.cell? ⟨w.heap.size, 1, none⟩ = some (.string key) := (cell_of_row w1 _ 1 _ _ (0, 0) e0).trans rfl
  have f2 : w1.cell? ⟨w.heap.size, 2, none⟩ = some (.int .i64 n) := (cell_of_row w1 _ 2 _ _ (0, 0) e0).trans rfl
  have f3 : w1.cell? ⟨w.heap.size, 3, none⟩ = some (.float .f64 x) := (cell_of_row w1 _ 3 _ _ (0, 0) e0).trans rfl
  have f4 : w1.cell? ⟨w.heap.size, 4, none⟩ = some (.string s) := (cell_of_row w1 _ 4 _ _ (0, 0) e0).trans rfl
  have f5 : w1.cell? ⟨w.heap.size, 5, none⟩ = some (.int .i64 m.kind) := (cell_of_row w1 _ 5 _ _ (0, 0) e0).trans rfl
  have f6 : w1.cell? ⟨w.heap.size, 6, none⟩ = some (.int .i64 m.num) := (cell_of_row w1 _ 6 _ _ (0, 0) e0).trans rfl
  have f7 : w1.cell? ⟨w.heap.size, 7, none⟩ = some (.int .i64 m.low) := (cell_of_row w1 _ 7 _ _ (0, 0) e0).trans rfl
  have f8 : w1.cell? ⟨w.heap.size, 8, none⟩ = some (.int .i64 m.high) := (cell_of_row w1 _ 8 _ _ (0, 0) e0).trans rfl
  have f9 : w1.cell? ⟨w.heap.size, 9, none⟩ = some (.float .f64 m.real) := (cell_of_row w1 _ 9 _ _ (0, 0) e0).trans rfl
  have f10 : w1.cell? ⟨w.heap.size, 10, none⟩ = some (.int .i64 m.cap) := (cell_of_row w1 _ 10 _ _ (0, 0) e0).trans rfl
  have f11 : w1.cell? ⟨w.heap.size, 11, none⟩ = some (.string m.text) := (cell_of_row w1 _ 11 _ _ (0, 0) e0).trans rfl
  have f12 : w1.cell? ⟨w.heap.size, 12, none⟩ = some (.slice A m.list.length c) := (cell_of_row w1 _ 12 _ _ (0, 0) e0).trans rfl
  have f13 : w1.cell? ⟨w.heap.size, 13, none⟩ = some (.bool must) := (cell_of_row w1 _ 13 _ _ (0, 0) e0).trans rfl
  have HI1 := Lib.hid (HI.out.below B1.out.bel)
  have HR1 := Lib.hid (HR.out.below B1.out.bel)
  clear hb1 e0
  cases g
  · have HC := Lib.hid (HCa.out (by trivial))
    have HD := Lib.hid (HDa.out (by trivial))
    have HG := Lib.hid (fun w' (hb : Below w1.heap.size w1 w') => HGa.out w' (HI1.out.below hb))
    have HC1 := Lib.hid (fun w' (hb : Below w1.heap.size w1 w') => HC.out w' (HR1.out.below hb) (HI1.out.below hb))
    have HD1 := Lib.hid (fun w' (hb : Below w1.heap.size w1 w') => HD.out w' (HI1.out.below hb))
    clear HCa HDa HGa HC HD
    go_wp2_with fail
    go_region_held3 (fun w' => w'.cell? ⟨w.heap.size, 0, none⟩ = some (.int .i64 k) ∧ w'.cell? ⟨w.heap.size, 1, none⟩ = some (.string key) ∧ w'.cell? ⟨w.heap.size, 2, none⟩ = some (.int .i64 n) ∧ w'.cell? ⟨w.heap.size, 3, none⟩ = some (.float .f64 x) ∧ w'.cell? ⟨w.heap.size, 4, none⟩ = some (.string s) ∧ w'.cell? ⟨w.heap.size, 5, none⟩ = some (.int .i64 m.kind) ∧ w'.cell? ⟨w.heap.size, 6, none⟩ = some (.int .i64 m.num) ∧ w'.cell? ⟨w.heap.size, 7, none⟩ = some (.int .i64 m.low) ∧ w'.cell? ⟨w.heap.size, 8, none⟩ = some (.int .i64 m.high) ∧ w'.cell? ⟨w.heap.size, 9, none⟩ = some (.float .f64 m.real) ∧ w'.cell? ⟨w.heap.size, 10, none⟩ = some (.int .i64 m.cap) ∧ w'.cell? ⟨w.heap.size, 11, none⟩ = some (.string m.text) ∧ w'.cell? ⟨w.heap.size, 12, none⟩ = some (.slice A m.list.length c) ∧ w'.cell? ⟨w.heap.size, 13, none⟩ = some (.bool must) ∧ Below w1.heap.size w1 w')
      (first
        | (go_split_ands; exact ⟨by assumption, by assumption, by assumption, by assumption, by assumption, by assumption, by assumption, by assumption, by assumption, by assumption, by assumption, by assumption, by assumption, by assumption, below_drew (Below.refl _ _)⟩)
        | (go_split_ands; exact ⟨by assumption, by assumption, by assumption, by assumption, by assumption, by assumption, by assumption, by assumption, by assumption, by assumption, by assumption, by assumption, by assumption, by assumption, below_drew (by assumption)⟩)
        | (go_split_ands; exact ⟨below_keep hb2 (by assumption), below_keep hb2 (by assumption), below_keep hb2 (by assumption), below_keep hb2 (by assumption), below_keep hb2 (by assumption), below_keep hb2 (by assumption), below_keep hb2 (by assumption), below_keep hb2 (by assumption), below_keep hb2 (by assumption), below_keep hb2 (by assumption), below_keep hb2 (by assumption), below_keep hb2 (by assumption), below_keep hb2 (by assumption), below_keep hb2 (by assumption), Below.trans (by assumption) (hb2.mono (Below.size (by assumption)))⟩)
        | (go_split_ands; exact ⟨below_keep hb3 (by assumption), below_keep hb3 (by assumption), below_keep hb3 (by assumption), below_keep hb3 (by assumption), below_keep hb3 (by assumption), below_keep hb3 (by assumption), below_keep hb3 (by assumption), below_keep hb3 (by assumption), below_keep hb3 (by assumption), below_keep hb3 (by assumption), below_keep hb3 (by assumption), below_keep hb3 (by assumption), below_keep hb3 (by assumption), below_keep hb3 (by assumption), Below.trans (by assumption) (hb3.mono (Below.size (by assumption)))⟩)
        | (go_split_ands; exact ⟨below_keep hb4 (by assumption), below_keep hb4 (by assumption), below_keep hb4 (by assumption), below_keep hb4 (by assumption), below_keep hb4 (by assumption), below_keep hb4 (by assumption), below_keep hb4 (by assumption), below_keep hb4 (by assumption), below_keep hb4 (by assumption), below_keep hb4 (by assumption), below_keep hb4 (by assumption), below_keep hb4 (by assumption), below_keep hb4 (by assumption), below_keep hb4 (by assumption), Below.trans (by assumption) (hb4.mono (Below.size (by assumption)))⟩))
      (first
        | (go_at_call 24; go_split_ands; (with_reducible refine (HG.out _ (by assumption)).mono ?_); rintro e w2 ⟨rfl, hb2⟩)
        | (go_at_call 25; go_split_ands; (with_reducible refine (HC1.out _ (by assumption)).mono ?_); rintro e w3 ⟨rfl, hb3⟩)
        | (go_at_call 26; go_split_ands; (with_reducible refine (HD1.out _ (by assumption)).mono ?_); rintro e w4 ⟨rfl, hb4⟩))
    all_goals
      rename_i hH
      obtain ⟨f0, f1, f2, f3, f4, f5, f6, f7, f8, f9, f10, f11, f12, f13, hB⟩ := hH
      go_wp2_with fail
      go_ret
      exact ⟨rfl, B1.out.bel.trans (hB.mono B1.out.bel.size)⟩
  · have HG := Lib.hid (fun w' (hb : Below w1.heap.size w1 w') => HGa.out w' (HI1.out.below hb))
    clear HCa HDa HGa
    go_wp2_with fail
    go_region_with (go_at_call 24; refine (HG.out _ (below_drew (Below.refl _ _))).mono ?_; rintro e w2 ⟨rfl, hb2⟩)
    all_goals
      go_wp2_with fail
      go_ret
      exact ⟨rfl, B1.out.bel.trans (((below_drew (Below.refl _ _)).mono B1.out.bel.size).trans (hb2.mono B1.out.bel.size))⟩

end Go.Proofs.YtafjginegipakaaDoor
