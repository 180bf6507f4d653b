/- The walk of ActSame, of acts that are the same. -/
import Derived.Test.YtafjginegipakaaDoorActChecks
namespace Go.Proofs.YtafjginegipakaaDoor
open Go.RowKit MM

theorem all_keep {w1 w w' : World} {b : Nat} {f : Nat → Option Value} (hb : Below w.heap.size w w') (hB : Below w1.heap.size w1 w) (hl : b < w1.heap.size) (h : ∀ o, w.cell? ⟨b, o, none⟩ = f o) : ∀ o, w'.cell? ⟨b, o, none⟩ = f o :=
  fun o => (hb.cell (p := ⟨b, o, none⟩) (Nat.lt_of_lt_of_le hl hB.size)).trans (h o)
theorem arr_eq4 (xs ys : List UInt8) : ((⟨xs.toArray⟩ : ByteArray).toList == (⟨ys.toArray⟩ : ByteArray).toList) = decide (xs = ys) := by
  rw [Lib.toList_data, Lib.toList_data, Bool.eq_iff_iff]
  simp

set_option maxHeartbeats 8000000 in
set_option maxRecDepth 100000 in
theorem actSame_t (a : AC.Ac) (A : Option Addr) (ca : Nat) (b : AC.Ac) (B : Option Addr) (cb : Nat) (w : World) (ha : ActIn w a A ca) (hb : ActIn w b B cb) (hR : RowsAt w) (h1 : AC.big a = false) (h2 : AC.big b = false) (h3 : AC.same a b = true) :
    Calls Tryd.prog 6 #[actV a A ca, actV b B cb] w fun e w' => e = .returned (.bool true) ∧ Below w.heap.size w w' := by
  have HR := Lib.hid hR
  have HS := Lib.hid (fun w hR => speaks4_any w hR)
  have HIa := Lib.hid ha.make.its
  have HIb := Lib.hid hb.make.its
  have HGa := Lib.hid (fun w hA => big4_any a A ca w hA ha.make.len)
  have HGb := Lib.hid (fun w hB => big4_any b B cb w hB hb.make.len)
  have HQ := Lib.hid (fun (h : AC.big a = false) (h2 : AC.big b = false) w hA hB => rsame4_any a b A B ca cb w ha.ok hb.ok hA hB (act_small ha h).1 (act_small hb h2).1)
  have HMab := Lib.hid (fun (h : AC.big a = false) w hA hB => actSame_any a b A B ca cb w ha.ok hb.ok hA hB (act_small ha h).1)
  have HMba := Lib.hid (show ∀ (h : AC.big b = false) w, Its w A a.make.list → Its w B b.make.list → Calls Tryd.prog 28 #[actV b B cb, actV a A ca] w (SAPost a b w) from fun h w hA hB => (actSame_any b a B A cb ca w hb.ok ha.ok hB hA (act_small hb h).1).mono fun e w' hh => ⟨by rw [AC.same_comm' a b]; exact hh.1, hh.2⟩)
  have HMaa := Lib.hid (show ∀ (h : AC.big a = false) w, Its w A a.make.list → Calls Tryd.prog 28 #[actV a A ca, actV a A ca] w (fun e w' => e = .returned (.bool true) ∧ Below w.heap.size w w') from fun h w hA => (actSame_any a a A A ca ca w ha.ok ha.ok hA hA (act_small ha h).1).mono fun e w' hh => ⟨by rw [← AC.same_refl' a]; exact hh.1, hh.2⟩)
  have HCa := Lib.hid (fun (h : AC.big a = false) w hI => rcheck4_any a A ca w ha.ok hI (act_small ha h).1 (act_small ha h).2.1 (act_small ha h).2.2)
  have HCb := Lib.hid (fun (h : AC.big b = false) w hI => rcheck4_any b B cb w hb.ok hI (act_small hb h).1 (act_small hb h).2.1 (act_small hb h).2.2)
  have HBa := Lib.hid (fun (h : AC.big a = false) w hR hI => actBytes_any a A ca w ha.ok hR hI (act_small ha h).1 (act_small ha h).2.1 (act_small ha h).2.2)
  have HBb := Lib.hid (fun (h : AC.big b = false) w hR hI => actBytes_any b B cb w hb.ok hR hI (act_small hb h).1 (act_small hb h).2.1 (act_small hb h).2.2)
  have Hbs := Lib.hid (show AC.chk a = 0 → AC.chk b = 0 → decide (bytesA a = bytesA b) = AC.same a b from fun h1 h2 => by
    have e1 : bytesA a = AC.actB a := by unfold bytesA; rw [if_pos h1]
    have e2 : bytesA b = AC.actB b := by unfold bytesA; rw [if_pos h2]
    rw [e1, e2]; exact actB_same ha.ok hb.ok h1 h2)
  clear ha hb hR
  generalize AC.big a = ga at *
  generalize AC.big b = gb at *
  generalize AC.chk a = Ea at *
  generalize AC.chk b = Eb at *
  generalize bytesA a = xa at *
  generalize bytesA b = xb at *
  unfold SAPost at HQ HMab HMba
  generalize AC.same a b = t at *
  subst h1 h2 h3
  obtain ⟨k1, y1, n1, x1, s1, m1, u1⟩ := a
  obtain ⟨k2, y2, n2, x2, s2, m2, u2⟩ := b
  go_enter Tryd.func6, Tryd.ntmps6
  go_wp2_with fail
  refine (HS.out _ (HR.out.below (below2 w _ _))).mono ?_
  rintro e w1 ⟨rfl, hb1⟩
  have e0 := (hb1.block w.heap.size (by simp only [World.size_alloc]; omega)).trans (heap_alloc2_old w _ _)
  have e1 := (hb1.block (w.heap.size + 1) (by simp only [World.size_alloc]; omega)).trans (heap_alloc2_new w _ _)
  have HB1 := Lib.hid (show Below w.heap.size w w1 from (below2 w _ _).trans (hb1.mono (by simp only [World.size_alloc]; omega)))
  have cf := fun o => cell_of_row w1 _ o _ _ (0, 0) e0
  have cg := fun o => cell_of_row w1 _ o _ _ (0, 0) e1
  have hlt0 : w.heap.size < w1.heap.size := lt_of_heap e0
  have hlt1 : w.heap.size + 1 < w1.heap.size := lt_of_heap e1
  have HIa1 := Lib.hid (HIa.out.below HB1.out)
  have HIb1 := Lib.hid (HIb.out.below HB1.out)
  clear hb1 e0 e1
  go_wp2_with fail
  go_region_held3 (fun w' => (∀ o, w'.cell? ⟨w.heap.size, o, none⟩ = (actC ⟨k1, y1, n1, x1, s1, m1, u1⟩ A ca)[o]?) ∧ (∀ o, w'.cell? ⟨w.heap.size + 1, o, none⟩ = (actC ⟨k2, y2, n2, x2, s2, m2, u2⟩ B cb)[o]?) ∧ Below w1.heap.size w1 w')
     (first
       | (go_split_ands; exact ⟨by assumption, by assumption, below_drew (Below.refl _ _)⟩)
       | (go_split_ands; exact ⟨by assumption, by assumption, below_drew (by assumption)⟩)
       | (go_split_ands; exact ⟨all_keep hb3 (by assumption) hlt0 (by assumption), all_keep hb3 (by assumption) hlt1 (by assumption), Below.trans (by assumption) (hb3.mono (Below.size (by assumption)))⟩)
       | (go_split_ands; exact ⟨all_keep hb2 (by assumption) hlt0 (by assumption), all_keep hb2 (by assumption) hlt1 (by assumption), Below.trans (by assumption) (hb2.mono (Below.size (by assumption)))⟩))
     (first
       | (go_at_call 24; go_split_ands; (with_reducible refine (HGa.out _ (HIa1.out.below (by assumption))).mono ?_); rintro e w2 ⟨rfl, hb2⟩)
       | (go_at_call 24; go_split_ands; (with_reducible refine (HGb.out _ (HIb1.out.below (by assumption))).mono ?_); rintro e w3 ⟨rfl, hb3⟩))
  rename_i hH
  obtain ⟨cf3, cg3, hB13⟩ := hH
  have hs3 := hB13.size
  have HB3 := Lib.hid (HB1.out.trans (hB13.mono HB1.out.size))
  clear hb2 hb3 hB13 cf cg
  go_wp2_with fail
  refine (HQ.out (by trivial) (by trivial) _ (HIa.out.below HB3.out) (HIb.out.below HB3.out)).mono ?_
  rintro e w4 ⟨rfl, hb4⟩
  have cf4 : ∀ o, w4.cell? ⟨w.heap.size, o, none⟩ = _ := fun o => (hb4.cell (p := ⟨w.heap.size, o, none⟩) (by show w.heap.size < _; omega)).trans (cf3 o)
  have cg4 : ∀ o, w4.cell? ⟨w.heap.size + 1, o, none⟩ = _ := fun o => (hb4.cell (p := ⟨w.heap.size + 1, o, none⟩) (by show w.heap.size + 1 < _; omega)).trans (cg3 o)
  have hs4 := hb4.size
  clear cf3 cg3
  have HB4 := Lib.hid (HB3.out.trans (hb4.mono HB3.out.size))
  clear hb4
  go_wp2_with fail
  refine (HMab.out (by trivial) _ (HIa.out.below HB4.out) (HIb.out.below HB4.out)).mono ?_
  rintro e w5 ⟨rfl, hb5⟩
  have cf5 : ∀ o, w5.cell? ⟨w.heap.size, o, none⟩ = _ := fun o => (hb5.cell (p := ⟨w.heap.size, o, none⟩) (by show w.heap.size < _; omega)).trans (cf4 o)
  have cg5 : ∀ o, w5.cell? ⟨w.heap.size + 1, o, none⟩ = _ := fun o => (hb5.cell (p := ⟨w.heap.size + 1, o, none⟩) (by show w.heap.size + 1 < _; omega)).trans (cg4 o)
  have hs5 := hb5.size
  clear cf4 cg4
  have HB5 := Lib.hid (HB4.out.trans (hb5.mono HB4.out.size))
  clear hb5
  go_wp2_with fail
  refine (HMba.out (by trivial) _ (HIa.out.below HB5.out) (HIb.out.below HB5.out)).mono ?_
  rintro e w6 ⟨rfl, hb6⟩
  have cf6 : ∀ o, w6.cell? ⟨w.heap.size, o, none⟩ = _ := fun o => (hb6.cell (p := ⟨w.heap.size, o, none⟩) (by show w.heap.size < _; omega)).trans (cf5 o)
  have cg6 : ∀ o, w6.cell? ⟨w.heap.size + 1, o, none⟩ = _ := fun o => (hb6.cell (p := ⟨w.heap.size + 1, o, none⟩) (by show w.heap.size + 1 < _; omega)).trans (cg5 o)
  have hs6 := hb6.size
  clear cf5 cg5
  have HB6 := Lib.hid (HB5.out.trans (hb6.mono HB5.out.size))
  clear hb6
  go_wp2_with fail
  refine (HMaa.out (by trivial) _ (HIa.out.below HB6.out)).mono ?_
  rintro e w7 ⟨rfl, hb7⟩
  have cf7 : ∀ o, w7.cell? ⟨w.heap.size, o, none⟩ = _ := fun o => (hb7.cell (p := ⟨w.heap.size, o, none⟩) (by show w.heap.size < _; omega)).trans (cf6 o)
  have cg7 : ∀ o, w7.cell? ⟨w.heap.size + 1, o, none⟩ = _ := fun o => (hb7.cell (p := ⟨w.heap.size + 1, o, none⟩) (by show w.heap.size + 1 < _; omega)).trans (cg6 o)
  have hs7 := hb7.size
  clear cf6 cg6
  have HB7 := Lib.hid (HB6.out.trans (hb7.mono HB6.out.size))
  clear hb7
  go_wp2_with fail
  refine (HCa.out (by trivial) _ (HIa.out.below HB7.out)).mono ?_
  rintro e w11 ⟨rfl, hb11⟩
  have cf11 : ∀ o, w11.cell? ⟨w.heap.size, o, none⟩ = _ := fun o => (hb11.cell (p := ⟨w.heap.size, o, none⟩) (by show w.heap.size < _; omega)).trans (cf7 o)
  have cg11 : ∀ o, w11.cell? ⟨w.heap.size + 1, o, none⟩ = _ := fun o => (hb11.cell (p := ⟨w.heap.size + 1, o, none⟩) (by show w.heap.size + 1 < _; omega)).trans (cg7 o)
  have hs11 := hb11.size
  clear cf7 cg7
  have HB11 := Lib.hid (HB7.out.trans (hb11.mono HB7.out.size))
  clear hb11
  rcases Nat.eq_zero_or_pos Ea with hEa | hEa
  case inr =>
    have hE : ((Ea : Int) != 0) = true := by simp; omega
    go_wp2_with fail
    go_ret
    exact ⟨rfl, HB11.out⟩
  subst hEa
  go_wp2_with fail
  refine (HCb.out (by trivial) _ (HIb.out.below HB11.out)).mono ?_
  rintro e w12 ⟨rfl, hb12⟩
  have cf12 : ∀ o, w12.cell? ⟨w.heap.size, o, none⟩ = _ := fun o => (hb12.cell (p := ⟨w.heap.size, o, none⟩) (by show w.heap.size < _; omega)).trans (cf11 o)
  have cg12 : ∀ o, w12.cell? ⟨w.heap.size + 1, o, none⟩ = _ := fun o => (hb12.cell (p := ⟨w.heap.size + 1, o, none⟩) (by show w.heap.size + 1 < _; omega)).trans (cg11 o)
  have hs12 := hb12.size
  clear cf11 cg11
  have HB12 := Lib.hid (HB11.out.trans (hb12.mono HB11.out.size))
  clear hb12
  rcases Nat.eq_zero_or_pos Eb with hEb | hEb
  case inr =>
    have hE : ((Eb : Int) != 0) = true := by simp; omega
    go_wp2_with fail
    go_ret
    exact ⟨rfl, HB12.out⟩
  subst hEb
  have ht := (arr_eq4 xa xb).trans (Hbs.out (by trivial) (by trivial))
  have Hx := Lib.hid (Hbs.out (by trivial) (by trivial))
  have HA1 := Lib.hid (HBa.out (by trivial))
  have HA2 := Lib.hid (HBb.out (by trivial))
  have HR12 := Lib.hid (HR.out.below HB12.out)
  have HIa3 := Lib.hid (HIa.out.below HB12.out)
  have HIb3 := Lib.hid (HIb.out.below HB12.out)
  clear HBa HBb HCa HCb HMaa HMab HMba HQ HGa HGb Hbs
  go_wp2_with fail
  have hd12 : Its w12.drew A m1.list := HIa3.out
  have hr12 : RowsAt w12.drew := HR12.out
  have hl12 : w.heap.size + 1 < w12.heap.size := by omega
  go_region_with (first
    | (go_at_call 29; (with_reducible refine (HA1.out _ hr12 hd12).mono ?_); rintro e w13 ⟨A13, c13, rfl, ho13, hn13, hb13⟩; have hB13 : Below w12.heap.size w12 w13 := (below_a w12).trans hb13; have hI13 := HIb3.out.below hB13; have hR13 := HR12.out.below hB13; have k13 := run_text (P := Tryd.prog) w13 22 9 5 A13 c13 xa Tryd.underlying22 Tryd.underlying5 Tryd.underlying9 (Bts.own ho13); have x0 : ∀ o, w13.cell? ⟨w.heap.size + 1, o, none⟩ = _ := fun o => (hB13.cell (p := ⟨w.heap.size + 1, o, none⟩) hl12).trans (cg12 o))
    | (go_at_call 29; (with_reducible refine (HA2.out _ hR13 hI13).mono ?_); rintro e w14 ⟨A14, c14, rfl, ho14, hn14, hb14⟩; have k14 := run_text (P := Tryd.prog) w14 22 9 5 A14 c14 xb Tryd.underlying22 Tryd.underlying5 Tryd.underlying9 (Bts.own ho14); have k13' := run_text (P := Tryd.prog) w14 22 9 5 A13 c13 xa Tryd.underlying22 Tryd.underlying5 Tryd.underlying9 ((Bts.own ho13).below hb14)))
  all_goals
    go_wp2_with fail
    go_ret
    exact ⟨ret_bool (by have h := Hx.out; first | (have h2 := of_decide_eq_true h; simp [h2]) | (have h2 := of_decide_eq_false h; simp [h2])), HB12.out.trans ((hB13.mono HB12.out.size).trans (hb14.mono (Nat.le_trans HB12.out.size hB13.size)))⟩

end Go.Proofs.YtafjginegipakaaDoor
