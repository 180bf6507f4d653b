/- The walk of ActSame. -/
import Derived.Test.YtafjginegipakaaDoorActSameT
import Derived.Test.YtafjginegipakaaDoorActSameF
namespace Go.Proofs.YtafjginegipakaaDoor
open Go.RowKit MM

set_option maxHeartbeats 8000000 in
set_option maxRecDepth 100000 in
theorem actSame_bb (a : AC.Ac) (A : Option Addr) (ca : Nat) (b : AC.Ac) (B : Option Addr) (cb : Nat) (w : World) (ha : ActIn w a A ca) (hb : ActIn w b B cb) (hR : RowsAt w) (h1 : AC.big a = true) (h2 : AC.big b = true) :
    Calls Tryd.prog 6 #[actV a A ca, actV b B cb] w fun e w' => e = .returned (.bool true) ∧ Below w.heap.size w w' := by
  have HR := Lib.hid hR
  have HS := Lib.hid (fun w hR => speaks4_any w hR)
  have HIa := Lib.hid ha.make.its
  have HIb := Lib.hid hb.make.its
  have HGa := Lib.hid (fun w hA => big4_any a A ca w hA ha.make.len)
  have HGb := Lib.hid (fun w hB => big4_any b B cb w hB hb.make.len)
  have HQ := Lib.hid (fun (h : AC.big a = false) (h2 : AC.big b = false) w hA hB => rsame4_any a b A B ca cb w ha.ok hb.ok hA hB (act_small ha h).1 (act_small hb h2).1)
  have HMab := Lib.hid (fun (h : AC.big a = false) w hA hB => actSame_any a b A B ca cb w ha.ok hb.ok hA hB (act_small ha h).1)
  have HMba := Lib.hid (show ∀ (h : AC.big b = false) w, Its w A a.make.list → Its w B b.make.list → Calls Tryd.prog 28 #[actV b B cb, actV a A ca] w (SAPost a b w) from fun h w hA hB => (actSame_any b a B A cb ca w hb.ok ha.ok hB hA (act_small hb h).1).mono fun e w' hh => ⟨by rw [AC.same_comm' a b]; exact hh.1, hh.2⟩)
  have HMaa := Lib.hid (show ∀ (h : AC.big a = false) w, Its w A a.make.list → Calls Tryd.prog 28 #[actV a A ca, actV a A ca] w (fun e w' => e = .returned (.bool true) ∧ Below w.heap.size w w') from fun h w hA => (actSame_any a a A A ca ca w ha.ok ha.ok hA hA (act_small ha h).1).mono fun e w' hh => ⟨by rw [← AC.same_refl' a]; exact hh.1, hh.2⟩)
  have HCa := Lib.hid (fun (h : AC.big a = false) w hI => rcheck4_any a A ca w ha.ok hI (act_small ha h).1 (act_small ha h).2.1 (act_small ha h).2.2)
  have HCb := Lib.hid (fun (h : AC.big b = false) w hI => rcheck4_any b B cb w hb.ok hI (act_small hb h).1 (act_small hb h).2.1 (act_small hb h).2.2)
  have HBa := Lib.hid (fun (h : AC.big a = false) w hR hI => actBytes_any a A ca w ha.ok hR hI (act_small ha h).1 (act_small ha h).2.1 (act_small ha h).2.2)
  have HBb := Lib.hid (fun (h : AC.big b = false) w hR hI => actBytes_any b B cb w hb.ok hR hI (act_small hb h).1 (act_small hb h).2.1 (act_small hb h).2.2)
  have Hbs := Lib.hid (show AC.chk a = 0 → AC.chk b = 0 → decide (bytesA a = bytesA b) = AC.same a b from fun h1 h2 => by
    have e1 : bytesA a = AC.actB a := by unfold bytesA; rw [if_pos h1]
    have e2 : bytesA b = AC.actB b := by unfold bytesA; rw [if_pos h2]
    rw [e1, e2]; exact actB_same ha.ok hb.ok h1 h2)
  clear ha hb hR
  generalize AC.big a = ga at *
  generalize AC.big b = gb at *
  generalize AC.chk a = Ea at *
  generalize AC.chk b = Eb at *
  generalize bytesA a = xa at *
  generalize bytesA b = xb at *
  unfold SAPost at HQ HMab HMba
  generalize AC.same a b = t at *
  subst h1 h2
  obtain ⟨k1, y1, n1, x1, s1, m1, u1⟩ := a
  obtain ⟨k2, y2, n2, x2, s2, m2, u2⟩ := b
  go_enter Tryd.func6, Tryd.ntmps6
  go_wp2_with fail
  refine (HS.out _ (HR.out.below (below2 w _ _))).mono ?_
  rintro e w1 ⟨rfl, hb1⟩
  have e0 := (hb1.block w.heap.size (by simp only [World.size_alloc]; omega)).trans (heap_alloc2_old w _ _)
  have e1 := (hb1.block (w.heap.size + 1) (by simp only [World.size_alloc]; omega)).trans (heap_alloc2_new w _ _)
  have HB1 := Lib.hid (show Below w.heap.size w w1 from (below2 w _ _).trans (hb1.mono (by simp only [World.size_alloc]; omega)))
  have cf := fun o => cell_of_row w1 _ o _ _ (0, 0) e0
  have cg := fun o => cell_of_row w1 _ o _ _ (0, 0) e1
  have hlt0 : w.heap.size < w1.heap.size := lt_of_heap e0
  have hlt1 : w.heap.size + 1 < w1.heap.size := lt_of_heap e1
  have HIa1 := Lib.hid (HIa.out.below HB1.out)
  have HIb1 := Lib.hid (HIb.out.below HB1.out)
  clear hb1 e0 e1
  go_wp2_with fail
  go_region_held3 (fun w' => (∀ o, w'.cell? ⟨w.heap.size, o, none⟩ = (actC ⟨k1, y1, n1, x1, s1, m1, u1⟩ A ca)[o]?) ∧ (∀ o, w'.cell? ⟨w.heap.size + 1, o, none⟩ = (actC ⟨k2, y2, n2, x2, s2, m2, u2⟩ B cb)[o]?) ∧ Below w1.heap.size w1 w')
     (first
       | (go_split_ands; exact ⟨by assumption, by assumption, below_drew (Below.refl _ _)⟩)
       | (go_split_ands; exact ⟨by assumption, by assumption, below_drew (by assumption)⟩)
       | (go_split_ands; exact ⟨all_keep hb3 (by assumption) hlt0 (by assumption), all_keep hb3 (by assumption) hlt1 (by assumption), Below.trans (by assumption) (hb3.mono (Below.size (by assumption)))⟩)
       | (go_split_ands; exact ⟨all_keep hb2 (by assumption) hlt0 (by assumption), all_keep hb2 (by assumption) hlt1 (by assumption), Below.trans (by assumption) (hb2.mono (Below.size (by assumption)))⟩))
     (first
       | (go_at_call 24; go_split_ands; (with_reducible refine (HGa.out _ (HIa1.out.below (by assumption))).mono ?_); rintro e w2 ⟨rfl, hb2⟩)
       | (go_at_call 24; go_split_ands; (with_reducible refine (HGb.out _ (HIb1.out.below (by assumption))).mono ?_); rintro e w3 ⟨rfl, hb3⟩))
  rename_i hH
  obtain ⟨cf3, cg3, hB13⟩ := hH
  have hs3 := hB13.size
  have HB3 := Lib.hid (HB1.out.trans (hB13.mono HB1.out.size))
  clear hb2 hb3 hB13 cf cg
  go_wp2_with fail
  go_ret
  exact ⟨rfl, HB3.out⟩

set_option maxHeartbeats 8000000 in
set_option maxRecDepth 100000 in
theorem actSame_bs (a : AC.Ac) (A : Option Addr) (ca : Nat) (b : AC.Ac) (B : Option Addr) (cb : Nat) (w : World) (ha : ActIn w a A ca) (hb : ActIn w b B cb) (hR : RowsAt w) (h1 : AC.big a = true) (h2 : AC.big b = false) :
    Calls Tryd.prog 6 #[actV a A ca, actV b B cb] w fun e w' => e = .returned (.bool true) ∧ Below w.heap.size w w' := by
  have HR := Lib.hid hR
  have HS := Lib.hid (fun w hR => speaks4_any w hR)
  have HIa := Lib.hid ha.make.its
  have HIb := Lib.hid hb.make.its
  have HGa := Lib.hid (fun w hA => big4_any a A ca w hA ha.make.len)
  have HGb := Lib.hid (fun w hB => big4_any b B cb w hB hb.make.len)
  have HQ := Lib.hid (fun (h : AC.big a = false) (h2 : AC.big b = false) w hA hB => rsame4_any a b A B ca cb w ha.ok hb.ok hA hB (act_small ha h).1 (act_small hb h2).1)
  have HMab := Lib.hid (fun (h : AC.big a = false) w hA hB => actSame_any a b A B ca cb w ha.ok hb.ok hA hB (act_small ha h).1)
  have HMba := Lib.hid (show ∀ (h : AC.big b = false) w, Its w A a.make.list → Its w B b.make.list → Calls Tryd.prog 28 #[actV b B cb, actV a A ca] w (SAPost a b w) from fun h w hA hB => (actSame_any b a B A cb ca w hb.ok ha.ok hB hA (act_small hb h).1).mono fun e w' hh => ⟨by rw [AC.same_comm' a b]; exact hh.1, hh.2⟩)
  have HMaa := Lib.hid (show ∀ (h : AC.big a = false) w, Its w A a.make.list → Calls Tryd.prog 28 #[actV a A ca, actV a A ca] w (fun e w' => e = .returned (.bool true) ∧ Below w.heap.size w w') from fun h w hA => (actSame_any a a A A ca ca w ha.ok ha.ok hA hA (act_small ha h).1).mono fun e w' hh => ⟨by rw [← AC.same_refl' a]; exact hh.1, hh.2⟩)
  have HCa := Lib.hid (fun (h : AC.big a = false) w hI => rcheck4_any a A ca w ha.ok hI (act_small ha h).1 (act_small ha h).2.1 (act_small ha h).2.2)
  have HCb := Lib.hid (fun (h : AC.big b = false) w hI => rcheck4_any b B cb w hb.ok hI (act_small hb h).1 (act_small hb h).2.1 (act_small hb h).2.2)
  have HBa := Lib.hid (fun (h : AC.big a = false) w hR hI => actBytes_any a A ca w ha.ok hR hI (act_small ha h).1 (act_small ha h).2.1 (act_small ha h).2.2)
  have HBb := Lib.hid (fun (h : AC.big b = false) w hR hI => actBytes_any b B cb w hb.ok hR hI (act_small hb h).1 (act_small hb h).2.1 (act_small hb h).2.2)
  have Hbs := Lib.hid (show AC.chk a = 0 → AC.chk b = 0 → decide (bytesA a = bytesA b) = AC.same a b from fun h1 h2 => by
    have e1 : bytesA a = AC.actB a := by unfold bytesA; rw [if_pos h1]
    have e2 : bytesA b = AC.actB b := by unfold bytesA; rw [if_pos h2]
    rw [e1, e2]; exact actB_same ha.ok hb.ok h1 h2)
  clear ha hb hR
  generalize AC.big a = ga at *
  generalize AC.big b = gb at *
  generalize AC.chk a = Ea at *
  generalize AC.chk b = Eb at *
  generalize bytesA a = xa at *
  generalize bytesA b = xb at *
  unfold SAPost at HQ HMab HMba
  generalize AC.same a b = t at *
  subst h1 h2
  obtain ⟨k1, y1, n1, x1, s1, m1, u1⟩ := a
  obtain ⟨k2, y2, n2, x2, s2, m2, u2⟩ := b
  go_enter Tryd.func6, Tryd.ntmps6
  go_wp2_with fail
  refine (HS.out _ (HR.out.below (below2 w _ _))).mono ?_
  rintro e w1 ⟨rfl, hb1⟩
  have e0 := (hb1.block w.heap.size (by simp only [World.size_alloc]; omega)).trans (heap_alloc2_old w _ _)
  have e1 := (hb1.block (w.heap.size + 1) (by simp only [World.size_alloc]; omega)).trans (heap_alloc2_new w _ _)
  have HB1 := Lib.hid (show Below w.heap.size w w1 from (below2 w _ _).trans (hb1.mono (by simp only [World.size_alloc]; omega)))
  have cf := fun o => cell_of_row w1 _ o _ _ (0, 0) e0
  have cg := fun o => cell_of_row w1 _ o _ _ (0, 0) e1
  have hlt0 : w.heap.size < w1.heap.size := lt_of_heap e0
  have hlt1 : w.heap.size + 1 < w1.heap.size := lt_of_heap e1
  have HIa1 := Lib.hid (HIa.out.below HB1.out)
  have HIb1 := Lib.hid (HIb.out.below HB1.out)
  clear hb1 e0 e1
  go_wp2_with fail
  go_region_held3 (fun w' => (∀ o, w'.cell? ⟨w.heap.size, o, none⟩ = (actC ⟨k1, y1, n1, x1, s1, m1, u1⟩ A ca)[o]?) ∧ (∀ o, w'.cell? ⟨w.heap.size + 1, o, none⟩ = (actC ⟨k2, y2, n2, x2, s2, m2, u2⟩ B cb)[o]?) ∧ Below w1.heap.size w1 w')
     (first
       | (go_split_ands; exact ⟨by assumption, by assumption, below_drew (Below.refl _ _)⟩)
       | (go_split_ands; exact ⟨by assumption, by assumption, below_drew (by assumption)⟩)
       | (go_split_ands; exact ⟨all_keep hb3 (by assumption) hlt0 (by assumption), all_keep hb3 (by assumption) hlt1 (by assumption), Below.trans (by assumption) (hb3.mono (Below.size (by assumption)))⟩)
       | (go_split_ands; exact ⟨all_keep hb2 (by assumption) hlt0 (by assumption), all_keep hb2 (by assumption) hlt1 (by assumption), Below.trans (by assumption) (hb2.mono (Below.size (by assumption)))⟩))
     (first
       | (go_at_call 24; go_split_ands; (with_reducible refine (HGa.out _ (HIa1.out.below (by assumption))).mono ?_); rintro e w2 ⟨rfl, hb2⟩)
       | (go_at_call 24; go_split_ands; (with_reducible refine (HGb.out _ (HIb1.out.below (by assumption))).mono ?_); rintro e w3 ⟨rfl, hb3⟩))
  rename_i hH
  obtain ⟨cf3, cg3, hB13⟩ := hH
  have hs3 := hB13.size
  have HB3 := Lib.hid (HB1.out.trans (hB13.mono HB1.out.size))
  clear hb2 hb3 hB13 cf cg
  go_wp2_with fail
  go_ret
  exact ⟨rfl, HB3.out⟩

set_option maxHeartbeats 8000000 in
set_option maxRecDepth 100000 in
theorem actSame_sb (a : AC.Ac) (A : Option Addr) (ca : Nat) (b : AC.Ac) (B : Option Addr) (cb : Nat) (w : World) (ha : ActIn w a A ca) (hb : ActIn w b B cb) (hR : RowsAt w) (h1 : AC.big a = false) (h2 : AC.big b = true) :
    Calls Tryd.prog 6 #[actV a A ca, actV b B cb] w fun e w' => e = .returned (.bool true) ∧ Below w.heap.size w w' := by
  have HR := Lib.hid hR
  have HS := Lib.hid (fun w hR => speaks4_any w hR)
  have HIa := Lib.hid ha.make.its
  have HIb := Lib.hid hb.make.its
  have HGa := Lib.hid (fun w hA => big4_any a A ca w hA ha.make.len)
  have HGb := Lib.hid (fun w hB => big4_any b B cb w hB hb.make.len)
  have HQ := Lib.hid (fun (h : AC.big a = false) (h2 : AC.big b = false) w hA hB => rsame4_any a b A B ca cb w ha.ok hb.ok hA hB (act_small ha h).1 (act_small hb h2).1)
  have HMab := Lib.hid (fun (h : AC.big a = false) w hA hB => actSame_any a b A B ca cb w ha.ok hb.ok hA hB (act_small ha h).1)
  have HMba := Lib.hid (show ∀ (h : AC.big b = false) w, Its w A a.make.list → Its w B b.make.list → Calls Tryd.prog 28 #[actV b B cb, actV a A ca] w (SAPost a b w) from fun h w hA hB => (actSame_any b a B A cb ca w hb.ok ha.ok hB hA (act_small hb h).1).mono fun e w' hh => ⟨by rw [AC.same_comm' a b]; exact hh.1, hh.2⟩)
  have HMaa := Lib.hid (show ∀ (h : AC.big a = false) w, Its w A a.make.list → Calls Tryd.prog 28 #[actV a A ca, actV a A ca] w (fun e w' => e = .returned (.bool true) ∧ Below w.heap.size w w') from fun h w hA => (actSame_any a a A A ca ca w ha.ok ha.ok hA hA (act_small ha h).1).mono fun e w' hh => ⟨by rw [← AC.same_refl' a]; exact hh.1, hh.2⟩)
  have HCa := Lib.hid (fun (h : AC.big a = false) w hI => rcheck4_any a A ca w ha.ok hI (act_small ha h).1 (act_small ha h).2.1 (act_small ha h).2.2)
  have HCb := Lib.hid (fun (h : AC.big b = false) w hI => rcheck4_any b B cb w hb.ok hI (act_small hb h).1 (act_small hb h).2.1 (act_small hb h).2.2)
  have HBa := Lib.hid (fun (h : AC.big a = false) w hR hI => actBytes_any a A ca w ha.ok hR hI (act_small ha h).1 (act_small ha h).2.1 (act_small ha h).2.2)
  have HBb := Lib.hid (fun (h : AC.big b = false) w hR hI => actBytes_any b B cb w hb.ok hR hI (act_small hb h).1 (act_small hb h).2.1 (act_small hb h).2.2)
  have Hbs := Lib.hid (show AC.chk a = 0 → AC.chk b = 0 → decide (bytesA a = bytesA b) = AC.same a b from fun h1 h2 => by
    have e1 : bytesA a = AC.actB a := by unfold bytesA; rw [if_pos h1]
    have e2 : bytesA b = AC.actB b := by unfold bytesA; rw [if_pos h2]
    rw [e1, e2]; exact actB_same ha.ok hb.ok h1 h2)
  clear ha hb hR
  generalize AC.big a = ga at *
  generalize AC.big b = gb at *
  generalize AC.chk a = Ea at *
  generalize AC.chk b = Eb at *
  generalize bytesA a = xa at *
  generalize bytesA b = xb at *
  unfold SAPost at HQ HMab HMba
  generalize AC.same a b = t at *
  subst h1 h2
  obtain ⟨k1, y1, n1, x1, s1, m1, u1⟩ := a
  obtain ⟨k2, y2, n2, x2, s2, m2, u2⟩ := b
  go_enter Tryd.func6, Tryd.ntmps6
  go_wp2_with fail
  refine (HS.out _ (HR.out.below (below2 w _ _))).mono ?_
  rintro e w1 ⟨rfl, hb1⟩
  have e0 := (hb1.block w.heap.size (by simp only [World.size_alloc]; omega)).trans (heap_alloc2_old w _ _)
  have e1 := (hb1.block (w.heap.size + 1) (by simp only [World.size_alloc]; omega)).trans (heap_alloc2_new w _ _)
  have HB1 := Lib.hid (show Below w.heap.size w w1 from (below2 w _ _).trans (hb1.mono (by simp only [World.size_alloc]; omega)))
  have cf := fun o => cell_of_row w1 _ o _ _ (0, 0) e0
  have cg := fun o => cell_of_row w1 _ o _ _ (0, 0) e1
  have hlt0 : w.heap.size < w1.heap.size := lt_of_heap e0
  have hlt1 : w.heap.size + 1 < w1.heap.size := lt_of_heap e1
  have HIa1 := Lib.hid (HIa.out.below HB1.out)
  have HIb1 := Lib.hid (HIb.out.below HB1.out)
  clear hb1 e0 e1
  go_wp2_with fail
  go_region_held3 (fun w' => (∀ o, w'.cell? ⟨w.heap.size, o, none⟩ = (actC ⟨k1, y1, n1, x1, s1, m1, u1⟩ A ca)[o]?) ∧ (∀ o, w'.cell? ⟨w.heap.size + 1, o, none⟩ = (actC ⟨k2, y2, n2, x2, s2, m2, u2⟩ B cb)[o]?) ∧ Below w1.heap.size w1 w')
     (first
       | (go_split_ands; exact ⟨by assumption, by assumption, below_drew (Below.refl _ _)⟩)
       | (go_split_ands; exact ⟨by assumption, by assumption, below_drew (by assumption)⟩)
       | (go_split_ands; exact ⟨all_keep hb3 (by assumption) hlt0 (by assumption), all_keep hb3 (by assumption) hlt1 (by assumption), Below.trans (by assumption) (hb3.mono (Below.size (by assumption)))⟩)
       | (go_split_ands; exact ⟨all_keep hb2 (by assumption) hlt0 (by assumption), all_keep hb2 (by assumption) hlt1 (by assumption), Below.trans (by assumption) (hb2.mono (Below.size (by assumption)))⟩))
     (first
       | (go_at_call 24; go_split_ands; (with_reducible refine (HGa.out _ (HIa1.out.below (by assumption))).mono ?_); rintro e w2 ⟨rfl, hb2⟩)
       | (go_at_call 24; go_split_ands; (with_reducible refine (HGb.out _ (HIb1.out.below (by assumption))).mono ?_); rintro e w3 ⟨rfl, hb3⟩))
  rename_i hH
  obtain ⟨cf3, cg3, hB13⟩ := hH
  have hs3 := hB13.size
  have HB3 := Lib.hid (HB1.out.trans (hB13.mono HB1.out.size))
  clear hb2 hb3 hB13 cf cg
  go_wp2_with fail
  go_ret
  exact ⟨rfl, HB3.out⟩

theorem actSameL_any (a : AC.Ac) (A : Option Addr) (ca : Nat) (b : AC.Ac) (B : Option Addr) (cb : Nat) (w : World) (ha : ActIn w a A ca) (hb : ActIn w b B cb) (hR : RowsAt w) :
    Calls Tryd.prog 6 #[actV a A ca, actV b B cb] w fun e w' => e = .returned (.bool true) ∧ Below w.heap.size w w' := by
  cases h1 : AC.big a
  · cases h2 : AC.big b
    · cases h3 : AC.same a b
      · exact actSame_f a A ca b B cb w ha hb hR h1 h2 h3
      · exact actSame_t a A ca b B cb w ha hb hR h1 h2 h3
    · exact actSame_sb a A ca b B cb w ha hb hR h1 h2
  · cases h2 : AC.big b
    · exact actSame_bs a A ca b B cb w ha hb hR h1 h2
    · exact actSame_bb a A ca b B cb w ha hb hR h1 h2

end Go.Proofs.YtafjginegipakaaDoor
