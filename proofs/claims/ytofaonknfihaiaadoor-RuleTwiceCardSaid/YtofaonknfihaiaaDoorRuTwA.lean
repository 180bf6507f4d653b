/- The walk of RuleTwice, kind by kind. -/
import Derived.Test.YtofaonknfihaiaaDoorRuT
import Derived.Test.YtofaonknfihaiaaDoorSp5b
namespace Go.Proofs.YtofaonknfihaiaaDoor
open Go.RowKit MM

theorem act_small5 {a : AC.Ac} (hb : AC.big a = false) : Lim a.make.list.length ∧ Lim a.key.size ∧ Lim a.s.size := by
  obtain ⟨h1, h2, h3⟩ := AC.big_not hb
  have := (big_not h3).1
  unfold Lim
  exact ⟨by omega, by omega, by omega⟩
theorem ofPair {α β : Type} {x : α × β} : x = (x.1, x.2) := rfl

set_option maxHeartbeats 8000000 in
set_option maxRecDepth 100000 in
theorem ruleTwice_5 (r : RC.Rc) (A : Option Addr) (c : Nat) (key : ByteArray) (n : Int) (fx : Nat) (s : ByteArray) (mk : RC.Rc) (must : Bool) (L : Option Addr) (cl : Nat) (w : World) (hr : RecIn w r A c) (ha : ActIn w ⟨5, key, n, fx, s, mk, must⟩ L cl) (hR : RowsAt w) :
    Calls Tryd.prog 4 #[recV r A c, actV ⟨5, key, n, fx, s, mk, must⟩ L cl] w fun e w' => e = .returned (.bool true) ∧ Below w.heap.size w w' := by
  have HR := Lib.hid hR
  have HI := Lib.hid hr
  have HJ := Lib.hid ha
  clear hR hr ha
  go_enter Tryd.func4, Tryd.ntmps4
  go_wp2_with fail
  refine (speaks5_any _ (HR.out.below (below2 w _ _))).mono ?_
  rintro e w1 ⟨rfl, hb1⟩
  have hs1 := hb1.size
  simp only [World.size_alloc] at hs1
  have e0 := (hb1.block w.heap.size (by simp only [World.size_alloc]; omega)).trans (heap_alloc2_old w _ _)
  have e1 := (hb1.block (w.heap.size + 1) (by simp only [World.size_alloc]; omega)).trans (heap_alloc2_new w _ _)
  have c0 := fun o => cell_of_row w1 _ o _ _ (0, 0) e0
  have c1 := fun o => cell_of_row w1 _ o _ _ (0, 0) e1
  have HB1 := Lib.hid (show Below w.heap.size w w1 from (below2 w _ _).trans (hb1.mono (by simp only [World.size_alloc]; omega)))
  have E0 := Lib.hid e0
  have E1 := Lib.hid e1
  have HA1 := Lib.hid (acts_one 31 (HJ.out.keep HB1.out))
  clear hb1 e0 e1
  go_wp2_with fail
  refine (big5_any r A (some ⟨w1.heap.size, 0, none⟩) c 1 [⟨⟨5, key, n, fx, s, mk, must⟩, L, cl⟩] _ ((HI.out.its.below HB1.out).alloc _) HI.out.len HA1.out).mono ?_
  rintro e w2 ⟨rfl, hb2⟩
  have hs2 := hb2.size
  simp only [World.size_alloc] at hs2
  have F0 := Lib.hid ((hb2.block w.heap.size (by simp only [World.size_alloc]; omega)).trans ((heap_alloc_old _ _ (by omega)).trans E0.out))
  have F1 := Lib.hid ((hb2.block (w.heap.size + 1) (by simp only [World.size_alloc]; omega)).trans ((heap_alloc_old _ _ (by omega)).trans E1.out))
  have HB2 := Lib.hid (show Below w.heap.size w w2 from (HB1.out.trans ((below1 w1 _).mono (by omega))).trans (hb2.mono (by simp only [World.size_alloc]; omega)))
  clear hb2 E0 E1 HA1 c0 c1
  have c0 := fun o => cell_of_row w2 _ o _ _ (0, 0) F0.out
  have c1 := fun o => cell_of_row w2 _ o _ _ (0, 0) F1.out
  cases hbig : big5 r [⟨⟨5, key, n, fx, s, mk, must⟩, L, cl⟩]
  case true =>
    go_wp2_with fail
    go_ret
    exact ⟨rfl, HB2.out⟩
  have hb5 := big5_not hbig
  have HS := Lib.hid (act_small5 (hb5.2.2 ⟨⟨5, key, n, fx, s, mk, must⟩, L, cl⟩ (List.mem_cons_self ..)))
  have HM := Lib.hid (show Lim r.list.length by have := (big_not hb5.1).1; unfold Lim; omega)
  clear hbig hb5
  have HP := Lib.hid (twice_plain r ⟨5, key, n, fx, s, mk, must⟩ HI.out.ok)
  have HAp := Lib.hid (fun (q : RC.Rc) (hq : q.ok) (hl : Lim q.list.length) (A1 : Option Addr) (k : Nat) u (b : Below w.heap.size w u) (hA : Its u A1 q.list) => apply_any q true ⟨5, key, n, fx, s, mk, must⟩ A1 L k cl u hq HJ.out.ok (HR.out.below b) hA (HJ.out.make.its.below b) hl HS.out.1 HS.out.2.1 HS.out.2.2)
  have HOK := Lib.hid (apply_ok (there := true) HI.out.ok HJ.out.ok)
  have HLM := Lib.hid (apply_lim (there := true) HI.out.ok HJ.out.ok HM.out)
  have HOK2 := Lib.hid (apply_ok (there := true) (apply_ok (there := true) HI.out.ok HJ.out.ok).1 HJ.out.ok)
  have HQ := Lib.hid (HP.out (by simp))
  go_wp2_with fail
  refine (HAp.out r HI.out.ok HM.out A c _ HB2.out (HI.out.its.below HB2.out)).mono ?_
  generalize hap : RU.apply r true _ = out at HQ HOK HLM HOK2
  obtain ⟨p, t1, xx⟩ := out
  clear hap
  rintro e w3 ⟨A2, c2, C, cc, rfl, ho1, ho2, hn1, hn2, hb3⟩
  have hs3 := hb3.size
  have G1 := Lib.hid ((hb3.block (w.heap.size + 1) (by omega)).trans F1.out)
  have HB3 := Lib.hid (HB2.out.trans (hb3.mono HB2.out.size))
  have HO1 := Lib.hid ho1
  have d1 := fun o => cell_of_row w3 _ o _ _ (0, 0) G1.out
  have y1 : w.heap.size + 1 < w3.heap.size := by omega
  have k1 := fun p q o => cell_of_row ((w3.alloc p).alloc q) _ o _ _ (0, 0) ((heap_alloc_old (w3.alloc p) q (by simp; omega)).trans ((heap_alloc_old w3 p y1).trans G1.out))
  clear hb3 ho1 ho2 hn1 hn2 c0 c1
  go_wp2_with fail
  refine (HAp.out p HOK.out.1 HLM.out.1 A2 c2 _ (HB3.out.trans ((below2 w3 _ _).mono HB3.out.size)) ((Its.own HO1.out).below (below2 w3 _ _))).mono ?_
  generalize hap : RU.apply p true _ = out at HQ HOK2
  obtain ⟨q, t2, yy⟩ := out
  obtain ⟨hq1, hq2⟩ := HQ.out
  have hq1 : t2 = true := hq1
  have hq2 : q = p := hq2
  subst hq1 hq2
  clear hap
  rintro e w4 ⟨A4, c4, D, cd, rfl, ho3, ho4, hn3, hn4, hb4⟩
  have hs4 := hb4.size
  simp only [World.size_alloc] at hs4
  have e5 := (hb4.block w3.heap.size (by simp only [World.size_alloc]; omega)).trans (heap_alloc2_old w3 _ _)
  have d5 := fun o => cell_of_row w4 _ o _ _ (0, 0) e5
  have HB4 := Lib.hid ((HB3.out.trans ((below2 w3 _ _).mono HB3.out.size)).trans (hb4.mono (by have := HB3.out.size; simp only [World.size_alloc]; omega)))
  have HI4 := Lib.hid (((Its.own HO1.out).below (below2 w3 _ _)).below hb4)
  have HO3 := Lib.hid ho3
  have y2 : w3.heap.size < w4.heap.size := by omega
  have k5 := fun p q o => cell_of_row ((w4.alloc p).alloc q) _ o _ _ (0, 0) ((heap_alloc_old (w4.alloc p) q (by simp; omega)).trans ((heap_alloc_old w4 p y2).trans e5))
  clear hb4 ho3 ho4 hn3 hn4 d1 e5 k1
  go_wp2_with fail
  refine (recSame_any q q A2 A4 c2 c4 _ HOK.out.1 HOK.out.1 ((HI4.out.alloc _).alloc _) (((Its.own HO3.out).alloc _).alloc _) HLM.out.1).mono ?_
  rintro e w5 ⟨rfl, hb5⟩
  rw [RC.same_refl']
  have HB5 := Lib.hid ((HB4.out.trans ((below2 w4 _ _).mono HB4.out.size)).trans (hb5.mono (by have := HB4.out.size; simp only [World.size_alloc]; omega)))
  clear hb5 d5 k5
  go_wp2_with fail
  go_ret
  exact ⟨rfl, HB5.out⟩

set_option maxHeartbeats 8000000 in
set_option maxRecDepth 100000 in
theorem ruleTwice_6 (r : RC.Rc) (A : Option Addr) (c : Nat) (key : ByteArray) (n : Int) (fx : Nat) (s : ByteArray) (mk : RC.Rc) (must : Bool) (L : Option Addr) (cl : Nat) (w : World) (hr : RecIn w r A c) (ha : ActIn w ⟨6, key, n, fx, s, mk, must⟩ L cl) (hR : RowsAt w) :
    Calls Tryd.prog 4 #[recV r A c, actV ⟨6, key, n, fx, s, mk, must⟩ L cl] w fun e w' => e = .returned (.bool true) ∧ Below w.heap.size w w' := by
  have HR := Lib.hid hR
  have HI := Lib.hid hr
  have HJ := Lib.hid ha
  clear hR hr ha
  go_enter Tryd.func4, Tryd.ntmps4
  go_wp2_with fail
  refine (speaks5_any _ (HR.out.below (below2 w _ _))).mono ?_
  rintro e w1 ⟨rfl, hb1⟩
  have hs1 := hb1.size
  simp only [World.size_alloc] at hs1
  have e0 := (hb1.block w.heap.size (by simp only [World.size_alloc]; omega)).trans (heap_alloc2_old w _ _)
  have e1 := (hb1.block (w.heap.size + 1) (by simp only [World.size_alloc]; omega)).trans (heap_alloc2_new w _ _)
  have c0 := fun o => cell_of_row w1 _ o _ _ (0, 0) e0
  have c1 := fun o => cell_of_row w1 _ o _ _ (0, 0) e1
  have HB1 := Lib.hid (show Below w.heap.size w w1 from (below2 w _ _).trans (hb1.mono (by simp only [World.size_alloc]; omega)))
  have E0 := Lib.hid e0
  have E1 := Lib.hid e1
  have HA1 := Lib.hid (acts_one 31 (HJ.out.keep HB1.out))
  clear hb1 e0 e1
  go_wp2_with fail
  refine (big5_any r A (some ⟨w1.heap.size, 0, none⟩) c 1 [⟨⟨6, key, n, fx, s, mk, must⟩, L, cl⟩] _ ((HI.out.its.below HB1.out).alloc _) HI.out.len HA1.out).mono ?_
  rintro e w2 ⟨rfl, hb2⟩
  have hs2 := hb2.size
  simp only [World.size_alloc] at hs2
  have F0 := Lib.hid ((hb2.block w.heap.size (by simp only [World.size_alloc]; omega)).trans ((heap_alloc_old _ _ (by omega)).trans E0.out))
  have F1 := Lib.hid ((hb2.block (w.heap.size + 1) (by simp only [World.size_alloc]; omega)).trans ((heap_alloc_old _ _ (by omega)).trans E1.out))
  have HB2 := Lib.hid (show Below w.heap.size w w2 from (HB1.out.trans ((below1 w1 _).mono (by omega))).trans (hb2.mono (by simp only [World.size_alloc]; omega)))
  clear hb2 E0 E1 HA1 c0 c1
  have c0 := fun o => cell_of_row w2 _ o _ _ (0, 0) F0.out
  have c1 := fun o => cell_of_row w2 _ o _ _ (0, 0) F1.out
  cases hbig : big5 r [⟨⟨6, key, n, fx, s, mk, must⟩, L, cl⟩]
  case true =>
    go_wp2_with fail
    go_ret
    exact ⟨rfl, HB2.out⟩
  have hb5 := big5_not hbig
  have HS := Lib.hid (act_small5 (hb5.2.2 ⟨⟨6, key, n, fx, s, mk, must⟩, L, cl⟩ (List.mem_cons_self ..)))
  have HM := Lib.hid (show Lim r.list.length by have := (big_not hb5.1).1; unfold Lim; omega)
  clear hbig hb5
  have HP := Lib.hid (twice_plain r ⟨6, key, n, fx, s, mk, must⟩ HI.out.ok)
  have HAp := Lib.hid (fun (q : RC.Rc) (hq : q.ok) (hl : Lim q.list.length) (A1 : Option Addr) (k : Nat) u (b : Below w.heap.size w u) (hA : Its u A1 q.list) => apply_any q true ⟨6, key, n, fx, s, mk, must⟩ A1 L k cl u hq HJ.out.ok (HR.out.below b) hA (HJ.out.make.its.below b) hl HS.out.1 HS.out.2.1 HS.out.2.2)
  have HOK := Lib.hid (apply_ok (there := true) HI.out.ok HJ.out.ok)
  have HLM := Lib.hid (apply_lim (there := true) HI.out.ok HJ.out.ok HM.out)
  have HOK2 := Lib.hid (apply_ok (there := true) (apply_ok (there := true) HI.out.ok HJ.out.ok).1 HJ.out.ok)
  have HQ := Lib.hid (HP.out (by simp))
  go_wp2_with fail
  refine (HAp.out r HI.out.ok HM.out A c _ HB2.out (HI.out.its.below HB2.out)).mono ?_
  generalize hap : RU.apply r true _ = out at HQ HOK HLM HOK2
  obtain ⟨p, t1, xx⟩ := out
  clear hap
  rintro e w3 ⟨A2, c2, C, cc, rfl, ho1, ho2, hn1, hn2, hb3⟩
  have hs3 := hb3.size
  have G1 := Lib.hid ((hb3.block (w.heap.size + 1) (by omega)).trans F1.out)
  have HB3 := Lib.hid (HB2.out.trans (hb3.mono HB2.out.size))
  have HO1 := Lib.hid ho1
  have d1 := fun o => cell_of_row w3 _ o _ _ (0, 0) G1.out
  have y1 : w.heap.size + 1 < w3.heap.size := by omega
  have k1 := fun p q o => cell_of_row ((w3.alloc p).alloc q) _ o _ _ (0, 0) ((heap_alloc_old (w3.alloc p) q (by simp; omega)).trans ((heap_alloc_old w3 p y1).trans G1.out))
  clear hb3 ho1 ho2 hn1 hn2 c0 c1
  go_wp2_with fail
  refine (HAp.out p HOK.out.1 HLM.out.1 A2 c2 _ (HB3.out.trans ((below2 w3 _ _).mono HB3.out.size)) ((Its.own HO1.out).below (below2 w3 _ _))).mono ?_
  generalize hap : RU.apply p true _ = out at HQ HOK2
  obtain ⟨q, t2, yy⟩ := out
  obtain ⟨hq1, hq2⟩ := HQ.out
  have hq1 : t2 = true := hq1
  have hq2 : q = p := hq2
  subst hq1 hq2
  clear hap
  rintro e w4 ⟨A4, c4, D, cd, rfl, ho3, ho4, hn3, hn4, hb4⟩
  have hs4 := hb4.size
  simp only [World.size_alloc] at hs4
  have e5 := (hb4.block w3.heap.size (by simp only [World.size_alloc]; omega)).trans (heap_alloc2_old w3 _ _)
  have d5 := fun o => cell_of_row w4 _ o _ _ (0, 0) e5
  have HB4 := Lib.hid ((HB3.out.trans ((below2 w3 _ _).mono HB3.out.size)).trans (hb4.mono (by have := HB3.out.size; simp only [World.size_alloc]; omega)))
  have HI4 := Lib.hid (((Its.own HO1.out).below (below2 w3 _ _)).below hb4)
  have HO3 := Lib.hid ho3
  have y2 : w3.heap.size < w4.heap.size := by omega
  have k5 := fun p q o => cell_of_row ((w4.alloc p).alloc q) _ o _ _ (0, 0) ((heap_alloc_old (w4.alloc p) q (by simp; omega)).trans ((heap_alloc_old w4 p y2).trans e5))
  clear hb4 ho3 ho4 hn3 hn4 d1 e5 k1
  go_wp2_with fail
  refine (recSame_any q q A2 A4 c2 c4 _ HOK.out.1 HOK.out.1 ((HI4.out.alloc _).alloc _) (((Its.own HO3.out).alloc _).alloc _) HLM.out.1).mono ?_
  rintro e w5 ⟨rfl, hb5⟩
  rw [RC.same_refl']
  have HB5 := Lib.hid ((HB4.out.trans ((below2 w4 _ _).mono HB4.out.size)).trans (hb5.mono (by have := HB4.out.size; simp only [World.size_alloc]; omega)))
  clear hb5 d5 k5
  go_wp2_with fail
  go_ret
  exact ⟨rfl, HB5.out⟩

set_option maxHeartbeats 8000000 in
set_option maxRecDepth 100000 in
theorem ruleTwice_13 (r : RC.Rc) (A : Option Addr) (c : Nat) (key : ByteArray) (n : Int) (fx : Nat) (s : ByteArray) (mk : RC.Rc) (must : Bool) (L : Option Addr) (cl : Nat) (w : World) (hr : RecIn w r A c) (ha : ActIn w ⟨13, key, n, fx, s, mk, must⟩ L cl) (hR : RowsAt w) :
    Calls Tryd.prog 4 #[recV r A c, actV ⟨13, key, n, fx, s, mk, must⟩ L cl] w fun e w' => e = .returned (.bool true) ∧ Below w.heap.size w w' := by
  have HR := Lib.hid hR
  have HI := Lib.hid hr
  have HJ := Lib.hid ha
  clear hR hr ha
  go_enter Tryd.func4, Tryd.ntmps4
  go_wp2_with fail
  refine (speaks5_any _ (HR.out.below (below2 w _ _))).mono ?_
  rintro e w1 ⟨rfl, hb1⟩
  have hs1 := hb1.size
  simp only [World.size_alloc] at hs1
  have e0 := (hb1.block w.heap.size (by simp only [World.size_alloc]; omega)).trans (heap_alloc2_old w _ _)
  have e1 := (hb1.block (w.heap.size + 1) (by simp only [World.size_alloc]; omega)).trans (heap_alloc2_new w _ _)
  have c0 := fun o => cell_of_row w1 _ o _ _ (0, 0) e0
  have c1 := fun o => cell_of_row w1 _ o _ _ (0, 0) e1
  have HB1 := Lib.hid (show Below w.heap.size w w1 from (below2 w _ _).trans (hb1.mono (by simp only [World.size_alloc]; omega)))
  have E0 := Lib.hid e0
  have E1 := Lib.hid e1
  have HA1 := Lib.hid (acts_one 31 (HJ.out.keep HB1.out))
  clear hb1 e0 e1
  go_wp2_with fail
  refine (big5_any r A (some ⟨w1.heap.size, 0, none⟩) c 1 [⟨⟨13, key, n, fx, s, mk, must⟩, L, cl⟩] _ ((HI.out.its.below HB1.out).alloc _) HI.out.len HA1.out).mono ?_
  rintro e w2 ⟨rfl, hb2⟩
  have hs2 := hb2.size
  simp only [World.size_alloc] at hs2
  have F0 := Lib.hid ((hb2.block w.heap.size (by simp only [World.size_alloc]; omega)).trans ((heap_alloc_old _ _ (by omega)).trans E0.out))
  have F1 := Lib.hid ((hb2.block (w.heap.size + 1) (by simp only [World.size_alloc]; omega)).trans ((heap_alloc_old _ _ (by omega)).trans E1.out))
  have HB2 := Lib.hid (show Below w.heap.size w w2 from (HB1.out.trans ((below1 w1 _).mono (by omega))).trans (hb2.mono (by simp only [World.size_alloc]; omega)))
  clear hb2 E0 E1 HA1 c0 c1
  have c0 := fun o => cell_of_row w2 _ o _ _ (0, 0) F0.out
  have c1 := fun o => cell_of_row w2 _ o _ _ (0, 0) F1.out
  cases hbig : big5 r [⟨⟨13, key, n, fx, s, mk, must⟩, L, cl⟩]
  case true =>
    go_wp2_with fail
    go_ret
    exact ⟨rfl, HB2.out⟩
  have hb5 := big5_not hbig
  have HS := Lib.hid (act_small5 (hb5.2.2 ⟨⟨13, key, n, fx, s, mk, must⟩, L, cl⟩ (List.mem_cons_self ..)))
  have HM := Lib.hid (show Lim r.list.length by have := (big_not hb5.1).1; unfold Lim; omega)
  clear hbig hb5
  have HP := Lib.hid (twice_plain r ⟨13, key, n, fx, s, mk, must⟩ HI.out.ok)
  have HAp := Lib.hid (fun (q : RC.Rc) (hq : q.ok) (hl : Lim q.list.length) (A1 : Option Addr) (k : Nat) u (b : Below w.heap.size w u) (hA : Its u A1 q.list) => apply_any q true ⟨13, key, n, fx, s, mk, must⟩ A1 L k cl u hq HJ.out.ok (HR.out.below b) hA (HJ.out.make.its.below b) hl HS.out.1 HS.out.2.1 HS.out.2.2)
  have HOK := Lib.hid (apply_ok (there := true) HI.out.ok HJ.out.ok)
  have HLM := Lib.hid (apply_lim (there := true) HI.out.ok HJ.out.ok HM.out)
  have HOK2 := Lib.hid (apply_ok (there := true) (apply_ok (there := true) HI.out.ok HJ.out.ok).1 HJ.out.ok)
  have HQ := Lib.hid (HP.out (by simp))
  go_wp2_with fail
  refine (HAp.out r HI.out.ok HM.out A c _ HB2.out (HI.out.its.below HB2.out)).mono ?_
  generalize hap : RU.apply r true _ = out at HQ HOK HLM HOK2
  obtain ⟨p, t1, xx⟩ := out
  clear hap
  rintro e w3 ⟨A2, c2, C, cc, rfl, ho1, ho2, hn1, hn2, hb3⟩
  have hs3 := hb3.size
  have G1 := Lib.hid ((hb3.block (w.heap.size + 1) (by omega)).trans F1.out)
  have HB3 := Lib.hid (HB2.out.trans (hb3.mono HB2.out.size))
  have HO1 := Lib.hid ho1
  have d1 := fun o => cell_of_row w3 _ o _ _ (0, 0) G1.out
  have y1 : w.heap.size + 1 < w3.heap.size := by omega
  have k1 := fun p q o => cell_of_row ((w3.alloc p).alloc q) _ o _ _ (0, 0) ((heap_alloc_old (w3.alloc p) q (by simp; omega)).trans ((heap_alloc_old w3 p y1).trans G1.out))
  clear hb3 ho1 ho2 hn1 hn2 c0 c1
  go_wp2_with fail
  refine (HAp.out p HOK.out.1 HLM.out.1 A2 c2 _ (HB3.out.trans ((below2 w3 _ _).mono HB3.out.size)) ((Its.own HO1.out).below (below2 w3 _ _))).mono ?_
  generalize hap : RU.apply p true _ = out at HQ HOK2
  obtain ⟨q, t2, yy⟩ := out
  obtain ⟨hq1, hq2⟩ := HQ.out
  have hq1 : t2 = true := hq1
  have hq2 : q = p := hq2
  subst hq1 hq2
  clear hap
  rintro e w4 ⟨A4, c4, D, cd, rfl, ho3, ho4, hn3, hn4, hb4⟩
  have hs4 := hb4.size
  simp only [World.size_alloc] at hs4
  have e5 := (hb4.block w3.heap.size (by simp only [World.size_alloc]; omega)).trans (heap_alloc2_old w3 _ _)
  have d5 := fun o => cell_of_row w4 _ o _ _ (0, 0) e5
  have HB4 := Lib.hid ((HB3.out.trans ((below2 w3 _ _).mono HB3.out.size)).trans (hb4.mono (by have := HB3.out.size; simp only [World.size_alloc]; omega)))
  have HI4 := Lib.hid (((Its.own HO1.out).below (below2 w3 _ _)).below hb4)
  have HO3 := Lib.hid ho3
  have y2 : w3.heap.size < w4.heap.size := by omega
  have k5 := fun p q o => cell_of_row ((w4.alloc p).alloc q) _ o _ _ (0, 0) ((heap_alloc_old (w4.alloc p) q (by simp; omega)).trans ((heap_alloc_old w4 p y2).trans e5))
  clear hb4 ho3 ho4 hn3 hn4 d1 e5 k1
  go_wp2_with fail
  refine (recSame_any q q A2 A4 c2 c4 _ HOK.out.1 HOK.out.1 ((HI4.out.alloc _).alloc _) (((Its.own HO3.out).alloc _).alloc _) HLM.out.1).mono ?_
  rintro e w5 ⟨rfl, hb5⟩
  rw [RC.same_refl']
  have HB5 := Lib.hid ((HB4.out.trans ((below2 w4 _ _).mono HB4.out.size)).trans (hb5.mono (by have := HB4.out.size; simp only [World.size_alloc]; omega)))
  clear hb5 d5 k5
  go_wp2_with fail
  go_ret
  exact ⟨rfl, HB5.out⟩

set_option maxHeartbeats 8000000 in
set_option maxRecDepth 100000 in
theorem ruleTwice_14 (r : RC.Rc) (A : Option Addr) (c : Nat) (key : ByteArray) (n : Int) (fx : Nat) (s : ByteArray) (mk : RC.Rc) (must : Bool) (L : Option Addr) (cl : Nat) (w : World) (hr : RecIn w r A c) (ha : ActIn w ⟨14, key, n, fx, s, mk, must⟩ L cl) (hR : RowsAt w) :
    Calls Tryd.prog 4 #[recV r A c, actV ⟨14, key, n, fx, s, mk, must⟩ L cl] w fun e w' => e = .returned (.bool true) ∧ Below w.heap.size w w' := by
  have HR := Lib.hid hR
  have HI := Lib.hid hr
  have HJ := Lib.hid ha
  clear hR hr ha
  go_enter Tryd.func4, Tryd.ntmps4
  go_wp2_with fail
  refine (speaks5_any _ (HR.out.below (below2 w _ _))).mono ?_
  rintro e w1 ⟨rfl, hb1⟩
  have hs1 := hb1.size
  simp only [World.size_alloc] at hs1
  have e0 := (hb1.block w.heap.size (by simp only [World.size_alloc]; omega)).trans (heap_alloc2_old w _ _)
  have e1 := (hb1.block (w.heap.size + 1) (by simp only [World.size_alloc]; omega)).trans (heap_alloc2_new w _ _)
  have c0 := fun o => cell_of_row w1 _ o _ _ (0, 0) e0
  have c1 := fun o => cell_of_row w1 _ o _ _ (0, 0) e1
  have HB1 := Lib.hid (show Below w.heap.size w w1 from (below2 w _ _).trans (hb1.mono (by simp only [World.size_alloc]; omega)))
  have E0 := Lib.hid e0
  have E1 := Lib.hid e1
  have HA1 := Lib.hid (acts_one 31 (HJ.out.keep HB1.out))
  clear hb1 e0 e1
  go_wp2_with fail
  refine (big5_any r A (some ⟨w1.heap.size, 0, none⟩) c 1 [⟨⟨14, key, n, fx, s, mk, must⟩, L, cl⟩] _ ((HI.out.its.below HB1.out).alloc _) HI.out.len HA1.out).mono ?_
  rintro e w2 ⟨rfl, hb2⟩
  have hs2 := hb2.size
  simp only [World.size_alloc] at hs2
  have F0 := Lib.hid ((hb2.block w.heap.size (by simp only [World.size_alloc]; omega)).trans ((heap_alloc_old _ _ (by omega)).trans E0.out))
  have F1 := Lib.hid ((hb2.block (w.heap.size + 1) (by simp only [World.size_alloc]; omega)).trans ((heap_alloc_old _ _ (by omega)).trans E1.out))
  have HB2 := Lib.hid (show Below w.heap.size w w2 from (HB1.out.trans ((below1 w1 _).mono (by omega))).trans (hb2.mono (by simp only [World.size_alloc]; omega)))
  clear hb2 E0 E1 HA1 c0 c1
  have c0 := fun o => cell_of_row w2 _ o _ _ (0, 0) F0.out
  have c1 := fun o => cell_of_row w2 _ o _ _ (0, 0) F1.out
  cases hbig : big5 r [⟨⟨14, key, n, fx, s, mk, must⟩, L, cl⟩]
  case true =>
    go_wp2_with fail
    go_ret
    exact ⟨rfl, HB2.out⟩
  have hb5 := big5_not hbig
  have HS := Lib.hid (act_small5 (hb5.2.2 ⟨⟨14, key, n, fx, s, mk, must⟩, L, cl⟩ (List.mem_cons_self ..)))
  have HM := Lib.hid (show Lim r.list.length by have := (big_not hb5.1).1; unfold Lim; omega)
  clear hbig hb5
  have HP := Lib.hid (twice_plain r ⟨14, key, n, fx, s, mk, must⟩ HI.out.ok)
  have HAp := Lib.hid (fun (q : RC.Rc) (hq : q.ok) (hl : Lim q.list.length) (A1 : Option Addr) (k : Nat) u (b : Below w.heap.size w u) (hA : Its u A1 q.list) => apply_any q true ⟨14, key, n, fx, s, mk, must⟩ A1 L k cl u hq HJ.out.ok (HR.out.below b) hA (HJ.out.make.its.below b) hl HS.out.1 HS.out.2.1 HS.out.2.2)
  have HOK := Lib.hid (apply_ok (there := true) HI.out.ok HJ.out.ok)
  have HLM := Lib.hid (apply_lim (there := true) HI.out.ok HJ.out.ok HM.out)
  have HOK2 := Lib.hid (apply_ok (there := true) (apply_ok (there := true) HI.out.ok HJ.out.ok).1 HJ.out.ok)
  have HQ := Lib.hid (HP.out (by simp))
  go_wp2_with fail
  refine (HAp.out r HI.out.ok HM.out A c _ HB2.out (HI.out.its.below HB2.out)).mono ?_
  generalize hap : RU.apply r true _ = out at HQ HOK HLM HOK2
  obtain ⟨p, t1, xx⟩ := out
  clear hap
  rintro e w3 ⟨A2, c2, C, cc, rfl, ho1, ho2, hn1, hn2, hb3⟩
  have hs3 := hb3.size
  have G1 := Lib.hid ((hb3.block (w.heap.size + 1) (by omega)).trans F1.out)
  have HB3 := Lib.hid (HB2.out.trans (hb3.mono HB2.out.size))
  have HO1 := Lib.hid ho1
  have d1 := fun o => cell_of_row w3 _ o _ _ (0, 0) G1.out
  have y1 : w.heap.size + 1 < w3.heap.size := by omega
  have k1 := fun p q o => cell_of_row ((w3.alloc p).alloc q) _ o _ _ (0, 0) ((heap_alloc_old (w3.alloc p) q (by simp; omega)).trans ((heap_alloc_old w3 p y1).trans G1.out))
  clear hb3 ho1 ho2 hn1 hn2 c0 c1
  go_wp2_with fail
  refine (HAp.out p HOK.out.1 HLM.out.1 A2 c2 _ (HB3.out.trans ((below2 w3 _ _).mono HB3.out.size)) ((Its.own HO1.out).below (below2 w3 _ _))).mono ?_
  generalize hap : RU.apply p true _ = out at HQ HOK2
  obtain ⟨q, t2, yy⟩ := out
  obtain ⟨hq1, hq2⟩ := HQ.out
  have hq1 : t2 = true := hq1
  have hq2 : q = p := hq2
  subst hq1 hq2
  clear hap
  rintro e w4 ⟨A4, c4, D, cd, rfl, ho3, ho4, hn3, hn4, hb4⟩
  have hs4 := hb4.size
  simp only [World.size_alloc] at hs4
  have e5 := (hb4.block w3.heap.size (by simp only [World.size_alloc]; omega)).trans (heap_alloc2_old w3 _ _)
  have d5 := fun o => cell_of_row w4 _ o _ _ (0, 0) e5
  have HB4 := Lib.hid ((HB3.out.trans ((below2 w3 _ _).mono HB3.out.size)).trans (hb4.mono (by have := HB3.out.size; simp only [World.size_alloc]; omega)))
  have HI4 := Lib.hid (((Its.own HO1.out).below (below2 w3 _ _)).below hb4)
  have HO3 := Lib.hid ho3
  have y2 : w3.heap.size < w4.heap.size := by omega
  have k5 := fun p q o => cell_of_row ((w4.alloc p).alloc q) _ o _ _ (0, 0) ((heap_alloc_old (w4.alloc p) q (by simp; omega)).trans ((heap_alloc_old w4 p y2).trans e5))
  clear hb4 ho3 ho4 hn3 hn4 d1 e5 k1
  go_wp2_with fail
  refine (recSame_any q q A2 A4 c2 c4 _ HOK.out.1 HOK.out.1 ((HI4.out.alloc _).alloc _) (((Its.own HO3.out).alloc _).alloc _) HLM.out.1).mono ?_
  rintro e w5 ⟨rfl, hb5⟩
  rw [RC.same_refl']
  have HB5 := Lib.hid ((HB4.out.trans ((below2 w4 _ _).mono HB4.out.size)).trans (hb5.mono (by have := HB4.out.size; simp only [World.size_alloc]; omega)))
  clear hb5 d5 k5
  go_wp2_with fail
  go_ret
  exact ⟨rfl, HB5.out⟩


end Go.Proofs.YtofaonknfihaiaaDoor
