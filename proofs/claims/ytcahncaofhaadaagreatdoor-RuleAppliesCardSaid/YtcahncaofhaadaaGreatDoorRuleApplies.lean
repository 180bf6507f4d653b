/- The walk of RuleApplies. -/
import Derived.Test.YtcahncaofhaadaaGreatDoorR5E
import Derived.Test.YtcahncaofhaadaaGreatDoorSpF
namespace Go.Proofs.YtcahncaofhaadaaGreatDoor
open Go.RowKit MM
set_option linter.unusedVariables false
set_option linter.unusedSimpArgs false

set_option maxHeartbeats 8000000 in
set_option maxRecDepth 100000 in
theorem ruleApplies_any (r : RC.Rc) (A : Option Addr) (c : Nat) (there : Bool) (a : AC.Ac) (L : Option Addr) (cl : Nat) (w : World) (hr : RecIn w r A c) (ha : ActIn w a L cl) (hR : RowsAt w) :
    Calls Tryz.prog 3 #[recV r A c, .bool there, actV a L cl] w fun e w' => e = .returned (.bool true) ∧ Below w.heap.size w w' := by
  have HR := Lib.hid hR
  have HI := Lib.hid hr
  have HJ := Lib.hid ha
  clear hR hr ha
  go_enter Tryz.func3, Tryz.ntmps3
  go_wp2_with fail
  refine (speaks5_any _ (HR.out.below (below2 w _ _))).mono ?_
  rintro e w1 ⟨rfl, hb1⟩
  have hs1 := hb1.size
  simp only [World.size_alloc] at hs1
  have e0 := (hb1.block w.heap.size (by simp only [World.size_alloc]; omega)).trans (heap_alloc2_old w _ _)
  have e1 := (hb1.block (w.heap.size + 1) (by simp only [World.size_alloc]; omega)).trans (heap_alloc2_new w _ _)
  have c0 := fun o => cell_of_row w1 _ o _ _ (0, 0) e0
  have c1 := fun o => cell_of_row w1 _ o _ _ (0, 0) e1
  have HB1 := Lib.hid (show Below w.heap.size w w1 from (below2 w _ _).trans (hb1.mono (by simp only [World.size_alloc]; omega)))
  have E0 := Lib.hid e0
  have E1 := Lib.hid e1
  have HA1 := Lib.hid (acts_one 27 (HJ.out.keep HB1.out))
  clear hb1 e0 e1
  go_wp2_with fail
  refine (big5_any r A (some ⟨w1.heap.size, 0, none⟩) c 1 [⟨a, L, cl⟩] _ ((HI.out.its.below HB1.out).alloc _) HI.out.len HA1.out).mono ?_
  rintro e w2 ⟨rfl, hb2⟩
  have hs2 := hb2.size
  simp only [World.size_alloc] at hs2
  have F0 := Lib.hid ((hb2.block w.heap.size (by simp only [World.size_alloc]; omega)).trans ((heap_alloc_old _ _ (by omega)).trans E0.out))
  have F1 := Lib.hid ((hb2.block (w.heap.size + 1) (by simp only [World.size_alloc]; omega)).trans ((heap_alloc_old _ _ (by omega)).trans E1.out))
  have HB2 := Lib.hid (show Below w.heap.size w w2 from (HB1.out.trans ((below1 w1 _).mono (by omega))).trans (hb2.mono (by simp only [World.size_alloc]; omega)))
  clear hb2 E0 E1 HA1 c0 c1
  have c0 := fun o => cell_of_row w2 _ o _ _ (0, 0) F0.out
  have c1 := fun o => cell_of_row w2 _ o _ _ (0, 0) F1.out
  cases hbig : big5 r [⟨a, L, cl⟩]
  case true =>
    go_wp2_with fail
    go_ret
    exact ⟨rfl, HB2.out⟩
  have hb5 := big5_not hbig
  have HS := Lib.hid (small5 (hb5.2.2 ⟨a, L, cl⟩ (List.mem_cons_self ..)))
  have HM := Lib.hid (show Lim r.list.length by have := (big_not hb5.1).1; unfold Lim; omega)
  clear hbig hb5
  have HAp := Lib.hid (fun u (b : Below w.heap.size w u) => apply_any r there a A L c cl u HI.out.ok HJ.out.ok (HR.out.below b) (HI.out.its.below b) (HJ.out.make.its.below b) HM.out HS.out.1 HS.out.2.1 HS.out.2.2)
  have H5p := Lib.hid (fun u (b : Below w.heap.size w u) => r5apply_any r there a A L c cl u HI.out.ok HJ.out.ok (HI.out.its.below b) (HJ.out.make.its.below b) HM.out HS.out.1 HS.out.2.1 HS.out.2.2)
  have HOK := Lib.hid (apply_ok (there := there) HI.out.ok HJ.out.ok)
  have HLM := Lib.hid (apply_lim (there := there) HI.out.ok HJ.out.ok HM.out)
  go_wp2_with fail
  refine (HAp.out _ HB2.out).mono ?_
  generalize RU.apply r there a = out at *
  obtain ⟨p, t1, xx⟩ := out
  rintro e w3 ⟨A2, c2, C, cc, rfl, ho1, ho2, hn1, hn2, hb3⟩
  have G0 := Lib.hid ((hb3.block w.heap.size (lt_of_heap F0.out)).trans F0.out)
  have G1 := Lib.hid ((hb3.block (w.heap.size + 1) (lt_of_heap F1.out)).trans F1.out)
  have HB3 := Lib.hid (HB2.out.trans (hb3.mono HB2.out.size))
  have HO1 := Lib.hid (show Its w3 A2 p.list from Its.own ho1)
  have HO2 := Lib.hid (show Its w3 C xx.rc.list from Its.own ho2)
  have k0 := fun p q o => cell_of_row ((w3.alloc p).alloc q) _ o _ _ (0, 0) ((heap_alloc_old (w3.alloc p) q (by simp; have := lt_of_heap G0.out; omega)).trans ((heap_alloc_old w3 p (lt_of_heap G0.out)).trans G0.out))
  have k1 := fun p q o => cell_of_row ((w3.alloc p).alloc q) _ o _ _ (0, 0) ((heap_alloc_old (w3.alloc p) q (by simp; have := lt_of_heap G1.out; omega)).trans ((heap_alloc_old w3 p (lt_of_heap G1.out)).trans G1.out))
  clear hb3 ho1 ho2 hn1 hn2 c0 c1
  go_wp2_with fail
  generalize hw4 : World.alloc (World.alloc w3 _) _ = w4
  have hb4 : Below w3.heap.size w3 w4 := by rw [← hw4]; exact below2 w3 _ _
  have F7 := Lib.hid (show w4.heap[w3.heap.size]? = some (.cells (recC p.kind p.num p.low p.high p.real p.cap p.text (.slice A2 p.list.length c2)) 25 (0, 0)) by rw [← hw4]; exact heap_alloc2_old w3 _ _)
  have F9 := Lib.hid (show w4.heap[w3.heap.size + 1]? = some (.cells (ansC xx.code xx.num xx.rc C cc) 32 (0, 0)) by rw [← hw4]; exact heap_alloc2_new w3 _ _)
  have HB4 := Lib.hid (HB3.out.trans (hb4.mono HB3.out.size))
  have HP1 := Lib.hid (HO1.out.below hb4)
  have HP2 := Lib.hid (HO2.out.below hb4)
  clear hw4 hb4 k0 k1 G0 G1 HO1 HO2
  refine (H5p.out _ HB4.out).mono ?_
  rintro e w5 ⟨B2, d2, D, dd, rfl, hi1, hi2, hb5⟩
  have hi1' : Its w5 B2 p.list := hi1
  have hi2' : Its w5 D xx.rc.list := hi2
  have E7 := Lib.hid ((hb5.block _ (lt_of_heap F7.out)).trans F7.out)
  have E9 := Lib.hid ((hb5.block _ (lt_of_heap F9.out)).trans F9.out)
  have HB5 := Lib.hid (HB4.out.trans (hb5.mono HB4.out.size))
  have HQ1 := Lib.hid hi1'
  have HQ2 := Lib.hid hi2'
  have HR1 := Lib.hid (HP1.out.below hb5)
  have HR2 := Lib.hid (HP2.out.below hb5)
  clear hb5 hi1 hi2 hi1' hi2' F7 F9 HP1 HP2
  go_upto_region 7 with fail
  generalize hw6 : World.alloc (World.alloc w5 _) _ = w6
  have hb6 : Below w5.heap.size w5 w6 := by rw [← hw6]; exact below2 w5 _ _
  have F10 := Lib.hid (show w6.heap[w5.heap.size]? = some (.cells (recC p.kind p.num p.low p.high p.real p.cap p.text (.slice B2 p.list.length d2)) 25 (0, 0)) by rw [← hw6]; exact heap_alloc2_old w5 _ _)
  have F12 := Lib.hid (show w6.heap[w5.heap.size + 1]? = some (.cells (ansC xx.code xx.num xx.rc D dd) 32 (0, 0)) by rw [← hw6]; exact heap_alloc2_new w5 _ _)
  have F7 := Lib.hid ((hb6.block _ (lt_of_heap E7.out)).trans E7.out)
  have F9 := Lib.hid ((hb6.block _ (lt_of_heap E9.out)).trans E9.out)
  have HB6 := Lib.hid (HB5.out.trans (hb6.mono HB5.out.size))
  have HL1 := Lib.hid (HQ1.out.below hb6)
  have HL2 := Lib.hid (HQ2.out.below hb6)
  have HK1 := Lib.hid (HR1.out.below hb6)
  have HK2 := Lib.hid (HR2.out.below hb6)
  clear hw6 hb6 E7 E9 HQ1 HQ2 HR1 HR2
  have c7 := fun o => cell_of_row w6 _ o _ _ (0, 0) F7.out
  have c10 := fun o => cell_of_row w6 _ o _ _ (0, 0) F10.out
  go_wp2_with fail
  refine (rsame3_any p p A2 B2 c2 d2 _ HOK.out.1 HOK.out.1 HK1.out HL1.out HLM.out.1 HLM.out.1).mono ?_
  rintro e w7 ⟨rfl, hb7⟩
  rw [RC.same_refl']
  have F9' := Lib.hid ((hb7.block _ (lt_of_heap F9.out)).trans F9.out)
  have F12' := Lib.hid ((hb7.block _ (lt_of_heap F12.out)).trans F12.out)
  have HB7 := Lib.hid (HB6.out.trans (hb7.mono HB6.out.size))
  have HL2' := Lib.hid (HL2.out.below hb7)
  have HK2' := Lib.hid (HK2.out.below hb7)
  clear hb7 c7 c10
  have c9 := fun o => cell_of_row w7 _ o _ _ (0, 0) F9'.out
  have c12 := fun o => cell_of_row w7 _ o _ _ (0, 0) F12'.out
  go_wp2_with fail
  refine (rsame5_any xx xx C D cc dd _ HOK.out.2 HOK.out.2 HK2'.out HL2'.out HLM.out.2 HLM.out.2).mono ?_
  rintro e w8 ⟨rfl, hb8⟩
  rw [RU.sameAns_refl]
  have e9 := (hb8.block _ (lt_of_heap F9'.out)).trans F9'.out
  have e12 := (hb8.block _ (lt_of_heap F12'.out)).trans F12'.out
  have HB8 := Lib.hid (HB7.out.trans (hb8.mono HB7.out.size))
  have HL3 := Lib.hid (HL2'.out.below hb8)
  have HK3 := Lib.hid (HK2'.out.below hb8)
  clear hb8 c9 c12
  have c9 := fun o => cell_of_row w8 _ o _ _ (0, 0) e9
  have c12 := fun o => cell_of_row w8 _ o _ _ (0, 0) e12
  clear e9 e12
  go_wp2_with fail
  refine (ruleSame_any xx xx C D cc dd _ HOK.out.2 HOK.out.2 HK3.out HL3.out HLM.out.2).mono ?_
  rintro e w9 ⟨rfl, hb9⟩
  rw [RU.sameAns_refl]
  have HB9 := Lib.hid (HB8.out.trans (hb9.mono HB8.out.size))
  clear hb9 c9 c12
  go_wp2_with fail
  go_ret
  exact ⟨rfl, HB9.out⟩

end Go.Proofs.YtcahncaofhaadaaGreatDoor
