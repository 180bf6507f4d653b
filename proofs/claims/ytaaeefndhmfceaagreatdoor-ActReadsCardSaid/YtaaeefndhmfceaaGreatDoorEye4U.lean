/- Contracts of the document's own answers for layer 4: the next act. -/
import Derived.Test.YtaaeefndhmfceaaGreatDoorEye4T
namespace Go.Proofs.YtaaeefndhmfceaaGreatDoor
open Go.RowKit MM

set_option maxHeartbeats 4000000 in
set_option maxRecDepth 100000 in
theorem next4_0 (k n0 : Nat) (p : Nat) (A : Option Addr) (c : Nat) (bs : List UInt8) (at_ : Nat) (w : World) (he : Ey w p A c bs at_ 0) (hU : uptoR 21 (bs.drop at_) = .ok k n0) (hk0 : 0 < k) (hk2 : k ≤ 21) (gN : AC.hasN k = false) (gX : AC.hasX k = false) (gS : AC.hasS k = false) (gM : AC.hasM k = false) (hA : bs ≠ [] → ∀ ad, A = some ad → ad.block < w.heap.size) :
    Calls Tryz.prog 44 #[.pointer (some ⟨p, 0, none⟩)] w (N4Post p A c bs at_ (actR (bs.drop at_)) w) := by
  have hp := lt_of_heap he.row
  have hK : kindA (bs.drop at_) = .ok k n0 := by unfold kindA; rw [andR_ok hU, if_neg (by omega)]; rfl
  have HX := Lib.hid (fun w' (he' : Ey w' p A c bs at_ 0) => eupto_any p A c bs at_ 21 w' (by omega) he')
  rw [show ((21 : Nat) : Int) = 21 from rfl, hU] at HX
  have HLm := Lib.hid he.lim
  have HE := Lib.hid he
  have HK := Lib.hid hK
  have GN := Lib.hid gN
  have GX := Lib.hid gX
  have GS := Lib.hid gS
  have GM := Lib.hid gM
  have k0 : ((k : Int) == 0) = false := by simp; omega
  have k1 : ((k : Int) == 1) = false := by unfold AC.hasM at gM; simp at gM; simp; omega
  clear he hU hK gN gX gS gM
  go_enter Tryz.func44, Tryz.ntmps44
  go_wp2_with fail
  refine (HX.out _ (HE.out.below (below2 w _ _))).mono ?_
  rintro e w1 ⟨hk1, rfl, he1⟩
  have HS0 := Lib.hid (ASt.new (heap_alloc2_old w _ _) (heap_alloc2_new w _ _) hp he1 hk1)
  clear hk1 he1 HX HE
  have cE := fun o => cell_of_row w1 _ o _ _ (0, 0) HS0.out.ey.row
  have c1 := fun o => cell_of_row w1 _ o _ _ (0, 0) HS0.out.row1
  have f1 : ∀ o, w1.frozen? ⟨w.heap.size + 1, o, none⟩ = false := fun o => frozen_of_row _ _ o _ _ HS0.out.row1
  have cR := fun o => cell_of_row w1 _ o _ _ (0, 0) HS0.out.res
  have fR : ∀ o, w1.frozen? ⟨w.heap.size, o, none⟩ = false := fun o => frozen_of_row _ _ o _ _ HS0.out.res
  go_wp2_with fail
  generalize hv : World.setCell _ _ _ = v1
  have S : ASt w p A c bs (at_ + n0) 0 (actC ⟨(k : Int), ⟨#[]⟩, 0, 0, ⟨#[]⟩, RC.zero, false⟩ none 0) v1 := by rw [← hv]; exact HS0.out.set hp hA 0 (.int .i64 (k : Nat))
  have HS1 := Lib.hid S
  clear S hv cE c1 f1 cR fR HS0
  have cE := fun o => cell_of_row v1 _ o _ _ (0, 0) HS1.out.ey.row
  have c1 := fun o => cell_of_row v1 _ o _ _ (0, 0) HS1.out.row1
  have f1 : ∀ o, v1.frozen? ⟨w.heap.size + 1, o, none⟩ = false := fun o => frozen_of_row _ _ o _ _ HS1.out.row1
  have cR := fun o => cell_of_row v1 _ o _ _ (0, 0) HS1.out.res
  have fR : ∀ o, v1.frozen? ⟨w.heap.size, o, none⟩ = false := fun o => frozen_of_row _ _ o _ _ HS1.out.res
  refine (epart_all p A c bs _ _ 98 0 _ (by omega) rfl HS1.out.ey).mono ?_
  rintro e u2 ⟨qk1, qu1, qi1, qq1, qt1, qb1, s1, E1, hF, rfl, he', hk'⟩
  have HF1 := Lib.hid hF
  have HS2 := Lib.hid (HS1.out.call hp he' hk')
  have hfd1 : ∀ w : World, (Instr.field 115 (.agg #[.int .u8 (qk1 : Nat), .int .u64 (qu1 : Nat), .int .i64 qi1, .int .u64 (qq1 : Nat), .string qt1, .bool qb1]) 5).run Tryz.prog w = .ok (.bool qb1) w := fun _ => by kernel_rfl
  clear hF he' hk' cE c1 f1 cR fR HS1
  have cE := fun o => cell_of_row u2 _ o _ _ (0, 0) HS2.out.ey.row
  have c1 := fun o => cell_of_row u2 _ o _ _ (0, 0) HS2.out.row1
  have f1 : ∀ o, u2.frozen? ⟨w.heap.size + 1, o, none⟩ = false := fun o => frozen_of_row _ _ o _ _ HS2.out.row1
  have cR := fun o => cell_of_row u2 _ o _ _ (0, 0) HS2.out.res
  have fR : ∀ o, u2.frozen? ⟨w.heap.size, o, none⟩ = false := fun o => frozen_of_row _ _ o _ _ HS2.out.res
  go_wp2_with fail
  generalize hv : World.setCell _ _ _ = v3
  have S : ASt w p A c bs (s1) E1 (actC ⟨(k : Int), ⟨#[]⟩, 0, 0, ⟨#[]⟩, RC.zero, qb1⟩ none 0) v3 := by rw [← hv]; exact HS2.out.set hp hA 13 (.bool qb1)
  have HS3 := Lib.hid S
  clear S hv cE c1 f1 cR fR HS2
  have cE := fun o => cell_of_row v3 _ o _ _ (0, 0) HS3.out.ey.row
  have c1 := fun o => cell_of_row v3 _ o _ _ (0, 0) HS3.out.row1
  have f1 : ∀ o, v3.frozen? ⟨w.heap.size + 1, o, none⟩ = false := fun o => frozen_of_row _ _ o _ _ HS3.out.row1
  have cR := fun o => cell_of_row v3 _ o _ _ (0, 0) HS3.out.res
  have fR : ∀ o, v3.frozen? ⟨w.heap.size, o, none⟩ = false := fun o => frozen_of_row _ _ o _ _ HS3.out.res
  refine (epart_all p A c bs _ _ 115 24 _ (by omega) rfl HS3.out.ey).mono ?_
  rintro e u4 ⟨qk2, qu2, qi2, qq2, qt2, qb2, s2, E2, hF, rfl, he', hk'⟩
  have HF2 := Lib.hid hF
  have HS4 := Lib.hid (HS3.out.call hp he' hk')
  have hfd2 : ∀ w : World, (Instr.field 115 (.agg #[.int .u8 (qk2 : Nat), .int .u64 (qu2 : Nat), .int .i64 qi2, .int .u64 (qq2 : Nat), .string qt2, .bool qb2]) 4).run Tryz.prog w = .ok (.string qt2) w := fun _ => by kernel_rfl
  clear hF he' hk' cE c1 f1 cR fR HS3
  have cE := fun o => cell_of_row u4 _ o _ _ (0, 0) HS4.out.ey.row
  have c1 := fun o => cell_of_row u4 _ o _ _ (0, 0) HS4.out.row1
  have f1 : ∀ o, u4.frozen? ⟨w.heap.size + 1, o, none⟩ = false := fun o => frozen_of_row _ _ o _ _ HS4.out.row1
  have cR := fun o => cell_of_row u4 _ o _ _ (0, 0) HS4.out.res
  have fR : ∀ o, u4.frozen? ⟨w.heap.size, o, none⟩ = false := fun o => frozen_of_row _ _ o _ _ HS4.out.res
  go_wp2_with fail
  generalize hv : World.setCell _ _ _ = v5
  have S : ASt w p A c bs (s2) E2 (actC ⟨(k : Int), qt2, 0, 0, ⟨#[]⟩, RC.zero, qb1⟩ none 0) v5 := by rw [← hv]; exact HS4.out.set hp hA 1 (.string qt2)
  have HS5 := Lib.hid S
  clear S hv cE c1 f1 cR fR HS4
  have cE := fun o => cell_of_row v5 _ o _ _ (0, 0) HS5.out.ey.row
  have c1 := fun o => cell_of_row v5 _ o _ _ (0, 0) HS5.out.row1
  have f1 : ∀ o, v5.frozen? ⟨w.heap.size + 1, o, none⟩ = false := fun o => frozen_of_row _ _ o _ _ HS5.out.row1
  have cR := fun o => cell_of_row v5 _ o _ _ (0, 0) HS5.out.res
  have fR : ∀ o, v5.frozen? ⟨w.heap.size, o, none⟩ = false := fun o => frozen_of_row _ _ o _ _ HS5.out.res
  refine (rHas_is (k : Int) 110 false _ (by omega) (by rw [show (110 : Nat).toUInt8 = 110 from rfl, fld_n]; exact GN.out)).mono ?_
  rintro e u6 ⟨rfl, hb⟩
  have HS6 := Lib.hid (HS5.out.below hb)
  clear hb cE c1 f1 cR fR HS5
  have cE := fun o => cell_of_row u6 _ o _ _ (0, 0) HS6.out.ey.row
  have c1 := fun o => cell_of_row u6 _ o _ _ (0, 0) HS6.out.row1
  have f1 : ∀ o, u6.frozen? ⟨w.heap.size + 1, o, none⟩ = false := fun o => frozen_of_row _ _ o _ _ HS6.out.row1
  have cR := fun o => cell_of_row u6 _ o _ _ (0, 0) HS6.out.res
  have fR : ∀ o, u6.frozen? ⟨w.heap.size, o, none⟩ = false := fun o => frozen_of_row _ _ o _ _ HS6.out.res
  go_wp2_with fail
  refine (rHas_is (k : Int) 120 false _ (by omega) (by rw [show (120 : Nat).toUInt8 = 120 from rfl, fld_x]; exact GX.out)).mono ?_
  rintro e u7 ⟨rfl, hb⟩
  have HS7 := Lib.hid (HS6.out.below hb)
  clear hb cE c1 f1 cR fR HS6
  have cE := fun o => cell_of_row u7 _ o _ _ (0, 0) HS7.out.ey.row
  have c1 := fun o => cell_of_row u7 _ o _ _ (0, 0) HS7.out.row1
  have f1 : ∀ o, u7.frozen? ⟨w.heap.size + 1, o, none⟩ = false := fun o => frozen_of_row _ _ o _ _ HS7.out.row1
  have cR := fun o => cell_of_row u7 _ o _ _ (0, 0) HS7.out.res
  have fR : ∀ o, u7.frozen? ⟨w.heap.size, o, none⟩ = false := fun o => frozen_of_row _ _ o _ _ HS7.out.res
  go_wp2_with fail
  refine (rHas_is (k : Int) 115 false _ (by omega) (by rw [show (115 : Nat).toUInt8 = 115 from rfl, fld_s]; exact GS.out)).mono ?_
  rintro e u8 ⟨rfl, hb⟩
  have HS8 := Lib.hid (HS7.out.below hb)
  clear hb cE c1 f1 cR fR HS7
  have cE := fun o => cell_of_row u8 _ o _ _ (0, 0) HS8.out.ey.row
  have c1 := fun o => cell_of_row u8 _ o _ _ (0, 0) HS8.out.row1
  have f1 : ∀ o, u8.frozen? ⟨w.heap.size + 1, o, none⟩ = false := fun o => frozen_of_row _ _ o _ _ HS8.out.row1
  have cR := fun o => cell_of_row u8 _ o _ _ (0, 0) HS8.out.res
  have fR : ∀ o, u8.frozen? ⟨w.heap.size, o, none⟩ = false := fun o => frozen_of_row _ _ o _ _ HS8.out.res
  have HNo := Lib.hid (show Nout bs at_ ⟨(k : Int), qt2, 0, 0, ⟨#[]⟩, RC.zero, qb1⟩ s2 E2 from nout_0 HK.out HF1.out HF2.out HLm.out GN.out GX.out GS.out GM.out)
  rcases Nat.eq_zero_or_pos E2 with hE | hE
  · subst hE
    have G := Lib.hid (HNo.out.1 rfl)
    go_wp2_with fail
    refine (rcheck4_any ⟨(k : Int), qt2, 0, 0, ⟨#[]⟩, RC.zero, qb1⟩ none 0 _ G.out.ok (Its.own (World.ownsRow_nil _ 0 88 2)) G.out.l1 G.out.l2 G.out.l3).mono ?_
    rintro e ua ⟨rfl, hb⟩
    have HSa := Lib.hid (HS8.out.below hb)
    have HOa := Lib.hid (own_below (World.ownsRow_nil _ 0 88 2) hb)
    clear hb cE c1 f1 cR fR
    have cE := fun o => cell_of_row ua _ o _ _ (0, 0) HSa.out.ey.row
    have c1 := fun o => cell_of_row ua _ o _ _ (0, 0) HSa.out.row1
    have cR := fun o => cell_of_row ua _ o _ _ (0, 0) HSa.out.res
    have fR : ∀ o, ua.frozen? ⟨w.heap.size, o, none⟩ = false := fun o => frozen_of_row _ _ o _ _ HSa.out.res
    go_wp2_with fail
    refine (efail_yes p A c bs _ _ _ HSa.out.ey).mono ?_
    rintro e ub ⟨rfl, he', hk'⟩
    have HOb := Lib.hid (hk'.own HOa.out (fun k e x => by rw [ownBlock_slice] at e; cases e))
    have hSb := HSa.out.call hp he' hk'
    clear he' hk' cE c1 cR fR
    rcases Nat.eq_zero_or_pos (AC.chk ⟨(k : Int), qt2, 0, 0, ⟨#[]⟩, RC.zero, qb1⟩) with hc | hc
    · have Hy := Lib.hid (G.out.yes hc)
      rw [hc] at hSb
      have HSb := Lib.hid hSb
      clear hSb hc
      have cE := fun o => cell_of_row ub _ o _ _ (0, 0) HSb.out.ey.row
      have c1 := fun o => cell_of_row ub _ o _ _ (0, 0) HSb.out.row1
      have cR := fun o => cell_of_row ub _ o _ _ (0, 0) HSb.out.res
      have fR : ∀ o, ub.frozen? ⟨w.heap.size, o, none⟩ = false := fun o => frozen_of_row _ _ o _ _ HSb.out.res
      go_wp2_with fail
      refine bodyPost_ret (v := actV ⟨(k : Int), qt2, 0, 0, ⟨#[]⟩, RC.zero, qb1⟩ none 0) (by simp [results, Tryz.results44, go_sem, cR]) rfl ?_
      generalize hwf : World.setCell _ _ _ = wf
      have hkr : Kp (fun k => k = w.heap.size) ub wf := by rw [← hwf]; exact kp14 (Kp.refl _ ub) (Or.inl rfl)
      exact N4Post.mkOk Hy.out G.out.le HSb.out HOb.out (fun k (e : ob none = some k) => by cases e) hp hA hkr
    · have Hn := Lib.hid (G.out.no (by omega))
      generalize AC.chk ⟨(k : Int), qt2, 0, 0, ⟨#[]⟩, RC.zero, qb1⟩ = code at *
      have h1 : ((code : Int) == 0) = false := by simp; omega
      have h2 : ((code : Int) != 0) = true := by simp; omega
      have HSb := Lib.hid hSb
      clear hSb hc
      have cE := fun o => cell_of_row ub _ o _ _ (0, 0) HSb.out.ey.row
      have c1 := fun o => cell_of_row ub _ o _ _ (0, 0) HSb.out.row1
      have cR := fun o => cell_of_row ub _ o _ _ (0, 0) HSb.out.res
      have fR : ∀ o, ub.frozen? ⟨w.heap.size, o, none⟩ = false := fun o => frozen_of_row _ _ o _ _ HSb.out.res
      go_wp2_with fail
      refine bodyPost_ret (v := .agg zeroA) (by simp [results, Tryz.results44, go_sem, cR, AC.zero, RC.zero]) rfl ?_
      generalize hwf : World.setCell _ _ _ = wf
      have hkr : Kp (fun k => w.heap.size ≤ k) ub wf := by rw [← hwf]; exact kp14 (Kp.refl _ ub) (Or.inl (Nat.le_refl _))
      exact N4Post.mkBad Hn.out G.out.le HSb.out hp hA hkr
  · have Hb := Lib.hid (HNo.out.2 hE)
    have h1 : ((E2 : Int) == 0) = false := by simp; omega
    have h2 : ((E2 : Int) != 0) = true := by simp; omega
    go_wp2_with fail
    refine bodyPost_ret (v := .agg zeroA) (by simp [results, Tryz.results44, go_sem, cR, AC.zero, RC.zero]) rfl ?_
    generalize hwf : World.setCell _ _ _ = wf
    have hkr : Kp (fun k => w.heap.size ≤ k) u8 wf := by rw [← hwf]; exact kp14 (Kp.refl _ u8) (Or.inl (Nat.le_refl _))
    exact N4Post.mkBad Hb.out.1 Hb.out.2 HS8.out hp hA hkr

set_option maxHeartbeats 4000000 in
set_option maxRecDepth 100000 in
theorem next4_n (k n0 : Nat) (p : Nat) (A : Option Addr) (c : Nat) (bs : List UInt8) (at_ : Nat) (w : World) (he : Ey w p A c bs at_ 0) (hU : uptoR 21 (bs.drop at_) = .ok k n0) (hk0 : 0 < k) (hk2 : k ≤ 21) (gN : AC.hasN k = true) (gX : AC.hasX k = false) (gS : AC.hasS k = false) (gM : AC.hasM k = false) (hA : bs ≠ [] → ∀ ad, A = some ad → ad.block < w.heap.size) :
    Calls Tryz.prog 44 #[.pointer (some ⟨p, 0, none⟩)] w (N4Post p A c bs at_ (actR (bs.drop at_)) w) := by
  have hp := lt_of_heap he.row
  have hK : kindA (bs.drop at_) = .ok k n0 := by unfold kindA; rw [andR_ok hU, if_neg (by omega)]; rfl
  have HX := Lib.hid (fun w' (he' : Ey w' p A c bs at_ 0) => eupto_any p A c bs at_ 21 w' (by omega) he')
  rw [show ((21 : Nat) : Int) = 21 from rfl, hU] at HX
  have HLm := Lib.hid he.lim
  have HE := Lib.hid he
  have HK := Lib.hid hK
  have GN := Lib.hid gN
  have GX := Lib.hid gX
  have GS := Lib.hid gS
  have GM := Lib.hid gM
  have k0 : ((k : Int) == 0) = false := by simp; omega
  have k1 : ((k : Int) == 1) = false := by unfold AC.hasM at gM; simp at gM; simp; omega
  clear he hU hK gN gX gS gM
  go_enter Tryz.func44, Tryz.ntmps44
  go_wp2_with fail
  refine (HX.out _ (HE.out.below (below2 w _ _))).mono ?_
  rintro e w1 ⟨hk1, rfl, he1⟩
  have HS0 := Lib.hid (ASt.new (heap_alloc2_old w _ _) (heap_alloc2_new w _ _) hp he1 hk1)
  clear hk1 he1 HX HE
  have cE := fun o => cell_of_row w1 _ o _ _ (0, 0) HS0.out.ey.row
  have c1 := fun o => cell_of_row w1 _ o _ _ (0, 0) HS0.out.row1
  have f1 : ∀ o, w1.frozen? ⟨w.heap.size + 1, o, none⟩ = false := fun o => frozen_of_row _ _ o _ _ HS0.out.row1
  have cR := fun o => cell_of_row w1 _ o _ _ (0, 0) HS0.out.res
  have fR : ∀ o, w1.frozen? ⟨w.heap.size, o, none⟩ = false := fun o => frozen_of_row _ _ o _ _ HS0.out.res
  go_wp2_with fail
  generalize hv : World.setCell _ _ _ = v1
  have S : ASt w p A c bs (at_ + n0) 0 (actC ⟨(k : Int), ⟨#[]⟩, 0, 0, ⟨#[]⟩, RC.zero, false⟩ none 0) v1 := by rw [← hv]; exact HS0.out.set hp hA 0 (.int .i64 (k : Nat))
  have HS1 := Lib.hid S
  clear S hv cE c1 f1 cR fR HS0
  have cE := fun o => cell_of_row v1 _ o _ _ (0, 0) HS1.out.ey.row
  have c1 := fun o => cell_of_row v1 _ o _ _ (0, 0) HS1.out.row1
  have f1 : ∀ o, v1.frozen? ⟨w.heap.size + 1, o, none⟩ = false := fun o => frozen_of_row _ _ o _ _ HS1.out.row1
  have cR := fun o => cell_of_row v1 _ o _ _ (0, 0) HS1.out.res
  have fR : ∀ o, v1.frozen? ⟨w.heap.size, o, none⟩ = false := fun o => frozen_of_row _ _ o _ _ HS1.out.res
  refine (epart_all p A c bs _ _ 98 0 _ (by omega) rfl HS1.out.ey).mono ?_
  rintro e u2 ⟨qk1, qu1, qi1, qq1, qt1, qb1, s1, E1, hF, rfl, he', hk'⟩
  have HF1 := Lib.hid hF
  have HS2 := Lib.hid (HS1.out.call hp he' hk')
  have hfd1 : ∀ w : World, (Instr.field 115 (.agg #[.int .u8 (qk1 : Nat), .int .u64 (qu1 : Nat), .int .i64 qi1, .int .u64 (qq1 : Nat), .string qt1, .bool qb1]) 5).run Tryz.prog w = .ok (.bool qb1) w := fun _ => by kernel_rfl
  clear hF he' hk' cE c1 f1 cR fR HS1
  have cE := fun o => cell_of_row u2 _ o _ _ (0, 0) HS2.out.ey.row
  have c1 := fun o => cell_of_row u2 _ o _ _ (0, 0) HS2.out.row1
  have f1 : ∀ o, u2.frozen? ⟨w.heap.size + 1, o, none⟩ = false := fun o => frozen_of_row _ _ o _ _ HS2.out.row1
  have cR := fun o => cell_of_row u2 _ o _ _ (0, 0) HS2.out.res
  have fR : ∀ o, u2.frozen? ⟨w.heap.size, o, none⟩ = false := fun o => frozen_of_row _ _ o _ _ HS2.out.res
  go_wp2_with fail
  generalize hv : World.setCell _ _ _ = v3
  have S : ASt w p A c bs (s1) E1 (actC ⟨(k : Int), ⟨#[]⟩, 0, 0, ⟨#[]⟩, RC.zero, qb1⟩ none 0) v3 := by rw [← hv]; exact HS2.out.set hp hA 13 (.bool qb1)
  have HS3 := Lib.hid S
  clear S hv cE c1 f1 cR fR HS2
  have cE := fun o => cell_of_row v3 _ o _ _ (0, 0) HS3.out.ey.row
  have c1 := fun o => cell_of_row v3 _ o _ _ (0, 0) HS3.out.row1
  have f1 : ∀ o, v3.frozen? ⟨w.heap.size + 1, o, none⟩ = false := fun o => frozen_of_row _ _ o _ _ HS3.out.row1
  have cR := fun o => cell_of_row v3 _ o _ _ (0, 0) HS3.out.res
  have fR : ∀ o, v3.frozen? ⟨w.heap.size, o, none⟩ = false := fun o => frozen_of_row _ _ o _ _ HS3.out.res
  refine (epart_all p A c bs _ _ 115 24 _ (by omega) rfl HS3.out.ey).mono ?_
  rintro e u4 ⟨qk2, qu2, qi2, qq2, qt2, qb2, s2, E2, hF, rfl, he', hk'⟩
  have HF2 := Lib.hid hF
  have HS4 := Lib.hid (HS3.out.call hp he' hk')
  have hfd2 : ∀ w : World, (Instr.field 115 (.agg #[.int .u8 (qk2 : Nat), .int .u64 (qu2 : Nat), .int .i64 qi2, .int .u64 (qq2 : Nat), .string qt2, .bool qb2]) 4).run Tryz.prog w = .ok (.string qt2) w := fun _ => by kernel_rfl
  clear hF he' hk' cE c1 f1 cR fR HS3
  have cE := fun o => cell_of_row u4 _ o _ _ (0, 0) HS4.out.ey.row
  have c1 := fun o => cell_of_row u4 _ o _ _ (0, 0) HS4.out.row1
  have f1 : ∀ o, u4.frozen? ⟨w.heap.size + 1, o, none⟩ = false := fun o => frozen_of_row _ _ o _ _ HS4.out.row1
  have cR := fun o => cell_of_row u4 _ o _ _ (0, 0) HS4.out.res
  have fR : ∀ o, u4.frozen? ⟨w.heap.size, o, none⟩ = false := fun o => frozen_of_row _ _ o _ _ HS4.out.res
  go_wp2_with fail
  generalize hv : World.setCell _ _ _ = v5
  have S : ASt w p A c bs (s2) E2 (actC ⟨(k : Int), qt2, 0, 0, ⟨#[]⟩, RC.zero, qb1⟩ none 0) v5 := by rw [← hv]; exact HS4.out.set hp hA 1 (.string qt2)
  have HS5 := Lib.hid S
  clear S hv cE c1 f1 cR fR HS4
  have cE := fun o => cell_of_row v5 _ o _ _ (0, 0) HS5.out.ey.row
  have c1 := fun o => cell_of_row v5 _ o _ _ (0, 0) HS5.out.row1
  have f1 : ∀ o, v5.frozen? ⟨w.heap.size + 1, o, none⟩ = false := fun o => frozen_of_row _ _ o _ _ HS5.out.row1
  have cR := fun o => cell_of_row v5 _ o _ _ (0, 0) HS5.out.res
  have fR : ∀ o, v5.frozen? ⟨w.heap.size, o, none⟩ = false := fun o => frozen_of_row _ _ o _ _ HS5.out.res
  refine (rHas_is (k : Int) 110 true _ (by omega) (by rw [show (110 : Nat).toUInt8 = 110 from rfl, fld_n]; exact GN.out)).mono ?_
  rintro e u6 ⟨rfl, hb⟩
  have HS6 := Lib.hid (HS5.out.below hb)
  clear hb cE c1 f1 cR fR HS5
  have cE := fun o => cell_of_row u6 _ o _ _ (0, 0) HS6.out.ey.row
  have c1 := fun o => cell_of_row u6 _ o _ _ (0, 0) HS6.out.row1
  have f1 : ∀ o, u6.frozen? ⟨w.heap.size + 1, o, none⟩ = false := fun o => frozen_of_row _ _ o _ _ HS6.out.row1
  have cR := fun o => cell_of_row u6 _ o _ _ (0, 0) HS6.out.res
  have fR : ∀ o, u6.frozen? ⟨w.heap.size, o, none⟩ = false := fun o => frozen_of_row _ _ o _ _ HS6.out.res
  go_wp2_with fail
  refine (epart_all p A c bs _ _ 105 0 _ (by omega) rfl HS6.out.ey).mono ?_
  rintro e u7 ⟨qk3, qu3, qi3, qq3, qt3, qb3, s3, E3, hF, rfl, he', hk'⟩
  have HF3 := Lib.hid hF
  have HS7 := Lib.hid (HS6.out.call hp he' hk')
  have hfd3 : ∀ w : World, (Instr.field 115 (.agg #[.int .u8 (qk3 : Nat), .int .u64 (qu3 : Nat), .int .i64 qi3, .int .u64 (qq3 : Nat), .string qt3, .bool qb3]) 2).run Tryz.prog w = .ok (.int .i64 qi3) w := fun _ => by kernel_rfl
  clear hF he' hk' cE c1 f1 cR fR HS6
  have cE := fun o => cell_of_row u7 _ o _ _ (0, 0) HS7.out.ey.row
  have c1 := fun o => cell_of_row u7 _ o _ _ (0, 0) HS7.out.row1
  have f1 : ∀ o, u7.frozen? ⟨w.heap.size + 1, o, none⟩ = false := fun o => frozen_of_row _ _ o _ _ HS7.out.row1
  have cR := fun o => cell_of_row u7 _ o _ _ (0, 0) HS7.out.res
  have fR : ∀ o, u7.frozen? ⟨w.heap.size, o, none⟩ = false := fun o => frozen_of_row _ _ o _ _ HS7.out.res
  go_wp2_with fail
  generalize hv : World.setCell _ _ _ = v8
  have S : ASt w p A c bs (s3) E3 (actC ⟨(k : Int), qt2, qi3, 0, ⟨#[]⟩, RC.zero, qb1⟩ none 0) v8 := by rw [← hv]; exact HS7.out.set hp hA 2 (.int .i64 qi3)
  have HS8 := Lib.hid S
  clear S hv cE c1 f1 cR fR HS7
  have cE := fun o => cell_of_row v8 _ o _ _ (0, 0) HS8.out.ey.row
  have c1 := fun o => cell_of_row v8 _ o _ _ (0, 0) HS8.out.row1
  have f1 : ∀ o, v8.frozen? ⟨w.heap.size + 1, o, none⟩ = false := fun o => frozen_of_row _ _ o _ _ HS8.out.row1
  have cR := fun o => cell_of_row v8 _ o _ _ (0, 0) HS8.out.res
  have fR : ∀ o, v8.frozen? ⟨w.heap.size, o, none⟩ = false := fun o => frozen_of_row _ _ o _ _ HS8.out.res
  refine (rHas_is (k : Int) 120 false _ (by omega) (by rw [show (120 : Nat).toUInt8 = 120 from rfl, fld_x]; exact GX.out)).mono ?_
  rintro e u9 ⟨rfl, hb⟩
  have HS9 := Lib.hid (HS8.out.below hb)
  clear hb cE c1 f1 cR fR HS8
  have cE := fun o => cell_of_row u9 _ o _ _ (0, 0) HS9.out.ey.row
  have c1 := fun o => cell_of_row u9 _ o _ _ (0, 0) HS9.out.row1
  have f1 : ∀ o, u9.frozen? ⟨w.heap.size + 1, o, none⟩ = false := fun o => frozen_of_row _ _ o _ _ HS9.out.row1
  have cR := fun o => cell_of_row u9 _ o _ _ (0, 0) HS9.out.res
  have fR : ∀ o, u9.frozen? ⟨w.heap.size, o, none⟩ = false := fun o => frozen_of_row _ _ o _ _ HS9.out.res
  go_wp2_with fail
  refine (rHas_is (k : Int) 115 false _ (by omega) (by rw [show (115 : Nat).toUInt8 = 115 from rfl, fld_s]; exact GS.out)).mono ?_
  rintro e u10 ⟨rfl, hb⟩
  have HS10 := Lib.hid (HS9.out.below hb)
  clear hb cE c1 f1 cR fR HS9
  have cE := fun o => cell_of_row u10 _ o _ _ (0, 0) HS10.out.ey.row
  have c1 := fun o => cell_of_row u10 _ o _ _ (0, 0) HS10.out.row1
  have f1 : ∀ o, u10.frozen? ⟨w.heap.size + 1, o, none⟩ = false := fun o => frozen_of_row _ _ o _ _ HS10.out.row1
  have cR := fun o => cell_of_row u10 _ o _ _ (0, 0) HS10.out.res
  have fR : ∀ o, u10.frozen? ⟨w.heap.size, o, none⟩ = false := fun o => frozen_of_row _ _ o _ _ HS10.out.res
  have HNo := Lib.hid (show Nout bs at_ ⟨(k : Int), qt2, qi3, 0, ⟨#[]⟩, RC.zero, qb1⟩ s3 E3 from nout_n HK.out HF1.out HF2.out HF3.out HLm.out GN.out GX.out GS.out GM.out)
  rcases Nat.eq_zero_or_pos E3 with hE | hE
  · subst hE
    have G := Lib.hid (HNo.out.1 rfl)
    go_wp2_with fail
    refine (rcheck4_any ⟨(k : Int), qt2, qi3, 0, ⟨#[]⟩, RC.zero, qb1⟩ none 0 _ G.out.ok (Its.own (World.ownsRow_nil _ 0 88 2)) G.out.l1 G.out.l2 G.out.l3).mono ?_
    rintro e ua ⟨rfl, hb⟩
    have HSa := Lib.hid (HS10.out.below hb)
    have HOa := Lib.hid (own_below (World.ownsRow_nil _ 0 88 2) hb)
    clear hb cE c1 f1 cR fR
    have cE := fun o => cell_of_row ua _ o _ _ (0, 0) HSa.out.ey.row
    have c1 := fun o => cell_of_row ua _ o _ _ (0, 0) HSa.out.row1
    have cR := fun o => cell_of_row ua _ o _ _ (0, 0) HSa.out.res
    have fR : ∀ o, ua.frozen? ⟨w.heap.size, o, none⟩ = false := fun o => frozen_of_row _ _ o _ _ HSa.out.res
    go_wp2_with fail
    refine (efail_yes p A c bs _ _ _ HSa.out.ey).mono ?_
    rintro e ub ⟨rfl, he', hk'⟩
    have HOb := Lib.hid (hk'.own HOa.out (fun k e x => by rw [ownBlock_slice] at e; cases e))
    have hSb := HSa.out.call hp he' hk'
    clear he' hk' cE c1 cR fR
    rcases Nat.eq_zero_or_pos (AC.chk ⟨(k : Int), qt2, qi3, 0, ⟨#[]⟩, RC.zero, qb1⟩) with hc | hc
    · have Hy := Lib.hid (G.out.yes hc)
      rw [hc] at hSb
      have HSb := Lib.hid hSb
      clear hSb hc
      have cE := fun o => cell_of_row ub _ o _ _ (0, 0) HSb.out.ey.row
      have c1 := fun o => cell_of_row ub _ o _ _ (0, 0) HSb.out.row1
      have cR := fun o => cell_of_row ub _ o _ _ (0, 0) HSb.out.res
      have fR : ∀ o, ub.frozen? ⟨w.heap.size, o, none⟩ = false := fun o => frozen_of_row _ _ o _ _ HSb.out.res
      go_wp2_with fail
      refine bodyPost_ret (v := actV ⟨(k : Int), qt2, qi3, 0, ⟨#[]⟩, RC.zero, qb1⟩ none 0) (by simp [results, Tryz.results44, go_sem, cR]) rfl ?_
      generalize hwf : World.setCell _ _ _ = wf
      have hkr : Kp (fun k => k = w.heap.size) ub wf := by rw [← hwf]; exact kp14 (Kp.refl _ ub) (Or.inl rfl)
      exact N4Post.mkOk Hy.out G.out.le HSb.out HOb.out (fun k (e : ob none = some k) => by cases e) hp hA hkr
    · have Hn := Lib.hid (G.out.no (by omega))
      generalize AC.chk ⟨(k : Int), qt2, qi3, 0, ⟨#[]⟩, RC.zero, qb1⟩ = code at *
      have h1 : ((code : Int) == 0) = false := by simp; omega
      have h2 : ((code : Int) != 0) = true := by simp; omega
      have HSb := Lib.hid hSb
      clear hSb hc
      have cE := fun o => cell_of_row ub _ o _ _ (0, 0) HSb.out.ey.row
      have c1 := fun o => cell_of_row ub _ o _ _ (0, 0) HSb.out.row1
      have cR := fun o => cell_of_row ub _ o _ _ (0, 0) HSb.out.res
      have fR : ∀ o, ub.frozen? ⟨w.heap.size, o, none⟩ = false := fun o => frozen_of_row _ _ o _ _ HSb.out.res
      go_wp2_with fail
      refine bodyPost_ret (v := .agg zeroA) (by simp [results, Tryz.results44, go_sem, cR, AC.zero, RC.zero]) rfl ?_
      generalize hwf : World.setCell _ _ _ = wf
      have hkr : Kp (fun k => w.heap.size ≤ k) ub wf := by rw [← hwf]; exact kp14 (Kp.refl _ ub) (Or.inl (Nat.le_refl _))
      exact N4Post.mkBad Hn.out G.out.le HSb.out hp hA hkr
  · have Hb := Lib.hid (HNo.out.2 hE)
    have h1 : ((E3 : Int) == 0) = false := by simp; omega
    have h2 : ((E3 : Int) != 0) = true := by simp; omega
    go_wp2_with fail
    refine bodyPost_ret (v := .agg zeroA) (by simp [results, Tryz.results44, go_sem, cR, AC.zero, RC.zero]) rfl ?_
    generalize hwf : World.setCell _ _ _ = wf
    have hkr : Kp (fun k => w.heap.size ≤ k) u10 wf := by rw [← hwf]; exact kp14 (Kp.refl _ u10) (Or.inl (Nat.le_refl _))
    exact N4Post.mkBad Hb.out.1 Hb.out.2 HS10.out hp hA hkr

end Go.Proofs.YtaaeefndhmfceaaGreatDoor
/- Contracts of the document's own answers for layer 4: the next act. -/
namespace Go.Proofs.YtaaeefndhmfceaaGreatDoor
open Go.RowKit MM

set_option maxHeartbeats 4000000 in
set_option maxRecDepth 100000 in
theorem next4_x (k n0 : Nat) (p : Nat) (A : Option Addr) (c : Nat) (bs : List UInt8) (at_ : Nat) (w : World) (he : Ey w p A c bs at_ 0) (hU : uptoR 21 (bs.drop at_) = .ok k n0) (hk0 : 0 < k) (hk2 : k ≤ 21) (gN : AC.hasN k = false) (gX : AC.hasX k = true) (gS : AC.hasS k = false) (gM : AC.hasM k = false) (hA : bs ≠ [] → ∀ ad, A = some ad → ad.block < w.heap.size) :
    Calls Tryz.prog 44 #[.pointer (some ⟨p, 0, none⟩)] w (N4Post p A c bs at_ (actR (bs.drop at_)) w) := by
  have hp := lt_of_heap he.row
  have hK : kindA (bs.drop at_) = .ok k n0 := by unfold kindA; rw [andR_ok hU, if_neg (by omega)]; rfl
  have HX := Lib.hid (fun w' (he' : Ey w' p A c bs at_ 0) => eupto_any p A c bs at_ 21 w' (by omega) he')
  rw [show ((21 : Nat) : Int) = 21 from rfl, hU] at HX
  have HLm := Lib.hid he.lim
  have HE := Lib.hid he
  have HK := Lib.hid hK
  have GN := Lib.hid gN
  have GX := Lib.hid gX
  have GS := Lib.hid gS
  have GM := Lib.hid gM
  have k0 : ((k : Int) == 0) = false := by simp; omega
  have k1 : ((k : Int) == 1) = false := by unfold AC.hasM at gM; simp at gM; simp; omega
  clear he hU hK gN gX gS gM
  go_enter Tryz.func44, Tryz.ntmps44
  go_wp2_with fail
  refine (HX.out _ (HE.out.below (below2 w _ _))).mono ?_
  rintro e w1 ⟨hk1, rfl, he1⟩
  have HS0 := Lib.hid (ASt.new (heap_alloc2_old w _ _) (heap_alloc2_new w _ _) hp he1 hk1)
  clear hk1 he1 HX HE
  have cE := fun o => cell_of_row w1 _ o _ _ (0, 0) HS0.out.ey.row
  have c1 := fun o => cell_of_row w1 _ o _ _ (0, 0) HS0.out.row1
  have f1 : ∀ o, w1.frozen? ⟨w.heap.size + 1, o, none⟩ = false := fun o => frozen_of_row _ _ o _ _ HS0.out.row1
  have cR := fun o => cell_of_row w1 _ o _ _ (0, 0) HS0.out.res
  have fR : ∀ o, w1.frozen? ⟨w.heap.size, o, none⟩ = false := fun o => frozen_of_row _ _ o _ _ HS0.out.res
  go_wp2_with fail
  generalize hv : World.setCell _ _ _ = v1
  have S : ASt w p A c bs (at_ + n0) 0 (actC ⟨(k : Int), ⟨#[]⟩, 0, 0, ⟨#[]⟩, RC.zero, false⟩ none 0) v1 := by rw [← hv]; exact HS0.out.set hp hA 0 (.int .i64 (k : Nat))
  have HS1 := Lib.hid S
  clear S hv cE c1 f1 cR fR HS0
  have cE := fun o => cell_of_row v1 _ o _ _ (0, 0) HS1.out.ey.row
  have c1 := fun o => cell_of_row v1 _ o _ _ (0, 0) HS1.out.row1
  have f1 : ∀ o, v1.frozen? ⟨w.heap.size + 1, o, none⟩ = false := fun o => frozen_of_row _ _ o _ _ HS1.out.row1
  have cR := fun o => cell_of_row v1 _ o _ _ (0, 0) HS1.out.res
  have fR : ∀ o, v1.frozen? ⟨w.heap.size, o, none⟩ = false := fun o => frozen_of_row _ _ o _ _ HS1.out.res
  refine (epart_all p A c bs _ _ 98 0 _ (by omega) rfl HS1.out.ey).mono ?_
  rintro e u2 ⟨qk1, qu1, qi1, qq1, qt1, qb1, s1, E1, hF, rfl, he', hk'⟩
  have HF1 := Lib.hid hF
  have HS2 := Lib.hid (HS1.out.call hp he' hk')
  have hfd1 : ∀ w : World, (Instr.field 115 (.agg #[.int .u8 (qk1 : Nat), .int .u64 (qu1 : Nat), .int .i64 qi1, .int .u64 (qq1 : Nat), .string qt1, .bool qb1]) 5).run Tryz.prog w = .ok (.bool qb1) w := fun _ => by kernel_rfl
  clear hF he' hk' cE c1 f1 cR fR HS1
  have cE := fun o => cell_of_row u2 _ o _ _ (0, 0) HS2.out.ey.row
  have c1 := fun o => cell_of_row u2 _ o _ _ (0, 0) HS2.out.row1
  have f1 : ∀ o, u2.frozen? ⟨w.heap.size + 1, o, none⟩ = false := fun o => frozen_of_row _ _ o _ _ HS2.out.row1
  have cR := fun o => cell_of_row u2 _ o _ _ (0, 0) HS2.out.res
  have fR : ∀ o, u2.frozen? ⟨w.heap.size, o, none⟩ = false := fun o => frozen_of_row _ _ o _ _ HS2.out.res
  go_wp2_with fail
  generalize hv : World.setCell _ _ _ = v3
  have S : ASt w p A c bs (s1) E1 (actC ⟨(k : Int), ⟨#[]⟩, 0, 0, ⟨#[]⟩, RC.zero, qb1⟩ none 0) v3 := by rw [← hv]; exact HS2.out.set hp hA 13 (.bool qb1)
  have HS3 := Lib.hid S
  clear S hv cE c1 f1 cR fR HS2
  have cE := fun o => cell_of_row v3 _ o _ _ (0, 0) HS3.out.ey.row
  have c1 := fun o => cell_of_row v3 _ o _ _ (0, 0) HS3.out.row1
  have f1 : ∀ o, v3.frozen? ⟨w.heap.size + 1, o, none⟩ = false := fun o => frozen_of_row _ _ o _ _ HS3.out.row1
  have cR := fun o => cell_of_row v3 _ o _ _ (0, 0) HS3.out.res
  have fR : ∀ o, v3.frozen? ⟨w.heap.size, o, none⟩ = false := fun o => frozen_of_row _ _ o _ _ HS3.out.res
  refine (epart_all p A c bs _ _ 115 24 _ (by omega) rfl HS3.out.ey).mono ?_
  rintro e u4 ⟨qk2, qu2, qi2, qq2, qt2, qb2, s2, E2, hF, rfl, he', hk'⟩
  have HF2 := Lib.hid hF
  have HS4 := Lib.hid (HS3.out.call hp he' hk')
  have hfd2 : ∀ w : World, (Instr.field 115 (.agg #[.int .u8 (qk2 : Nat), .int .u64 (qu2 : Nat), .int .i64 qi2, .int .u64 (qq2 : Nat), .string qt2, .bool qb2]) 4).run Tryz.prog w = .ok (.string qt2) w := fun _ => by kernel_rfl
  clear hF he' hk' cE c1 f1 cR fR HS3
  have cE := fun o => cell_of_row u4 _ o _ _ (0, 0) HS4.out.ey.row
  have c1 := fun o => cell_of_row u4 _ o _ _ (0, 0) HS4.out.row1
  have f1 : ∀ o, u4.frozen? ⟨w.heap.size + 1, o, none⟩ = false := fun o => frozen_of_row _ _ o _ _ HS4.out.row1
  have cR := fun o => cell_of_row u4 _ o _ _ (0, 0) HS4.out.res
  have fR : ∀ o, u4.frozen? ⟨w.heap.size, o, none⟩ = false := fun o => frozen_of_row _ _ o _ _ HS4.out.res
  go_wp2_with fail
  generalize hv : World.setCell _ _ _ = v5
  have S : ASt w p A c bs (s2) E2 (actC ⟨(k : Int), qt2, 0, 0, ⟨#[]⟩, RC.zero, qb1⟩ none 0) v5 := by rw [← hv]; exact HS4.out.set hp hA 1 (.string qt2)
  have HS5 := Lib.hid S
  clear S hv cE c1 f1 cR fR HS4
  have cE := fun o => cell_of_row v5 _ o _ _ (0, 0) HS5.out.ey.row
  have c1 := fun o => cell_of_row v5 _ o _ _ (0, 0) HS5.out.row1
  have f1 : ∀ o, v5.frozen? ⟨w.heap.size + 1, o, none⟩ = false := fun o => frozen_of_row _ _ o _ _ HS5.out.row1
  have cR := fun o => cell_of_row v5 _ o _ _ (0, 0) HS5.out.res
  have fR : ∀ o, v5.frozen? ⟨w.heap.size, o, none⟩ = false := fun o => frozen_of_row _ _ o _ _ HS5.out.res
  refine (rHas_is (k : Int) 110 false _ (by omega) (by rw [show (110 : Nat).toUInt8 = 110 from rfl, fld_n]; exact GN.out)).mono ?_
  rintro e u6 ⟨rfl, hb⟩
  have HS6 := Lib.hid (HS5.out.below hb)
  clear hb cE c1 f1 cR fR HS5
  have cE := fun o => cell_of_row u6 _ o _ _ (0, 0) HS6.out.ey.row
  have c1 := fun o => cell_of_row u6 _ o _ _ (0, 0) HS6.out.row1
  have f1 : ∀ o, u6.frozen? ⟨w.heap.size + 1, o, none⟩ = false := fun o => frozen_of_row _ _ o _ _ HS6.out.row1
  have cR := fun o => cell_of_row u6 _ o _ _ (0, 0) HS6.out.res
  have fR : ∀ o, u6.frozen? ⟨w.heap.size, o, none⟩ = false := fun o => frozen_of_row _ _ o _ _ HS6.out.res
  go_wp2_with fail
  refine (rHas_is (k : Int) 120 true _ (by omega) (by rw [show (120 : Nat).toUInt8 = 120 from rfl, fld_x]; exact GX.out)).mono ?_
  rintro e u7 ⟨rfl, hb⟩
  have HS7 := Lib.hid (HS6.out.below hb)
  clear hb cE c1 f1 cR fR HS6
  have cE := fun o => cell_of_row u7 _ o _ _ (0, 0) HS7.out.ey.row
  have c1 := fun o => cell_of_row u7 _ o _ _ (0, 0) HS7.out.row1
  have f1 : ∀ o, u7.frozen? ⟨w.heap.size + 1, o, none⟩ = false := fun o => frozen_of_row _ _ o _ _ HS7.out.row1
  have cR := fun o => cell_of_row u7 _ o _ _ (0, 0) HS7.out.res
  have fR : ∀ o, u7.frozen? ⟨w.heap.size, o, none⟩ = false := fun o => frozen_of_row _ _ o _ _ HS7.out.res
  go_wp2_with fail
  refine (epart_all p A c bs _ _ 102 0 _ (by omega) rfl HS7.out.ey).mono ?_
  rintro e u8 ⟨qk3, qu3, qi3, qq3, qt3, qb3, s3, E3, hF, rfl, he', hk'⟩
  have HF3 := Lib.hid hF
  have HS8 := Lib.hid (HS7.out.call hp he' hk')
  have hfd3 : ∀ w : World, (Instr.field 115 (.agg #[.int .u8 (qk3 : Nat), .int .u64 (qu3 : Nat), .int .i64 qi3, .int .u64 (qq3 : Nat), .string qt3, .bool qb3]) 3).run Tryz.prog w = .ok (.int .u64 (qq3 : Nat)) w := fun _ => by kernel_rfl
  clear hF he' hk' cE c1 f1 cR fR HS7
  have cE := fun o => cell_of_row u8 _ o _ _ (0, 0) HS8.out.ey.row
  have c1 := fun o => cell_of_row u8 _ o _ _ (0, 0) HS8.out.row1
  have f1 : ∀ o, u8.frozen? ⟨w.heap.size + 1, o, none⟩ = false := fun o => frozen_of_row _ _ o _ _ HS8.out.row1
  have cR := fun o => cell_of_row u8 _ o _ _ (0, 0) HS8.out.res
  have fR : ∀ o, u8.frozen? ⟨w.heap.size, o, none⟩ = false := fun o => frozen_of_row _ _ o _ _ HS8.out.res
  have hpl := lt_of_heap HS8.out.ey.row
  have hl1 := lt_of_heap HS8.out.row1
  rcases Nat.eq_zero_or_pos E3 with hE3 | hE3
  · subst hE3
    have HW := Lib.hid (eyeP_flo_w HF3.out)
    go_wp2_with fail
    generalize hwz : World.alloc _ _ = uz9
    have HS9 := Lib.hid (show ASt w p A c bs (s3) 0 (actC ⟨(k : Int), qt2, 0, 0, ⟨#[]⟩, RC.zero, qb1⟩ none 0) uz9 by rw [← hwz]; exact HS8.out.below (below1 _ _))
    clear hwz hpl hl1 cE c1 f1 cR fR
    have cE := fun o => cell_of_row uz9 _ o _ _ (0, 0) HS9.out.ey.row
    have c1 := fun o => cell_of_row uz9 _ o _ _ (0, 0) HS9.out.row1
    have f1 : ∀ o, uz9.frozen? ⟨w.heap.size + 1, o, none⟩ = false := fun o => frozen_of_row _ _ o _ _ HS9.out.row1
    have cR := fun o => cell_of_row uz9 _ o _ _ (0, 0) HS9.out.res
    have fR : ∀ o, uz9.frozen? ⟨w.heap.size, o, none⟩ = false := fun o => frozen_of_row _ _ o _ _ HS9.out.res
    refine (rnumber1_any qq3 _ HW.out).mono ?_
    rintro e ux ⟨rfl, rfl⟩
    go_wp2_with fail
    generalize hv : World.setCell _ _ _ = v10
    have S : ASt w p A c bs (s3) 0 (actC ⟨(k : Int), qt2, 0, MF.bk qq3, ⟨#[]⟩, RC.zero, qb1⟩ none 0) v10 := by rw [← hv]; exact HS9.out.set hp hA 3 (.float .f64 (MF.bk qq3))
    have HS10 := Lib.hid S
    clear S hv cE c1 f1 cR fR HS9
    have cE := fun o => cell_of_row v10 _ o _ _ (0, 0) HS10.out.ey.row
    have c1 := fun o => cell_of_row v10 _ o _ _ (0, 0) HS10.out.row1
    have f1 : ∀ o, v10.frozen? ⟨w.heap.size + 1, o, none⟩ = false := fun o => frozen_of_row _ _ o _ _ HS10.out.row1
    have cR := fun o => cell_of_row v10 _ o _ _ (0, 0) HS10.out.res
    have fR : ∀ o, v10.frozen? ⟨w.heap.size, o, none⟩ = false := fun o => frozen_of_row _ _ o _ _ HS10.out.res
    refine (rHas_is (k : Int) 115 false _ (by omega) (by rw [show (115 : Nat).toUInt8 = 115 from rfl, fld_s]; exact GS.out)).mono ?_
    rintro e u11 ⟨rfl, hb⟩
    have HS11 := Lib.hid (HS10.out.below hb)
    clear hb cE c1 f1 cR fR HS10
    have cE := fun o => cell_of_row u11 _ o _ _ (0, 0) HS11.out.ey.row
    have c1 := fun o => cell_of_row u11 _ o _ _ (0, 0) HS11.out.row1
    have f1 : ∀ o, u11.frozen? ⟨w.heap.size + 1, o, none⟩ = false := fun o => frozen_of_row _ _ o _ _ HS11.out.row1
    have cR := fun o => cell_of_row u11 _ o _ _ (0, 0) HS11.out.res
    have fR : ∀ o, u11.frozen? ⟨w.heap.size, o, none⟩ = false := fun o => frozen_of_row _ _ o _ _ HS11.out.res
    have HNo := Lib.hid (show Nout bs at_ ⟨(k : Int), qt2, 0, MF.bk qq3, ⟨#[]⟩, RC.zero, qb1⟩ s3 0 from nout_x HK.out HF1.out HF2.out HF3.out HLm.out GN.out GX.out GS.out GM.out)
    have G := Lib.hid (HNo.out.1 rfl)
    go_wp2_with fail
    refine (rcheck4_any ⟨(k : Int), qt2, 0, MF.bk qq3, ⟨#[]⟩, RC.zero, qb1⟩ none 0 _ G.out.ok (Its.own (World.ownsRow_nil _ 0 88 2)) G.out.l1 G.out.l2 G.out.l3).mono ?_
    rintro e ua ⟨rfl, hb⟩
    have HSa := Lib.hid (HS11.out.below hb)
    have HOa := Lib.hid (own_below (World.ownsRow_nil _ 0 88 2) hb)
    clear hb cE c1 f1 cR fR
    have cE := fun o => cell_of_row ua _ o _ _ (0, 0) HSa.out.ey.row
    have c1 := fun o => cell_of_row ua _ o _ _ (0, 0) HSa.out.row1
    have cR := fun o => cell_of_row ua _ o _ _ (0, 0) HSa.out.res
    have fR : ∀ o, ua.frozen? ⟨w.heap.size, o, none⟩ = false := fun o => frozen_of_row _ _ o _ _ HSa.out.res
    go_wp2_with fail
    refine (efail_yes p A c bs _ _ _ HSa.out.ey).mono ?_
    rintro e ub ⟨rfl, he', hk'⟩
    have HOb := Lib.hid (hk'.own HOa.out (fun k e x => by rw [ownBlock_slice] at e; cases e))
    have hSb := HSa.out.call hp he' hk'
    clear he' hk' cE c1 cR fR
    rcases Nat.eq_zero_or_pos (AC.chk ⟨(k : Int), qt2, 0, MF.bk qq3, ⟨#[]⟩, RC.zero, qb1⟩) with hc | hc
    · have Hy := Lib.hid (G.out.yes hc)
      rw [hc] at hSb
      have HSb := Lib.hid hSb
      clear hSb hc
      have cE := fun o => cell_of_row ub _ o _ _ (0, 0) HSb.out.ey.row
      have c1 := fun o => cell_of_row ub _ o _ _ (0, 0) HSb.out.row1
      have cR := fun o => cell_of_row ub _ o _ _ (0, 0) HSb.out.res
      have fR : ∀ o, ub.frozen? ⟨w.heap.size, o, none⟩ = false := fun o => frozen_of_row _ _ o _ _ HSb.out.res
      go_wp2_with fail
      refine bodyPost_ret (v := actV ⟨(k : Int), qt2, 0, MF.bk qq3, ⟨#[]⟩, RC.zero, qb1⟩ none 0) (by simp [results, Tryz.results44, go_sem, cR]) rfl ?_
      generalize hwf : World.setCell _ _ _ = wf
      have hkr : Kp (fun k => k = w.heap.size) ub wf := by rw [← hwf]; exact kp14 (Kp.refl _ ub) (Or.inl rfl)
      exact N4Post.mkOk Hy.out G.out.le HSb.out HOb.out (fun k (e : ob none = some k) => by cases e) hp hA hkr
    · have Hn := Lib.hid (G.out.no (by omega))
      generalize AC.chk ⟨(k : Int), qt2, 0, MF.bk qq3, ⟨#[]⟩, RC.zero, qb1⟩ = code at *
      have h1 : ((code : Int) == 0) = false := by simp; omega
      have h2 : ((code : Int) != 0) = true := by simp; omega
      have HSb := Lib.hid hSb
      clear hSb hc
      have cE := fun o => cell_of_row ub _ o _ _ (0, 0) HSb.out.ey.row
      have c1 := fun o => cell_of_row ub _ o _ _ (0, 0) HSb.out.row1
      have cR := fun o => cell_of_row ub _ o _ _ (0, 0) HSb.out.res
      have fR : ∀ o, ub.frozen? ⟨w.heap.size, o, none⟩ = false := fun o => frozen_of_row _ _ o _ _ HSb.out.res
      go_wp2_with fail
      refine bodyPost_ret (v := .agg zeroA) (by simp [results, Tryz.results44, go_sem, cR, AC.zero, RC.zero]) rfl ?_
      generalize hwf : World.setCell _ _ _ = wf
      have hkr : Kp (fun k => w.heap.size ≤ k) ub wf := by rw [← hwf]; exact kp14 (Kp.refl _ ub) (Or.inl (Nat.le_refl _))
      exact N4Post.mkBad Hn.out G.out.le HSb.out hp hA hkr
  · have x1 : ((E3 : Int) == 0) = false := by simp; omega
    have x2 : ((E3 : Int) != 0) = true := by simp; omega
    go_wp2_with fail
    generalize hwz : World.alloc _ _ = uz9
    have HS9 := Lib.hid (show ASt w p A c bs (s3) E3 (actC ⟨(k : Int), qt2, 0, 0, ⟨#[]⟩, RC.zero, qb1⟩ none 0) uz9 by rw [← hwz]; exact HS8.out.below (below1 _ _))
    clear hwz hpl hl1 cE c1 f1 cR fR
    have cE := fun o => cell_of_row uz9 _ o _ _ (0, 0) HS9.out.ey.row
    have c1 := fun o => cell_of_row uz9 _ o _ _ (0, 0) HS9.out.row1
    have f1 : ∀ o, uz9.frozen? ⟨w.heap.size + 1, o, none⟩ = false := fun o => frozen_of_row _ _ o _ _ HS9.out.row1
    have cR := fun o => cell_of_row uz9 _ o _ _ (0, 0) HS9.out.res
    have fR : ∀ o, uz9.frozen? ⟨w.heap.size, o, none⟩ = false := fun o => frozen_of_row _ _ o _ _ HS9.out.res
    refine (rHas_is (k : Int) 115 false _ (by omega) (by rw [show (115 : Nat).toUInt8 = 115 from rfl, fld_s]; exact GS.out)).mono ?_
    rintro e u10 ⟨rfl, hb⟩
    have HS10 := Lib.hid (HS9.out.below hb)
    clear hb cE c1 f1 cR fR HS9
    have cE := fun o => cell_of_row u10 _ o _ _ (0, 0) HS10.out.ey.row
    have c1 := fun o => cell_of_row u10 _ o _ _ (0, 0) HS10.out.row1
    have f1 : ∀ o, u10.frozen? ⟨w.heap.size + 1, o, none⟩ = false := fun o => frozen_of_row _ _ o _ _ HS10.out.row1
    have cR := fun o => cell_of_row u10 _ o _ _ (0, 0) HS10.out.res
    have fR : ∀ o, u10.frozen? ⟨w.heap.size, o, none⟩ = false := fun o => frozen_of_row _ _ o _ _ HS10.out.res
    have hE := hE3
    have HNo := Lib.hid (nout_x HK.out HF1.out HF2.out HF3.out HLm.out GN.out GX.out GS.out GM.out)
    have Hb := Lib.hid (HNo.out.2 hE)
    have h1 : ((E3 : Int) == 0) = false := by simp; omega
    have h2 : ((E3 : Int) != 0) = true := by simp; omega
    go_wp2_with fail
    refine bodyPost_ret (v := .agg zeroA) (by simp [results, Tryz.results44, go_sem, cR, AC.zero, RC.zero]) rfl ?_
    generalize hwf : World.setCell _ _ _ = wf
    have hkr : Kp (fun k => w.heap.size ≤ k) u10 wf := by rw [← hwf]; exact kp14 (Kp.refl _ u10) (Or.inl (Nat.le_refl _))
    exact N4Post.mkBad Hb.out.1 Hb.out.2 HS10.out hp hA hkr

end Go.Proofs.YtaaeefndhmfceaaGreatDoor
