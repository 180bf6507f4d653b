/- Any bytes are an act that may be, or it is told why not: ActReads answers true for all bytes. No condition. -/
import Derived.Test.YtaaeefndhmfceaaGreatDoorEye4G
import Derived.Test.YtaaeefndhmfceaaGreatDoorSpT
import Derived.Test.YtaaeefndhmfceaaGreatDoorOpnT
import Derived.Test.YtaaeefndhmfceaaGreatDoorRows
import Derived.Test.YtaaeefndhmfceaaGreatDoorCards
import Derived.Test.YtaaeefndhmfceaaGreatDoorTie
import Derived.Deep.RegionHeld3
import Derived.Deep.QuietTactic
import Derived.BigQuiet
import Derived.WalkKit
import Derived.ProofKit
import Derived.OpenShut
import Derived.ShutString
import Derived.ChangeOld
import Derived.LaidMore
import Derived.Stop.Joined
import Derived.SevenTiedAt
namespace Go.Proofs.YtaaeefndhmfceaaGreatDoor
open Go.RowKit MM

theorem wholeA_pos {α : Type} {f : List UInt8 → Res α} {l : List UInt8} {e n : Nat} (hf : PosR (f l)) (h : wholeR f l = .bad e n) : 0 < e := by
  unfold wholeR at h
  cases hq : f l with
  | bad c k => rw [hq] at h; injection h with h1 h2; subst h1; exact hf c k hq
  | ok x k =>
    rw [hq] at h
    simp only at h
    split at h
    · cases h
    · injection h with h1 h2; omega
theorem wholeA_inv {α : Type} {f : List UInt8 → Res α} {l : List UInt8} {x : α} {n : Nat} (h : wholeR f l = .ok x n) : f l = .ok x n ∧ l.drop n = [] := by
  unfold wholeR at h
  cases hq : f l with
  | bad c k => rw [hq] at h; cases h
  | ok y k =>
    rw [hq] at h
    simp only at h
    split at h
    · rename_i hd
      injection h with h1 h2
      subst h1 h2
      exact ⟨rfl, hd⟩
    · cases h
theorem may_lims {a : AC.Ac} (ha : a.ok) (hm : AC.May a) : Lim a.make.list.length ∧ Lim a.key.size ∧ Lim a.s.size := by
  have h1 := hm.key
  have h2 := hm.most
  have h3 : AC.most a.kind ≤ 64 := by unfold AC.most; split <;> (try split) <;> omega
  have h4 : a.make.list.length ≤ 32 := by
    cases hM : AC.hasM a.kind with
    | true => exact (RC.chk_may ha.make (hm.made hM)).len
    | false => rw [hm.m hM]; exact Nat.zero_le _
  unfold Lim
  omega
theorem whole_act {l : List UInt8} {x : AC.Ac} {n : Nat} (h : wholeR actR l = .ok x n) : x.ok ∧ bytesA x = l ∧ AC.May x := by
  obtain ⟨h1, h2⟩ := wholeA_inv h
  obtain ⟨h3, h4, h5, h6⟩ := actR_one h1
  refine ⟨h5, ?_, AC.chk_may h5 h6⟩
  unfold bytesA
  rw [if_pos h6, ← h3]
  have := List.take_append_drop n l
  rw [h2, List.append_nil] at this
  exact this

set_option maxHeartbeats 4000000 in
set_option maxRecDepth 100000 in
theorem actReadsL_any (A : Option Addr) (c : Nat) (xs : List UInt8) (w : World) (hb : Bts w A xs) (hcap : xs.length ≤ c) (hR : RowsAt w) :
    Calls Tryz.prog 4 #[.slice A xs.length c] w fun e w' => e = .returned (.bool true) ∧ Below w.heap.size w w' := by
  have HB := Lib.hid hb
  have HRo := Lib.hid hR
  have HS := Lib.hid (fun w hR => speaks4_any w hR)
  clear hb hR
  by_cases hlen : 2000 < xs.length
  · have hd : decide ((2000 : Int) < (xs.length : Int)) = true := by simp; omega
    go_enter Tryz.func4, Tryz.ntmps4
    go_wp2_with fail
    refine (HS.out _ HRo.out).mono ?_
    rintro e w1 ⟨rfl, hb1⟩
    go_wp2_with fail
    go_ret
    exact ⟨rfl, hb1⟩
  have hd : decide ((2000 : Int) < (xs.length : Int)) = false := by simp; omega
  have hlx : Lim xs.length := by unfold Lim; omega
  have HR := Lib.hid (fun w (hb : Bts w A xs) (hR : RowsAt w) => actRead_any A c xs w hb hlx hR)
  have HQ := Lib.hid (fun w (hb : Bts w A xs) => rread4_any A c xs w hb hlx hcap)
  cases hW : wholeR actR xs with
  | bad code n =>
    have hp := wholeA_pos (PosR.ac xs) hW
    have h2 : ((code : Int) != 0) = true := by simp; omega
    rw [hW] at HR HQ
    clear hW
    go_enter Tryz.func4, Tryz.ntmps4
    go_wp2_with fail
    refine (HS.out _ HRo.out).mono ?_
    rintro e w1 ⟨rfl, hb1⟩
    have HB1 := Lib.hid hb1
    clear hb1
    go_wp2_with fail
    refine (HR.out _ (HB.out.below HB1.out) (HRo.out.below HB1.out)).mono ?_
    rintro e w2 ⟨rfl, hb2⟩
    have HB2 := Lib.hid (HB1.out.trans (hb2.mono HB1.out.size))
    clear hb2
    go_wp2_with fail
    generalize hwz : World.alloc (World.alloc _ _) _ = wz
    have hbz : Below w2.heap.size w2 wz := by rw [← hwz]; exact below2 w2 _ _
    have EX := Lib.hid (show wz.heap[w2.heap.size]? = some (.cells zeroA 27 (0, 0)) by rw [← hwz]; exact heap_alloc2_old _ _ _)
    have EF := Lib.hid (show wz.heap[w2.heap.size + 1]? = some (.cells #[.int .i64 code, .int .i64 n] 34 (0, 0)) by rw [← hwz]; exact heap_alloc2_new _ _ _)
    have HBz := Lib.hid (HB2.out.trans (hbz.mono HB2.out.size))
    clear hwz hbz
    refine (HQ.out _ (HB.out.below HBz.out)).mono ?_
    rintro e w3 ⟨hb3, rfl⟩
    have HB3 := Lib.hid (HBz.out.trans (hb3.mono HBz.out.size))
    have EX3 := Lib.hid ((hb3.block _ (lt_of_heap EX.out)).trans EX.out)
    have EF3 := Lib.hid ((hb3.block _ (lt_of_heap EF.out)).trans EF.out)
    have z1 := lt_of_heap EX3.out
    have z2 := lt_of_heap EF3.out
    have cX := fun o => cell_of_row w3 _ o _ _ (0, 0) EX3.out
    have cF := fun o => cell_of_row w3 _ o _ _ (0, 0) EF3.out
    clear hb3 EX EF
    go_wp2_with fail
    refine (rsame4_any AC.zero AC.zero none none 0 0 _ AC.zero_ok AC.zero_ok (Its.nil _ _) (Its.nil _ _) (by unfold Lim; decide) (by unfold Lim; decide)).mono ?_
    rintro e w4 ⟨rfl, hb4⟩
    rw [AC.same_refl']
    have HB4 := Lib.hid (HB3.out.trans (((below1 w3 _).mono HB3.out.size).trans (hb4.mono (by have := HB3.out.size; simp; omega))))
    clear hb4 cX cF
    go_wp2_with fail
    go_quiet (fail)
    go_wp2_with fail
    go_ret
    first | exact ⟨rfl, HB4.out⟩ | exact ⟨rfl, below_drew HB4.out⟩ | exact ⟨rfl, below_drewN HB4.out _⟩
  | ok x n =>
    obtain ⟨hx, hy, hm⟩ := whole_act hW
    have hl := may_lims hx hm
    have HX := Lib.hid hx
    have HL := Lib.hid hl
    rw [hW] at HR HQ
    have HT := Lib.hid (show ∀ w A', RowsAt w → Its w A' x.make.list → ∀ c', Calls Tryz.prog 9 #[actV x A' c'] w (Fresh 5 xs w) from fun w A' hR h c' => by rw [← hy]; exact actBytes_any x A' c' w hx hR h hl.1 hl.2.1 hl.2.2)
    clear hW hy hx hm hl
    go_enter Tryz.func4, Tryz.ntmps4
    go_wp2_with fail
    refine (HS.out _ HRo.out).mono ?_
    rintro e w1 ⟨rfl, hb1⟩
    have HB1 := Lib.hid hb1
    clear hb1
    go_wp2_with fail
    refine (HR.out _ (HB.out.below HB1.out) (HRo.out.below HB1.out)).mono ?_
    rintro e w2 ⟨A2, c2, rfl, ho2, hn2, hb2⟩
    have HB2 := Lib.hid (HB1.out.trans (hb2.mono HB1.out.size))
    have HO2 := Lib.hid ho2
    clear hb2 ho2 hn2
    go_wp2_with fail
    generalize hwz : World.alloc (World.alloc _ _) _ = wz
    have hbz : Below w2.heap.size w2 wz := by rw [← hwz]; exact below2 w2 _ _
    have EX := Lib.hid (show wz.heap[w2.heap.size]? = some (.cells (actC x A2 c2) 27 (0, 0)) by rw [← hwz]; exact heap_alloc2_old _ _ _)
    have EF := Lib.hid (show wz.heap[w2.heap.size + 1]? = some (.cells #[.int .i64 0, .int .i64 0] 34 (0, 0)) by rw [← hwz]; exact heap_alloc2_new _ _ _)
    have HBz := Lib.hid (HB2.out.trans (hbz.mono HB2.out.size))
    have HOz := Lib.hid (own_below HO2.out hbz)
    clear hwz hbz
    refine (HQ.out _ (HB.out.below HBz.out)).mono ?_
    rintro e w3 ⟨hb3, A3, c3, rfl, ho3⟩
    have HB3 := Lib.hid (HBz.out.trans (hb3.mono HBz.out.size))
    have EX3 := Lib.hid ((hb3.block _ (lt_of_heap EX.out)).trans EX.out)
    have EF3 := Lib.hid ((hb3.block _ (lt_of_heap EF.out)).trans EF.out)
    have HO3 := Lib.hid (own_below HOz.out hb3)
    have HP3 := Lib.hid ho3
    have z1 := lt_of_heap EX3.out
    have z2 := lt_of_heap EF3.out
    have cX := fun o => cell_of_row w3 _ o _ _ (0, 0) EX3.out
    have cF := fun o => cell_of_row w3 _ o _ _ (0, 0) EF3.out
    clear hb3 EX EF ho3
    go_wp2_with fail
    refine (rsame4_any x x A2 A3 c2 c3 _ HX.out HX.out ((Its.own HO3.out).alloc _) ((Its.own HP3.out).alloc _) HL.out.1 HL.out.1).mono ?_
    rintro e w4 ⟨rfl, hb4⟩
    rw [AC.same_refl']
    have hb34 : Below w3.heap.size w3 w4 := (below1 w3 _).trans (hb4.mono (by simp))
    have HB4 := Lib.hid (HB3.out.trans (hb34.mono HB3.out.size))
    have EX4 := (hb34.block _ (lt_of_heap EX3.out)).trans EX3.out
    have HI4 := Lib.hid (show Its w4.drew A2 x.make.list from (Its.own (own_below HO3.out hb34)).below (below_drew (Below.refl _ _)))
    have HR4 := Lib.hid (show RowsAt w4.drew from HRo.out.below (below_drew HB4.out))
    have f0 : ∀ o, w4.cell? ⟨w2.heap.size, o, none⟩ = (actC x A2 c2)[o]? := fun o => cell_of_row w4 _ o _ _ (0, 0) EX4
    have kz := run_text (P := Tryz.prog) w4.drew 30 9 5 A c xs Tryz.underlying30 Tryz.underlying5 Tryz.underlying9 (show Bts w4.drew A xs from HB.out.below (below_drew HB4.out))
    clear hb34 hb4 cX cF EX4 EX3 EF3
    go_wp2_with fail
    go_region_with (go_at_call 9; refine (HT.out _ A2 HR4.out HI4.out c2).mono ?_; rintro e w6 ⟨A6, c6, rfl, ho6, hn6, hb6⟩; have hB6 : Below w4.heap.size w4 w6 := (below_a w4).trans hb6; have k6 := run_text (P := Tryz.prog) w6 30 9 5 A6 c6 xs Tryz.underlying30 Tryz.underlying5 Tryz.underlying9 (Bts.own ho6); have k3 := run_text (P := Tryz.prog) w6 30 9 5 A c xs Tryz.underlying30 Tryz.underlying5 Tryz.underlying9 (HB.out.below (HB4.out.trans (hB6.mono HB4.out.size))))
    all_goals
      go_wp2_with fail
      go_ret
      exact ⟨rfl, HB4.out.trans (hB6.mono HB4.out.size)⟩

end Go.Proofs.YtaaeefndhmfceaaGreatDoor
/- Any bytes are an act that may be, or it is told why not: ActReads answers true for all bytes. No condition. -/
namespace Go.Proofs.YtaaeefndhmfceaaGreatDoor
open Go.ChangeShapes Go.WideShapes Go.ChangeAt Go.RowKit
open Go.ChangeMaps (open_string shut_string)
set_option linter.unusedVariables false

set_option maxRecDepth 100000 in
theorem actReads_lifted (os : Os) (started : os.Started) (H : Type) (enc : TypeId × Value → H) :
    ReturnsInHanded {} Tryz.checked os 4 .any (fun w args => (Rows.actReadsSpec.pre enc Tryz.prog Tryz.f4 [] false w args ∧ laidMetH Tryz.prog laidRows w) ∧ sizedMet enc Tryz.prog Tryz.f4 (OpenSpec.ofChange Rows.actReadsSpec) false w args)
      (Rows.actReadsSpec.post enc Tryz.prog Tryz.f4 false true false false) := by
  refine returnsInHanded_of_change_and (C := Tryz.checked) (X := fun w _ => laidMetH Tryz.prog laidRows w) (fun _ _ _ hh h => h.of_heap hh) own started (by kernel_rfl) Tryz.func4
    (ChangeSpec.witness_shaped (enc := enc) (C := Tryz.checked) (os := os) (X := fun w _ => laidMetH Tryz.prog laidRows w) false (World.doorLaid Tryz.prog 400 os) #[.slice none 0 0] 8 rfl (World.shaped_of_RefB (by kernel_rfl) (by kernel_rfl)) (by kernel_rfl) (by kernel_rfl) (by kernel_rfl) (rows_met os _)) ?_
  intro W base args ds gs before hval0 hW _ _ hL _
  have hval : ∀ (j : Nat) t v, Tryz.f4.params[j]? = some t → args[j]? = some v → Value.okWide Tryz.prog W .any base t v := hval0
  have hW' := hW
  obtain ⟨p, q, hA0, hV, rfl, hfz, hnd⟩ := hW
  have hA : DataW.TrodAll enc Tryz.prog W 0 (fun _ => true) true Tryz.f4.params.toList args.toList ds p := hA0
  rw [Tryz.params4] at hA hval
  obtain ⟨v0, vs0, d0, ds0, p0, q0, hargs, rfl, rfl, h0, r0⟩ := trodAll_cons hA
  obtain ⟨rfl, rfl, rfl⟩ := trodAll_nil r0
  obtain rfl : args = #[v0] := by cases args; simp_all
  obtain ⟨rfl, rfl⟩ := trodVars_none hV
  obtain ⟨A0, len0, c0, rfl⟩ := okWide_slice Tryz.underlying30 (hval 0 30 v0 rfl rfl)
  have k0 := h0
  have lt0 : ∀ x ∈ p0, x.block < W.heap.size := by obtain ⟨m, hm⟩ := k0; exact DataW.trod_lt m _ _ _ hm
  have cap0 := open_cap Tryz.underlying30 k0
  obtain ⟨xs0, rfl, hb0⟩ := open_bytes Tryz.underlying30 Tryz.underlying5 (by kernel_rfl) h0
  have hNames := rows_of_laid hL
  clear hA0 hval0 hL
  refine (actReadsL_any A0 c0 xs0 W hb0 cap0 hNames).mono fun e W' ⟨he, bel⟩ => ?_
  subst he
  exact ⟨_, rfl, _, _, _, [], _, [], hW', trodAll_mk1 (shut_bool Tryz.underlying4 _), (trodAll_cons_mk (Below.trod laidOut (by kernel_rfl) (of_decide_eq_true (by kernel_rfl)) k0 bel lt0) trodAll_mk0), rfl, bel.frame _, fun h => by cases h⟩

theorem actReads_said : Rows.ActReadsSaid :=
  OpenClaim.holds_of_wide 4 Tryz.f4 rfl rfl rfl rfl rfl rfl rfl ⟨rfl, rfl, rfl, rfl, rfl⟩ rfl rfl rfl rfl rfl (by kernel_rfl) Tryz.func4 (by kernel_rfl)
    (of_decide_eq_true (by kernel_rfl)) (by unfold Func.isWrapper; first | (rw [if_pos (by decide +kernel)]; kernel_rfl) | (rw [if_neg (by decide +kernel)]; exact ⟨rfl, rfl⟩))
    (fun os started H enc _ => actReads_lifted os started H enc)

/-- The tied card of ActReads. -/
theorem actReads_proved : Rows.ActReadsCardSaid :=
  Claim7.holds_tied_plain_at .later [] [.data] true Rows.actReadsCard.stood.harness true
    actReads_said (fun _ h => by cases h) (by kernel_rfl) (fun _ h => by cases h) actReads_row_tie rfl ⟨rfl, rfl⟩ (by kernel_rfl) rfl
    (fun f fn hf hfn => by
      obtain rfl : f = 4 := Option.some.inj ((show Tryz.prog.funcNamed "moiety/moietylaw04.ActReads" = some 4 by kernel_rfl).symm.trans hf) |>.symm
      obtain rfl : fn = Tryz.f4 := (Option.some.inj (Tryz.func4.symm.trans hfn)).symm
      exact ⟨by kernel_rfl, fun j t ht => by
        rw [Tryz.params4] at ht
        rcases j with _ | j
        · obtain rfl : t = 30 := by simpa using ht.symm
          exact (show Tryz.prog.wantsStandIn 30 = false by kernel_rfl)
        · simp at ht⟩)
    (by kernel_rfl)

end Go.Proofs.YtaaeefndhmfceaaGreatDoor
