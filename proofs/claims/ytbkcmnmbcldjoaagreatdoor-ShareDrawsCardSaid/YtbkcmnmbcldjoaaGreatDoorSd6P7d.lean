/- The walk of ShareDraws. -/
import Derived.Test.YtbkcmnmbcldjoaaGreatDoorSdYP7d
import Derived.Test.YtbkcmnmbcldjoaaGreatDoorSh16P7d
import Derived.BigQuiet
import Derived.Deep.QuietTactic
namespace Go.Proofs.YtbkcmnmbcldjoaaGreatDoor
open Go.RowKit MM
set_option linter.unusedVariables false
set_option linter.unusedSimpArgs false
/-- Acts that are gathered in a row of one's own. -/
structure AoAt (w8 : World) (ys : List Al) (B : Option Addr) (n cb : Nat) (wr : World) : Prop where
  own : wr.ownsRow 0 37 14 (.slice B n cb) n (acCells ys)
  newB : ∀ k, ob B = some k → w8.heap.size ≤ k
  len : ys.length = n
theorem AoAt.keep {w8 wr w' : World} {ys : List Al} {B : Option Addr} {n cb : Nat} (h : AoAt w8 ys B n cb wr) {S : Nat → Prop} (hk : Kp S wr w') (hS : ∀ j, S j → j < w8.heap.size) : AoAt w8 ys B n cb w' :=
  ⟨hk.own h.own (fun k e x => by rw [ownBlock_slice] at e; have h1 := h.newB k e; have h2 := hS k x; omega), h.newB, h.len⟩
theorem AoAt.next {w8 wr w4 : World} {ys : List Al} {a : Al} {B B' : Option Addr} {n cb cb' : Nat} (h : AoAt w8 ys B n cb wr) (hz : w8.heap.size ≤ wr.heap.size) (hat : ob B' = ob B ∨ ob B' = some wr.heap.size) (ho : w4.ownsRow 0 37 14 (.slice B' (n + 1) cb') (n + 1) (acCells ys ++ a.cells.toList)) : AoAt w8 (ys ++ [a]) B' (n + 1) cb' w4 := by
  refine ⟨?_, grown_new7 h.newB hat hz, by simp [h.len]⟩
  rw [acCells_append]
  show w4.ownsRow _ _ _ _ _ (acCells _ ++ (a.cells.toList ++ []))
  rw [List.append_nil]
  exact ho
theorem takeAll_le (kind : Int) (names : List ByteArray) : ∀ (l : List AC.Ac) (x : Rm), (SH.takeAll kind names x l).2.up ≤ x.up ∧ (SH.takeAll kind names x l).2.down ≤ x.down
  | [], x => ⟨Nat.le_refl _, Nat.le_refl _⟩
  | a :: l, x => by
    unfold SH.takeAll
    split
    · exact ⟨Nat.le_refl _, Nat.le_refl _⟩
    · have h1 := takeAll_le kind names l (SH.takeR kind names x a)
      have h2 := takeR_le kind names x a
      exact ⟨Nat.le_trans h1.1 h2.1, Nat.le_trans h1.2 h2.2⟩
theorem drawR_len (kind : Int) (names : List ByteArray) (rs : List Rm) (k : Int) (l : List AC.Ac) : (SH.drawR kind names rs k l).length = rs.length := by
  unfold SH.drawR
  split
  · simp
  · rfl
theorem drawR_bd {kind : Int} {names : List ByteArray} {rs : List Rm} {k : Int} {l : List AC.Ac} (h : ∀ x ∈ rs, x.up < 18446744073709551616 ∧ x.down < 18446744073709551616) : ∀ x ∈ SH.drawR kind names rs k l, x.up < 18446744073709551616 ∧ x.down < 18446744073709551616 := by
  unfold SH.drawR
  split
  · intro x hx
    rcases List.mem_or_eq_of_mem_set hx with h1 | h1
    · exact h x h1
    · have h2 := takeAll_le kind names l ((rs[k.toNat]?).getD ⟨0, 0⟩)
      have h3 : ((rs[k.toNat]?).getD ⟨0, 0⟩).up < 18446744073709551616 ∧ ((rs[k.toNat]?).getD ⟨0, 0⟩).down < 18446744073709551616 := by
        cases h4 : rs[k.toNat]? with
        | none => exact ⟨by decide, by decide⟩
        | some y => exact h y (List.mem_of_getElem? h4)
      rw [h1]
      omega
  · exact h
theorem rooms_ports (x : Rm) (n : Nat) : rmsOf (SH.ports x.up n) (SH.ports x.down n) = SH.rooms x n := by
  unfold rmsOf SH.ports SH.rooms
  rw [List.zip_map', List.map_map]
  rfl
theorem left_in {rs : List Rm} {j : Nat} {x : Rm} (h : rs[j]? = some x) : SH.left rs (j : Int) = x := by
  have h1 := (List.getElem?_eq_some_iff.1 h).1
  unfold SH.left
  rw [if_pos (by omega), Int.toNat_natCast, h]
  rfl
theorem left_out {rs : List Rm} {j : Int} (h : ¬ (0 ≤ j ∧ j < (rs.length : Int))) : SH.left rs j = ⟨0, 0⟩ := by
  unfold SH.left
  rw [if_neg h]
theorem big7_all {r : RC.Rc} {l : List Dl} (h : big7 r l = false) : RC.big r = false ∧ l.length ≤ 40 ∧ ∀ x ∈ l, AC.big x.a.r = false := by
  unfold big7 at h
  rw [Bool.or_eq_false_iff, Bool.or_eq_false_iff] at h
  refine ⟨h.1, by have := h.2.1; simpa using this, fun x hx => ?_⟩
  have h2 := List.any_eq_false.1 h.2.2 x hx
  simpa using h2
set_option maxHeartbeats 16000000 in
set_option maxRecDepth 100000 in
theorem shareDrawsL_any (r : RC.Rc) (A : Option Addr) (c : Nat) (k : Int) (L : Option Addr) (cl : Nat) (l : List Dl) (w : World) (hI : RecIn w r A c) (hk : RC.I64 k) (hl : DeedsIn w L l) (hR : RowsAt w) :
    Calls Tryz.prog 5 #[recV r A c, .int .i64 k, .slice L l.length cl] w fun e w' => e = .returned (.bool true) ∧ Below w.heap.size w w' := by
  obtain ⟨i0, hi0, hz0, hz1, hz2⟩ := info_parts act_info6
  have HR := Lib.hid hR
  have HI := Lib.hid hI
  have HL := Lib.hid hl
  clear hR hI hl hk
  go_enter Tryz.func5, Tryz.ntmps5
  go_upto_region 1 with fail
  generalize hw1 : World.alloc w _ = w1
  have B1 := Lib.hid (show Below w.heap.size w w1 by rw [← hw1]; exact below1 w _)
  have E1 := Lib.hid (show w1.heap[w.heap.size]? = some (.cells (recC r.kind r.num r.low r.high r.real r.cap r.text (.slice A r.list.length c)) 25 (0, 0)) by rw [← hw1]; exact heap_alloc_new w _)
  clear hw1
  go_wp2_with fail
  refine (speaks7_any _ (HR.out.below B1.out)).mono ?_
  rintro e w2 ⟨rfl, hb⟩
  have B2 := Lib.hid (B1.out.trans (hb.mono B1.out.size))
  have E1 := Lib.hid ((hb.block _ (lt_of_heap E1.out)).trans E1.out)
  clear hb B1
  have HBg := Lib.hid (show big7 r l = false → _ from big7_all (r := r) (l := l))
  go_wp2_with (first
    | (refine wpList_load_row rfl _ _ rfl w.heap.size rfl 25 _ (0, 0) _ E1.out Tryz.underlying25 rfl rec_inf7 ?_))
  refine (show Calls Tryz.prog 11 #[recV r A c, .slice L l.length cl] w2 (fun e w' => e = .returned (.bool (big7 r l)) ∧ Below w2.heap.size w2 w') from big7_any r A L c cl l w2 (HI.out.its.below B2.out) HI.out.len (HL.out.keep B2.out)).mono ?_
  generalize big7 r l = bg at *
  rintro e w3 ⟨rfl, hb⟩
  have B3 := Lib.hid (B2.out.trans (hb.mono B2.out.size))
  have E1 := Lib.hid ((hb.block _ (lt_of_heap E1.out)).trans E1.out)
  clear hb B2
  cases bg
  case true =>
    go_wp2_with fail
    go_ret
    exact ⟨rfl, B3.out⟩
  have HN := Lib.hid (HBg.out rfl)
  have hrl : r.list.length ≤ 100 := (big_not HN.out.1).1
  have hl40 : l.length ≤ 40 := HN.out.2.1
  clear HBg
  go_wp2_with (first
    | (refine wpList_load_row rfl _ _ rfl w.heap.size rfl 25 _ (0, 0) _ E1.out Tryz.underlying25 rfl rec_inf7 ?_))
  refine (snew_any r A c k w3 HI.out.ok (HI.out.its.below B3.out) (by omega)).mono ?_
  have HZ3 := Lib.hid B3.out.size
  have HRN := Lib.hid (fun u (h : Below w.heap.size w u) => r7new_any r A c k u HI.out.ok (HI.out.its.below h) (by unfold Lim; omega))
  rintro e w4 (⟨h0, rfl, hb⟩ | ⟨h0, g, Bn, cb, gl, cs, rfl, he, hb⟩)
  · have B4 := Lib.hid (B3.out.trans (hb.mono B3.out.size))
    have E1 := Lib.hid ((hb.block _ (lt_of_heap E1.out)).trans E1.out)
    clear hb B3
    go_wp2_with (first
      | (refine wpList_load_row rfl _ _ rfl w.heap.size rfl 25 _ (0, 0) _ E1.out Tryz.underlying25 rfl rec_inf7 ?_))
    refine (HRN.out _ B4.out).mono ?_
    rintro e w5 (⟨_, rfl, hb⟩ | ⟨h1, _⟩)
    · have B5 := Lib.hid (B4.out.trans (hb.mono B4.out.size))
      have hce : ((SH.newE r k : Int) != 0) = true := by simp; omega
      have hcc : ((SH.newE r k : Int) != (SH.newE r k : Int)) = false := by simp
      clear hb B4 h0 HRN
      generalize SH.newE r k = ce at *
      go_wp2_with fail
      go_ret
      exact ⟨rfl, B5.out⟩
    · exact absurd h1 h0
  have B4 := Lib.hid (B3.out.trans (hb.mono B3.out.size))
  have E1 := Lib.hid ((hb.block _ (lt_of_heap E1.out)).trans E1.out)
  have HE0 := Lib.hid he
  clear hb B3 he
  go_wp2_with (first
    | (refine wpList_load_row rfl _ _ rfl w.heap.size rfl 25 _ (0, 0) _ E1.out Tryz.underlying25 rfl rec_inf7 ?_))
  refine (HRN.out _ B4.out).mono ?_
  rintro e w5 (⟨h1, _⟩ | ⟨_, h, h1, e1, h2, e2, cu, cd, rfl, hre, hb⟩)
  · exact absurd h0 h1
  have hkn : ∃ n : Nat, k = (n : Int) ∧ 1 ≤ n ∧ n ≤ 8 ∧ RC.chk r = 0 := by
    have h9 := h0
    unfold SH.newE at h9
    split at h9
    · cases h9
    · rename_i h7
      split at h9
      · rename_i h8; exact absurd h9 h8
      · rename_i h8
        exact ⟨k.toNat, by omega, by omega, by omega, by omega⟩
  obtain ⟨n, rfl, hn1, hn8, hchk⟩ := hkn
  rw [Int.toNat_natCast] at hre
  have HE1 : Hid (EscAt w3.heap.size w4 g r.kind (SH.names r) (SH.rooms (SH.all r) n) Bn cb gl cs) := Lib.hid (by have h9 := HE0.out; rw [Int.toNat_natCast] at h9; exact h9)
  have B5 := Lib.hid (B4.out.trans (hb.mono B4.out.size))
  have HNe := Lib.hid (show g < w4.heap.size ∧ gl < w4.heap.size ∧ g ≠ gl ∧ w3.heap.size ≤ gl ∧ w4.heap.size ≤ h ∧ w4.heap.size ≤ h1 ∧ w4.heap.size ≤ h2 ∧ h ≠ h1 ∧ h ≠ h2 ∧ h1 ≠ h2 ∧ w.heap.size ≤ w3.heap.size ∧ w4.heap.size ≤ w5.heap.size ∧ h < w5.heap.size ∧ h1 < w5.heap.size ∧ h2 < w5.heap.size from ⟨lt_of_heap HE1.out.box, lt_of_heap HE1.out.row, HE1.out.ne.1, HE1.out.new.2.1, hre.new.1, hre.new.2.1, hre.new.2.2, hre.ne.1, hre.ne.2.1, hre.ne.2.2, HZ3.out, hb.size, lt_of_heap hre.box, lt_of_heap hre.up, lt_of_heap hre.down⟩)
  have HBox := Lib.hid (show w5.heap[g]? = some (.cells #[.int .i64 r.kind, .slice Bn (SH.names r).length cb, .slice (some ⟨gl, 0, none⟩) n n] 107 (0, 0)) from (hb.block _ HNe.out.1).trans (by have h9 := HE1.out.box; rw [rooms_len] at h9; exact h9))
  have HRow0 := Lib.hid ((hb.block _ HNe.out.2.1).trans HE1.out.row)
  have HRm0 := Lib.hid HE1.out.rms
  have HOwn := Lib.hid (own_below HE1.out.names hb)
  have HOb := Lib.hid (show ∀ j, ob Bn = some j → j ≠ gl ∧ j < w4.heap.size from fun j hj => ⟨fun e => HE1.out.ne.2.2 (by rw [hj, e]), in_row HE1.out.names j hj⟩)
  have HRe0 := Lib.hid hre
  have HCk := Lib.hid hchk
  have HBd0 := Lib.hid (show ∀ x ∈ SH.rooms (SH.all r) n, x.up < 18446744073709551616 ∧ x.down < 18446744073709551616 from fun x hx => by
    obtain ⟨q, hq, rfl⟩ := List.mem_map.1 hx
    have h3 := SH.all_lt HI.out.ok hchk
    have hp : ∀ t : Nat, SH.portion t q n ≤ t ∨ SH.portion t q n ≤ 1 := fun t => by
      unfold SH.portion
      have h5 := Nat.div_le_self t n
      split
      · rename_i h6
        have h7 : t % n ≤ t := Nat.mod_le t n
        by_cases h8 : n = 1
        · subst h8; rw [Nat.mod_one] at h6; omega
        · have h9 : t / n < t := Nat.div_lt_self (by omega) (by omega)
          exact .inl h9
      · exact .inl h5
    have p1 := hp (SH.all r).up
    have p2 := hp (SH.all r).down
    constructor
    · show SH.portion (SH.all r).up q n < _; omega
    · show SH.portion (SH.all r).down q n < _; omega)
  have HNam := Lib.hid (show (SH.names r).length ≤ 100 from by
    unfold SH.names
    split
    · rw [List.length_map]; exact hrl
    · exact Nat.zero_le _)
  clear hb B4 HE0 HE1 hre hchk h0 HRN E1
  generalize hw8 : w5 = w8 at *
  clear hw8
  have HSm := Lib.hid (show ∀ j, (j = gl ∨ j = h1 ∨ j = h2) → j < w8.heap.size ∧ w.heap.size ≤ j from fun j hj => by have h9 := HNe.out; omega)
  have HStr := Lib.hid (fun u (hk : Kp (fun j => j = gl ∨ j = h1 ∨ j = h2) w8 u) => show Strs u Bn (SH.names r) from strs_own rfl (hk.own HOwn.out (fun j e x => by rw [ownBlock_slice] at e; have h8 := HOb.out j e; have h9 := HNe.out; omega)))
  have HBe := Lib.hid (fun u (hk : Kp (fun j => j = gl ∨ j = h1 ∨ j = h2) w8 u) => show Below w.heap.size w u from B5.out.trans (hk.below B5.out.size (fun j hj x => by have h9 := HSm.out j x; omega)))
  have HBk := Lib.hid (fun u (hk : Kp (fun j => j = gl ∨ j = h1 ∨ j = h2) w8 u) => (hk.block _ (lt_of_heap HBox.out) (by have h9 := HNe.out; omega)).trans HBox.out)
  clear HOwn HOb
  go_wp2_with fail
  go_loopw [11, 53] (fun t11 t53 wr => ∃ (m : Nat) (S : List Al) (B : Option Addr) (cx : Nat) (rs : List Rm) (cs cu cd : Array Value) (us ds : List Nat), t53 = .int .i64 m ∧ m ≤ l.length ∧ t11 = .slice B S.length cx ∧ S.length ≤ 2 ∧ AoAt w8 S B S.length cx wr ∧ (∀ y ∈ S, ActIn w y.r y.A y.c ∧ AC.big y.r = false) ∧ wr.heap[gl]? = some (.cells cs 104 (0, 0)) ∧ RmsAt cs rs ∧ REsc w4.heap.size wr h r A c n h1 e1 h2 e2 cu cd us ds ∧ rmsOf us ds = rs ∧ (∀ x ∈ rs, x.up < 18446744073709551616 ∧ x.down < 18446744073709551616) ∧ Kp (fun j => j = gl ∨ j = h1 ∨ j = h2) w8 wr) (fun _ t53 _ => l.length - (intOf t53).toNat)
  case atStart => exact ⟨0, [], none, 0, SH.rooms (SH.all r) n, cs, cu, cd, _, _, rfl, Nat.zero_le _, rfl, by simp, ⟨World.ownsRow_nil _ _ _ _, fun k e => (by cases e), rfl⟩, fun y hy => (by cases hy), HRow0.out, HRm0.out, HRe0.out, rooms_ports _ _, HBd0.out, Kp.refl _ _⟩
  case round =>
    obtain ⟨m, S, B, cx, rs, cs, cu, cd, us, ds, rfl, hm, rfl, hS2, hao, hSi, hrow, hrms, hre, hrs, hbd, hkp⟩ := hrel
    have HAo := Lib.hid hao
    have HBn := Lib.hid (show ∀ j, ob B = some j → w8.heap.size ≤ j ∧ j < wr.heap.size from fun j e => ⟨hao.newB j e, in_row hao.own j e⟩)
    have HSi := Lib.hid hSi
    have HRow := Lib.hid hrow
    have HRm := Lib.hid hrms
    have HRe := Lib.hid hre
    have HRs := Lib.hid hrs
    have HBd := Lib.hid hbd
    have HKp := Lib.hid hkp
    have BV := Lib.hid (HBe.out _ hkp)
    clear hao hSi hrow hrms hre hrs hbd hkp HRow0 HRm0 HRe0 HBd0 
    by_cases hlt : m < l.length
    · have hm1 : (m : Int) < (l.length : Int) := by omega
      have hin := (HL.out.all _ (List.getElem_mem hlt)).1
      have hbig := HN.out.2.2 _ (List.getElem_mem hlt)
      obtain ⟨b1, o1, hLe, hr1⟩ := deeds_range HL.out hlt
      subst hLe
      obtain ⟨dd, hd⟩ : ∃ d, d = l[m] := ⟨_, rfl⟩
      rw [← hd] at hin hr1 hbig
      clear hd
      obtain ⟨dk, a, La, ca⟩ := dd
      have HR1 := Lib.hid (range_keep9 BV.out hr1)
      have HSn := Lib.hid (show ∀ y ∈ S ++ [(⟨a, La, ca⟩ : Al)], ActIn w y.r y.A y.c ∧ AC.big y.r = false from fun y hy => by
        rcases List.mem_append.1 hy with h | h
        · exact HSi.out y h
        · simp at h; subst h; exact ⟨hin, hbig⟩)
      clear hin hr1 hbig
      go_upto_region 15 with (first
        | (refine wpList_load_mid rfl _ _ rfl b1 (o1 + m * 15) rfl (ddC ⟨dk, ⟨a, La, ca⟩⟩).toList _ HR1.out Tryz.underlying39 rfl deed_inf ?_)
        | (refine wpList_store_row rfl _ _ _ rfl _ (ddC ⟨dk, ⟨a, La, ca⟩⟩) rfl rfl 39 _ (heap_alloc_new _ _) deed_inf rfl (by kernel_rfl) ?_))
      rw [World.setRow_alloc_new]
      generalize hwb : World.alloc wr _ = wb
      have hbb : Below wr.heap.size wr wb := by rw [← hwb]; exact below1 wr _
      have R6 := Lib.hid (show wb.heap[wr.heap.size]? = some (.cells (ddC ⟨dk, ⟨a, La, ca⟩⟩) 39 (0, 0)) by rw [← hwb]; exact heap_alloc_new wr _)
      have HAo := Lib.hid (HAo.out.keep (Kp.of_below hbb (fun _ => False)) (fun j x => x.elim))
      have HRow := Lib.hid ((hbb.block _ (lt_of_heap HRow.out)).trans HRow.out)
      have HRe := Lib.hid (HRe.out.keep (Kp.of_below hbb (fun _ => False)) (fun x => x) (fun x => x) (fun x => x))
      have HZ6 := Lib.hid (show w8.heap.size ≤ wr.heap.size ∧ wr.heap.size < wb.heap.size from ⟨HKp.out.size, lt_of_heap R6.out⟩)
      have HKp := Lib.hid (HKp.out.trans (Kp.of_below hbb (fun j => j = gl ∨ j = h1 ∨ j = h2)) (fun _ _ x => x))
      generalize hg6 : wr.heap.size = g6 at *
      clear hwb hbb HR1 hg6 BV
      have HRa := Lib.hid (show wb.rangeAt g6 1 (actC a La ca).toList from fun j v hv => by
        rw [cell_of_row wb _ _ _ _ (0, 0) R6.out, ddC_at]
        rw [Array.getElem?_toList] at hv
        exact hv)
      have KO := Lib.hid (fun X => HAo.out.keep (Kp.of_below (below1 wb X) (fun _ => False)) (fun j x => x.elim))
      go_upto_region 16 with (first
        | (refine wpList_load_mid rfl _ _ rfl g6 1 rfl (actC a La ca).toList _ HRa.out Tryz.underlying37 rfl act_inf9 ?_)
        | (at_builtin
           refine wpList_append_at rfl _ _ _ _ rfl 37 i0 _ 14 152 Tryz.underlying51 hi0 hz0 hz1 hz2 rfl B S.length cx (acCells S) rfl (KO.out _).own _ 1 _ rfl (src_row Tryz.underlying51 _ (actC a La ca) _ (by simp) rfl (List.all_eq_true.1 rfl)) (by unfold maxLen; omega) (by omega) ?_
           intro B' cx' w10 ho10 hg10 hat10))
      have HA1 := Lib.hid ((KO.out _).next (a := ⟨a, La, ca⟩) (by have h9 := HZ6.out; simp only [World.size_alloc]; omega) hat10 ho10)
      have HK1 := Lib.hid (show Kp (fun j => j = gl ∨ j = h1 ∨ j = h2) w8 w10 from Kp.grown (HKp.out.alloc _) hg10 (fun j e => .inr (HBn.out j e).1))
      have hkb : Kp (fun j => ob B = some j) wb w10 := Kp.grown ((Kp.refl _ wb).alloc _) hg10 (fun j e => .inl e)
      have R6 := Lib.hid ((hkb.block _ (lt_of_heap R6.out) (fun e => by have h9 := HBn.out _ e; omega)).trans R6.out)
      have HRow := Lib.hid ((hkb.block _ (lt_of_heap HRow.out) (fun e => by have h9 := HBn.out _ e; have h8 := HNe.out; omega)).trans HRow.out)
      have HRe := Lib.hid (HRe.out.keep hkb (fun e => by have h9 := HBn.out _ e; have h8 := HNe.out; omega) (fun e => by have h9 := HBn.out _ e; have h8 := HNe.out; omega) (fun e => by have h9 := HBn.out _ e; have h8 := HNe.out; omega))
      have HG6 := Lib.hid (show w8.heap.size ≤ g6 ∧ g6 < w10.heap.size from ⟨HZ6.out.1, lt_of_heap R6.out⟩)
      have HSl := Lib.hid (show (S ++ [(⟨a, La, ca⟩ : Al)]).length = S.length + 1 by simp)
      have m14 : w10.cell? ⟨g6, 14, none⟩ = some (.bool a.must) := cell_of_row w10 _ 14 _ _ (0, 0) R6.out
      have hsl2 : S.length < 1000 := by omega
      clear ho10 hg10 hat10 hkb KO HAo HKp HRa HZ6 HBn
      go_cut [69] (fun t69 wx => t69 = .bool (decide (S.length + 1 < 3) && a.must) ∧ wx = w10)
      case first =>
        by_cases h3 : S.length + 1 < 3
        · have h3' : (S.length : Int) + 1 < 3 := by omega
          have hV := Lib.hid (show (decide (S.length + 1 < 3) && a.must) = a.must by rw [decide_eq_true h3]; rfl)
          clear h3
          go_wp2_with fail
          go_meet
          exact ⟨by rw [hV.out], rfl⟩
        · have h3' : ¬ (S.length : Int) + 1 < 3 := by omega
          have hV := Lib.hid (show (decide (S.length + 1 < 3) && a.must) = false by rw [decide_eq_false h3]; rfl)
          clear h3
          go_wp2_with fail
          go_meet
          exact ⟨by rw [hV.out], rfl⟩
      case rest =>
      obtain ⟨rfl, rfl⟩ := hcut
      generalize hwc : wc = wd at *
      clear hwc m14
      have hcd : (decide (S.length + 1 < 3) && a.must) = true → S.length + 1 ≤ 2 := fun h => by
        rw [Bool.and_eq_true] at h
        have := of_decide_eq_true h.1
        omega
      have HCd := Lib.hid hcd
      clear hcd
      generalize (decide (S.length + 1 < 3) && a.must) = cnd at *
      cases cnd
      case true =>
        have HS2 := Lib.hid (HCd.out rfl)
        go_wp2_with fail
        go_roundw
        case rel => exact ⟨m + 1, S ++ [⟨a, La, ca⟩], B', cx', rs, cs, cu, cd, us, ds, by go_num, by omega, by rw [HSl.out], by rw [HSl.out]; exact HS2.out, by rw [HSl.out]; exact HA1.out, HSn.out, HRow.out, HRm.out, HRe.out, HRs.out, HBd.out, HK1.out⟩
        case measure => simp [intOf]; omega
      clear HCd
      have hrn : rs.length = n := by rw [← HRs.out, rmsOf_len (by rw [HRe.out.lu, HRe.out.ld]), HRe.out.lu]
      have HRn := Lib.hid hrn
      have HB11 := Lib.hid (show wd.heap[g]? = some (.cells #[.int .i64 r.kind, .slice Bn (SH.names r).length cb, .slice (some ⟨gl, 0, none⟩) rs.length rs.length] 107 (0, 0)) from by have h9 := HBk.out _ HK1.out; rw [hrn]; exact h9)
      clear hrn
      go_wp2_with fail
      refine (sclone_any g gl r.kind (SH.names r) Bn cb rs cs wd HB11.out HRow.out HRm.out (HStr.out _ HK1.out) (by have h9 := HNam.out; omega) ⟨by have h9 := HRn.out; omega, by have h9 := HRn.out; omega⟩).mono ?_
      rintro e w11 ⟨gc, glc, cc, kd, V, csc, rfl, hbx, hrw, hel, hg1, hg2, hb⟩
      have HC1 := Lib.hid hbx
      have HC2 := Lib.hid hrw
      have HC3 := Lib.hid hel
      have HC4 := Lib.hid (show w8.heap.size ≤ gc ∧ w8.heap.size ≤ glc from by have h9 := HK1.out.size; omega)
      have R6 := Lib.hid ((hb.block _ (lt_of_heap R6.out)).trans R6.out)
      have HRow := Lib.hid ((hb.block _ (lt_of_heap HRow.out)).trans HRow.out)
      have HRe := Lib.hid (HRe.out.keep (Kp.of_below hb (fun _ => False)) (fun x => x) (fun x => x) (fun x => x))
      have HA1 := Lib.hid (HA1.out.keep (Kp.of_below hb (fun _ => False)) (fun j x => x.elim))
      have HK1 := Lib.hid (HK1.out.trans (Kp.of_below hb (fun j => j = gl ∨ j = h1 ∨ j = h2)) (fun _ _ x => x))
      have HB11 := Lib.hid ((hb.block _ (lt_of_heap HB11.out)).trans HB11.out)
      have d0 : w11.cell? ⟨g6, 0, none⟩ = some (.int .i64 dk) := cell_of_row w11 _ 0 _ _ (0, 0) R6.out
      clear hbx hrw hel hg1 hg2 hb
      go_wp2_with fail
      refine (sleft_any g gl dk r.kind (.slice Bn (SH.names r).length cb) rs cs w11 HB11.out HRow.out HRm.out).mono ?_
      rintro e w12 ⟨rfl, hb⟩
      have R6 := Lib.hid ((hb.block _ (lt_of_heap R6.out)).trans R6.out)
      have HC1 := Lib.hid ((hb.block _ (lt_of_heap HC1.out)).trans HC1.out)
      have HC2 := Lib.hid ((hb.block _ (lt_of_heap HC2.out)).trans HC2.out)
      have HRow := Lib.hid ((hb.block _ (lt_of_heap HRow.out)).trans HRow.out)
      have HRe := Lib.hid (HRe.out.keep (Kp.of_below hb (fun _ => False)) (fun x => x) (fun x => x) (fun x => x))
      have HA1 := Lib.hid (HA1.out.keep (Kp.of_below hb (fun _ => False)) (fun j x => x.elim))
      have HK1 := Lib.hid (HK1.out.trans (Kp.of_below hb (fun j => j = gl ∨ j = h1 ∨ j = h2)) (fun _ _ x => x))
      have HG6 := Lib.hid (show w8.heap.size ≤ g6 from HG6.out.1)
      clear hb d0 HB11
      have d0 : w12.cell? ⟨g6, 0, none⟩ = some (.int .i64 dk) := cell_of_row w12 _ 0 _ _ (0, 0) R6.out
      have HLc := Lib.hid (fun u (hk : Kp (fun j => j = gl ∨ j = h1 ∨ j = h2) w12 u) => sleftL_any gc glc cc dk kd V rs csc u ((hk.block _ (lt_of_heap HC1.out) (by have h9 := HC4.out; have h8 := HSm.out gc; intro x; have h7 := h8 x; omega)).trans HC1.out) ((hk.block _ (lt_of_heap HC2.out) (by have h9 := HC4.out; have h8 := HSm.out glc; intro x; have h7 := h8 x; omega)).trans HC2.out) HC3.out)
      have hSlen : (S ++ [(⟨a, La, ca⟩ : Al)]).length ≤ 1000 := by rw [HSl.out]; omega
      have HLm := Lib.hid (show ∀ y ∈ S ++ [(⟨a, La, ca⟩ : Al)], Lim y.r.make.list.length ∧ Lim y.r.key.size ∧ Lim y.r.s.size from fun y hy => by
        obtain ⟨_, h9⟩ := HSn.out y hy
        obtain ⟨h1, h2, h3⟩ := AC.big_not h9
        have h4 := (big_not h3).1
        exact ⟨by unfold Lim; omega, by unfold Lim; omega, by unfold Lim; omega⟩)
      have HAi := Lib.hid (fun u (hk : Kp (fun j => j = gl ∨ j = h1 ∨ j = h2) w12 u) => show ActsIn u B' (S ++ [(⟨a, La, ca⟩ : Al)]) from acts_own (n := S.length + 1) (c := cx') HSl.out.symm (HA1.out.keep hk (fun j x => (HSm.out j x).1)).own (fun y hy => (HSn.out y hy).1.keep (HBe.out _ (HK1.out.trans hk (fun _ _ x => x)))) (by rw [HSl.out]; unfold maxLen; omega))
      have HDa := Lib.hid (fun u (hk : Kp (fun j => j = gl ∨ j = h1 ∨ j = h2) w12 u) (hro : u.heap[gl]? = some (.cells cs 104 (0, 0))) => show Calls Tryz.prog 25 #[.pointer (some ⟨g, 0, none⟩), .int .i64 dk, .slice B' (S.length + 1) cx'] u (DrPost r.kind (SH.names r) rs dk ((S ++ [(⟨a, La, ca⟩ : Al)]).map (·.r)) gl u) from by
        have h9 := sdraw_any g gl r.kind (SH.names r) Bn cb rs cs dk (S ++ [(⟨a, La, ca⟩ : Al)]) B' cx' u (by have h8 := HBk.out _ (HK1.out.trans hk (fun _ _ x => x)); rw [HRn.out]; exact h8) hro HRm.out HBd.out (HStr.out _ (HK1.out.trans hk (fun _ _ x => x))) (by have h9 := HNam.out; omega) (HAi.out u hk) hSlen HLm.out (HR.out.below (HBe.out _ (HK1.out.trans hk (fun _ _ x => x)))) HNe.out.2.2.1
        rw [HSl.out] at h9
        exact h9)
      have HDb := Lib.hid (fun u (hk : Kp (fun j => j = gl ∨ j = h1 ∨ j = h2) w12 u) (hro : REsc w4.heap.size u h r A c n h1 e1 h2 e2 cu cd us ds) => show Calls Tryz.prog 26 #[.pointer (some ⟨h, 0, none⟩), .int .i64 dk, .slice B' (S.length + 1) cx'] u (RDPost r us ds dk ((S ++ [(⟨a, La, ca⟩ : Al)]).map (·.r)) w4.heap.size h A c n h1 e1 h2 e2 u) from by
        have h9 := r7draw_any w4.heap.size h r A c n h1 e1 h2 e2 cu cd us ds dk (S ++ [(⟨a, La, ca⟩ : Al)]) B' cx' u hro (HI.out.its.below (HBe.out _ (HK1.out.trans hk (fun _ _ x => x)))) (by omega) (fun i u0 d0 hu hd => HBd.out ⟨u0, d0⟩ (by rw [← HRs.out]; exact List.mem_of_getElem? (rmsOf_get hu hd))) (HAi.out u hk) hSlen HLm.out hn8
        rw [HSl.out] at h9
        exact h9)
      have HBd2 := Lib.hid (drawR_bd (kind := r.kind) (names := SH.names r) (k := dk) (l := (S ++ [(⟨a, La, ca⟩ : Al)]).map (·.r)) HBd.out)
      have HLn2 := Lib.hid (show (SH.drawR r.kind (SH.names r) rs dk ((S ++ [(⟨a, La, ca⟩ : Al)]).map (·.r))).length = n by rw [drawR_len, HRn.out])
      have HDbb := Lib.hid (fun (u : World) (e : Ending) (w' : World) (hp : RDPost r us ds dk ((S ++ [(⟨a, La, ca⟩ : Al)]).map (·.r)) w4.heap.size h A c n h1 e1 h2 e2 u e w') => show (e = .returned (.int .i64 (SH.drawE r.kind (SH.names r) rs dk ((S ++ [(⟨a, La, ca⟩ : Al)]).map (·.r)) : Nat)) ∧ (∃ cu cd us' ds', REsc w4.heap.size w' h r A c n h1 e1 h2 e2 cu cd us' ds' ∧ rmsOf us' ds' = SH.drawR r.kind (SH.names r) rs dk ((S ++ [(⟨a, La, ca⟩ : Al)]).map (·.r))) ∧ Kp (fun j => j = h1 ∨ j = h2) u w') from by
        have h9 := hp
        unfold RDPost at h9
        rw [HRs.out] at h9
        exact h9)
      have HDaa := Lib.hid (fun (u : World) (e : Ending) (w' : World) (hp : DrPost r.kind (SH.names r) rs dk ((S ++ [(⟨a, La, ca⟩ : Al)]).map (fun x : Al => x.r)) gl u e w') => show (e = .returned (.int .i64 (SH.drawE r.kind (SH.names r) rs dk ((S ++ [(⟨a, La, ca⟩ : Al)]).map (·.r)) : Nat)) ∧ (∃ cs, w'.heap[gl]? = some (.cells cs 104 (0, 0)) ∧ RmsAt cs (SH.drawR r.kind (SH.names r) rs dk ((S ++ [(⟨a, La, ca⟩ : Al)]).map (·.r)))) ∧ Kp (fun j => j = gl) u w') from hp)
      generalize SH.drawR r.kind (SH.names r) rs dk ((S ++ [(⟨a, La, ca⟩ : Al)]).map (·.r)) = rs2 at *
      generalize SH.drawE r.kind (SH.names r) rs dk ((S ++ [(⟨a, La, ca⟩ : Al)]).map (·.r)) = de at *
      generalize DrPost r.kind (SH.names r) rs dk ((S ++ [(⟨a, La, ca⟩ : Al)]).map (·.r)) gl = PA at *
      generalize RDPost r us ds dk ((S ++ [(⟨a, La, ca⟩ : Al)]).map (·.r)) w4.heap.size h A c n h1 e1 h2 e2 = PB at *
      clear HAi HLm HSn hSlen HC1 HC2 HC3 HC4
      have hdd : ((de : Int) != (de : Int)) = false := by simp
      go_upto_region 19 with fail
      go_cut [89] (fun t89 wx => t89 = .bool false ∧ ∃ (cs2 cu2 cd2 : Array Value) (us2 ds2 : List Nat), wx.heap[gl]? = some (.cells cs2 104 (0, 0)) ∧ RmsAt cs2 rs2 ∧ REsc w4.heap.size wx h r A c n h1 e1 h2 e2 cu2 cd2 us2 ds2 ∧ rmsOf us2 ds2 = rs2 ∧ Kp (fun j => j = gl ∨ j = h1 ∨ j = h2) w12 wx)
      case first =>
        have keep12 : ∀ {W : World}, Kp (fun j => j = gl ∨ j = h1 ∨ j = h2) w12 W → w12.cell? ⟨g6, 0, none⟩ = some (.int .i64 dk) → W.cell? ⟨g6, 0, none⟩ = some (.int .i64 dk) := fun hW hc => hW.cell hc (by have h9 := HG6.out; have h8 := HSm.out g6; intro x; have h7 := h8 x; omega)
        refine wp_region_held_drew (S := fun W => Kp (fun j => j = gl ∨ j = h1 ∨ j = h2) w12 W) (by kernel_rfl) (Kp.drew (Kp.refl _ _)) (fun hHeld => ?_)
        have HRv := Lib.hid (show (World.drew w12).heap[gl]? = some (.cells cs 104 (0, 0)) from HRow.out)
        have HRev := Lib.hid (HRe.out.keep (Kp.drew (Kp.refl (fun _ => False) w12)) (fun x => x) (fun x => x) (fun x => x))
        generalize World.drew w12 = v0 at *
        refine wpAnyH_take (i := 0) (oi := ⟨_, _, _, _, _, _⟩) (v := ?_) rfl (by kernel_rfl) (by kernel_rfl) (by kernel_rfl) (fun _ _ _ h => h) (Or.inl ⟨by kernel_rfl, ?_⟩) hHeld ?_
        rotate_left 1
        · intro W hW; first | (go_simp; done) | (go_simp; with_reducible rfl)
        try simp only [Act.put, List.setIfInBounds_toArray, List.set_cons_zero, List.set_cons_succ]
        refine wpAnyH_take (i := 1) (oi := ⟨_, _, _, _, _, _⟩) (v := ?_) rfl (by kernel_rfl) (by kernel_rfl) (by kernel_rfl) (fun _ _ _ h => h) (Or.inl ⟨by kernel_rfl, ?_⟩) hHeld ?_
        rotate_left 1
        · intro W hW; first | (go_simp; done) | (go_simp; with_reducible rfl)
        try simp only [Act.put, List.setIfInBounds_toArray, List.set_cons_zero, List.set_cons_succ]
        refine wpAnyH_take (i := 2) (oi := ⟨_, _, _, _, _, _⟩) (v := ?_) rfl (by kernel_rfl) (by kernel_rfl) (by kernel_rfl) (fun _ _ _ h => h) (Or.inl ⟨by kernel_rfl, ?_⟩) hHeld ?_
        rotate_left 1
        · intro W hW; have k0 := keep12 hW d0; first | (go_simp; done) | (go_simp; with_reducible rfl)
        try simp only [Act.put, List.setIfInBounds_toArray, List.set_cons_zero, List.set_cons_succ]
        refine wpAnyH_take (i := 3) (oi := ⟨_, _, _, _, _, _⟩) (v := ?_) rfl (by kernel_rfl) (by kernel_rfl) (by kernel_rfl) (fun _ _ _ h => h) (Or.inl ⟨by kernel_rfl, ?_⟩) hHeld ?_
        rotate_left 1
        · intro W hW; first | (go_simp; done) | (go_simp; with_reducible rfl)
        try simp only [Act.put, List.setIfInBounds_toArray, List.set_cons_zero, List.set_cons_succ]
        refine wpAnyH_take (i := 5) (oi := ⟨_, _, _, _, _, _⟩) (v := ?_) rfl (by kernel_rfl) (by kernel_rfl) (by kernel_rfl) (fun _ _ _ h => h) (Or.inl ⟨by kernel_rfl, ?_⟩) hHeld ?_
        rotate_left 1
        · intro W hW; first | (go_simp; done) | (go_simp; with_reducible rfl)
        try simp only [Act.put, List.setIfInBounds_toArray, List.set_cons_zero, List.set_cons_succ]
        refine wpAnyH_take (i := 6) (oi := ⟨_, _, _, _, _, _⟩) (v := ?_) rfl (by kernel_rfl) (by kernel_rfl) (by kernel_rfl) (fun _ _ _ h => h) (Or.inl ⟨by kernel_rfl, ?_⟩) hHeld ?_
        rotate_left 1
        · intro W hW; first | (go_simp; done) | (go_simp; with_reducible rfl)
        try simp only [Act.put, List.setIfInBounds_toArray, List.set_cons_zero, List.set_cons_succ]
        refine wpAnyH_take (i := 7) (oi := ⟨_, _, _, _, _, _⟩) (v := ?_) rfl (by kernel_rfl) (by kernel_rfl) (by kernel_rfl) (fun _ _ _ h => h) (Or.inl ⟨by kernel_rfl, ?_⟩) hHeld ?_
        rotate_left 1
        · intro W hW; have k0 := keep12 hW d0; first | (go_simp; done) | (go_simp; with_reducible rfl)
        try simp only [Act.put, List.setIfInBounds_toArray, List.set_cons_zero, List.set_cons_succ]
        refine wpAnyH_take (i := 8) (oi := ⟨_, _, _, _, _, _⟩) (v := ?_) rfl (by kernel_rfl) (by kernel_rfl) (by kernel_rfl) (fun _ _ _ h => h) (Or.inl ⟨by kernel_rfl, ?_⟩) hHeld ?_
        rotate_left 1
        · intro W hW; first | (go_simp; done) | (go_simp; with_reducible rfl)
        try simp only [Act.put, List.setIfInBounds_toArray, List.set_cons_zero, List.set_cons_succ]
        refine wpAnyH_ready (rs := [4]) (by kernel_rfl) (by simp) ?_
        refine AllReadyH.cons rfl (fun K hK => ?_) AllReadyH.nil
        go_simp
        refine (HDa.out _ hHeld HRv.out).mono ?_
        intro e v1 hp
        obtain ⟨rfl, ⟨cs2, hro2, hrm2⟩, hk9⟩ := HDaa.out _ _ _ hp
        have HX1 := Lib.hid (And.intro hro2 hrm2)
        have HRe1 := Lib.hid (HRev.out.keep hk9 (by have h9 := HNe.out; omega) (by have h9 := HNe.out; omega) (by have h9 := HNe.out; omega))
        have hkx : Kp (fun j => j = gl ∨ j = h1 ∨ j = h2) v0 v1 := hk9.mono (fun _ _ x => .inl x)
        clear hp hro2 hrm2 hk9
        go_wp2_with fail
        refine hK.out _ _ ?_ (fun hHelda => ?_)
        · exact hHeld.trans hkx (fun _ _ x => x)
        clear hK K
        try simp only [Act.put, List.setIfInBounds_toArray, List.set_cons_zero, List.set_cons_succ]
        clear hkx
        refine wpAnyH_ready (rs := [9]) (by kernel_rfl) (by simp) ?_
        refine AllReadyH.cons rfl (fun K hK => ?_) AllReadyH.nil
        go_simp
        refine (HDb.out _ hHelda HRe1.out).mono ?_
        intro e v2 hp
        obtain ⟨rfl, ⟨cu2, cd2, us2, ds2, hre2, hrs2⟩, hk9⟩ := HDbb.out _ _ _ hp
        have HX2 := Lib.hid (And.intro hre2 hrs2)
        have HX1 := Lib.hid (And.intro ((hk9.block _ (lt_of_heap HX1.out.1) (by have h9 := HNe.out; omega)).trans HX1.out.1) HX1.out.2)
        have hkx : Kp (fun j => j = gl ∨ j = h1 ∨ j = h2) v1 v2 := hk9.mono (fun _ _ x => .inr x)
        clear hp hre2 hrs2 hk9
        go_wp2_with fail
        refine hK.out _ _ ?_ (fun hHeldaa => ?_)
        · exact hHelda.trans hkx (fun _ _ x => x)
        clear hK K
        try simp only [Act.put, List.setIfInBounds_toArray, List.set_cons_zero, List.set_cons_succ]
        clear hkx
        refine wpAnyH_take (i := 10) (oi := ⟨_, _, _, _, _, _⟩) (v := ?_) rfl (by kernel_rfl) (by kernel_rfl) (by kernel_rfl) (fun _ _ _ h => h) (Or.inl ⟨by kernel_rfl, ?_⟩) hHeldaa ?_
        rotate_left 1
        · intro W hW; first | (go_simp; done) | (go_simp; with_reducible rfl)
        try simp only [Act.put, List.setIfInBounds_toArray, List.set_cons_zero, List.set_cons_succ]
        refine wpAnyH_done (by kernel_rfl) ?_ _
        have HF := Lib.hid hHeldaa
        go_wp2_with fail
        go_meet
        exact ⟨rfl, cs2, cu2, cd2, us2, ds2, HX1.out.1, HX1.out.2, HX2.out.1, HX2.out.2, HF.out⟩
      case rest =>
      obtain ⟨rfl, cs2, cu2, cd2, us2, ds2, hro2, hrm2, hre2, hrs2, hk2⟩ := hcut
      generalize hwc : wc = w13 at *
      clear hwc hdd HDa HDb HDaa HDbb d0
      have HRo2 := Lib.hid hro2
      have HRm2 := Lib.hid hrm2
      have HRe2 := Lib.hid hre2
      have HRs2 := Lib.hid hrs2
      have HK2 := Lib.hid (HK1.out.trans hk2 (fun _ _ x => x))
      have HLd := Lib.hid (HLc.out _ hk2)
      have d0 : w13.cell? ⟨g6, 0, none⟩ = some (.int .i64 dk) := hk2.cell (cell_of_row w12 _ 0 _ _ (0, 0) R6.out) (by have h9 := HG6.out; have h8 := HSm.out g6; intro x; have h7 := h8 x; omega)
      clear hro2 hrm2 hre2 hrs2 hk2 HLc HK1 HRow HRe HA1 R6
      go_wp2_with fail
      refine HLd.out.mono ?_
      generalize SH.left rs dk = lf at *
      obtain ⟨lu, lv⟩ := lf
      rintro e w14 ⟨rfl, hb⟩
      have hx1 : ((lu : Int) != (lu : Int)) = false := by simp
      have hx2 : ((lv : Int) != (lv : Int)) = false := by simp
      have HRo2 := Lib.hid ((hb.block _ (lt_of_heap HRo2.out)).trans HRo2.out)
      have HRe2 := Lib.hid (HRe2.out.keep (Kp.of_below hb (fun _ => False)) (fun x => x) (fun x => x) (fun x => x))
      have HK2 := Lib.hid (HK2.out.trans (Kp.of_below hb (fun j => j = gl ∨ j = h1 ∨ j = h2)) (fun _ _ x => x))
      clear hb HLd d0
      have hn8' : (n : Int) ≤ 8 := by omega
      go_wp2_with fail
      go_loopw [19] (fun t19 wu => ∃ j : Int, t19 = .int .i64 j ∧ -1 ≤ j ∧ j ≤ (n : Int) + 1 ∧ Below w14.heap.size w14 wu) (fun t19 _ => ((n : Int) + 2 - intOf t19).toNat)
      case atStart => exact ⟨-1, rfl, by omega, by omega, Below.refl _ _⟩
      case round =>
        obtain ⟨j, rfl, hj0, hj1, hb⟩ := hrel
        generalize wr = wu at *
        have BU := Lib.hid hb
        have HKu := Lib.hid (HK2.out.trans (Kp.of_below hb (fun j => j = gl ∨ j = h1 ∨ j = h2)) (fun _ _ x => x))
        have HReu := Lib.hid (HRe2.out.keep (Kp.of_below hb (fun _ => False)) (fun x => x) (fun x => x) (fun x => x))
        have HRou := Lib.hid ((hb.block _ (lt_of_heap HRo2.out)).trans HRo2.out)
        clear hb
        have hj9 : j ≤ 9 := by omega
        by_cases hjn : j ≤ (n : Int)
        · have HLf := Lib.hid (sleft_any g gl j r.kind (.slice Bn (SH.names r).length cb) rs2 cs2 wu (by have h9 := HBk.out _ HKu.out; rw [HLn2.out]; exact h9) HRou.out HRm2.out)
          by_cases hin : 0 ≤ j ∧ j < (n : Int)
          · obtain ⟨q, rfl⟩ : ∃ q : Nat, j = (q : Int) := ⟨j.toNat, by omega⟩
            have hq : q < n := by omega
            obtain ⟨u0, hu0⟩ : ∃ u, us2[q]? = some u := ⟨_, List.getElem?_eq_getElem (by rw [HRe2.out.lu]; exact hq)⟩
            obtain ⟨v0, hv0⟩ : ∃ d, ds2[q]? = some d := ⟨_, List.getElem?_eq_getElem (by rw [HRe2.out.ld]; exact hq)⟩
            rw [left_in (by rw [← HRs2.out]; exact rmsOf_get hu0 hv0)] at HLf
            have HU0 := Lib.hid (And.intro hu0 hv0)
            have hqn : (q : Int) < (n : Int) := by omega
            have hqe : ((q : Int) == (n : Int)) = false := by simp; omega
            have hy1 : ((u0 : Int) != (u0 : Int)) = false := by simp
            have hy2 : ((v0 : Int) != (v0 : Int)) = false := by simp
            clear hu0 hv0 hin hjn hj0 hj1 hq
            go_wp2_with fail
            refine HLf.out.mono ?_
            rintro e wv ⟨rfl, hb⟩
            have BVv := Lib.hid (BU.out.trans (hb.mono BU.out.size))
            have HRev := Lib.hid (HReu.out.keep (Kp.of_below hb (fun _ => False)) (fun x => x) (fun x => x) (fun x => x))
            have f8 : wv.cell? ⟨h, 8, none⟩ = some (.slice (some ⟨h1, 0, none⟩) n e1) := cell_of_row wv _ 8 _ _ (0, 0) HRev.out.box
            have f9 : wv.cell? ⟨h, 9, none⟩ = some (.slice (some ⟨h2, 0, none⟩) n e2) := cell_of_row wv _ 9 _ _ (0, 0) HRev.out.box
            have fu : wv.cell? ⟨h1, q, none⟩ = some (.int .u64 (u0 : Int)) := (cell_of_row wv _ _ _ _ (0, 0) HRev.out.up).trans (HRev.out.nu q u0 HU0.out.1)
            have fd : wv.cell? ⟨h2, q, none⟩ = some (.int .u64 (v0 : Int)) := (cell_of_row wv _ _ _ _ (0, 0) HRev.out.down).trans (HRev.out.nd q v0 HU0.out.2)
            clear hb HLf
            go_wp2_with fail
            go_roundw
            case rel => exact ⟨(q : Int) + 1, by first | rfl | go_num, by omega, by omega, BVv.out⟩
            case measure => simp [intOf]; omega
          · rw [left_out (by rw [HLn2.out]; exact hin)] at HLf
            by_cases hneg : j < 0
            · clear hin
              go_wp2_with fail
              refine HLf.out.mono ?_
              rintro e wv ⟨rfl, hb⟩
              have BVv := Lib.hid (BU.out.trans (hb.mono BU.out.size))
              clear hb HLf
              go_wp2_with fail
              go_roundw
              case rel => exact ⟨j + 1, by first | rfl | go_num, by omega, by omega, BVv.out⟩
              case measure => simp [intOf]; omega
            · have hje : (j == (n : Int)) = true := by simp; omega
              clear hin
              go_wp2_with fail
              refine HLf.out.mono ?_
              rintro e wv ⟨rfl, hb⟩
              have BVv := Lib.hid (BU.out.trans (hb.mono BU.out.size))
              clear hb HLf
              go_wp2_with fail
              go_roundw
              case rel => exact ⟨j + 1, by first | rfl | go_num, by omega, by omega, BVv.out⟩
              case measure => simp [intOf]; omega
        · go_wp2_with fail
          go_roundw
          case rel => exact ⟨m + 1, [], none, 0, rs2, cs2, cu2, cd2, us2, ds2, by go_num, by omega, rfl, by simp, ⟨World.ownsRow_nil _ _ _ _, fun k e => (by cases e), rfl⟩, fun y hy => (by cases hy), HRou.out, HRm2.out, HReu.out, HRs2.out, HBd2.out, HKu.out⟩
          case measure => simp [intOf]; omega
    · have hm1 : ¬ (m : Int) < (l.length : Int) := by omega
      go_wp2_with fail
      go_ret
      exact ⟨rfl, BV.out⟩
end Go.Proofs.YtbkcmnmbcldjoaaGreatDoor
