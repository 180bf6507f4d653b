/- The document's need of an act. -/
import Derived.Test.YtbkcmnmbcldjoaaGreatDoorSdXP7d
import Derived.Test.YtbkcmnmbcldjoaaGreatDoorShYP7d
import Derived.Test.YtbkcmnmbcldjoaaGreatDoorRef4bmP7d
namespace Go.Proofs.YtbkcmnmbcldjoaaGreatDoor
open Go.RowKit MM
set_option linter.unusedVariables false
set_option linter.unusedSimpArgs false
theorem strEq_comm (a b : ByteArray) : RC.strEq a b = RC.strEq b a := by
  unfold RC.strEq
  rw [Bool.eq_iff_iff]
  simp only [beq_iff_eq]
  exact eq_comm
set_option maxHeartbeats 8000000 in
set_option maxRecDepth 100000 in
theorem r7need_any (g : Nat) (r : RC.Rc) (A : Option Addr) (c m g1 c1 g2 c2 : Nat) (a : AC.Ac) (L : Option Addr) (cl : Nat) (w : World) (hE : w.heap[g]? = some (.cells (rescC r A c m g1 c1 g2 c2) 60 (0, 0))) (hA : Its w A r.list) (hn : r.list.length ≤ 100000) (ha : a.ok) (h0 : a.kind = 10 ∨ a.kind = 11 → 0 ≤ a.n) :
    Calls Tryz.prog 62 #[.pointer (some ⟨g, 0, none⟩), actV a L cl] w fun e w' => e = .returned (.tuple #[.int .u64 (SH.need (r.list.map (·.name)) a).up, .int .u64 (SH.need (r.list.map (·.name)) a).down]) ∧ Below w.heap.size w w' := by
  have HNn := Lib.hid (i64_lims ha.n)
  have HH := Lib.hid h0
  have HV := Lib.hid (show SH.need (r.list.map (·.name)) a = if a.kind = 8 then SH.ofPlus a.n else if a.kind = 10 then ⟨a.n.toNat, 0⟩ else if a.kind = 11 then ⟨0, a.n.toNat⟩ else if a.kind = 18 then (if SH.hasS (r.list.map (·.name)) a.s then ⟨0, 0⟩ else ⟨1, 0⟩) else ⟨0, 0⟩ from rfl)
  generalize SH.need (r.list.map (·.name)) a = v at *
  have c7 : w.cell? ⟨g, 7, none⟩ = some (.slice A r.list.length c) := cell_of_row w _ 7 _ _ (0, 0) hE
  have HA := Lib.hid hA
  have HC7 := Lib.hid c7
  clear hE hA ha h0 c7
  obtain ⟨k, key, n, x, s, mk, must⟩ := a
  go_enter Tryz.func62, Tryz.ntmps62
  go_upto_region 1 with fail
  generalize hw1 : World.alloc w _ = w1
  have HB := Lib.hid (show Below w.heap.size w w1 by rw [← hw1]; exact below1 w _)
  have E1 := Lib.hid (show w1.heap[w.heap.size]? = some (.cells (actC ⟨k, key, n, x, s, mk, must⟩ L cl) 37 (0, 0)) by rw [← hw1]; exact heap_alloc_new w _)
  clear hw1
  have p0 : w1.cell? ⟨w.heap.size, 0, none⟩ = some (.int .i64 k) := cell_of_row w1 _ 0 _ _ (0, 0) E1.out
  have p2 : w1.cell? ⟨w.heap.size, 2, none⟩ = some (.int .i64 n) := cell_of_row w1 _ 2 _ _ (0, 0) E1.out
  have p4 : w1.cell? ⟨w.heap.size, 4, none⟩ = some (.string s) := cell_of_row w1 _ 4 _ _ (0, 0) E1.out
  by_cases h8 : k = 8
  · subst h8
    have HW := Lib.hid (show v = SH.ofPlus n by rw [HV.out] <;> rfl)
    by_cases hneg : n < 0
    · have HNg := Lib.hid hneg
      go_upto_region 2 with fail
      go_quiet (fail)
      go_wp2_with fail
      go_ret2
      refine ⟨tup2 ?_ ?_, HB.out.trans ((below_drewN (Below.refl _ w1) _).mono HB.out.size)⟩
      all_goals
        rw [HW.out]
        unfold SH.ofPlus
        rw [if_pos HNg.out]
        have h1 := HNn.out
        have h2 := HNg.out
        try simp only [u64_wrap]
        try unfold wrap64
        omega
    · have HNg := Lib.hid hneg
      go_wp2_with fail
      go_ret2
      refine ⟨tup2 ?_ ?_, HB.out⟩
      all_goals
        rw [HW.out]
        unfold SH.ofPlus
        rw [if_neg (show ¬ n < 0 by have h7 := HNg.out; omega)]
        have h1 := HNn.out
        have h2 := HNg.out
        try simp only [u64_wrap]
        omega
  have h8' := h8
  have b8 : (k == 8) = false := beq_eq_false_iff_ne.2 h8
  by_cases h10 : k = 10
  · subst h10
    have HW := Lib.hid (show v = ⟨n.toNat, 0⟩ by rw [HV.out] <;> rfl)
    have HP := Lib.hid (show 0 ≤ n from HH.out (.inl rfl))
    clear h8 h8' b8
    go_wp2_with fail
    go_ret2
    refine ⟨tup2 ?_ ?_, HB.out⟩
    all_goals
      rw [HW.out]
      have h1 := HNn.out
      have h2 := HP.out
      try simp only [u64_wrap]
      omega
  have b10 : (k == 10) = false := beq_eq_false_iff_ne.2 h10
  by_cases h11 : k = 11
  · subst h11
    have HW := Lib.hid (show v = ⟨0, n.toNat⟩ by rw [HV.out] <;> rfl)
    have HP := Lib.hid (show 0 ≤ n from HH.out (.inr rfl))
    clear h8 h8' b8 h10 b10
    go_upto_region 6 with fail
    go_quiet (fail)
    go_wp2_with fail
    go_ret2
    refine ⟨tup2 ?_ ?_, HB.out.trans ((below_drewN (Below.refl _ w1) _).mono HB.out.size)⟩
    all_goals
      rw [HW.out]
      have h1 := HNn.out
      have h2 := HP.out
      try simp only [u64_wrap]
      omega
  have b11 : (k == 11) = false := beq_eq_false_iff_ne.2 h11
  by_cases h18 : k = 18
  case neg =>
    have b18 : (k == 18) = false := beq_eq_false_iff_ne.2 h18
    have HW := Lib.hid (show v = ⟨0, 0⟩ by rw [HV.out, if_neg h8, if_neg h10, if_neg h11, if_neg h18])
    clear h8 h8' h10 h11 h18
    go_wp2_with fail
    go_ret2
    refine ⟨tup2 ?_ ?_, HB.out⟩
    all_goals
      rw [HW.out]
      rfl
  subst h18
  have HW := Lib.hid (show v = if SH.hasS (r.list.map (·.name)) s then ⟨0, 0⟩ else ⟨1, 0⟩ by rw [HV.out] <;> rfl)
  clear h8 h8' b8 h10 b10 h11 b11
  go_wp2_with fail
  go_loopw [6] (fun t6 wr => ∃ i : Nat, t6 = .int .i64 i ∧ i ≤ r.list.length ∧ (∀ y ∈ r.list.take i, RC.strEq y.name s = false) ∧ Below w1.heap.size w1 wr) (fun t6 _ => r.list.length - (intOf t6).toNat)
  case atStart => exact ⟨0, rfl, Nat.zero_le _, (fun y hy => by cases hy), Below.refl _ _⟩
  case round =>
    obtain ⟨i, rfl, hi, hno, hb⟩ := hrel
    have HNo := Lib.hid hno
    have BW := Lib.hid (HB.out.trans (hb.mono HB.out.size))
    have HBl := Lib.hid hb
    have c7 := below_keep BW.out HC7.out
    have q4 : wr.cell? ⟨w.heap.size, 4, none⟩ = some (.string s) := below_keep hb p4
    clear hno hb p0 p2
    by_cases hlt : i < r.list.length
    · have hi1 : (i : Int) < (r.list.length : Int) := by omega
      have HMem := Lib.hid (List.getElem_mem hlt)
      have HTk := Lib.hid (List.take_succ_eq_append_getElem hlt)
      rcases HA.out with h0 | ⟨b, off, hAe, hb, hrow⟩
      · rw [h0] at hlt; simp at hlt
      subst hAe
      have hc1 := below_keep BW.out (hrow i r.list[i] (List.getElem?_eq_getElem hlt)).2
      obtain ⟨y, hy⟩ : ∃ y, y = r.list[i] := ⟨_, rfl⟩
      rw [← hy] at hc1 HMem HTk
      clear hrow hb hy
      cases he : RC.strEq y.name s
      · have he' : (y.name.toList == s.toList) = false := he
        have He := Lib.hid he
        clear he
        go_upto_region 11 with fail
        go_quiet (fail)
        go_wp2_with fail
        go_roundw
        case rel =>
          refine ⟨i + 1, by go_num, by omega, fun z hz => ?_, below_drewN HBl.out _⟩
          rw [HTk.out] at hz
          rcases List.mem_append.1 hz with hz | hz
          · exact HNo.out z hz
          · simp at hz; subst hz; exact He.out
        case measure => simp [intOf]; omega
      · have he' : (y.name.toList == s.toList) = true := he
        have HX := Lib.hid (show v = ⟨0, 0⟩ by
          rw [HW.out, if_pos]
          unfold SH.hasS
          exact List.any_eq_true.2 ⟨y.name, List.mem_map.2 ⟨y, HMem.out, rfl⟩, by rw [strEq_comm]; exact he⟩)
        clear he
        go_upto_region 11 with fail
        go_quiet (fail)
        go_wp2_with fail
        go_ret2
        refine ⟨tup2 ?_ ?_, below_drewN BW.out _⟩
        all_goals
          rw [HX.out]
          rfl
    · have hi' : i = r.list.length := by omega
      have hi1 : ¬ (i : Int) < (r.list.length : Int) := by omega
      have HX := Lib.hid (show v = ⟨1, 0⟩ by
        have hf : SH.hasS (r.list.map (·.name)) s = false := by
          unfold SH.hasS
          rw [List.any_eq_false]
          intro z hz
          obtain ⟨y, hy, rfl⟩ := List.mem_map.1 hz
          have h9 := HNo.out y (by rw [hi', List.take_length]; exact hy)
          rw [strEq_comm, h9]
          simp
        rw [HW.out, hf]
        rfl)
      clear hlt hi hi'
      go_wp2_with fail
      go_ret2
      refine ⟨tup2 ?_ ?_, BW.out⟩
      all_goals
        rw [HX.out]
        rfl
end Go.Proofs.YtbkcmnmbcldjoaaGreatDoor

namespace Go.Proofs.YtbkcmnmbcldjoaaGreatDoor
open Go.RowKit MM
set_option linter.unusedVariables false
set_option linter.unusedSimpArgs false
/-- The rooms of two rows of numbers. -/
def rmsOf (us ds : List Nat) : List Rm := (us.zip ds).map fun p => ⟨p.1, p.2⟩
theorem zip_get {us ds : List Nat} {i u d : Nat} (h1 : us[i]? = some u) (h2 : ds[i]? = some d) : (us.zip ds)[i]? = some (u, d) := (List.getElem?_zip_eq_some (z := (u, d))).2 ⟨h1, h2⟩
theorem rmsOf_get {us ds : List Nat} {i : Nat} {u d : Nat} (h1 : us[i]? = some u) (h2 : ds[i]? = some d) : (rmsOf us ds)[i]? = some ⟨u, d⟩ := by
  unfold rmsOf
  rw [List.getElem?_map, zip_get h1 h2]
  rfl
theorem rmsOf_len {us ds : List Nat} (h : us.length = ds.length) : (rmsOf us ds).length = us.length := by
  unfold rmsOf
  rw [List.length_map, List.length_zip]
  omega
theorem need_names {r : RC.Rc} {a : AC.Ac} (h : SH.splits r.kind a.kind = true) : SH.need (r.list.map (·.name)) a = SH.need (SH.names r) a := by
  by_cases h8 : r.kind = 8
  · unfold SH.names
    rw [if_pos h8]
  · have h18 : a.kind ≠ 18 := fun e => by
      unfold SH.splits at h
      rw [Bool.and_eq_true, e] at h
      have h9 := beq_iff_eq.1 h.2
      exact h8 (h9.symm.trans (by decide))
    unfold SH.need
    split
    · rfl
    · split
      · rfl
      · split
        · rfl
        · first | (rw [if_neg h18]; done) | (rw [if_neg h18, if_neg h18]; done) | rfl
theorem takeE_1 {kind : Int} {names : List ByteArray} {x : Rm} {a : AC.Ac} (h : AC.chk a ≠ 0) : SH.takeE kind names x a = AC.chk a := by unfold SH.takeE; rw [if_pos h]
theorem takeE_5 {kind : Int} {names : List ByteArray} {x : Rm} {a : AC.Ac} (h : AC.chk a = 0) (h2 : SH.splits kind a.kind = false) : SH.takeE kind names x a = 5 := by unfold SH.takeE; rw [if_neg (by omega), if_pos h2]
theorem takeE_8 {kind : Int} {names : List ByteArray} {x : Rm} {a : AC.Ac} (h : AC.chk a = 0) (h2 : SH.splits kind a.kind = true) (h3 : x.up < (SH.need names a).up) (h4 : a.kind = 18) : SH.takeE kind names x a = 8 := by unfold SH.takeE; rw [if_neg (by omega), if_neg (by rw [h2]; simp), if_pos h3, if_pos h4]
theorem takeE_9 {kind : Int} {names : List ByteArray} {x : Rm} {a : AC.Ac} (h : AC.chk a = 0) (h2 : SH.splits kind a.kind = true) (h3 : x.up < (SH.need names a).up) (h4 : a.kind ≠ 18) : SH.takeE kind names x a = 9 := by unfold SH.takeE; rw [if_neg (by omega), if_neg (by rw [h2]; simp), if_pos h3, if_neg h4]
theorem takeE_10 {kind : Int} {names : List ByteArray} {x : Rm} {a : AC.Ac} (h : AC.chk a = 0) (h2 : SH.splits kind a.kind = true) (h3 : ¬ x.up < (SH.need names a).up) (h4 : x.down < (SH.need names a).down) : SH.takeE kind names x a = 10 := by unfold SH.takeE; rw [if_neg (by omega), if_neg (by rw [h2]; simp), if_neg h3, if_pos h4]
theorem takeE_0 {kind : Int} {names : List ByteArray} {x : Rm} {a : AC.Ac} (h : AC.chk a = 0) (h2 : SH.splits kind a.kind = true) (h3 : ¬ x.up < (SH.need names a).up) (h4 : ¬ x.down < (SH.need names a).down) : SH.takeE kind names x a = 0 ∧ SH.takeR kind names x a = ⟨x.up - (SH.need names a).up, x.down - (SH.need names a).down⟩ := by
  have h5 : SH.takeE kind names x a = 0 := by unfold SH.takeE; rw [if_neg (by omega), if_neg (by rw [h2]; simp), if_neg h3, if_neg h4]
  refine ⟨h5, ?_⟩
  unfold SH.takeR
  rw [if_pos h5]
theorem takeAll_stop {kind : Int} {names : List ByteArray} {x : Rm} {a : AC.Ac} {l : List AC.Ac} {e : Nat} (h : SH.takeE kind names x a = e) (h0 : e ≠ 0) : (SH.takeAll kind names x (a :: l)).1 = e := by
  unfold SH.takeAll
  rw [if_pos (by rw [h]; exact h0)]
  exact h
theorem takeAll_go {kind : Int} {names : List ByteArray} {x : Rm} {a : AC.Ac} {l : List AC.Ac} (h : SH.takeE kind names x a = 0) : SH.takeAll kind names x (a :: l) = SH.takeAll kind names (SH.takeR kind names x a) l := by
  conv => lhs; unfold SH.takeAll
  rw [if_neg (by omega)]
/-- What the document's Draw answers. -/
def RDPost (r : RC.Rc) (us ds : List Nat) (k : Int) (l : List AC.Ac) (B0 g : Nat) (A : Option Addr) (c n g1 c1 g2 c2 : Nat) (w : World) (e : Ending) (w' : World) : Prop :=
  e = .returned (.int .i64 (SH.drawE r.kind (SH.names r) (rmsOf us ds) k l : Nat)) ∧ (∃ cu cd us' ds', REsc B0 w' g r A c n g1 c1 g2 c2 cu cd us' ds' ∧ rmsOf us' ds' = SH.drawR r.kind (SH.names r) (rmsOf us ds) k l) ∧ Kp (fun j => j = g1 ∨ j = g2) w w'
theorem NuAt.set {cs : Array Value} {l : List Nat} (h : NuAt cs l) (i x : Nat) (hi : i < cs.size) : NuAt (cs.setIfInBounds i (.int .u64 (x : Int))) (l.set i x) := fun k y hy => by
  by_cases hk : k = i
  · subst hk
    rw [Array.getElem?_setIfInBounds_self_of_lt hi]
    have h1 := (List.getElem?_eq_some_iff.1 hy).1
    rw [List.length_set] at h1
    rw [List.getElem?_set_self h1] at hy
    injection hy with hy
    rw [hy]
  · rw [List.getElem?_set_ne (by omega)] at hy
    rw [Array.getElem?_setIfInBounds_ne (by omega)]
    exact h k y hy
theorem rms_set {us ds : List Nat} (i u d : Nat) : rmsOf (us.set i u) (ds.set i d) = (rmsOf us ds).set i ⟨u, d⟩ := by
  unfold rmsOf
  refine List.ext_getElem? fun k => ?_
  rw [List.getElem?_map]
  by_cases hk : k = i
  · subst hk
    by_cases h1 : k < us.length
    · by_cases h2 : k < ds.length
      · rw [zip_get (List.getElem?_set_self h1) (List.getElem?_set_self h2), List.getElem?_set_self (by simp; omega)]
        rfl
      · rw [List.getElem?_eq_none (by simp; omega), List.getElem?_eq_none (by simp; omega)]
        rfl
    · rw [List.getElem?_eq_none (by simp; omega), List.getElem?_eq_none (by simp; omega)]
      rfl
  · rw [List.getElem?_set_ne (by omega), List.getElem?_map]
    congr 1
    by_cases h1 : k < us.length ∧ k < ds.length
    · rw [zip_get ((List.getElem?_set_ne (by omega)).trans (List.getElem?_eq_getElem h1.1)) ((List.getElem?_set_ne (by omega)).trans (List.getElem?_eq_getElem h1.2)), zip_get (List.getElem?_eq_getElem h1.1) (List.getElem?_eq_getElem h1.2)]
    · rw [List.getElem?_eq_none (by simp; omega), List.getElem?_eq_none (by simp; omega)]
set_option maxHeartbeats 8000000 in
set_option maxRecDepth 100000 in
theorem r7draw_any (B0 g : Nat) (r : RC.Rc) (A : Option Addr) (c n g1 c1 g2 c2 : Nat) (cu cd : Array Value) (us ds : List Nat) (k : Int) (l : List Al) (L : Option Addr) (cl : Nat) (w : World) (hE : REsc B0 w g r A c n g1 c1 g2 c2 cu cd us ds) (hA : Its w A r.list) (hnl : r.list.length ≤ 100000) (hB : ∀ i u d : Nat, us[i]? = some u → ds[i]? = some d → u < 18446744073709551616 ∧ d < 18446744073709551616) (hl : ActsIn w L l) (hln : l.length ≤ 1000) (hs : ∀ x ∈ l, Lim x.r.make.list.length ∧ Lim x.r.key.size ∧ Lim x.r.s.size) (hnn : n ≤ 8) :
    Calls Tryz.prog 26 #[.pointer (some ⟨g, 0, none⟩), .int .i64 k, .slice L l.length cl] w (RDPost r us ds k (l.map (·.r)) B0 g A c n g1 c1 g2 c2 w) := by
  have HE := Lib.hid hE
  have HL := Lib.hid hl
  have HS := Lib.hid hs
  have hgb := lt_of_heap hE.box
  have HNd := Lib.hid (fun (a : AC.Ac) (Lx : Option Addr) (cx : Nat) u (h : Below w.heap.size w u) (ha : a.ok) (h0 : a.kind = 10 ∨ a.kind = 11 → 0 ≤ a.n) => r7need_any g r A c n g1 c1 g2 c2 a Lx cx u ((h.block _ hgb).trans hE.box) (hA.below h) hnl ha h0)
  have HDef := Lib.hid (fun e w' => show RDPost r us ds k (l.map (·.r)) B0 g A c n g1 c1 g2 c2 w e w' ↔ (e = .returned (.int .i64 (SH.drawE r.kind (SH.names r) (rmsOf us ds) k (l.map (·.r)) : Nat)) ∧ (∃ cu cd us' ds', REsc B0 w' g r A c n g1 c1 g2 c2 cu cd us' ds' ∧ rmsOf us' ds' = SH.drawR r.kind (SH.names r) (rmsOf us ds) k (l.map (·.r))) ∧ Kp (fun j => j = g1 ∨ j = g2) w w') from Iff.rfl)
  have HV := Lib.hid (show SH.drawE r.kind (SH.names r) (rmsOf us ds) k (l.map (·.r)) = if 0 ≤ k ∧ k < ((rmsOf us ds).length : Int) then (SH.takeAll r.kind (SH.names r) (((rmsOf us ds)[k.toNat]?).getD ⟨0, 0⟩) (l.map (·.r))).1 else 1 from rfl)
  have HR := Lib.hid (show SH.drawR r.kind (SH.names r) (rmsOf us ds) k (l.map (·.r)) = if SH.drawE r.kind (SH.names r) (rmsOf us ds) k (l.map (·.r)) = 0 then (rmsOf us ds).set k.toNat (SH.takeAll r.kind (SH.names r) (((rmsOf us ds)[k.toNat]?).getD ⟨0, 0⟩) (l.map (·.r))).2 else rmsOf us ds from rfl)
  generalize RDPost r us ds k (l.map (·.r)) B0 g A c n g1 c1 g2 c2 w = PP at *
  generalize SH.drawR r.kind (SH.names r) (rmsOf us ds) k (l.map (·.r)) = dr at *
  generalize SH.drawE r.kind (SH.names r) (rmsOf us ds) k (l.map (·.r)) = de at *
  have hrl : (rmsOf us ds).length = n := by rw [rmsOf_len (by rw [hE.lu, hE.ld]), hE.lu]
  rw [hrl] at HV
  have HBad := Lib.hid (fun (m : Nat) u (h1 : de = m) (h2 : m ≠ 0) (hb : Below w.heap.size w u) => show PP (.returned (.int .i64 (m : Nat))) u from (HDef.out _ _).2 ⟨by rw [h1], ⟨cu, cd, us, ds, hE.keep (Kp.of_below hb (fun _ => False)) (fun x => x) (fun x => x) (fun x => x), by rw [HR.out, if_neg (by omega)]⟩, Kp.of_below hb _⟩)
  have hc1 : w.cell? ⟨g, 8, none⟩ = some (.slice (some ⟨g1, 0, none⟩) n c1) := cell_of_row w _ 8 _ _ (0, 0) hE.box
  have hc2 : w.cell? ⟨g, 9, none⟩ = some (.slice (some ⟨g2, 0, none⟩) n c2) := cell_of_row w _ 9 _ _ (0, 0) hE.box
  have hc0 : w.cell? ⟨g, 0, none⟩ = some (.int .i64 r.kind) := cell_of_row w _ 0 _ _ (0, 0) hE.box
  clear hE hl hs hA hgb hrl
  go_enter Tryz.func26, Tryz.ntmps26
  by_cases hk0 : k < 0
  · have HQ := Lib.hid (HBad.out 1 w (by rw [HV.out, if_neg (by omega)]) (by omega) (Below.refl _ _))
    go_wp2_with fail
    exact HQ.out
  by_cases hkn : (n : Int) ≤ k
  · have HQ := Lib.hid (HBad.out 1 w (by rw [HV.out, if_neg (by omega)]) (by omega) (Below.refl _ _))
    go_wp2_with fail
    exact HQ.out
  obtain ⟨i, rfl⟩ : ∃ i : Nat, k = (i : Int) := ⟨k.toNat, by omega⟩
  have hin : i < n := by omega
  obtain ⟨u0, hu0⟩ : ∃ u, us[i]? = some u := ⟨_, List.getElem?_eq_getElem (by rw [HE.out.lu]; exact hin)⟩
  obtain ⟨v0, hv0⟩ : ∃ d, ds[i]? = some d := ⟨_, List.getElem?_eq_getElem (by rw [HE.out.ld]; exact hin)⟩
  have hx0 := rmsOf_get hu0 hv0
  have HV := Lib.hid (show de = (SH.takeAll r.kind (SH.names r) ⟨u0, v0⟩ (l.map (·.r))).1 by rw [HV.out, if_pos (by omega), Int.toNat_natCast, hx0]; rfl)
  have HR := Lib.hid (show dr = if de = 0 then (rmsOf us ds).set i (SH.takeAll r.kind (SH.names r) ⟨u0, v0⟩ (l.map (·.r))).2 else rmsOf us ds by rw [HR.out, Int.toNat_natCast, hx0]; rfl)
  have hb0 := hB i u0 v0 hu0 hv0
  have e1 : w.cell? ⟨g1, i, none⟩ = some (.int .u64 (u0 : Int)) := (cell_of_row w _ _ _ _ (0, 0) HE.out.up).trans (HE.out.nu i u0 hu0)
  have e2 : w.cell? ⟨g2, i, none⟩ = some (.int .u64 (v0 : Int)) := (cell_of_row w _ _ _ _ (0, 0) HE.out.down).trans (HE.out.nd i v0 hv0)
  have hi1 : (i : Int) < (n : Int) := by omega
  have HIn := Lib.hid hin
  clear hx0 hB hu0 hv0 hin
  go_upto_region 3 with fail
  go_quiet (fail)
  go_wp2_with fail
  go_loopw [7, 8, 9] (fun t7 t8 t9 wr => ∃ (j : Nat) (u v : Nat), t9 = .int .i64 j ∧ j ≤ l.length ∧ t7 = .int .u64 (u : Int) ∧ t8 = .int .u64 (v : Int) ∧ SH.takeAll r.kind (SH.names r) ⟨u0, v0⟩ (l.map (·.r)) = SH.takeAll r.kind (SH.names r) ⟨u, v⟩ ((l.drop j).map (·.r)) ∧ (u < 18446744073709551616 ∧ v < 18446744073709551616) ∧ Below w.heap.size w wr) (fun _ _ t9 _ => l.length - (intOf t9).toNat)
  case atStart => exact ⟨0, u0, v0, rfl, Nat.zero_le _, rfl, rfl, rfl, hb0, below_drewN (Below.refl _ _) _⟩
  case round =>
    obtain ⟨j, u, v, rfl, hj, rfl, rfl, hta, huv, hb⟩ := hrel
    have HTA := Lib.hid hta
    have HUV := Lib.hid huv
    have BW := Lib.hid hb
    clear hta huv hb e1 e2 hb0
    by_cases hlt : j < l.length
    · have hj1 : (j : Int) < (l.length : Int) := by omega
      have hin := HL.out.all _ (List.getElem_mem hlt)
      have hsl := HS.out _ (List.getElem_mem hlt)
      have hdr : (l.drop j).map (·.r) = l[j].r :: (l.drop (j + 1)).map (·.r) := by rw [List.drop_eq_getElem_cons hlt]; rfl
      obtain ⟨b1, o1, hLe, hr1⟩ := acts_range9 HL.out hlt
      subst hLe
      obtain ⟨a, hae⟩ : ∃ a, a = l[j] := ⟨_, rfl⟩
      rw [← hae] at hin hsl hr1 hdr
      obtain ⟨a, La, ca⟩ := a
      have HI := Lib.hid hin
      have HSl := Lib.hid hsl
      have HTB := Lib.hid (show SH.takeAll r.kind (SH.names r) ⟨u0, v0⟩ (l.map (·.r)) = SH.takeAll r.kind (SH.names r) ⟨u, v⟩ (a :: (l.drop (j + 1)).map (·.r)) by rw [HTA.out, hdr])
      have HR0 := Lib.hid hr1
      have HR1 := Lib.hid (range_keep9 BW.out hr1)
      have HK0 := Lib.hid (show w.cell? ⟨b1, o1 + j * 14, none⟩ = some (.int .i64 a.kind) from hr1 0 _ rfl)
      clear hin hsl hr1 hae hdr
      go_wp2_with (first
        | (refine wpList_load_mid rfl _ _ rfl b1 (o1 + j * 14) rfl (actC a La ca).toList _ HR1.out Tryz.underlying37 rfl act_inf9 ?_))
      refine (rcheck4_any a La ca _ HI.out.ok (HI.out.make.its.below BW.out) HSl.out.1 HSl.out.2.1 HSl.out.2.2).mono ?_
      rintro e w3 ⟨rfl, hb⟩
      have B3 := Lib.hid (BW.out.trans (hb.mono BW.out.size))
      clear hb HR1 BW
      rcases Nat.eq_zero_or_pos (AC.chk a) with hc0' | hc0'
      rotate_left
      · have hne : ((AC.chk a : Int) != 0) = true := by simp; omega
        have HQ := Lib.hid (HBad.out (AC.chk a) w3 (by rw [HV.out, HTB.out, takeAll_stop (takeE_1 (by omega)) (by omega)]) (by omega) B3.out)
        generalize AC.chk a = ck at *
        go_wp2_with fail
        exact HQ.out
      rw [hc0']
      have HC := Lib.hid hc0'
      clear hc0'
      have HSp := Lib.hid (fun u => r7splits_any r.kind a.kind u)
      have k0 := below_keep B3.out hc0
      have q0 := below_keep B3.out HK0.out
      have hs5 : SH.splits r.kind a.kind = false ∨ SH.splits r.kind a.kind = true := by cases SH.splits r.kind a.kind <;> simp
      have H5 := Lib.hid (fun (h : SH.splits r.kind a.kind = false) u (hb : Below w.heap.size w u) => HBad.out 5 u (by rw [HV.out, HTB.out, takeAll_stop (takeE_5 HC.out h) (by omega)]) (by omega) hb)
      have HNm := Lib.hid (fun (h : SH.splits r.kind a.kind = true) => need_names (r := r) h)
      have H8 := Lib.hid (fun (h : SH.splits r.kind a.kind = true) (h3 : u < (SH.need (SH.names r) a).up) (h4 : a.kind = 18) w' (hb : Below w.heap.size w w') => HBad.out 8 w' (by rw [HV.out, HTB.out, takeAll_stop (takeE_8 HC.out h h3 h4) (by omega)]) (by omega) hb)
      have H9 := Lib.hid (fun (h : SH.splits r.kind a.kind = true) (h3 : u < (SH.need (SH.names r) a).up) (h4 : a.kind ≠ 18) w' (hb : Below w.heap.size w w') => HBad.out 9 w' (by rw [HV.out, HTB.out, takeAll_stop (takeE_9 HC.out h h3 h4) (by omega)]) (by omega) hb)
      have H10 := Lib.hid (fun (h : SH.splits r.kind a.kind = true) (h3 : ¬ u < (SH.need (SH.names r) a).up) (h4 : v < (SH.need (SH.names r) a).down) w' (hb : Below w.heap.size w w') => HBad.out 10 w' (by rw [HV.out, HTB.out, takeAll_stop (takeE_10 HC.out h h3 h4) (by omega)]) (by omega) hb)
      have HGo := Lib.hid (fun (h : SH.splits r.kind a.kind = true) (h3 : ¬ u < (SH.need (SH.names r) a).up) (h4 : ¬ v < (SH.need (SH.names r) a).down) => show SH.takeAll r.kind (SH.names r) ⟨u0, v0⟩ (l.map (·.r)) = SH.takeAll r.kind (SH.names r) ⟨u - (SH.need (SH.names r) a).up, v - (SH.need (SH.names r) a).down⟩ ((l.drop (j + 1)).map (·.r)) from by
        obtain ⟨h5, h6⟩ := takeE_0 (x := ⟨u, v⟩) HC.out h h3 h4
        rw [HTB.out, takeAll_go h5, h6])
      generalize SH.splits r.kind a.kind = sp at *
      go_upto_region 10 with fail
      go_cut [63] (fun t63 wx => t63 = .bool (!sp) ∧ Below w3.heap.size w3 wx)
      case first =>
        refine wp_region_held_drew (S := fun W => Below w3.heap.size w3 W) (by kernel_rfl) (below_drew (Below.refl _ _)) (fun hHeld => ?_)
        generalize World.drew w3 = vv at *
        refine wpAnyH_take (i := 0) (oi := ⟨_, _, _, _, _, _⟩) (v := ?_) rfl (by kernel_rfl) (by kernel_rfl) (by kernel_rfl) (fun _ _ _ h => h) (Or.inl ⟨by kernel_rfl, ?_⟩) hHeld ?_
        rotate_left 1
        · intro W hW; first | (go_simp; done) | (go_simp; with_reducible rfl)
        try simp only [Act.put, List.setIfInBounds_toArray, List.set_cons_zero, List.set_cons_succ]
        refine wpAnyH_take (i := 1) (oi := ⟨_, _, _, _, _, _⟩) (v := ?_) rfl (by kernel_rfl) (by kernel_rfl) (by kernel_rfl) (fun _ _ _ h => h) (Or.inl ⟨by kernel_rfl, ?_⟩) hHeld ?_
        rotate_left 1
        · intro W hW; first | (go_simp; done) | (go_simp; with_reducible rfl)
        try simp only [Act.put, List.setIfInBounds_toArray, List.set_cons_zero, List.set_cons_succ]
        refine wpAnyH_take (i := 2) (oi := ⟨_, _, _, _, _, _⟩) (v := ?_) rfl (by kernel_rfl) (by kernel_rfl) (by kernel_rfl) (fun _ _ _ h => h) (Or.inl ⟨by kernel_rfl, ?_⟩) hHeld ?_
        rotate_left 1
        · intro W hW; first | (go_simp; done) | (go_simp; with_reducible rfl)
        try simp only [Act.put, List.setIfInBounds_toArray, List.set_cons_zero, List.set_cons_succ]
        refine wpAnyH_take (i := 3) (oi := ⟨_, _, _, _, _, _⟩) (v := ?_) rfl (by kernel_rfl) (by kernel_rfl) (by kernel_rfl) (fun _ _ _ h => h) (Or.inl ⟨by kernel_rfl, ?_⟩) hHeld ?_
        rotate_left 1
        · intro W hW; first | (go_simp; done) | (go_simp; with_reducible rfl)
        try simp only [Act.put, List.setIfInBounds_toArray, List.set_cons_zero, List.set_cons_succ]
        refine wpAnyH_take (i := 4) (oi := ⟨_, _, _, _, _, _⟩) (v := ?_) rfl (by kernel_rfl) (by kernel_rfl) (by kernel_rfl) (fun _ _ _ h => h) (Or.inl ⟨by kernel_rfl, ?_⟩) hHeld ?_
        rotate_left 1
        · intro W hW; have k0 := below_keep hW k0; first | (go_simp; done) | (go_simp; with_reducible rfl)
        try simp only [Act.put, List.setIfInBounds_toArray, List.set_cons_zero, List.set_cons_succ]
        refine wpAnyH_take (i := 5) (oi := ⟨_, _, _, _, _, _⟩) (v := ?_) rfl (by kernel_rfl) (by kernel_rfl) (by kernel_rfl) (fun _ _ _ h => h) (Or.inl ⟨by kernel_rfl, ?_⟩) hHeld ?_
        rotate_left 1
        · intro W hW; first | (go_simp; done) | (go_simp; with_reducible rfl)
        try simp only [Act.put, List.setIfInBounds_toArray, List.set_cons_zero, List.set_cons_succ]
        refine wpAnyH_take (i := 6) (oi := ⟨_, _, _, _, _, _⟩) (v := ?_) rfl (by kernel_rfl) (by kernel_rfl) (by kernel_rfl) (fun _ _ _ h => h) (Or.inl ⟨by kernel_rfl, ?_⟩) hHeld ?_
        rotate_left 1
        · intro W hW; first | (go_simp; done) | (go_simp; with_reducible rfl)
        try simp only [Act.put, List.setIfInBounds_toArray, List.set_cons_zero, List.set_cons_succ]
        refine wpAnyH_take (i := 7) (oi := ⟨_, _, _, _, _, _⟩) (v := ?_) rfl (by kernel_rfl) (by kernel_rfl) (by kernel_rfl) (fun _ _ _ h => h) (Or.inl ⟨by kernel_rfl, ?_⟩) hHeld ?_
        rotate_left 1
        · intro W hW; first | (go_simp; done) | (go_simp; with_reducible rfl)
        try simp only [Act.put, List.setIfInBounds_toArray, List.set_cons_zero, List.set_cons_succ]
        refine wpAnyH_take (i := 8) (oi := ⟨_, _, _, _, _, _⟩) (v := ?_) rfl (by kernel_rfl) (by kernel_rfl) (by kernel_rfl) (fun _ _ _ h => h) (Or.inl ⟨by kernel_rfl, ?_⟩) hHeld ?_
        rotate_left 1
        · intro W hW; first | (go_simp; done) | (go_simp; with_reducible rfl)
        try simp only [Act.put, List.setIfInBounds_toArray, List.set_cons_zero, List.set_cons_succ]
        refine wpAnyH_take (i := 9) (oi := ⟨_, _, _, _, _, _⟩) (v := ?_) rfl (by kernel_rfl) (by kernel_rfl) (by kernel_rfl) (fun _ _ _ h => h) (Or.inl ⟨by kernel_rfl, ?_⟩) hHeld ?_
        rotate_left 1
        · intro W hW; have k0 := below_keep hW q0; first | (go_simp; done) | (go_simp; with_reducible rfl)
        try simp only [Act.put, List.setIfInBounds_toArray, List.set_cons_zero, List.set_cons_succ]
        refine wpAnyH_ready (rs := [10]) (by kernel_rfl) (by simp) ?_
        refine AllReadyH.cons rfl (fun K hK => ?_) AllReadyH.nil
        go_simp
        refine (HSp.out _).mono ?_
        rintro e v1 ⟨rfl, hbx⟩
        go_wp2_with fail
        refine hK.out _ _ ?_ (fun hHelda => ?_)
        · exact hHeld.trans (hbx.mono hHeld.size)
        clear hK K
        try simp only [Act.put, List.setIfInBounds_toArray, List.set_cons_zero, List.set_cons_succ]
        clear hbx
        refine wpAnyH_take (i := 11) (oi := ⟨_, _, _, _, _, _⟩) (v := ?_) rfl (by kernel_rfl) (by kernel_rfl) (by kernel_rfl) (fun _ _ _ h => h) (Or.inl ⟨by kernel_rfl, ?_⟩) hHelda ?_
        rotate_left 1
        · intro W hW; first | (go_simp; done) | (go_simp; with_reducible rfl)
        try simp only [Act.put, List.setIfInBounds_toArray, List.set_cons_zero, List.set_cons_succ]
        refine wpAnyH_done (by kernel_rfl) ?_ _
        have HF := Lib.hid hHelda
        go_wp2_with fail
        go_meet
        exact ⟨rfl, HF.out⟩
      case rest =>
      obtain ⟨rfl, hb⟩ := hcut
      generalize hwc : wc = w4 at *
      clear hwc
      have B4 := Lib.hid (B3.out.trans (hb.mono B3.out.size))
      clear hb k0 q0 HSp B3
      rcases hs5 with rfl | rfl
      · have HQ := Lib.hid (H5.out (by first | trivial | rfl) w4 B4.out)
        go_wp2_with fail
        exact HQ.out
      have HN7 := Lib.hid (HNm.out (by first | trivial | rfl))
      have J8 := Lib.hid (H8.out (by first | trivial | rfl))
      have J9 := Lib.hid (H9.out (by first | trivial | rfl))
      have J10 := Lib.hid (H10.out (by first | trivial | rfl))
      have JGo := Lib.hid (HGo.out (by first | trivial | rfl))
      clear H5 HNm H8 H9 H10 HGo
      have HR1 := Lib.hid (range_keep9 B4.out HR0.out)
      have HNc := Lib.hid (show Calls Tryz.prog 62 #[.pointer (some ⟨g, 0, none⟩), .agg (actC a La ca)] w4 (fun e w' => e = .returned (.tuple #[.int .u64 (SH.need (SH.names r) a).up, .int .u64 (SH.need (SH.names r) a).down]) ∧ Below w4.heap.size w4 w') from by
        have h := HNd.out a La ca w4 B4.out HI.out.ok (fun hk => need_nat HI.out.ok HC.out hk)
        rw [HN7.out] at h
        exact h)
      generalize SH.need (SH.names r) a = nd at *
      obtain ⟨nu, nv⟩ := nd
      go_wp2_with (first
        | (refine wpList_load_mid rfl _ _ rfl b1 (o1 + j * 14) rfl (actC a La ca).toList _ HR1.out Tryz.underlying37 rfl act_inf9 ?_))
      refine HNc.out.mono ?_
      rintro e w5 ⟨rfl, hb⟩
      have B5 := Lib.hid (B4.out.trans (hb.mono B4.out.size))
      have q0 := below_keep B5.out HK0.out
      clear hb HNc HR1 B4
      by_cases hup : u < nu
      · have hup1 : (u : Int) < (nu : Int) := by omega
        by_cases h18 : a.kind = 18
        · have HQ := Lib.hid (J8.out hup h18 w5 B5.out)
          rw [h18] at q0
          clear h18
          go_wp2_with fail
          exact HQ.out
        · have HQ := Lib.hid (J9.out hup h18 w5 B5.out)
          have b18 : (a.kind == 18) = false := beq_eq_false_iff_ne.2 h18
          go_wp2_with fail
          exact HQ.out
      have hup1 : ¬ (u : Int) < (nu : Int) := by omega
      by_cases hdn : v < nv
      · have hdn1 : (v : Int) < (nv : Int) := by omega
        have HQ := Lib.hid (J10.out hup hdn w5 B5.out)
        go_wp2_with fail
        exact HQ.out
      have hdn1 : ¬ (v : Int) < (nv : Int) := by omega
      have HG := Lib.hid (JGo.out hup hdn)
      have HUD := Lib.hid (And.intro (Nat.le_of_not_lt hup) (Nat.le_of_not_lt hdn))
      clear hup hdn J8 J9 J10 JGo q0
      go_wp2_with fail
      go_roundw
      case rel => exact ⟨j + 1, u - nu, v - nv, by go_num, by omega, congrArg (Value.int .u64) (by have h1 := HUD.out; have h2 := HUV.out; simp only [u64_wrap]; omega), congrArg (Value.int .u64) (by have h1 := HUD.out; have h2 := HUV.out; simp only [u64_wrap]; omega), HG.out, by have h2 := HUV.out; omega, B5.out⟩
      case measure => simp [intOf]; omega
    · have hj' : j = l.length := by omega
      have hj1 : ¬ (j : Int) < (l.length : Int) := by omega
      have HD := Lib.hid (show SH.takeAll r.kind (SH.names r) ⟨u0, v0⟩ (l.map (·.r)) = (0, ⟨u, v⟩) by rw [HTA.out, hj', List.drop_length]; rfl)
      have HD0 := Lib.hid (show de = 0 by rw [HV.out, HD.out])
      have HDR := Lib.hid (show dr = (rmsOf us ds).set i ⟨u, v⟩ by rw [HR.out, if_pos HD0.out, HD.out])
      have HEw := Lib.hid (HE.out.keep (Kp.of_below BW.out (fun _ => False)) (fun x => x) (fun x => x) (fun x => x))
      have d1 := below_keep BW.out hc1
      have d2 := below_keep BW.out hc2
      obtain ⟨y1, hy1⟩ : ∃ y, cu[i]? = some y := ⟨_, HE.out.nu i _ (List.getElem?_eq_getElem (by rw [HE.out.lu]; exact HIn.out))⟩
      obtain ⟨y2, hy2⟩ : ∃ y, cd[i]? = some y := ⟨_, HE.out.nd i _ (List.getElem?_eq_getElem (by rw [HE.out.ld]; exact HIn.out))⟩
      have x1 : wr.cell? ⟨g1, i, none⟩ = some y1 := (cell_of_row wr _ _ _ _ (0, 0) HEw.out.up).trans hy1
      have x2 : wr.cell? ⟨g2, i, none⟩ = some y2 := (cell_of_row wr _ _ _ _ (0, 0) HEw.out.down).trans hy2
      have f1 : ∀ o, wr.frozen? ⟨g1, o, none⟩ = false := fun o => frozen_of_row _ _ o _ _ HEw.out.up
      have f2 : ∀ o, wr.frozen? ⟨g2, o, none⟩ = false := fun o => frozen_of_row _ _ o _ _ HEw.out.down
      have n12 : g1 ≠ g2 := HE.out.ne.2.2
      have n21 : g2 ≠ g1 := fun e => n12 e.symm
      have m1 : g ≠ g1 := HE.out.ne.1
      have m2 : g ≠ g2 := HE.out.ne.2.1
      have HY := Lib.hid (And.intro (Array.getElem?_eq_some_iff.1 hy1).1 (Array.getElem?_eq_some_iff.1 hy2).1)
      clear hlt hj hj' hy1 hy2
      go_wp2_with fail
      generalize hwf : World.setCell (World.setCell wr _ _) _ _ = wf
      have hkf : Kp (fun j => j = g1 ∨ j = g2) wr wf := by rw [← hwf]; exact Kp.setCell (S := fun j => j = g1 ∨ j = g2) (p := ⟨g2, i, none⟩) (Kp.setCell (S := fun j => j = g1 ∨ j = g2) (p := ⟨g1, i, none⟩) (Kp.refl _ _) (.inl (.inl rfl)) _) (.inl (.inr rfl)) _
      have hr1 : wf.heap[g1]? = some (.cells (cu.setIfInBounds i (.int .u64 (u : Int))) 53 (0, 0)) := by rw [← hwf]; exact (heap_setCell_other _ _ _ _ n12).trans (heap_setCell_same _ _ i _ _ _ HEw.out.up)
      have hr2 : wf.heap[g2]? = some (.cells (cd.setIfInBounds i (.int .u64 (v : Int))) 53 (0, 0)) := by rw [← hwf]; exact heap_setCell_same _ _ i _ _ _ ((heap_setCell_other _ _ _ _ n21).trans HEw.out.down)
      have HQ := Lib.hid (show PP (.returned (.int .i64 ((0 : Nat) : Int))) wf from (HDef.out _ _).2 ⟨by rw [HD0.out], ⟨_, _, us.set i u, ds.set i v, ⟨(hkf.block _ (lt_of_heap HEw.out.box) (by omega)).trans HEw.out.box, hr1, hr2, NuAt.set HE.out.nu i u HY.out.1, NuAt.set HE.out.nd i v HY.out.2, by rw [List.length_set]; exact HE.out.lu, by rw [List.length_set]; exact HE.out.ld, HE.out.ne, HE.out.new⟩, by rw [rms_set, HDR.out]⟩, (Kp.of_below BW.out (fun j => j = g1 ∨ j = g2)).trans hkf (fun _ _ x => x)⟩)
      clear hwf hkf hr1 hr2 x1 x2 f1 f2 d1 d2
      exact HQ.out
end Go.Proofs.YtbkcmnmbcldjoaaGreatDoor
