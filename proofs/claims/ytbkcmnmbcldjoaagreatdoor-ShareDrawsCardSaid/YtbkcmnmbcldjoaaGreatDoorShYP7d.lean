/- Layer 7's statements' own: rows of deeds; what is more than is looked at. -/
import Derived.Test.YtbkcmnmbcldjoaaGreatDoorPrBP7d
import Derived.Test.YtbkcmnmbcldjoaaGreatDoorSpFP7d
import Derived.Test.YtbkcmnmbcldjoaaGreatDoorBig4mP7d
import Derived.Test.YtbkcmnmbcldjoaaGreatDoorRefMP7d
import Derived.Test.YtbkcmnmbcldjoaaGreatDoorSh1P7d
import Derived.Test.YtbkcmnmbcldjoaaGreatDoorShXP7d
namespace Go.Proofs.YtbkcmnmbcldjoaaGreatDoor
open Go.RowKit MM
set_option linter.unusedVariables false
set_option linter.unusedSimpArgs false
/-- An act that a worker would do, and where its list lies. -/
structure Dl where
  k : Int
  a : Al
abbrev ddC (d : Dl) : Array Value := #[.int .i64 d.k, .int .i64 d.a.r.kind, .string d.a.r.key, .int .i64 d.a.r.n, .float .f64 d.a.r.x, .string d.a.r.s, .int .i64 d.a.r.make.kind, .int .i64 d.a.r.make.num, .int .i64 d.a.r.make.low, .int .i64 d.a.r.make.high, .float .f64 d.a.r.make.real, .int .i64 d.a.r.make.cap, .string d.a.r.make.text, .slice d.a.A d.a.r.make.list.length d.a.c, .bool d.a.r.must]
theorem ddC_at (d : Dl) (j : Nat) : (ddC d)[1 + j]? = (actC d.a.r d.a.A d.a.c)[j]? := by rw [Nat.add_comm, ← Array.getElem?_toList, ← Array.getElem?_toList]; exact List.getElem?_cons_succ
/-- A slice that reads as deeds. -/
structure DeedsIn (w : World) (L : Option Addr) (l : List Dl) : Prop where
  rows : l = [] ∨ ∃ b off, L = some ⟨b, off, none⟩ ∧ b < w.heap.size ∧ ∀ i x, l[i]? = some x → ∀ j v, (ddC x)[j]? = some v → w.cell? ⟨b, off + i * 15 + j, none⟩ = some v
  all : ∀ x ∈ l, ActIn w x.a.r x.a.A x.a.c ∧ RC.I64 x.k
  len : l.length ≤ maxLen
theorem DeedsIn.keep {w w' : World} {L : Option Addr} {l : List Dl} (h : DeedsIn w L l) (hb : Below w.heap.size w w') : DeedsIn w' L l := by
  refine ⟨?_, fun x hx => ⟨(h.all x hx).1.keep hb, (h.all x hx).2⟩, h.len⟩
  rcases h.rows with h1 | ⟨b, off, h1, h2, h3⟩
  · exact .inl h1
  · exact .inr ⟨b, off, h1, Nat.lt_of_lt_of_le h2 hb.size, fun i x hi j v hv => below_keep hb (h3 i x hi j v hv)⟩
theorem deeds_range {w : World} {L : Option Addr} {P : List Dl} (h : DeedsIn w L P) {i : Nat} (hi : i < P.length) : ∃ b off, L = some ⟨b, off, none⟩ ∧ w.rangeAt b (off + i * 15) (ddC P[i]).toList := by
  rcases h.rows with h0 | ⟨b, off, rfl, hb, hr⟩
  · subst h0
    simp at hi
  · exact ⟨b, off, rfl, fun j v hv => hr i P[i] (List.getElem?_eq_getElem hi) j v (by rw [← Array.getElem?_toList]; exact hv)⟩
theorem deed_inf : (Tryz.prog.info? 39).map (fun i => i.size) = some 15 := by kernel_rfl
def big7 (r : RC.Rc) (l : List Dl) : Bool := RC.big r || (decide (40 < l.length) || l.any fun x => AC.big x.a.r)
set_option maxHeartbeats 4000000 in
set_option maxRecDepth 100000 in
theorem big7_any (r : RC.Rc) (A L : Option Addr) (c cl : Nat) (l : List Dl) (w : World) (hI : Its w A r.list) (hM : r.list.length ≤ maxLen) (hl : DeedsIn w L l) :
    Calls Tryz.prog 11 #[recV r A c, .slice L l.length cl] w fun e w' => e = .returned (.bool (big7 r l)) ∧ Below w.heap.size w w' := by
  have HG := Lib.hid (fun u (h : Its u A r.list) => big3_any r A c u h hM)
  have HI := Lib.hid hI
  have HL := Lib.hid hl
  have hlen := hl.len
  unfold maxLen at hlen
  have Hb := Lib.hid (show big7 r l = (RC.big r || (decide (40 < l.length) || l.any fun x => AC.big x.a.r)) from rfl)
  clear hI hM hl
  go_enter Tryz.func11, Tryz.ntmps11
  go_wp2_with fail
  refine (HG.out _ (HI.out.alloc _)).mono ?_
  rintro e w1 ⟨rfl, hb1⟩
  have HB1 := Lib.hid (show Below w.heap.size w w1 from (below1 w _).trans (hb1.mono (by simp)))
  clear hb1
  cases hb : RC.big r
  case true =>
    have He := Lib.hid hb
    clear hb
    go_wp2_with fail
    go_ret
    exact ⟨ret_bool (by rw [Hb.out, He.out]; rfl), HB1.out⟩
  have He := Lib.hid hb
  clear hb
  by_cases h30 : 40 < l.length
  · have q1 : (40 : Int) < (l.length : Int) := by omega
    have H3 := Lib.hid h30
    clear h30
    go_wp2_with fail
    go_ret
    exact ⟨ret_bool (by rw [Hb.out, He.out, decide_eq_true H3.out]; rfl), HB1.out⟩
  have q1 : ¬ (40 : Int) < (l.length : Int) := by omega
  have H3 := Lib.hid h30
  go_wp2_with fail
  go_loopw [17] (fun t17 wr => ∃ (i : Nat), t17 = .int .i64 i ∧ i ≤ l.length ∧ (∀ x ∈ l.take i, AC.big x.a.r = false) ∧ Below w.heap.size w wr) (fun t17 _ => l.length - (intOf t17).toNat)
  case atStart => exact ⟨0, rfl, Nat.zero_le _, (fun x hx => by cases hx), HB1.out⟩
  case round =>
    obtain ⟨i, rfl, hi, hno, hbr⟩ := hrel
    have HBr := Lib.hid hbr
    have HNo := Lib.hid hno
    clear hbr hno
    by_cases hlt : i < l.length
    · have hin := (HL.out.all _ (List.getElem_mem hlt)).1
      have hmem := List.getElem_mem hlt
      have htk := List.take_succ_eq_append_getElem hlt
      obtain ⟨b1, o1, hLe, hr1⟩ := deeds_range HL.out hlt
      subst hLe
      obtain ⟨d, hd⟩ : ∃ d, d = l[i] := ⟨_, rfl⟩
      rw [← hd] at hin hmem htk hr1
      have HMem := Lib.hid hmem
      have HTk := Lib.hid htk
      have HR1 := Lib.hid (range_keep9 HBr.out hr1)
      have HG4 := Lib.hid (fun u (b : Below w.heap.size w u) => big4_any d.a.r d.a.A d.a.c u (hin.make.its.below b) hin.make.len)
      have hi1 : (i : Int) < (l.length : Int) := by omega
      clear hin hmem htk hr1 hd
      go_upto_region 6 with (first
        | (refine wpList_load_mid rfl _ _ rfl b1 (o1 + i * 15) rfl (ddC d).toList _ HR1.out Tryz.underlying39 rfl deed_inf ?_)
        | (refine wpList_store_row rfl _ _ _ rfl _ (ddC d) rfl rfl 39 _ (heap_alloc_new _ _) deed_inf rfl (by kernel_rfl) ?_))
      rw [World.setRow_alloc_new]
      generalize hwb : World.alloc wr _ = wb
      have R6 := (show wb.heap[wr.heap.size]? = some (.cells (ddC d) 39 (0, 0)) by rw [← hwb]; exact heap_alloc_new wr _)
      have HBb := Lib.hid (show Below w.heap.size w wb by rw [← hwb]; exact HBr.out.trans ((below1 wr _).mono HBr.out.size))
      have HRa := Lib.hid (show wb.rangeAt wr.heap.size 1 (actC d.a.r d.a.A d.a.c).toList from fun j v hv => by
        rw [cell_of_row wb _ _ _ _ (0, 0) R6, ddC_at]
        rw [Array.getElem?_toList] at hv
        exact hv)
      generalize hg6 : wr.heap.size = g6 at *
      clear hwb R6 HR1 hg6
      go_wp2_with (first
        | (refine wpList_load_mid rfl _ _ rfl g6 1 rfl (actC d.a.r d.a.A d.a.c).toList _ HRa.out Tryz.underlying37 rfl act_inf9 ?_))
      refine (HG4.out _ HBb.out).mono ?_
      rintro e w2 ⟨rfl, hb2⟩
      have HB2 := Lib.hid (HBb.out.trans (hb2.mono HBb.out.size))
      clear hb2 HG4 HRa
      cases hg : AC.big d.a.r
      · have Hg := Lib.hid hg
        clear hg
        go_wp2_with fail
        go_roundw
        case rel =>
          refine ⟨i + 1, by go_num, by omega, fun z hz => ?_, HB2.out⟩
          rw [HTk.out] at hz
          rcases List.mem_append.1 hz with hz | hz
          · exact HNo.out z hz
          · simp at hz; subst hz; exact Hg.out
        case measure => simp [intOf]; omega
      · have Hg := Lib.hid hg
        clear hg
        go_wp2_with fail
        go_ret
        exact ⟨ret_bool (by rw [Hb.out, He.out, decide_eq_false H3.out, List.any_eq_true.2 ⟨_, HMem.out, Hg.out⟩]; rfl), HB2.out⟩
    · have hi' : i = l.length := by omega
      subst hi'
      have hi1 : ¬ (l.length : Int) < (l.length : Int) := by omega
      go_wp2_with fail
      go_ret
      refine ⟨ret_bool ?_, HBr.out⟩
      rw [Hb.out, He.out, decide_eq_false H3.out]
      symm
      show l.any _ = false
      rw [List.any_eq_false]
      intro x hx
      have := HNo.out x (by rw [List.take_length]; exact hx)
      simpa using this
end Go.Proofs.YtbkcmnmbcldjoaaGreatDoor

namespace Go.Proofs.YtbkcmnmbcldjoaaGreatDoor
open Go.RowKit MM
set_option linter.unusedVariables false
set_option linter.unusedSimpArgs false
def SH.hasS (l : List ByteArray) (s : ByteArray) : Bool := l.any fun y => RC.strEq s y
set_option maxHeartbeats 4000000 in
theorem sindex_any (l : List ByteArray) (s : ByteArray) (A : Option Addr) (c : Nat) (w : World) (hl : Strs w A l) (hn : l.length ≤ 100000) :
    Calls Tryz.prog 154 #[.slice A l.length c, .string s] w fun e w' => ∃ z : Int, e = .returned (.int .i64 z) ∧ decide (0 ≤ z) = SH.hasS l s ∧ w = w' := by
  have HL := Lib.hid hl
  have HV := Lib.hid (show SH.hasS l s = l.any fun y => RC.strEq s y from rfl)
  generalize SH.hasS l s = V at *
  clear hl
  go_enter Tryz.func154, Tryz.ntmps154
  go_wp2_with fail
  go_loopw [8] (fun t8 wr => ∃ i : Nat, t8 = .int .i64 i ∧ i ≤ l.length ∧ ((l.take i).any fun y => RC.strEq s y) = false ∧ wr = w) (fun t8 _ => l.length - (intOf t8).toNat)
  case atStart => exact ⟨0, rfl, Nat.zero_le _, rfl, rfl⟩
  case round =>
    obtain ⟨i, rfl, hi, hno, rfl⟩ := hrel
    have HNo := Lib.hid hno
    clear hno
    by_cases hlt : i < l.length
    · have hi1 : (i : Int) < (l.length : Int) := by omega
      rcases HL.out with h0 | ⟨b, off, hA, hb, hc⟩
      · rw [h0] at hlt; simp at hlt
      subst hA
      have c0 := hc i _ (List.getElem?_eq_getElem hlt)
      obtain ⟨y, hy⟩ : ∃ y, y = l[i] := ⟨_, rfl⟩
      have HT := Lib.hid (show (l.take (i + 1)).any (fun y => RC.strEq s y) = ((l.take i).any (fun y => RC.strEq s y) || RC.strEq s l[i]) by rw [List.take_add_one, List.getElem?_eq_getElem hlt, List.any_append]; simp)
      have HM := Lib.hid (show RC.strEq s l[i] = true → (l.any fun y => RC.strEq s y) = true from fun h => List.any_eq_true.2 ⟨l[i], List.getElem_mem hlt, h⟩)
      rw [← hy] at c0 HT HM
      clear hc hy hb
      cases he : RC.strEq s y
      · have he' : (s.toList == y.toList) = false := he
        have HN2 := Lib.hid (show ((l.take (i + 1)).any fun y => RC.strEq s y) = false by rw [HT.out, HNo.out, he]; rfl)
        clear he
        go_wp2_with fail
        go_roundw
        case rel => exact ⟨i + 1, by go_num, by omega, HN2.out, by first | rfl | trivial⟩
        case measure => simp [intOf]; omega
      · have he' : (s.toList == y.toList) = true := he
        have HW := Lib.hid (show V = true by rw [HV.out]; exact HM.out he)
        clear he
        go_wp2_with fail
        go_ret
        exact ⟨(i : Int), rfl, by rw [HW.out]; exact decide_eq_true (by omega), rfl⟩
    · have hi' : i = l.length := by omega
      have hi1 : ¬ (i : Int) < (l.length : Int) := by omega
      have HW := Lib.hid (show V = false by rw [HV.out]; have := HNo.out; rw [hi', List.take_length] at this; exact this)
      clear hlt hi hi'
      go_wp2_with fail
      go_ret
      exact ⟨-1, rfl, by rw [HW.out]; rfl, rfl⟩
set_option maxHeartbeats 2000000 in
theorem scontains_any (l : List ByteArray) (s : ByteArray) (A : Option Addr) (c : Nat) (w : World) (hl : Strs w A l) (hn : l.length ≤ 100000) :
    Calls Tryz.prog 145 #[.slice A l.length c, .string s] w fun e w' => e = .returned (.bool (SH.hasS l s)) ∧ w = w' := by
  have HI := Lib.hid (sindex_any l s A c w hl hn)
  clear hl
  go_enter Tryz.func145, Tryz.ntmps145
  go_wp2_with fail
  refine HI.out.mono ?_
  rintro e w1 ⟨z, rfl, hz, rfl⟩
  have HZ := Lib.hid hz
  clear hz
  go_wp2_with fail
  go_ret
  exact ⟨by rw [← HZ.out]; rfl, rfl⟩
/-- What an act that may be takes. -/
def SH.need (names : List ByteArray) (a : AC.Ac) : Rm :=
  if a.kind = 8 then SH.ofPlus a.n else if a.kind = 10 then ⟨a.n.toNat, 0⟩ else if a.kind = 11 then ⟨0, a.n.toNat⟩
  else if a.kind = 18 then (if SH.hasS names a.s then ⟨0, 0⟩ else ⟨1, 0⟩) else ⟨0, 0⟩
set_option maxHeartbeats 8000000 in
set_option maxRecDepth 100000 in
theorem sneed_any (g : Nat) (kind : Int) (X : Value) (names : List ByteArray) (B : Option Addr) (cb : Nat) (a : AC.Ac) (L : Option Addr) (cl : Nat) (w : World) (hR : w.heap[g]? = some (.cells #[.int .i64 kind, .slice B names.length cb, X] 107 (0, 0))) (hN : Strs w B names) (hn : names.length ≤ 100000) (ha : a.ok) (h0 : a.kind = 10 ∨ a.kind = 11 → 0 ≤ a.n) :
    Calls Tryz.prog 91 #[.pointer (some ⟨g, 0, none⟩), actV a L cl] w fun e w' => e = .returned (rmV (SH.need names a)) ∧ Below w.heap.size w w' := by
  have HOf := Lib.hid (fun u => sofPlus_any a.n u ha.n)
  have HC := Lib.hid (fun u (h : Below w.heap.size w u) => scontains_any names a.s B cb u (hN.below h) hn)
  have HNn := Lib.hid (i64_lims ha.n)
  have HH := Lib.hid h0
  have HV := Lib.hid (show SH.need names a = if a.kind = 8 then SH.ofPlus a.n else if a.kind = 10 then ⟨a.n.toNat, 0⟩ else if a.kind = 11 then ⟨0, a.n.toNat⟩ else if a.kind = 18 then (if SH.hasS names a.s then ⟨0, 0⟩ else ⟨1, 0⟩) else ⟨0, 0⟩ from rfl)
  generalize SH.need names a = v at *
  have hgl := lt_of_heap hR
  have HG := Lib.hid (show ∀ W, Below w.heap.size w W → W.heap[g]? = some (.cells #[.int .i64 kind, .slice B names.length cb, X] 107 (0, 0)) from fun W h => (h.block _ hgl).trans hR)
  clear hR hN hn ha h0 hgl
  obtain ⟨k, key, n, x, s, mk, must⟩ := a
  go_enter Tryz.func91, Tryz.ntmps91
  go_upto_region 1 with fail
  generalize hw1 : World.alloc (World.alloc w _) _ = w1
  have HB := Lib.hid (show Below w.heap.size w w1 by rw [← hw1]; exact below2 w _ _)
  have E1 := Lib.hid (show w1.heap[w.heap.size]? = some (.cells (actC ⟨k, key, n, x, s, mk, must⟩ L cl) 37 (0, 0)) by rw [← hw1]; exact heap_alloc2_old w _ _)
  have E2 := Lib.hid (show w1.heap[w.heap.size + 1]? = some (.cells #[.int .u64 0, .int .u64 0] 104 (0, 0)) by rw [← hw1]; exact heap_alloc2_new w _ _)
  clear hw1
  have p0 : w1.cell? ⟨w.heap.size, 0, none⟩ = some (.int .i64 k) := cell_of_row w1 _ 0 _ _ (0, 0) E1.out
  have p2 : w1.cell? ⟨w.heap.size, 2, none⟩ = some (.int .i64 n) := cell_of_row w1 _ 2 _ _ (0, 0) E1.out
  have p4 : w1.cell? ⟨w.heap.size, 4, none⟩ = some (.string s) := cell_of_row w1 _ 4 _ _ (0, 0) E1.out
  by_cases h8 : k = 8
  · subst h8
    have HW := Lib.hid (show v = SH.ofPlus n by rw [HV.out] <;> rfl)
    go_wp2_with fail
    refine (HOf.out _).mono ?_
    rintro e w2 ⟨rfl, hb⟩
    have E2 := Lib.hid ((hb.block _ (lt_of_heap E2.out)).trans E2.out)
    have HB := Lib.hid (HB.out.trans (hb.mono HB.out.size))
    clear hb
    generalize SH.ofPlus n = y at *
    go_wp2_with (first
      | (refine wpList_store_row rfl _ _ _ rfl (w.heap.size + 1) (rmC y) rfl rfl 104 _ E2.out room_inf7 rfl (by kernel_rfl) ?_))
    generalize hwf : World.setRow w2 _ _ = wf
    have hkf : Kp (fun j => j = w.heap.size + 1) w2 wf := by rw [← hwf]; exact kpRow7 (S := fun j => j = w.heap.size + 1) (Kp.refl _ _) (.inl rfl) _
    have X2 : wf.heap[w.heap.size + 1]? = some (.cells (rmC y) 104 (0, 0)) := by rw [← hwf]; exact setRow_heap _ _ _ _ _ _ E2.out
    have k2 := fun o => cell_of_row wf _ o _ _ (0, 0) X2
    have HBf := Lib.hid (HB.out.trans (hkf.below HB.out.size (fun i hi x => by omega)))
    clear hwf X2 hkf
    exact bodyPost_ret (v := .agg (rmC y)) (by simp [results, Tryz.results91, go_sem, k2]) rfl ⟨by rw [HW.out], HBf.out⟩
  by_cases h10 : k = 10
  · subst h10
    have HX := Lib.hid (show IntKind.u64.wrap n = ((n.toNat : Nat) : Int) by have h1 := HH.out (.inl rfl); have h2 := HNn.out; have h3 : 0 ≤ n := h1; have h4 : n ≤ 9223372036854775807 := h2.2; rw [u64_wrap]; omega)
    have HW := Lib.hid (show rmV v = .agg #[.int .u64 (IntKind.u64.wrap n), .int .u64 0] by rw [HV.out, if_neg (show ¬ (10 : Int) = 8 by decide), if_pos rfl, HX.out]; rfl)
    go_wp2_with (first
      | (refine wpList_store_row rfl _ _ _ rfl (w.heap.size + 1) #[.int .u64 (IntKind.u64.wrap n), .int .u64 0] rfl rfl 104 _ E2.out room_inf7 rfl (by kernel_rfl) ?_))
    generalize hwf : World.setRow w1 _ _ = wf
    have hkf : Kp (fun j => j = w.heap.size + 1) w1 wf := by rw [← hwf]; exact kpRow7 (S := fun j => j = w.heap.size + 1) (Kp.refl _ _) (.inl rfl) _
    have X2 : wf.heap[w.heap.size + 1]? = some (.cells #[.int .u64 (IntKind.u64.wrap n), .int .u64 0] 104 (0, 0)) := by rw [← hwf]; exact setRow_heap _ _ _ _ _ _ E2.out
    have k2 := fun o => cell_of_row wf _ o _ _ (0, 0) X2
    have HBf := Lib.hid (HB.out.trans (hkf.below HB.out.size (fun i hi x => by omega)))
    clear hwf X2 hkf
    exact bodyPost_ret (v := .agg #[.int .u64 (IntKind.u64.wrap n), .int .u64 0]) (by simp [results, Tryz.results91, go_sem, k2]) rfl ⟨by rw [HW.out], HBf.out⟩
  by_cases h11 : k = 11
  · subst h11
    have HX := Lib.hid (show IntKind.u64.wrap n = ((n.toNat : Nat) : Int) by have h1 := HH.out (.inr rfl); have h2 := HNn.out; have h3 : 0 ≤ n := h1; have h4 : n ≤ 9223372036854775807 := h2.2; rw [u64_wrap]; omega)
    have HW := Lib.hid (show rmV v = .agg #[.int .u64 0, .int .u64 (IntKind.u64.wrap n)] by rw [HV.out, if_neg (show ¬ (11 : Int) = 8 by decide), if_neg (show ¬ (11 : Int) = 10 by decide), if_pos rfl, HX.out]; rfl)
    go_wp2_with (first
      | (refine wpList_store_row rfl _ _ _ rfl (w.heap.size + 1) #[.int .u64 0, .int .u64 (IntKind.u64.wrap n)] rfl rfl 104 _ E2.out room_inf7 rfl (by kernel_rfl) ?_))
    generalize hwf : World.setRow w1 _ _ = wf
    have hkf : Kp (fun j => j = w.heap.size + 1) w1 wf := by rw [← hwf]; exact kpRow7 (S := fun j => j = w.heap.size + 1) (Kp.refl _ _) (.inl rfl) _
    have X2 : wf.heap[w.heap.size + 1]? = some (.cells #[.int .u64 0, .int .u64 (IntKind.u64.wrap n)] 104 (0, 0)) := by rw [← hwf]; exact setRow_heap _ _ _ _ _ _ E2.out
    have k2 := fun o => cell_of_row wf _ o _ _ (0, 0) X2
    have HBf := Lib.hid (HB.out.trans (hkf.below HB.out.size (fun i hi x => by omega)))
    clear hwf X2 hkf
    exact bodyPost_ret (v := .agg #[.int .u64 0, .int .u64 (IntKind.u64.wrap n)]) (by simp [results, Tryz.results91, go_sem, k2]) rfl ⟨by rw [HW.out], HBf.out⟩
  by_cases h18 : k = 18
  · subst h18
    have HX := Lib.hid (show v = (if SH.hasS names s then ⟨0, 0⟩ else ⟨1, 0⟩) by rw [HV.out] <;> rfl)
    have G1 := HG.out w1 HB.out
    have q1 : w1.cell? ⟨g, 1, none⟩ = some (.slice B names.length cb) := cell_of_row w1 _ 1 _ _ (0, 0) G1
    have HCs := Lib.hid (fun u (h : Below w.heap.size w u) => show Calls Tryz.prog 145 #[.slice B names.length cb, .string s] u (fun e w' => e = .returned (.bool (SH.hasS names s)) ∧ u = w') from HC.out u h)
    clear HC
    generalize SH.hasS names s = hs at *
    clear G1
    go_upto_region 9 with fail
    cases hs
    · have HW := Lib.hid (show rmV v = .agg #[.int .u64 1, .int .u64 0] by rw [HX.out]; rfl)
      refine wp_region_held_drew (S := fun W => Below w1.heap.size w1 W) (by kernel_rfl) (below_drew (Below.refl _ _)) (fun hHeld => ?_)
      refine wpAnyH_take (i := 0) (oi := ⟨_, _, _, _, _, _⟩) (v := ?_) rfl (by kernel_rfl) (by kernel_rfl) (by kernel_rfl) (fun _ _ _ h => h) (Or.inl ⟨by kernel_rfl, ?_⟩) hHeld ?_
      rotate_left 1
      · intro W hW; first | (go_simp; done) | (go_simp; with_reducible rfl)
      try simp only [Act.put, List.setIfInBounds_toArray, List.set_cons_zero, List.set_cons_succ]
      refine wpAnyH_take (i := 1) (oi := ⟨_, _, _, _, _, _⟩) (v := ?_) rfl (by kernel_rfl) (by kernel_rfl) (by kernel_rfl) (fun _ _ _ h => h) (Or.inl ⟨by kernel_rfl, ?_⟩) hHeld ?_
      rotate_left 1
      · intro W hW; first | (go_simp; done) | (go_simp; with_reducible rfl)
      try simp only [Act.put, List.setIfInBounds_toArray, List.set_cons_zero, List.set_cons_succ]
      refine wpAnyH_take (i := 2) (oi := ⟨_, _, _, _, _, _⟩) (v := ?_) rfl (by kernel_rfl) (by kernel_rfl) (by kernel_rfl) (fun _ _ _ h => h) (Or.inl ⟨by kernel_rfl, ?_⟩) hHeld ?_
      rotate_left 1
      · intro W hW; first | (go_simp; done) | (go_simp; with_reducible rfl)
      try simp only [Act.put, List.setIfInBounds_toArray, List.set_cons_zero, List.set_cons_succ]
      refine wpAnyH_take (i := 3) (oi := ⟨_, _, _, _, _, _⟩) (v := ?_) rfl (by kernel_rfl) (by kernel_rfl) (by kernel_rfl) (fun _ _ _ h => h) (Or.inl ⟨by kernel_rfl, ?_⟩) hHeld ?_
      rotate_left 1
      · intro W hW; have k0 := below_keep hW q1; first | (go_simp; done) | (go_simp; with_reducible rfl)
      try simp only [Act.put, List.setIfInBounds_toArray, List.set_cons_zero, List.set_cons_succ]
      refine wpAnyH_take (i := 4) (oi := ⟨_, _, _, _, _, _⟩) (v := ?_) rfl (by kernel_rfl) (by kernel_rfl) (by kernel_rfl) (fun _ _ _ h => h) (Or.inl ⟨by kernel_rfl, ?_⟩) hHeld ?_
      rotate_left 1
      · intro W hW; first | (go_simp; done) | (go_simp; with_reducible rfl)
      try simp only [Act.put, List.setIfInBounds_toArray, List.set_cons_zero, List.set_cons_succ]
      refine wpAnyH_take (i := 5) (oi := ⟨_, _, _, _, _, _⟩) (v := ?_) rfl (by kernel_rfl) (by kernel_rfl) (by kernel_rfl) (fun _ _ _ h => h) (Or.inl ⟨by kernel_rfl, ?_⟩) hHeld ?_
      rotate_left 1
      · intro W hW; have k0 := below_keep hW p4; first | (go_simp; done) | (go_simp; with_reducible rfl)
      try simp only [Act.put, List.setIfInBounds_toArray, List.set_cons_zero, List.set_cons_succ]
      refine wpAnyH_ready (rs := [6]) (by kernel_rfl) (by simp) ?_
      refine AllReadyH.cons rfl (fun K hK => ?_) AllReadyH.nil
      go_simp
      refine (HCs.out _ (HB.out.trans (hHeld.mono HB.out.size))).mono ?_
      rintro e wv ⟨rfl, rfl⟩
      go_wp2_with fail
      refine hK.out _ _ ?_ (fun hHelda => ?_)
      · exact hHeld
      clear hK K
      try simp only [Act.put, List.setIfInBounds_toArray, List.set_cons_zero, List.set_cons_succ]
      refine wpAnyH_take (i := 7) (oi := ⟨_, _, _, _, _, _⟩) (v := ?_) rfl (by kernel_rfl) (by kernel_rfl) (by kernel_rfl) (fun _ _ _ h => h) (Or.inl ⟨by kernel_rfl, ?_⟩) hHelda ?_
      rotate_left 1
      · intro W hW; first | (go_simp; done) | (go_simp; with_reducible rfl)
      try simp only [Act.put, List.setIfInBounds_toArray, List.set_cons_zero, List.set_cons_succ]
      refine wpAnyH_done (by kernel_rfl) ?_ _
      generalize World.drew w1 = wz at *
      have E2 := Lib.hid ((hHelda.block _ (lt_of_heap E2.out)).trans E2.out)
      have HB := Lib.hid (HB.out.trans (hHelda.mono HB.out.size))
      go_wp2_with (first
        | (refine wpList_store_row rfl _ _ _ rfl (w.heap.size + 1) #[.int .u64 1, .int .u64 0] rfl rfl 104 _ E2.out room_inf7 rfl (by kernel_rfl) ?_))
      generalize hwf : World.setRow wz _ _ = wf
      have hkf : Kp (fun j => j = w.heap.size + 1) wz wf := by rw [← hwf]; exact kpRow7 (S := fun j => j = w.heap.size + 1) (Kp.refl _ _) (.inl rfl) _
      have X2 : wf.heap[w.heap.size + 1]? = some (.cells #[.int .u64 1, .int .u64 0] 104 (0, 0)) := by rw [← hwf]; exact setRow_heap _ _ _ _ _ _ E2.out
      have k2 := fun o => cell_of_row wf _ o _ _ (0, 0) X2
      have HBf := Lib.hid (HB.out.trans (hkf.below HB.out.size (fun i hi x => by omega)))
      clear hwf X2 hkf
      exact bodyPost_ret (v := .agg #[.int .u64 1, .int .u64 0]) (by simp [results, Tryz.results91, go_sem, k2]) rfl ⟨by rw [HW.out], HBf.out⟩
    · have HW := Lib.hid (show rmV v = .agg #[.int .u64 0, .int .u64 0] by rw [HX.out]; rfl)
      refine wp_region_held_drew (S := fun W => Below w1.heap.size w1 W) (by kernel_rfl) (below_drew (Below.refl _ _)) (fun hHeld => ?_)
      refine wpAnyH_take (i := 0) (oi := ⟨_, _, _, _, _, _⟩) (v := ?_) rfl (by kernel_rfl) (by kernel_rfl) (by kernel_rfl) (fun _ _ _ h => h) (Or.inl ⟨by kernel_rfl, ?_⟩) hHeld ?_
      rotate_left 1
      · intro W hW; first | (go_simp; done) | (go_simp; with_reducible rfl)
      try simp only [Act.put, List.setIfInBounds_toArray, List.set_cons_zero, List.set_cons_succ]
      refine wpAnyH_take (i := 1) (oi := ⟨_, _, _, _, _, _⟩) (v := ?_) rfl (by kernel_rfl) (by kernel_rfl) (by kernel_rfl) (fun _ _ _ h => h) (Or.inl ⟨by kernel_rfl, ?_⟩) hHeld ?_
      rotate_left 1
      · intro W hW; first | (go_simp; done) | (go_simp; with_reducible rfl)
      try simp only [Act.put, List.setIfInBounds_toArray, List.set_cons_zero, List.set_cons_succ]
      refine wpAnyH_take (i := 2) (oi := ⟨_, _, _, _, _, _⟩) (v := ?_) rfl (by kernel_rfl) (by kernel_rfl) (by kernel_rfl) (fun _ _ _ h => h) (Or.inl ⟨by kernel_rfl, ?_⟩) hHeld ?_
      rotate_left 1
      · intro W hW; first | (go_simp; done) | (go_simp; with_reducible rfl)
      try simp only [Act.put, List.setIfInBounds_toArray, List.set_cons_zero, List.set_cons_succ]
      refine wpAnyH_take (i := 3) (oi := ⟨_, _, _, _, _, _⟩) (v := ?_) rfl (by kernel_rfl) (by kernel_rfl) (by kernel_rfl) (fun _ _ _ h => h) (Or.inl ⟨by kernel_rfl, ?_⟩) hHeld ?_
      rotate_left 1
      · intro W hW; have k0 := below_keep hW q1; first | (go_simp; done) | (go_simp; with_reducible rfl)
      try simp only [Act.put, List.setIfInBounds_toArray, List.set_cons_zero, List.set_cons_succ]
      refine wpAnyH_take (i := 4) (oi := ⟨_, _, _, _, _, _⟩) (v := ?_) rfl (by kernel_rfl) (by kernel_rfl) (by kernel_rfl) (fun _ _ _ h => h) (Or.inl ⟨by kernel_rfl, ?_⟩) hHeld ?_
      rotate_left 1
      · intro W hW; first | (go_simp; done) | (go_simp; with_reducible rfl)
      try simp only [Act.put, List.setIfInBounds_toArray, List.set_cons_zero, List.set_cons_succ]
      refine wpAnyH_take (i := 5) (oi := ⟨_, _, _, _, _, _⟩) (v := ?_) rfl (by kernel_rfl) (by kernel_rfl) (by kernel_rfl) (fun _ _ _ h => h) (Or.inl ⟨by kernel_rfl, ?_⟩) hHeld ?_
      rotate_left 1
      · intro W hW; have k0 := below_keep hW p4; first | (go_simp; done) | (go_simp; with_reducible rfl)
      try simp only [Act.put, List.setIfInBounds_toArray, List.set_cons_zero, List.set_cons_succ]
      refine wpAnyH_ready (rs := [6]) (by kernel_rfl) (by simp) ?_
      refine AllReadyH.cons rfl (fun K hK => ?_) AllReadyH.nil
      go_simp
      refine (HCs.out _ (HB.out.trans (hHeld.mono HB.out.size))).mono ?_
      rintro e wv ⟨rfl, rfl⟩
      go_wp2_with fail
      refine hK.out _ _ ?_ (fun hHelda => ?_)
      · exact hHeld
      clear hK K
      try simp only [Act.put, List.setIfInBounds_toArray, List.set_cons_zero, List.set_cons_succ]
      refine wpAnyH_take (i := 7) (oi := ⟨_, _, _, _, _, _⟩) (v := ?_) rfl (by kernel_rfl) (by kernel_rfl) (by kernel_rfl) (fun _ _ _ h => h) (Or.inl ⟨by kernel_rfl, ?_⟩) hHelda ?_
      rotate_left 1
      · intro W hW; first | (go_simp; done) | (go_simp; with_reducible rfl)
      try simp only [Act.put, List.setIfInBounds_toArray, List.set_cons_zero, List.set_cons_succ]
      refine wpAnyH_done (by kernel_rfl) ?_ _
      generalize World.drew w1 = wz at *
      have E2 := Lib.hid ((hHelda.block _ (lt_of_heap E2.out)).trans E2.out)
      have HB := Lib.hid (HB.out.trans (hHelda.mono HB.out.size))
      go_wp2_with (first
        | (refine wpList_store_row rfl _ _ _ rfl (w.heap.size + 1) #[.int .u64 0, .int .u64 0] rfl rfl 104 _ E2.out room_inf7 rfl (by kernel_rfl) ?_))
      generalize hwf : World.setRow wz _ _ = wf
      have hkf : Kp (fun j => j = w.heap.size + 1) wz wf := by rw [← hwf]; exact kpRow7 (S := fun j => j = w.heap.size + 1) (Kp.refl _ _) (.inl rfl) _
      have X2 : wf.heap[w.heap.size + 1]? = some (.cells #[.int .u64 0, .int .u64 0] 104 (0, 0)) := by rw [← hwf]; exact setRow_heap _ _ _ _ _ _ E2.out
      have k2 := fun o => cell_of_row wf _ o _ _ (0, 0) X2
      have HBf := Lib.hid (HB.out.trans (hkf.below HB.out.size (fun i hi x => by omega)))
      clear hwf X2 hkf
      exact bodyPost_ret (v := .agg #[.int .u64 0, .int .u64 0]) (by simp [results, Tryz.results91, go_sem, k2]) rfl ⟨by rw [HW.out], HBf.out⟩
  have HW := Lib.hid (show rmV v = .agg #[.int .u64 0, .int .u64 0] by rw [HV.out, if_neg h8, if_neg h10, if_neg h11, if_neg h18]; rfl)
  go_wp2_with (first
    | (refine wpList_store_row rfl _ _ _ rfl (w.heap.size + 1) #[.int .u64 0, .int .u64 0] rfl rfl 104 _ E2.out room_inf7 rfl (by kernel_rfl) ?_))
  generalize hwf : World.setRow w1 _ _ = wf
  have hkf : Kp (fun j => j = w.heap.size + 1) w1 wf := by rw [← hwf]; exact kpRow7 (S := fun j => j = w.heap.size + 1) (Kp.refl _ _) (.inl rfl) _
  have X2 : wf.heap[w.heap.size + 1]? = some (.cells #[.int .u64 0, .int .u64 0] 104 (0, 0)) := by rw [← hwf]; exact setRow_heap _ _ _ _ _ _ E2.out
  have k2 := fun o => cell_of_row wf _ o _ _ (0, 0) X2
  have HBf := Lib.hid (HB.out.trans (hkf.below HB.out.size (fun i hi x => by omega)))
  clear hwf X2 hkf
  exact bodyPost_ret (v := .agg #[.int .u64 0, .int .u64 0]) (by simp [results, Tryz.results91, go_sem, k2]) rfl ⟨by rw [HW.out], HBf.out⟩
end Go.Proofs.YtbkcmnmbcldjoaaGreatDoor

namespace Go.Proofs.YtbkcmnmbcldjoaaGreatDoor
open Go.RowKit MM
set_option linter.unusedVariables false
set_option linter.unusedSimpArgs false
/-- Why an act's need isn't to be had; 0: it is. -/
def SH.takeE (kind : Int) (names : List ByteArray) (x : Rm) (a : AC.Ac) : Nat :=
  if AC.chk a ≠ 0 then AC.chk a else if SH.splits kind a.kind = false then 5
  else if x.up < (SH.need names a).up then (if a.kind = 18 then 8 else 9) else if x.down < (SH.need names a).down then 10 else 0
/-- What is left then. -/
def SH.takeR (kind : Int) (names : List ByteArray) (x : Rm) (a : AC.Ac) : Rm := if SH.takeE kind names x a = 0 then ⟨x.up - (SH.need names a).up, x.down - (SH.need names a).down⟩ else x
/-- What take answers. -/
def TkPost (kind : Int) (names : List ByteArray) (x : Rm) (a : AC.Ac) (p : Nat) (w : World) (e : Ending) (w' : World) : Prop :=
  e = .returned (.int .i64 (SH.takeE kind names x a : Nat)) ∧ w'.heap[p]? = some (.cells (rmC (SH.takeR kind names x a)) 104 (0, 0)) ∧ Kp (fun j => j = p) w w'
theorem need_nat {a : AC.Ac} (ha : a.ok) (h : AC.chk a = 0) (hk : a.kind = 10 ∨ a.kind = 11) : 0 ≤ a.n := by
  cases hm : AC.amount a
  · exfalso
    unfold AC.chk at h
    rw [hm] at h
    by_cases c1 : AC.known a.kind = true
    · rw [if_pos c1] at h
      by_cases c2 : 1 ≤ a.key.size ∧ a.key.size ≤ 24
      · rw [if_pos c2] at h
        by_cases c3 : AC.beyond a = true
        · rw [if_pos c3] at h; omega
        · rw [if_neg c3] at h
          by_cases c4 : AC.most a.kind < a.s.size
          · rw [if_pos c4] at h; omega
          · rw [if_neg c4] at h; simp at h
      · rw [if_neg c2] at h; omega
    · rw [if_neg c1] at h; omega
  · unfold AC.amount at hm
    rw [if_pos hk] at hm
    exact (of_decide_eq_true hm).1
set_option maxHeartbeats 8000000 in
set_option maxRecDepth 100000 in
theorem stake_any (g p : Nat) (kind : Int) (X : Value) (names : List ByteArray) (B : Option Addr) (cb : Nat) (x : Rm) (a : AC.Ac) (L : Option Addr) (cl : Nat) (w : World) (hE : w.heap[g]? = some (.cells #[.int .i64 kind, .slice B names.length cb, X] 107 (0, 0))) (hX : w.heap[p]? = some (.cells (rmC x) 104 (0, 0))) (hN : Strs w B names) (hn : names.length ≤ 100000) (ha : a.ok) (hI : Its w L a.make.list) (hs : Lim a.make.list.length ∧ Lim a.key.size ∧ Lim a.s.size) (hR : RowsAt w) (hx : x.up < 18446744073709551616 ∧ x.down < 18446744073709551616) (hne : g ≠ p) :
    Calls Tryz.prog 61 #[.pointer (some ⟨g, 0, none⟩), .pointer (some ⟨p, 0, none⟩), actV a L cl] w (TkPost kind names x a p w) := by
  have hgl := lt_of_heap hE
  have hpl := lt_of_heap hX
  have HC := Lib.hid (fun u (h : Below w.heap.size w u) => actCheck_any a L cl u ha (hR.below h) (hI.below h) hs.1 hs.2.1 hs.2.2)
  have HSp := Lib.hid (fun u (h : Below w.heap.size w u) => ssplits_any kind a.kind u (hR.below h))
  have HNd := Lib.hid (fun (h0 : AC.chk a = 0) u (h : Below w.heap.size w u) => sneed_any g kind X names B cb a L cl u ((h.block _ hgl).trans hE) (hN.below h) hn ha (fun hk => need_nat ha h0 hk))
  have HTm := Lib.hid (fun u => stooMuch_any a.kind u)
  have HEs := Lib.hid (fun u (h : Below w.heap.size w u) => (h.block _ hgl).trans hE)
  have HXs := Lib.hid (fun u (h : Below w.heap.size w u) => (h.block _ hpl).trans hX)
  have HV := Lib.hid (show SH.takeE kind names x a = if AC.chk a ≠ 0 then AC.chk a else if SH.splits kind a.kind = false then 5 else if x.up < (SH.need names a).up then (if a.kind = 18 then 8 else 9) else if x.down < (SH.need names a).down then 10 else 0 from rfl)
  have HR := Lib.hid (show SH.takeR kind names x a = if SH.takeE kind names x a = 0 then ⟨x.up - (SH.need names a).up, x.down - (SH.need names a).down⟩ else x from rfl)
  have HLx := Lib.hid hx
  have HGl := Lib.hid (And.intro hgl (And.intro hpl hne))
  have HDef := Lib.hid (fun e w' => show TkPost kind names x a p w e w' ↔ (e = .returned (.int .i64 (SH.takeE kind names x a : Nat)) ∧ w'.heap[p]? = some (.cells (rmC (SH.takeR kind names x a)) 104 (0, 0)) ∧ Kp (fun j => j = p) w w') from Iff.rfl)
  generalize TkPost kind names x a p w = PP at *
  generalize SH.takeR kind names x a = tr at *
  generalize SH.takeE kind names x a = te at *
  generalize SH.need names a = nd at *
  generalize SH.splits kind a.kind = sp at *
  have HBad := Lib.hid (fun (n : Nat) u (h1 : te = n) (h2 : n ≠ 0) (hb : Below w.heap.size w u) => show PP (.returned (.int .i64 (n : Nat))) u from (HDef.out _ _).2 ⟨by rw [h1], by rw [HR.out, if_neg (by omega)]; exact HXs.out u hb, Kp.of_below hb _⟩)
  clear hE hX hN hn ha hI hs hR hx hgl hpl hne
  go_enter Tryz.func61, Tryz.ntmps61
  go_upto_region 1 with fail
  generalize hw1 : World.alloc w _ = w1
  have HB := Lib.hid (show Below w.heap.size w w1 by rw [← hw1]; exact below1 w _)
  have E1 := Lib.hid (show w1.heap[w.heap.size]? = some (.cells (actC a L cl) 37 (0, 0)) by rw [← hw1]; exact heap_alloc_new w _)
  clear hw1
  go_wp2_with (first
    | (refine wpList_load_row rfl _ _ rfl w.heap.size rfl 37 _ (0, 0) _ E1.out Tryz.underlying37 rfl act_inf9 ?_))
  refine (HC.out _ HB.out).mono ?_
  rintro e w2 ⟨rfl, hb⟩
  have HB2 := Lib.hid (HB.out.trans (hb.mono HB.out.size))
  have E2 := Lib.hid ((hb.block _ (lt_of_heap E1.out)).trans E1.out)
  clear hb E1 HB
  rcases Nat.eq_zero_or_pos (AC.chk a) with h0 | h0
  rotate_left
  · have hne : ((AC.chk a : Int) != 0) = true := by simp; omega
    have HQ := Lib.hid (HBad.out (AC.chk a) w2 (by rw [HV.out, if_pos (by omega)]) (by omega) HB2.out)
    generalize AC.chk a = ck at *
    go_wp2_with fail
    exact HQ.out
  have H0 := Lib.hid h0
  rw [h0]
  clear h0
  have G2 := HEs.out w2 HB2.out
  have g0 : w2.cell? ⟨g, 0, none⟩ = some (.int .i64 kind) := cell_of_row w2 _ 0 _ _ (0, 0) G2
  have a0 : w2.cell? ⟨w.heap.size, 0, none⟩ = some (.int .i64 a.kind) := cell_of_row w2 _ 0 _ _ (0, 0) E2.out
  clear G2
  go_upto_region 4 with fail
  cases sp
  · skip
    refine wp_region_held_drew (S := fun W => Below w2.heap.size w2 W) (by kernel_rfl) (below_drew (Below.refl _ _)) (fun hHeld => ?_)
    refine wpAnyH_take (i := 0) (oi := ⟨_, _, _, _, _, _⟩) (v := ?_) rfl (by kernel_rfl) (by kernel_rfl) (by kernel_rfl) (fun _ _ _ h => h) (Or.inl ⟨by kernel_rfl, ?_⟩) hHeld ?_
    rotate_left 1
    · intro W hW; first | (go_simp; done) | (go_simp; with_reducible rfl)
    try simp only [Act.put, List.setIfInBounds_toArray, List.set_cons_zero, List.set_cons_succ]
    refine wpAnyH_take (i := 1) (oi := ⟨_, _, _, _, _, _⟩) (v := ?_) rfl (by kernel_rfl) (by kernel_rfl) (by kernel_rfl) (fun _ _ _ h => h) (Or.inl ⟨by kernel_rfl, ?_⟩) hHeld ?_
    rotate_left 1
    · intro W hW; first | (go_simp; done) | (go_simp; with_reducible rfl)
    try simp only [Act.put, List.setIfInBounds_toArray, List.set_cons_zero, List.set_cons_succ]
    refine wpAnyH_take (i := 2) (oi := ⟨_, _, _, _, _, _⟩) (v := ?_) rfl (by kernel_rfl) (by kernel_rfl) (by kernel_rfl) (fun _ _ _ h => h) (Or.inl ⟨by kernel_rfl, ?_⟩) hHeld ?_
    rotate_left 1
    · intro W hW; first | (go_simp; done) | (go_simp; with_reducible rfl)
    try simp only [Act.put, List.setIfInBounds_toArray, List.set_cons_zero, List.set_cons_succ]
    refine wpAnyH_take (i := 3) (oi := ⟨_, _, _, _, _, _⟩) (v := ?_) rfl (by kernel_rfl) (by kernel_rfl) (by kernel_rfl) (fun _ _ _ h => h) (Or.inl ⟨by kernel_rfl, ?_⟩) hHeld ?_
    rotate_left 1
    · intro W hW; have k0 := below_keep hW g0; first | (go_simp; done) | (go_simp; with_reducible rfl)
    try simp only [Act.put, List.setIfInBounds_toArray, List.set_cons_zero, List.set_cons_succ]
    refine wpAnyH_take (i := 4) (oi := ⟨_, _, _, _, _, _⟩) (v := ?_) rfl (by kernel_rfl) (by kernel_rfl) (by kernel_rfl) (fun _ _ _ h => h) (Or.inl ⟨by kernel_rfl, ?_⟩) hHeld ?_
    rotate_left 1
    · intro W hW; first | (go_simp; done) | (go_simp; with_reducible rfl)
    try simp only [Act.put, List.setIfInBounds_toArray, List.set_cons_zero, List.set_cons_succ]
    refine wpAnyH_take (i := 5) (oi := ⟨_, _, _, _, _, _⟩) (v := ?_) rfl (by kernel_rfl) (by kernel_rfl) (by kernel_rfl) (fun _ _ _ h => h) (Or.inl ⟨by kernel_rfl, ?_⟩) hHeld ?_
    rotate_left 1
    · intro W hW; have k0 := below_keep hW a0; first | (go_simp; done) | (go_simp; with_reducible rfl)
    try simp only [Act.put, List.setIfInBounds_toArray, List.set_cons_zero, List.set_cons_succ]
    refine wpAnyH_ready (rs := [6]) (by kernel_rfl) (by simp) ?_
    refine AllReadyH.cons rfl (fun K hK => ?_) AllReadyH.nil
    go_simp
    refine (HSp.out _ (HB2.out.trans (hHeld.mono HB2.out.size))).mono ?_
    rintro e w3 ⟨rfl, hbx⟩
    go_wp2_with fail
    refine hK.out _ _ ?_ (fun hHelda => ?_)
    · exact hHeld.trans (hbx.mono hHeld.size)
    clear hK K
    try simp only [Act.put, List.setIfInBounds_toArray, List.set_cons_zero, List.set_cons_succ]
    clear hbx
    refine wpAnyH_take (i := 7) (oi := ⟨_, _, _, _, _, _⟩) (v := ?_) rfl (by kernel_rfl) (by kernel_rfl) (by kernel_rfl) (fun _ _ _ h => h) (Or.inl ⟨by kernel_rfl, ?_⟩) hHelda ?_
    rotate_left 1
    · intro W hW; first | (go_simp; done) | (go_simp; with_reducible rfl)
    try simp only [Act.put, List.setIfInBounds_toArray, List.set_cons_zero, List.set_cons_succ]
    refine wpAnyH_done (by kernel_rfl) ?_ _
    have HB3 := Lib.hid (HB2.out.trans (hHelda.mono HB2.out.size))
    have HQ := Lib.hid (HBad.out 5 w3 (by rw [HV.out, if_neg (by rw [H0.out]; simp), if_pos True.intro]) (by omega) HB3.out)
    go_wp2_with fail
    exact HQ.out
  refine wp_region_held_drew (S := fun W => Below w2.heap.size w2 W) (by kernel_rfl) (below_drew (Below.refl _ _)) (fun hHeld => ?_)
  refine wpAnyH_take (i := 0) (oi := ⟨_, _, _, _, _, _⟩) (v := ?_) rfl (by kernel_rfl) (by kernel_rfl) (by kernel_rfl) (fun _ _ _ h => h) (Or.inl ⟨by kernel_rfl, ?_⟩) hHeld ?_
  rotate_left 1
  · intro W hW; first | (go_simp; done) | (go_simp; with_reducible rfl)
  try simp only [Act.put, List.setIfInBounds_toArray, List.set_cons_zero, List.set_cons_succ]
  refine wpAnyH_take (i := 1) (oi := ⟨_, _, _, _, _, _⟩) (v := ?_) rfl (by kernel_rfl) (by kernel_rfl) (by kernel_rfl) (fun _ _ _ h => h) (Or.inl ⟨by kernel_rfl, ?_⟩) hHeld ?_
  rotate_left 1
  · intro W hW; first | (go_simp; done) | (go_simp; with_reducible rfl)
  try simp only [Act.put, List.setIfInBounds_toArray, List.set_cons_zero, List.set_cons_succ]
  refine wpAnyH_take (i := 2) (oi := ⟨_, _, _, _, _, _⟩) (v := ?_) rfl (by kernel_rfl) (by kernel_rfl) (by kernel_rfl) (fun _ _ _ h => h) (Or.inl ⟨by kernel_rfl, ?_⟩) hHeld ?_
  rotate_left 1
  · intro W hW; first | (go_simp; done) | (go_simp; with_reducible rfl)
  try simp only [Act.put, List.setIfInBounds_toArray, List.set_cons_zero, List.set_cons_succ]
  refine wpAnyH_take (i := 3) (oi := ⟨_, _, _, _, _, _⟩) (v := ?_) rfl (by kernel_rfl) (by kernel_rfl) (by kernel_rfl) (fun _ _ _ h => h) (Or.inl ⟨by kernel_rfl, ?_⟩) hHeld ?_
  rotate_left 1
  · intro W hW; have k0 := below_keep hW g0; first | (go_simp; done) | (go_simp; with_reducible rfl)
  try simp only [Act.put, List.setIfInBounds_toArray, List.set_cons_zero, List.set_cons_succ]
  refine wpAnyH_take (i := 4) (oi := ⟨_, _, _, _, _, _⟩) (v := ?_) rfl (by kernel_rfl) (by kernel_rfl) (by kernel_rfl) (fun _ _ _ h => h) (Or.inl ⟨by kernel_rfl, ?_⟩) hHeld ?_
  rotate_left 1
  · intro W hW; first | (go_simp; done) | (go_simp; with_reducible rfl)
  try simp only [Act.put, List.setIfInBounds_toArray, List.set_cons_zero, List.set_cons_succ]
  refine wpAnyH_take (i := 5) (oi := ⟨_, _, _, _, _, _⟩) (v := ?_) rfl (by kernel_rfl) (by kernel_rfl) (by kernel_rfl) (fun _ _ _ h => h) (Or.inl ⟨by kernel_rfl, ?_⟩) hHeld ?_
  rotate_left 1
  · intro W hW; have k0 := below_keep hW a0; first | (go_simp; done) | (go_simp; with_reducible rfl)
  try simp only [Act.put, List.setIfInBounds_toArray, List.set_cons_zero, List.set_cons_succ]
  refine wpAnyH_ready (rs := [6]) (by kernel_rfl) (by simp) ?_
  refine AllReadyH.cons rfl (fun K hK => ?_) AllReadyH.nil
  go_simp
  refine (HSp.out _ (HB2.out.trans (hHeld.mono HB2.out.size))).mono ?_
  rintro e w3 ⟨rfl, hbx⟩
  go_wp2_with fail
  refine hK.out _ _ ?_ (fun hHelda => ?_)
  · exact hHeld.trans (hbx.mono hHeld.size)
  clear hK K
  try simp only [Act.put, List.setIfInBounds_toArray, List.set_cons_zero, List.set_cons_succ]
  clear hbx
  refine wpAnyH_take (i := 7) (oi := ⟨_, _, _, _, _, _⟩) (v := ?_) rfl (by kernel_rfl) (by kernel_rfl) (by kernel_rfl) (fun _ _ _ h => h) (Or.inl ⟨by kernel_rfl, ?_⟩) hHelda ?_
  rotate_left 1
  · intro W hW; first | (go_simp; done) | (go_simp; with_reducible rfl)
  try simp only [Act.put, List.setIfInBounds_toArray, List.set_cons_zero, List.set_cons_succ]
  refine wpAnyH_done (by kernel_rfl) ?_ _
  have HB3 := Lib.hid (HB2.out.trans (hHelda.mono HB2.out.size))
  have E3 := Lib.hid ((hHelda.block _ (lt_of_heap E2.out)).trans E2.out)
  clear g0 a0 E2 HB2 hHelda hHeld
  go_wp2_with (first
    | (refine wpList_load_row rfl _ _ rfl w.heap.size rfl 37 _ (0, 0) _ E3.out Tryz.underlying37 rfl act_inf9 ?_))
  refine (HNd.out H0.out _ HB3.out).mono ?_
  rintro e w4 ⟨rfl, hb⟩
  have HB4 := Lib.hid (HB3.out.trans (hb.mono HB3.out.size))
  have E4 := Lib.hid ((hb.block _ (lt_of_heap E3.out)).trans E3.out)
  clear hb E3 HB3
  go_upto_region 7 with (first
    | (refine wpList_store_row rfl _ _ _ rfl _ (rmC nd) rfl rfl 104 _ (heap_alloc_new _ _) room_inf7 rfl (by kernel_rfl) ?_))
  rw [World.setRow_alloc_new]
  generalize hw5 : World.alloc w4 _ = w5
  have hb5 : Below w4.heap.size w4 w5 := by rw [← hw5]; exact below1 w4 _
  have R8 := Lib.hid (show w5.heap[w4.heap.size]? = some (.cells (rmC nd) 104 (0, 0)) by rw [← hw5]; exact heap_alloc_new w4 _)
  have HB5 := Lib.hid (HB4.out.trans (hb5.mono HB4.out.size))
  have E5 := Lib.hid ((hb5.block _ (lt_of_heap E4.out)).trans E4.out)
  have HQ8 := Lib.hid (show p < w4.heap.size by have := HGl.out; have := HB4.out.size; omega)
  have X5 := Lib.hid (HXs.out w5 HB5.out)
  generalize hg8 : w4.heap.size = g8 at *
  clear hw5 hb5 hg8 E4 HB4
  have n0 : w5.cell? ⟨g8, 0, none⟩ = some (.int .u64 nd.up) := cell_of_row w5 _ 0 _ _ (0, 0) R8.out
  have n1 : w5.cell? ⟨g8, 1, none⟩ = some (.int .u64 nd.down) := cell_of_row w5 _ 1 _ _ (0, 0) R8.out
  have x0 : w5.cell? ⟨p, 0, none⟩ = some (.int .u64 x.up) := cell_of_row w5 _ 0 _ _ (0, 0) X5.out
  have x1 : w5.cell? ⟨p, 1, none⟩ = some (.int .u64 x.down) := cell_of_row w5 _ 1 _ _ (0, 0) X5.out
  have a0 : w5.cell? ⟨w.heap.size, 0, none⟩ = some (.int .i64 a.kind) := cell_of_row w5 _ 0 _ _ (0, 0) E5.out
  have HVt := Lib.hid (show te = if x.up < nd.up then (if a.kind = 18 then 8 else 9) else if x.down < nd.down then 10 else 0 by rw [HV.out, if_neg (by rw [H0.out]; simp), if_neg (show ¬ (true = false) by simp)])
  clear HV HC HSp HNd HEs HXs
  go_upto_region 7 with fail
  refine wp_region_held_drew (S := fun W => Below w5.heap.size w5 W) (by kernel_rfl) (below_drew (Below.refl _ _)) (fun hHeld => ?_)
  refine wpAnyH_take (i := 0) (oi := ⟨_, _, _, _, _, _⟩) (v := ?_) rfl (by kernel_rfl) (by kernel_rfl) (by kernel_rfl) (fun _ _ _ h => h) (Or.inl ⟨by kernel_rfl, ?_⟩) hHeld ?_
  rotate_left 1
  · intro W hW; first | (go_simp; done) | (go_simp; with_reducible rfl)
  try simp only [Act.put, List.setIfInBounds_toArray, List.set_cons_zero, List.set_cons_succ]
  refine wpAnyH_take (i := 1) (oi := ⟨_, _, _, _, _, _⟩) (v := ?_) rfl (by kernel_rfl) (by kernel_rfl) (by kernel_rfl) (fun _ _ _ h => h) (Or.inl ⟨by kernel_rfl, ?_⟩) hHeld ?_
  rotate_left 1
  · intro W hW; have k0 := below_keep hW n0; first | (go_simp; done) | (go_simp; with_reducible rfl)
  try simp only [Act.put, List.setIfInBounds_toArray, List.set_cons_zero, List.set_cons_succ]
  refine wpAnyH_take (i := 2) (oi := ⟨_, _, _, _, _, _⟩) (v := ?_) rfl (by kernel_rfl) (by kernel_rfl) (by kernel_rfl) (fun _ _ _ h => h) (Or.inl ⟨by kernel_rfl, ?_⟩) hHeld ?_
  rotate_left 1
  · intro W hW; first | (go_simp; done) | (go_simp; with_reducible rfl)
  try simp only [Act.put, List.setIfInBounds_toArray, List.set_cons_zero, List.set_cons_succ]
  refine wpAnyH_take (i := 3) (oi := ⟨_, _, _, _, _, _⟩) (v := ?_) rfl (by kernel_rfl) (by kernel_rfl) (by kernel_rfl) (fun _ _ _ h => h) (Or.inl ⟨by kernel_rfl, ?_⟩) hHeld ?_
  rotate_left 1
  · intro W hW; first | (go_simp; done) | (go_simp; with_reducible rfl)
  try simp only [Act.put, List.setIfInBounds_toArray, List.set_cons_zero, List.set_cons_succ]
  refine wpAnyH_take (i := 4) (oi := ⟨_, _, _, _, _, _⟩) (v := ?_) rfl (by kernel_rfl) (by kernel_rfl) (by kernel_rfl) (fun _ _ _ h => h) (Or.inl ⟨by kernel_rfl, ?_⟩) hHeld ?_
  rotate_left 1
  · intro W hW; first | (go_simp; done) | (go_simp; with_reducible rfl)
  try simp only [Act.put, List.setIfInBounds_toArray, List.set_cons_zero, List.set_cons_succ]
  refine wpAnyH_take (i := 5) (oi := ⟨_, _, _, _, _, _⟩) (v := ?_) rfl (by kernel_rfl) (by kernel_rfl) (by kernel_rfl) (fun _ _ _ h => h) (Or.inl ⟨by kernel_rfl, ?_⟩) hHeld ?_
  rotate_left 1
  · intro W hW; have k0 := below_keep hW x0; first | (go_simp; done) | (go_simp; with_reducible rfl)
  try simp only [Act.put, List.setIfInBounds_toArray, List.set_cons_zero, List.set_cons_succ]
  refine wpAnyH_take (i := 6) (oi := ⟨_, _, _, _, _, _⟩) (v := ?_) rfl (by kernel_rfl) (by kernel_rfl) (by kernel_rfl) (fun _ _ _ h => h) (Or.inl ⟨by kernel_rfl, ?_⟩) hHeld ?_
  rotate_left 1
  · intro W hW; first | (go_simp; done) | (go_simp; with_reducible rfl)
  try simp only [Act.put, List.setIfInBounds_toArray, List.set_cons_zero, List.set_cons_succ]
  refine wpAnyH_done (by kernel_rfl) ?_ _
  generalize hwq : World.drew w5 = w6 at *
  have HB6 := Lib.hid (HB5.out.trans (hHeld.mono HB5.out.size))
  have X6 := Lib.hid ((hHeld.block _ (lt_of_heap X5.out)).trans X5.out)
  have R8 := Lib.hid ((hHeld.block _ (lt_of_heap R8.out)).trans R8.out)
  have E6 := Lib.hid ((hHeld.block _ (lt_of_heap E5.out)).trans E5.out)
  clear n0 n1 x0 x1 a0 hwq hHeld X5 E5 HB5
  have n0 : w6.cell? ⟨g8, 0, none⟩ = some (.int .u64 nd.up) := cell_of_row w6 _ 0 _ _ (0, 0) R8.out
  have n1 : w6.cell? ⟨g8, 1, none⟩ = some (.int .u64 nd.down) := cell_of_row w6 _ 1 _ _ (0, 0) R8.out
  have x0 : w6.cell? ⟨p, 0, none⟩ = some (.int .u64 x.up) := cell_of_row w6 _ 0 _ _ (0, 0) X6.out
  have x1 : w6.cell? ⟨p, 1, none⟩ = some (.int .u64 x.down) := cell_of_row w6 _ 1 _ _ (0, 0) X6.out
  have a0 : w6.cell? ⟨w.heap.size, 0, none⟩ = some (.int .i64 a.kind) := cell_of_row w6 _ 0 _ _ (0, 0) E6.out
  by_cases hu : x.up < nd.up
  · have hu' : (x.up : Int) < (nd.up : Int) := by omega
    obtain ⟨z, hz⟩ : ∃ z : Nat, z = (if a.kind = 18 then 8 else 9) := ⟨_, rfl⟩
    have HQ := Lib.hid (HBad.out z w6 (by rw [HVt.out, if_pos hu, hz]) (by rw [hz]; split <;> omega) HB6.out)
    have HTz := Lib.hid (fun u => show Calls Tryz.prog 92 #[.int .i64 a.kind] u (fun e w' => e = .returned (.int .i64 (z : Nat)) ∧ u = w') from by have h := HTm.out u; rw [show (if a.kind = 18 then (8 : Int) else 9) = ((z : Nat) : Int) by rw [hz]; split <;> rfl] at h; exact h)
    clear hz HTm
    go_wp2_with fail
    refine (HTz.out _).mono ?_
    rintro e w9 ⟨rfl, rfl⟩
    go_wp2_with fail
    exact HQ.out
  have hu' : ¬ (x.up : Int) < (nd.up : Int) := by omega
  go_upto_region 9 with fail
  refine wp_region_held_drew (S := fun W => Below w6.heap.size w6 W) (by kernel_rfl) (below_drew (Below.refl _ _)) (fun hHeld => ?_)
  refine wpAnyH_take (i := 0) (oi := ⟨_, _, _, _, _, _⟩) (v := ?_) rfl (by kernel_rfl) (by kernel_rfl) (by kernel_rfl) (fun _ _ _ h => h) (Or.inl ⟨by kernel_rfl, ?_⟩) hHeld ?_
  rotate_left 1
  · intro W hW; first | (go_simp; done) | (go_simp; with_reducible rfl)
  try simp only [Act.put, List.setIfInBounds_toArray, List.set_cons_zero, List.set_cons_succ]
  refine wpAnyH_take (i := 1) (oi := ⟨_, _, _, _, _, _⟩) (v := ?_) rfl (by kernel_rfl) (by kernel_rfl) (by kernel_rfl) (fun _ _ _ h => h) (Or.inl ⟨by kernel_rfl, ?_⟩) hHeld ?_
  rotate_left 1
  · intro W hW; have k0 := below_keep hW n1; first | (go_simp; done) | (go_simp; with_reducible rfl)
  try simp only [Act.put, List.setIfInBounds_toArray, List.set_cons_zero, List.set_cons_succ]
  refine wpAnyH_take (i := 2) (oi := ⟨_, _, _, _, _, _⟩) (v := ?_) rfl (by kernel_rfl) (by kernel_rfl) (by kernel_rfl) (fun _ _ _ h => h) (Or.inl ⟨by kernel_rfl, ?_⟩) hHeld ?_
  rotate_left 1
  · intro W hW; first | (go_simp; done) | (go_simp; with_reducible rfl)
  try simp only [Act.put, List.setIfInBounds_toArray, List.set_cons_zero, List.set_cons_succ]
  refine wpAnyH_take (i := 3) (oi := ⟨_, _, _, _, _, _⟩) (v := ?_) rfl (by kernel_rfl) (by kernel_rfl) (by kernel_rfl) (fun _ _ _ h => h) (Or.inl ⟨by kernel_rfl, ?_⟩) hHeld ?_
  rotate_left 1
  · intro W hW; first | (go_simp; done) | (go_simp; with_reducible rfl)
  try simp only [Act.put, List.setIfInBounds_toArray, List.set_cons_zero, List.set_cons_succ]
  refine wpAnyH_take (i := 4) (oi := ⟨_, _, _, _, _, _⟩) (v := ?_) rfl (by kernel_rfl) (by kernel_rfl) (by kernel_rfl) (fun _ _ _ h => h) (Or.inl ⟨by kernel_rfl, ?_⟩) hHeld ?_
  rotate_left 1
  · intro W hW; first | (go_simp; done) | (go_simp; with_reducible rfl)
  try simp only [Act.put, List.setIfInBounds_toArray, List.set_cons_zero, List.set_cons_succ]
  refine wpAnyH_take (i := 5) (oi := ⟨_, _, _, _, _, _⟩) (v := ?_) rfl (by kernel_rfl) (by kernel_rfl) (by kernel_rfl) (fun _ _ _ h => h) (Or.inl ⟨by kernel_rfl, ?_⟩) hHeld ?_
  rotate_left 1
  · intro W hW; have k0 := below_keep hW x1; first | (go_simp; done) | (go_simp; with_reducible rfl)
  try simp only [Act.put, List.setIfInBounds_toArray, List.set_cons_zero, List.set_cons_succ]
  refine wpAnyH_take (i := 6) (oi := ⟨_, _, _, _, _, _⟩) (v := ?_) rfl (by kernel_rfl) (by kernel_rfl) (by kernel_rfl) (fun _ _ _ h => h) (Or.inl ⟨by kernel_rfl, ?_⟩) hHeld ?_
  rotate_left 1
  · intro W hW; first | (go_simp; done) | (go_simp; with_reducible rfl)
  try simp only [Act.put, List.setIfInBounds_toArray, List.set_cons_zero, List.set_cons_succ]
  refine wpAnyH_done (by kernel_rfl) ?_ _
  generalize hwq : World.drew w6 = w7 at *
  have HB7 := Lib.hid (HB6.out.trans (hHeld.mono HB6.out.size))
  have X7 := Lib.hid ((hHeld.block _ (lt_of_heap X6.out)).trans X6.out)
  have R8 := Lib.hid ((hHeld.block _ (lt_of_heap R8.out)).trans R8.out)
  have E7 := Lib.hid ((hHeld.block _ (lt_of_heap E6.out)).trans E6.out)
  clear n0 n1 x0 x1 a0 hwq hHeld X6 E6 HB6
  have n0 : w7.cell? ⟨g8, 0, none⟩ = some (.int .u64 nd.up) := cell_of_row w7 _ 0 _ _ (0, 0) R8.out
  have n1 : w7.cell? ⟨g8, 1, none⟩ = some (.int .u64 nd.down) := cell_of_row w7 _ 1 _ _ (0, 0) R8.out
  have x0 : w7.cell? ⟨p, 0, none⟩ = some (.int .u64 x.up) := cell_of_row w7 _ 0 _ _ (0, 0) X7.out
  have x1 : w7.cell? ⟨p, 1, none⟩ = some (.int .u64 x.down) := cell_of_row w7 _ 1 _ _ (0, 0) X7.out
  have a0 : w7.cell? ⟨w.heap.size, 0, none⟩ = some (.int .i64 a.kind) := cell_of_row w7 _ 0 _ _ (0, 0) E7.out
  by_cases hd : x.down < nd.down
  · have hd' : (x.down : Int) < (nd.down : Int) := by omega
    have HQ := Lib.hid (HBad.out 10 w7 (by rw [HVt.out, if_neg hu, if_pos hd]) (by omega) HB7.out)
    go_wp2_with fail
    exact HQ.out
  have hd' : ¬ (x.down : Int) < (nd.down : Int) := by omega
  go_upto_region 11 with fail
  have hsu : IntKind.u64.wrap ((x.up : Int) - (nd.up : Int)) = ((x.up - nd.up : Nat) : Int) := by have := HLx.out; rw [u64_wrap]; omega
  have hsd : IntKind.u64.wrap ((x.down : Int) - (nd.down : Int)) = ((x.down - nd.down : Nat) : Int) := by have := HLx.out; rw [u64_wrap]; omega
  have HNe8 := Lib.hid (show g8 ≠ p by have := HQ8.out; omega)
  refine wp_region_held_drew (S := fun W => Kp (fun j => j = p) w7 W) (by kernel_rfl) (Kp.drew (Kp.refl _ _)) (fun hHeld => ?_)
  have Xv := Lib.hid (show (World.drew w7).heap[p]? = _ from X7.out)
  generalize World.drew w7 = v0 at *
  have xv0 := cell_of_row v0 _ 0 _ _ (0, 0) Xv.out
  have xv1 := cell_of_row v0 _ 1 _ _ (0, 0) Xv.out
  have xf : ∀ o, v0.frozen? ⟨p, o, none⟩ = false := fun o => frozen_of_row _ _ o _ _ Xv.out
  refine wpAnyH_take (i := 0) (oi := ⟨_, _, _, _, _, _⟩) (v := ?_) rfl (by kernel_rfl) (by kernel_rfl) (by kernel_rfl) (fun _ _ _ h => h) (Or.inl ⟨by kernel_rfl, ?_⟩) hHeld ?_
  rotate_left 1
  · intro W hW; first | (go_simp; done) | (go_simp; with_reducible rfl)
  try simp only [Act.put, List.setIfInBounds_toArray, List.set_cons_zero, List.set_cons_succ]
  refine wpAnyH_take (i := 1) (oi := ⟨_, _, _, _, _, _⟩) (v := ?_) rfl (by kernel_rfl) (by kernel_rfl) (by kernel_rfl) (fun _ _ _ h => h) (Or.inl ⟨by kernel_rfl, ?_⟩) hHeld ?_
  rotate_left 1
  · intro W hW; first | (go_simp; done) | (go_simp; with_reducible rfl)
  try simp only [Act.put, List.setIfInBounds_toArray, List.set_cons_zero, List.set_cons_succ]
  refine wpAnyH_take (i := 2) (oi := ⟨_, _, _, _, _, _⟩) (v := ?_) rfl (by kernel_rfl) (by kernel_rfl) (by kernel_rfl) (fun _ _ _ h => h) (Or.inl ⟨by kernel_rfl, ?_⟩) hHeld ?_
  rotate_left 1
  · intro W hW; first | (go_simp; done) | (go_simp; with_reducible rfl)
  try simp only [Act.put, List.setIfInBounds_toArray, List.set_cons_zero, List.set_cons_succ]
  refine wpAnyH_take (i := 4) (oi := ⟨_, _, _, _, _, _⟩) (v := ?_) rfl (by kernel_rfl) (by kernel_rfl) (by kernel_rfl) (fun _ _ _ h => h) (Or.inl ⟨by kernel_rfl, ?_⟩) hHeld ?_
  rotate_left 1
  · intro W hW; first | (go_simp; done) | (go_simp; with_reducible rfl)
  try simp only [Act.put, List.setIfInBounds_toArray, List.set_cons_zero, List.set_cons_succ]
  refine wpAnyH_take (i := 5) (oi := ⟨_, _, _, _, _, _⟩) (v := ?_) rfl (by kernel_rfl) (by kernel_rfl) (by kernel_rfl) (fun _ _ _ h => h) (Or.inl ⟨by kernel_rfl, ?_⟩) hHeld ?_
  rotate_left 1
  · intro W hW; have k0 := kp_cellg HNe8.out hW n0; first | (go_simp; done) | (go_simp; with_reducible rfl)
  try simp only [Act.put, List.setIfInBounds_toArray, List.set_cons_zero, List.set_cons_succ]
  refine wpAnyH_ready (rs := [3]) (by kernel_rfl) (by simp) ?_
  refine AllReadyH.cons rfl (fun K hK => ?_) AllReadyH.nil
  go_simp
  refine hK.out _ _ ?_ (fun hHelda => ?_)
  · exact hHeld
  clear hK K
  try simp only [Act.put, List.setIfInBounds_toArray, List.set_cons_zero, List.set_cons_succ]
  refine wpAnyH_take (i := 6) (oi := ⟨_, _, _, _, _, _⟩) (v := ?_) rfl (by kernel_rfl) (by kernel_rfl) (by kernel_rfl) (fun _ _ _ h => h) (Or.inl ⟨by kernel_rfl, ?_⟩) hHelda ?_
  rotate_left 1
  · intro W hW; first | (go_simp; done) | (go_simp; with_reducible rfl)
  try simp only [Act.put, List.setIfInBounds_toArray, List.set_cons_zero, List.set_cons_succ]
  refine wpAnyH_take (i := 7) (oi := ⟨_, _, _, _, _, _⟩) (v := ?_) rfl (by kernel_rfl) (by kernel_rfl) (by kernel_rfl) (fun _ _ _ h => h) (Or.inl ⟨by kernel_rfl, ?_⟩) hHelda ?_
  rotate_left 1
  · intro W hW; first | (go_simp; done) | (go_simp; with_reducible rfl)
  try simp only [Act.put, List.setIfInBounds_toArray, List.set_cons_zero, List.set_cons_succ]
  refine wpAnyH_take (i := 8) (oi := ⟨_, _, _, _, _, _⟩) (v := ?_) rfl (by kernel_rfl) (by kernel_rfl) (by kernel_rfl) (fun _ _ _ h => h) (Or.inl ⟨by kernel_rfl, ?_⟩) hHelda ?_
  rotate_left 1
  · intro W hW; first | (go_simp; done) | (go_simp; with_reducible rfl)
  try simp only [Act.put, List.setIfInBounds_toArray, List.set_cons_zero, List.set_cons_succ]
  refine wpAnyH_ready (rs := [9]) (by kernel_rfl) (by simp) ?_
  refine AllReadyH.cons rfl (fun K hK => ?_) AllReadyH.nil
  rw [if_pos (by kernel_rfl)]
  go_simp
  generalize hwf : World.setCell v0 _ _ = w8
  have hkf : Kp (fun j => j = p) v0 w8 := by rw [← hwf]; exact Kp.setCell (S := fun j => j = p) (p := ⟨p, 0, none⟩) (Kp.refl _ _) (.inl rfl) _
  have hrf := Lib.hid (show w8.heap[p]? = some (.cells (rmC ⟨x.up - nd.up, x.down⟩) 104 (0, 0)) by rw [← hwf]; exact heap_setCell_same _ _ 0 _ _ _ Xv.out)
  clear hwf xv0 xv1 xf
  refine hK.out _ _ ?_ (fun hHeldaa => ?_)
  · exact hHelda.trans hkf (fun _ _ x => x)
  clear hK K
  try simp only [Act.put, List.setIfInBounds_toArray, List.set_cons_zero, List.set_cons_succ]
  refine wpAnyH_done (by kernel_rfl) ?_ _
  have HK8 := Lib.hid (show Kp (fun j => j = p) w w8 from (Kp.of_below HB7.out (fun j => j = p)).trans hHeldaa (fun _ _ x => x))
  have X8 := hrf
  have R8 := Lib.hid (((hHeldaa.block _ (lt_of_heap R8.out) HNe8.out)).trans R8.out)
  clear n0 n1 hkf X7 hHeldaa hHelda hHeld
  have n1 : w8.cell? ⟨g8, 1, none⟩ = some (.int .u64 nd.down) := cell_of_row w8 _ 1 _ _ (0, 0) R8.out
  clear hrf Xv
  go_upto_region 12 with fail
  refine wp_region_held_drew (S := fun W => Kp (fun j => j = p) w8 W) (by kernel_rfl) (Kp.drew (Kp.refl _ _)) (fun hHeld => ?_)
  have Xv := Lib.hid (show (World.drew w8).heap[p]? = _ from X8.out)
  generalize World.drew w8 = v0 at *
  have xv0 := cell_of_row v0 _ 0 _ _ (0, 0) Xv.out
  have xv1 := cell_of_row v0 _ 1 _ _ (0, 0) Xv.out
  have xf : ∀ o, v0.frozen? ⟨p, o, none⟩ = false := fun o => frozen_of_row _ _ o _ _ Xv.out
  refine wpAnyH_take (i := 0) (oi := ⟨_, _, _, _, _, _⟩) (v := ?_) rfl (by kernel_rfl) (by kernel_rfl) (by kernel_rfl) (fun _ _ _ h => h) (Or.inl ⟨by kernel_rfl, ?_⟩) hHeld ?_
  rotate_left 1
  · intro W hW; first | (go_simp; done) | (go_simp; with_reducible rfl)
  try simp only [Act.put, List.setIfInBounds_toArray, List.set_cons_zero, List.set_cons_succ]
  refine wpAnyH_take (i := 1) (oi := ⟨_, _, _, _, _, _⟩) (v := ?_) rfl (by kernel_rfl) (by kernel_rfl) (by kernel_rfl) (fun _ _ _ h => h) (Or.inl ⟨by kernel_rfl, ?_⟩) hHeld ?_
  rotate_left 1
  · intro W hW; first | (go_simp; done) | (go_simp; with_reducible rfl)
  try simp only [Act.put, List.setIfInBounds_toArray, List.set_cons_zero, List.set_cons_succ]
  refine wpAnyH_take (i := 2) (oi := ⟨_, _, _, _, _, _⟩) (v := ?_) rfl (by kernel_rfl) (by kernel_rfl) (by kernel_rfl) (fun _ _ _ h => h) (Or.inl ⟨by kernel_rfl, ?_⟩) hHeld ?_
  rotate_left 1
  · intro W hW; first | (go_simp; done) | (go_simp; with_reducible rfl)
  try simp only [Act.put, List.setIfInBounds_toArray, List.set_cons_zero, List.set_cons_succ]
  refine wpAnyH_take (i := 4) (oi := ⟨_, _, _, _, _, _⟩) (v := ?_) rfl (by kernel_rfl) (by kernel_rfl) (by kernel_rfl) (fun _ _ _ h => h) (Or.inl ⟨by kernel_rfl, ?_⟩) hHeld ?_
  rotate_left 1
  · intro W hW; first | (go_simp; done) | (go_simp; with_reducible rfl)
  try simp only [Act.put, List.setIfInBounds_toArray, List.set_cons_zero, List.set_cons_succ]
  refine wpAnyH_take (i := 5) (oi := ⟨_, _, _, _, _, _⟩) (v := ?_) rfl (by kernel_rfl) (by kernel_rfl) (by kernel_rfl) (fun _ _ _ h => h) (Or.inl ⟨by kernel_rfl, ?_⟩) hHeld ?_
  rotate_left 1
  · intro W hW; have k0 := kp_cellg HNe8.out hW n1; first | (go_simp; done) | (go_simp; with_reducible rfl)
  try simp only [Act.put, List.setIfInBounds_toArray, List.set_cons_zero, List.set_cons_succ]
  refine wpAnyH_ready (rs := [3]) (by kernel_rfl) (by simp) ?_
  refine AllReadyH.cons rfl (fun K hK => ?_) AllReadyH.nil
  go_simp
  refine hK.out _ _ ?_ (fun hHelda => ?_)
  · exact hHeld
  clear hK K
  try simp only [Act.put, List.setIfInBounds_toArray, List.set_cons_zero, List.set_cons_succ]
  refine wpAnyH_take (i := 6) (oi := ⟨_, _, _, _, _, _⟩) (v := ?_) rfl (by kernel_rfl) (by kernel_rfl) (by kernel_rfl) (fun _ _ _ h => h) (Or.inl ⟨by kernel_rfl, ?_⟩) hHelda ?_
  rotate_left 1
  · intro W hW; first | (go_simp; done) | (go_simp; with_reducible rfl)
  try simp only [Act.put, List.setIfInBounds_toArray, List.set_cons_zero, List.set_cons_succ]
  refine wpAnyH_take (i := 7) (oi := ⟨_, _, _, _, _, _⟩) (v := ?_) rfl (by kernel_rfl) (by kernel_rfl) (by kernel_rfl) (fun _ _ _ h => h) (Or.inl ⟨by kernel_rfl, ?_⟩) hHelda ?_
  rotate_left 1
  · intro W hW; first | (go_simp; done) | (go_simp; with_reducible rfl)
  try simp only [Act.put, List.setIfInBounds_toArray, List.set_cons_zero, List.set_cons_succ]
  refine wpAnyH_take (i := 8) (oi := ⟨_, _, _, _, _, _⟩) (v := ?_) rfl (by kernel_rfl) (by kernel_rfl) (by kernel_rfl) (fun _ _ _ h => h) (Or.inl ⟨by kernel_rfl, ?_⟩) hHelda ?_
  rotate_left 1
  · intro W hW; first | (go_simp; done) | (go_simp; with_reducible rfl)
  try simp only [Act.put, List.setIfInBounds_toArray, List.set_cons_zero, List.set_cons_succ]
  refine wpAnyH_ready (rs := [9]) (by kernel_rfl) (by simp) ?_
  refine AllReadyH.cons rfl (fun K hK => ?_) AllReadyH.nil
  rw [if_pos (by kernel_rfl)]
  go_simp
  generalize hwf : World.setCell v0 _ _ = w10
  have hkf : Kp (fun j => j = p) v0 w10 := by rw [← hwf]; exact Kp.setCell (S := fun j => j = p) (p := ⟨p, 1, none⟩) (Kp.refl _ _) (.inl rfl) _
  have hrf := Lib.hid (show w10.heap[p]? = some (.cells (rmC ⟨x.up - nd.up, x.down - nd.down⟩) 104 (0, 0)) by rw [← hwf]; exact heap_setCell_same _ _ 1 _ _ _ Xv.out)
  clear hwf xv0 xv1 xf
  refine hK.out _ _ ?_ (fun hHeldaa => ?_)
  · exact hHelda.trans hkf (fun _ _ x => x)
  clear hK K
  try simp only [Act.put, List.setIfInBounds_toArray, List.set_cons_zero, List.set_cons_succ]
  refine wpAnyH_done (by kernel_rfl) ?_ _
  have HK10 := Lib.hid (HK8.out.trans hHeldaa (fun _ _ x => x))
  have HQ := Lib.hid (show PP (.returned (.int .i64 ((0 : Nat) : Int))) w10 from (HDef.out _ _).2 ⟨by rw [HVt.out, if_neg hu, if_neg hd], by rw [HR.out, if_pos (by rw [HVt.out, if_neg hu, if_neg hd])]; exact hrf.out, HK10.out⟩)
  clear hkf
  go_wp2_with fail
  exact HQ.out
end Go.Proofs.YtbkcmnmbcldjoaaGreatDoor

namespace Go.Proofs.YtbkcmnmbcldjoaaGreatDoor
open Go.RowKit MM
set_option linter.unusedVariables false
set_option linter.unusedSimpArgs false
/-- Acts drawn one behind the other: the error's number, what is left. -/
def SH.takeAll (kind : Int) (names : List ByteArray) : Rm → List AC.Ac → Nat × Rm
  | x, [] => (0, x)
  | x, a :: l => if SH.takeE kind names x a ≠ 0 then (SH.takeE kind names x a, x) else SH.takeAll kind names (SH.takeR kind names x a) l
def SH.drawE (kind : Int) (names : List ByteArray) (rs : List Rm) (k : Int) (l : List AC.Ac) : Nat := if 0 ≤ k ∧ k < (rs.length : Int) then (SH.takeAll kind names ((rs[k.toNat]?).getD ⟨0, 0⟩) l).1 else 1
def SH.drawR (kind : Int) (names : List ByteArray) (rs : List Rm) (k : Int) (l : List AC.Ac) : List Rm := if SH.drawE kind names rs k l = 0 then rs.set k.toNat (SH.takeAll kind names ((rs[k.toNat]?).getD ⟨0, 0⟩) l).2 else rs
theorem takeR_le (kind : Int) (names : List ByteArray) (x : Rm) (a : AC.Ac) : (SH.takeR kind names x a).up ≤ x.up ∧ (SH.takeR kind names x a).down ≤ x.down := by
  unfold SH.takeR
  split
  · exact ⟨Nat.sub_le _ _, Nat.sub_le _ _⟩
  · exact ⟨Nat.le_refl _, Nat.le_refl _⟩
/-- What Draw answers. -/
def DrPost (kind : Int) (names : List ByteArray) (rs : List Rm) (k : Int) (l : List AC.Ac) (gl : Nat) (w : World) (e : Ending) (w' : World) : Prop :=
  e = .returned (.int .i64 (SH.drawE kind names rs k l : Nat)) ∧ (∃ cs, w'.heap[gl]? = some (.cells cs 104 (0, 0)) ∧ RmsAt cs (SH.drawR kind names rs k l)) ∧ Kp (fun j => j = gl) w w'
theorem RmsAt.set {cs : Array Value} {l : List Rm} (h : RmsAt cs l) {i : Nat} (hi : i < l.length) (x : Rm) : RmsAt ((cs.setIfInBounds (i * 2) (.int .u64 x.up)).setIfInBounds (i * 2 + 1) (.int .u64 x.down)) (l.set i x) := by
  obtain ⟨h1, h2⟩ := h
  refine ⟨by simp [h1], fun k y hy => ?_⟩
  by_cases hki : k = i
  · subst hki
    rw [List.getElem?_set_self hi] at hy
    injection hy with hy
    subst hy
    constructor
    · rw [Array.getElem?_setIfInBounds_ne (by omega), Array.getElem?_setIfInBounds_self_of_lt (by omega)]
    · rw [Array.getElem?_setIfInBounds_self_of_lt (by rw [Array.size_setIfInBounds]; omega)]
  · rw [List.getElem?_set_ne (by omega)] at hy
    obtain ⟨h3, h4⟩ := h2 k y hy
    constructor
    · rw [Array.getElem?_setIfInBounds_ne (by omega), Array.getElem?_setIfInBounds_ne (by omega)]; exact h3
    · rw [Array.getElem?_setIfInBounds_ne (by omega), Array.getElem?_setIfInBounds_ne (by omega)]; exact h4
set_option maxHeartbeats 8000000 in
set_option maxRecDepth 100000 in
theorem sdraw_any (g gl : Nat) (kind : Int) (names : List ByteArray) (B : Option Addr) (cb : Nat) (rs : List Rm) (cs : Array Value) (k : Int) (l : List Al) (L : Option Addr) (cl : Nat) (w : World) (hE : w.heap[g]? = some (.cells #[.int .i64 kind, .slice B names.length cb, .slice (some ⟨gl, 0, none⟩) rs.length rs.length] 107 (0, 0))) (hX : w.heap[gl]? = some (.cells cs 104 (0, 0))) (hc : RmsAt cs rs) (hb : ∀ x ∈ rs, x.up < 18446744073709551616 ∧ x.down < 18446744073709551616) (hN : Strs w B names) (hn : names.length ≤ 100000) (hl : ActsIn w L l) (hln : l.length ≤ 1000) (hs : ∀ x ∈ l, Lim x.r.make.list.length ∧ Lim x.r.key.size ∧ Lim x.r.s.size) (hR : RowsAt w) (hne : g ≠ gl) :
    Calls Tryz.prog 25 #[.pointer (some ⟨g, 0, none⟩), .int .i64 k, .slice L l.length cl] w (DrPost kind names rs k (l.map (·.r)) gl w) := by
  have hgl := lt_of_heap hE
  have hpl := lt_of_heap hX
  have HH := Lib.hid (shas_any g gl rs.length k kind _ w hE)
  have HL := Lib.hid hl
  have HT := Lib.hid (fun (p : Nat) (x : Rm) (i : Nat) (hi : i < l.length) u (h : Below w.heap.size w u) (hp : u.heap[p]? = some (.cells (rmC x) 104 (0, 0))) (hx : x.up < 18446744073709551616 ∧ x.down < 18446744073709551616) (hgp : g ≠ p) => stake_any g p kind _ names B cb x l[i].r l[i].A l[i].c u ((h.block _ hgl).trans hE) hp (hN.below h) hn (hl.all _ (List.getElem_mem hi)).ok ((hl.all _ (List.getElem_mem hi)).make.its.below h) (hs _ (List.getElem_mem hi)) (hR.below h) hx hgp)
  have HDef := Lib.hid (fun e w' => show DrPost kind names rs k (l.map (·.r)) gl w e w' ↔ (e = .returned (.int .i64 (SH.drawE kind names rs k (l.map (·.r)) : Nat)) ∧ (∃ cs, w'.heap[gl]? = some (.cells cs 104 (0, 0)) ∧ RmsAt cs (SH.drawR kind names rs k (l.map (·.r)))) ∧ Kp (fun j => j = gl) w w') from Iff.rfl)
  have HV := Lib.hid (show SH.drawE kind names rs k (l.map (·.r)) = if 0 ≤ k ∧ k < (rs.length : Int) then (SH.takeAll kind names ((rs[k.toNat]?).getD ⟨0, 0⟩) (l.map (·.r))).1 else 1 from rfl)
  have HR := Lib.hid (show SH.drawR kind names rs k (l.map (·.r)) = if SH.drawE kind names rs k (l.map (·.r)) = 0 then rs.set k.toNat (SH.takeAll kind names ((rs[k.toNat]?).getD ⟨0, 0⟩) (l.map (·.r))).2 else rs from rfl)
  generalize DrPost kind names rs k (l.map (·.r)) gl w = PP at *
  generalize SH.drawR kind names rs k (l.map (·.r)) = dr at *
  generalize SH.drawE kind names rs k (l.map (·.r)) = de at *
  have HX := Lib.hid hX
  have HRm := Lib.hid hc
  have HE := Lib.hid hE
  have HBd := Lib.hid hb
  have HGl := Lib.hid (And.intro hgl (And.intro hpl hne))
  have HBad := Lib.hid (fun (n : Nat) u (h1 : de = n) (h2 : n ≠ 0) (hb : Below w.heap.size w u) => show PP (.returned (.int .i64 (n : Nat))) u from (HDef.out _ _).2 ⟨by rw [h1], ⟨cs, (hb.block _ hpl).trans hX, by rw [HR.out, if_neg (by omega)]; exact hc⟩, Kp.of_below hb _⟩)
  clear hE hX hc hb hN hn hl hs hR hgl hpl hne
  go_enter Tryz.func25, Tryz.ntmps25
  go_wp2_with fail
  refine HH.out.mono ?_
  rintro e w1 ⟨rfl, rfl⟩
  by_cases hk : 0 ≤ k ∧ k < (rs.length : Int)
  case neg =>
    have HQ := Lib.hid (HBad.out 1 w (by rw [HV.out, if_neg hk]) (by omega) (Below.refl _ _))
    rw [decide_eq_false hk]
    clear hk
    go_wp2_with fail
    exact HQ.out
  obtain ⟨i, rfl⟩ : ∃ i : Nat, k = (i : Int) := ⟨k.toNat, by omega⟩
  have hi : i < rs.length := by omega
  obtain ⟨x0, hx0⟩ : ∃ x, x = rs[i] := ⟨_, rfl⟩
  have hg0 : (rs[((i : Int)).toNat]?).getD ⟨0, 0⟩ = x0 := by rw [Int.toNat_natCast, List.getElem?_eq_getElem hi, hx0]; rfl
  have HV := Lib.hid (show de = (SH.takeAll kind names x0 (l.map (·.r))).1 by rw [HV.out, if_pos hk, hg0])
  have HR := Lib.hid (show dr = if de = 0 then rs.set i (SH.takeAll kind names x0 (l.map (·.r))).2 else rs by rw [HR.out, hg0, Int.toNat_natCast])
  have hb0 := HBd.out x0 (by rw [hx0]; exact List.getElem_mem hi)
  rw [decide_eq_true hk]
  have hcx := HRm.out.2 i x0 (by rw [hx0]; exact List.getElem?_eq_getElem hi)
  have hi1 : (i : Int) < (rs.length : Int) := by omega
  have HI := Lib.hid hi
  have c2 : w.cell? ⟨g, 2, none⟩ = some (.slice (some ⟨gl, 0, none⟩) rs.length rs.length) := cell_of_row w _ 2 _ _ (0, 0) HE.out
  have HRg := Lib.hid (show w.rangeAt gl (i * 2) (rmC x0).toList from fun j v hv => by
    rw [cell_of_row w _ _ _ _ (0, 0) HX.out]
    rcases j with _ | _ | j
    · simp at hv; subst hv; exact hcx.1
    · simp at hv; subst hv; exact hcx.2
    · simp at hv)
  clear hcx hx0 hg0 hk hi
  go_upto_region 4 with (first
    | (refine wpList_load_mid rfl _ _ rfl gl (i * 2) rfl (rmC x0).toList _ HRg.out Tryz.underlying104 rfl room_inf7 ?_)
    | (refine wpList_store_row rfl _ _ _ rfl _ (rmC x0) rfl rfl 104 _ (heap_alloc_new _ _) room_inf7 rfl (by kernel_rfl) ?_))
  rw [World.setRow_alloc_new]
  generalize hw5 : World.alloc w _ = w5
  have B5 := Lib.hid (show Below w.heap.size w w5 by rw [← hw5]; exact below1 w _)
  have X7 := Lib.hid (show w5.heap[w.heap.size]? = some (.cells (rmC x0) 104 (0, 0)) by rw [← hw5]; exact heap_alloc_new w _)
  have HS5 := Lib.hid (show w.heap.size < w5.heap.size by rw [← hw5]; simp)
  clear hw5 HRg c2
  go_wp2_with fail
  go_loopw [24] (fun t24 wr => ∃ (j : Nat) (x : Rm), t24 = .int .i64 j ∧ j ≤ l.length ∧ SH.takeAll kind names x0 (l.map (·.r)) = SH.takeAll kind names x ((l.drop j).map (·.r)) ∧ wr.heap[w.heap.size]? = some (.cells (rmC x) 104 (0, 0)) ∧ (x.up < 18446744073709551616 ∧ x.down < 18446744073709551616) ∧ Kp (fun j => j = w.heap.size) w5 wr) (fun t24 _ => l.length - (intOf t24).toNat)
  case atStart => exact ⟨0, x0, rfl, Nat.zero_le _, rfl, X7.out, hb0, Kp.refl _ _⟩
  case round =>
    obtain ⟨j, x, rfl, hj, hta, hrow, hxb, hkp⟩ := hrel
    have HTA := Lib.hid hta
    have HRow := Lib.hid hrow
    have HXB := Lib.hid hxb
    have HKp := Lib.hid hkp
    have BW := Lib.hid (show Below w.heap.size w wr from B5.out.trans (hkp.below (Nat.le_of_lt HS5.out) (fun i hi x => by omega)))
    clear hta hrow hxb hkp
    by_cases hlt : j < l.length
    · have hj1 : (j : Int) < (l.length : Int) := by omega
      have HTj := Lib.hid (HT.out w.heap.size x j hlt)
      have hdr : (l.drop j).map (·.r) = l[j].r :: (l.drop (j + 1)).map (·.r) := by rw [List.drop_eq_getElem_cons hlt]; rfl
      have HTB := Lib.hid (show SH.takeAll kind names x0 (l.map (·.r)) = if SH.takeE kind names x l[j].r ≠ 0 then (SH.takeE kind names x l[j].r, x) else SH.takeAll kind names (SH.takeR kind names x l[j].r) ((l.drop (j + 1)).map (·.r)) by rw [HTA.out, hdr]; rfl)
      obtain ⟨b1, o1, hLe, hr1⟩ := acts_range9 HL.out hlt
      subst hLe
      obtain ⟨a, hae⟩ : ∃ a, a = l[j] := ⟨_, rfl⟩
      rw [← hae] at HTj HTB hr1
      have HR1 := Lib.hid (range_keep9 BW.out hr1)
      have HLe := Lib.hid (takeR_le kind names x a.r)
      clear hr1 hae hdr
      go_upto_region 7 with (first
        | (refine wpList_load_mid rfl _ _ rfl b1 (o1 + j * 14) rfl (actC a.r a.A a.c).toList _ HR1.out Tryz.underlying37 rfl act_inf9 ?_)
        | (refine wpList_store_row rfl _ _ _ rfl _ (actC a.r a.A a.c) rfl rfl 37 _ (heap_alloc_new _ _) act_inf9 rfl (by kernel_rfl) ?_))
      rw [World.setRow_alloc_new]
      generalize hwb : World.alloc wr _ = wb
      have hbb : Below wr.heap.size wr wb := by rw [← hwb]; exact below1 wr _
      have R9 := Lib.hid (show wb.heap[wr.heap.size]? = some (.cells (actC a.r a.A a.c) 37 (0, 0)) by rw [← hwb]; exact heap_alloc_new wr _)
      have BB := Lib.hid (BW.out.trans (hbb.mono BW.out.size))
      have RB := Lib.hid ((hbb.block _ (lt_of_heap HRow.out)).trans HRow.out)
      have KB := Lib.hid (HKp.out.trans (Kp.of_below hbb (fun j => j = w.heap.size)) (fun _ _ x => x))
      generalize hg9 : wr.heap.size = g9 at *
      clear hwb hbb HR1 hg9
      go_wp2_with (first
        | (refine wpList_load_row rfl _ _ rfl g9 rfl 37 _ (0, 0) _ R9.out Tryz.underlying37 rfl act_inf9 ?_))
      refine (HTj.out _ BB.out RB.out HXB.out (by have := HGl.out; omega)).mono ?_
      rintro e w9 ⟨rfl, hrow9, hkp9⟩
      generalize SH.takeR kind names x a.r = xr at *
      generalize SH.takeE kind names x a.r = te at *
      have B9 := Lib.hid (BB.out.trans (hkp9.below BB.out.size (fun i hi x => by omega)))
      have K9 := Lib.hid (KB.out.trans hkp9 (fun _ _ x => x))
      have R9x := Lib.hid hrow9
      clear hrow9 hkp9 R9 RB KB BB
      rcases Nat.eq_zero_or_pos te with h0 | h0
      rotate_left
      · have hne : ((te : Int) != 0) = true := by simp; omega
        have HQ := Lib.hid (HBad.out te w9 (by rw [HV.out, HTB.out, if_pos (by omega)]) (by omega) B9.out)
        go_wp2_with fail
        exact HQ.out
      subst h0
      have HTN := Lib.hid (show SH.takeAll kind names x0 (l.map (·.r)) = SH.takeAll kind names xr ((l.drop (j + 1)).map (·.r)) by rw [HTB.out, if_neg (by simp)])
      have HXN := Lib.hid (show xr.up < 18446744073709551616 ∧ xr.down < 18446744073709551616 from ⟨Nat.lt_of_le_of_lt HLe.out.1 HXB.out.1, Nat.lt_of_le_of_lt HLe.out.2 HXB.out.2⟩)
      go_wp2_with fail
      go_roundw
      case rel => exact ⟨j + 1, xr, by go_num, by omega, HTN.out, R9x.out, HXN.out, K9.out⟩
      case measure => simp [intOf]; omega
    · have hj' : j = l.length := by omega
      have hj1 : ¬ (j : Int) < (l.length : Int) := by omega
      have HD := Lib.hid (show SH.takeAll kind names x0 (l.map (·.r)) = (0, x) by rw [HTA.out, hj', List.drop_length]; rfl)
      have HD0 := Lib.hid (show de = 0 by rw [HV.out, HD.out])
      have HDR := Lib.hid (show dr = rs.set i x by rw [HR.out, if_pos HD0.out, HD.out])
      have G := (BW.out.block _ HGl.out.1).trans HE.out
      have c2 : wr.cell? ⟨g, 2, none⟩ = some (.slice (some ⟨gl, 0, none⟩) rs.length rs.length) := cell_of_row wr _ 2 _ _ (0, 0) G
      have u0 : wr.cell? ⟨w.heap.size, 0, none⟩ = some (.int .u64 x.up) := cell_of_row wr _ 0 _ _ (0, 0) HRow.out
      have u1 : wr.cell? ⟨w.heap.size, 1, none⟩ = some (.int .u64 x.down) := cell_of_row wr _ 1 _ _ (0, 0) HRow.out
      have XG := Lib.hid ((BW.out.block _ HGl.out.2.1).trans HX.out)
      obtain ⟨y0, hy0⟩ : ∃ v, cs[i * 2]? = some v := ⟨_, Array.getElem?_eq_getElem (by have := HRm.out.1; have := HI.out; omega)⟩
      obtain ⟨y1, hy1⟩ : ∃ v, cs[i * 2 + 1]? = some v := ⟨_, Array.getElem?_eq_getElem (by have := HRm.out.1; have := HI.out; omega)⟩
      have HY := Lib.hid (And.intro hy0 hy1)
      have HRS := Lib.hid (HRm.out.set HI.out x)
      clear G hlt hj hj' hy0 hy1
      go_upto_region 11 with fail
      refine wp_region_held_drew (S := fun W => Kp (fun j => j = gl) wr W) (by kernel_rfl) (Kp.drew (Kp.refl _ _)) (fun hHeld => ?_)
      have HRv := Lib.hid (show (World.drew wr).heap[gl]? = some (.cells cs 104 (0, 0)) from XG.out)
      generalize World.drew wr = v0 at *
      refine wpAnyH_take (i := 0) (oi := ⟨_, _, _, _, _, _⟩) (v := ?_) rfl (by kernel_rfl) (by kernel_rfl) (by kernel_rfl) (fun _ _ _ h => h) (Or.inl ⟨by kernel_rfl, ?_⟩) hHeld ?_
      rotate_left 1
      · intro W hW; first | (go_simp; done) | (go_simp; with_reducible rfl)
      try simp only [Act.put, List.setIfInBounds_toArray, List.set_cons_zero, List.set_cons_succ]
      refine wpAnyH_take (i := 1) (oi := ⟨_, _, _, _, _, _⟩) (v := ?_) rfl (by kernel_rfl) (by kernel_rfl) (by kernel_rfl) (fun _ _ _ h => h) (Or.inl ⟨by kernel_rfl, ?_⟩) hHeld ?_
      rotate_left 1
      · intro W hW; first | (go_simp; done) | (go_simp; with_reducible rfl)
      try simp only [Act.put, List.setIfInBounds_toArray, List.set_cons_zero, List.set_cons_succ]
      refine wpAnyH_take (i := 2) (oi := ⟨_, _, _, _, _, _⟩) (v := ?_) rfl (by kernel_rfl) (by kernel_rfl) (by kernel_rfl) (fun _ _ _ h => h) (Or.inl ⟨by kernel_rfl, ?_⟩) hHeld ?_
      rotate_left 1
      · intro W hW; first | (go_simp; done) | (go_simp; with_reducible rfl)
      try simp only [Act.put, List.setIfInBounds_toArray, List.set_cons_zero, List.set_cons_succ]
      refine wpAnyH_take (i := 3) (oi := ⟨_, _, _, _, _, _⟩) (v := ?_) rfl (by kernel_rfl) (by kernel_rfl) (by kernel_rfl) (fun _ _ _ h => h) (Or.inl ⟨by kernel_rfl, ?_⟩) hHeld ?_
      rotate_left 1
      · intro W hW; have k0 := kp_cellg (by first | exact HGl.out.2.2 | (have := HGl.out; omega)) hW c2; first | (go_simp; done) | (go_simp; with_reducible rfl)
      try simp only [Act.put, List.setIfInBounds_toArray, List.set_cons_zero, List.set_cons_succ]
      refine wpAnyH_take (i := 4) (oi := ⟨_, _, _, _, _, _⟩) (v := ?_) rfl (by kernel_rfl) (by kernel_rfl) (by kernel_rfl) (fun _ _ _ h => h) (Or.inl ⟨by kernel_rfl, ?_⟩) hHeld ?_
      rotate_left 1
      · intro W hW; first | (go_simp; done) | (go_simp; with_reducible rfl)
      try simp only [Act.put, List.setIfInBounds_toArray, List.set_cons_zero, List.set_cons_succ]
      refine wpAnyH_take (i := 5) (oi := ⟨_, _, _, _, _, _⟩) (v := ?_) rfl (by kernel_rfl) (by kernel_rfl) (by kernel_rfl) (fun _ _ _ h => h) (Or.inl ⟨by kernel_rfl, ?_⟩) hHeld ?_
      rotate_left 1
      · intro W hW; have k0 := kp_cellg (by first | exact HGl.out.2.2 | (have := HGl.out; omega)) hW u0; have k1 := kp_cellg (by first | exact HGl.out.2.2 | (have := HGl.out; omega)) hW u1; first | (go_simp; done) | (go_simp; with_reducible rfl)
      try simp only [Act.put, List.setIfInBounds_toArray, List.set_cons_zero, List.set_cons_succ]
      refine wpAnyH_take (i := 6) (oi := ⟨_, _, _, _, _, _⟩) (v := ?_) rfl (by kernel_rfl) (by kernel_rfl) (by kernel_rfl) (fun _ _ _ h => h) (Or.inl ⟨by kernel_rfl, ?_⟩) hHeld ?_
      rotate_left 1
      · intro W hW; first | (go_simp; done) | (go_simp; with_reducible rfl)
      try simp only [Act.put, List.setIfInBounds_toArray, List.set_cons_zero, List.set_cons_succ]
      refine wpAnyH_ready (rs := [7]) (by kernel_rfl) (by simp) ?_
      refine AllReadyH.cons rfl (fun K hK => ?_) AllReadyH.nil
      have c0 : v0.cell? ⟨gl, i * 2, none⟩ = some y0 := by rw [cell_of_row v0 _ _ _ _ (0, 0) HRv.out]; exact HY.out.1
      have c1 : v0.cell? ⟨gl, i * 2 + 1, none⟩ = some y1 := by rw [cell_of_row v0 _ _ _ _ (0, 0) HRv.out]; exact HY.out.2
      have ff : ∀ o, v0.frozen? ⟨gl, o, none⟩ = false := fun o => frozen_of_row _ _ o _ _ HRv.out
      rw [if_pos (by kernel_rfl)]
      go_simp
      generalize hwf : World.setCell (World.setCell v0 _ _) _ _ = wf
      have hkf : Kp (fun j => j = gl) v0 wf := by rw [← hwf]; exact Kp.setCell (S := fun j => j = gl) (p := ⟨gl, i * 2 + 1, none⟩) (Kp.setCell (S := fun j => j = gl) (p := ⟨gl, i * 2, none⟩) (Kp.refl _ _) (.inl rfl) _) (.inl rfl) _
      have hrf := Lib.hid (show wf.heap[gl]? = some (.cells _ 104 (0, 0)) by rw [← hwf]; exact heap_setCell_same _ _ (i * 2 + 1) _ _ _ (heap_setCell_same _ _ (i * 2) _ _ _ HRv.out))
      clear hwf c0 c1 ff
      refine hK.out _ _ ?_ (fun hHelda => ?_)
      · exact hHeld.trans hkf (fun _ _ x => x)
      clear hK K
      try simp only [Act.put, List.setIfInBounds_toArray, List.set_cons_zero, List.set_cons_succ]
      refine wpAnyH_done (by kernel_rfl) ?_ _
      have HQ := Lib.hid (show PP (.returned (.int .i64 ((0 : Nat) : Int))) wf from (HDef.out _ _).2 ⟨by rw [HD0.out], ⟨_, hrf.out, by rw [HDR.out]; exact HRS.out⟩, (Kp.of_below BW.out (fun j => j = gl)).trans hHelda (fun _ _ x => x)⟩)
      clear hkf
      go_wp2_with fail
      exact HQ.out
end Go.Proofs.YtbkcmnmbcldjoaaGreatDoor
