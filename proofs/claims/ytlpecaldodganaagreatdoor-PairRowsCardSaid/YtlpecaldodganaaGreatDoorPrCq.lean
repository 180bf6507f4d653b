/- Contracts of package pair: Witness. -/
import Derived.Test.YtlpecaldodganaaGreatDoorPrAq
import Derived.Test.YtlpecaldodganaaGreatDoorPair3q
import Derived.Test.YtlpecaldodganaaGreatDoorPrBq
import Derived.Laws.ResultCell
import Derived.Deep.MidRow
import Derived.Deep.WholeRow
namespace Go.Proofs.YtlpecaldodganaaGreatDoor
open Go.RowKit MM
set_option linter.unusedVariables false
set_option linter.unusedSimpArgs false
abbrev wcaseC (r : RC.Rc) (A : Option Addr) (c : Nat) (t : Bool) (a b : AC.Ac) : Array Value := #[.int .i64 r.kind, .int .i64 r.num, .int .i64 r.low, .int .i64 r.high, .float .f64 r.real, .int .i64 r.cap, .string r.text, .slice A r.list.length c, .bool t, .int .i64 a.kind, .string a.key, .int .i64 a.n, .float .f64 a.x, .string a.s, .int .i64 a.make.kind, .int .i64 a.make.num, .int .i64 a.make.low, .int .i64 a.make.high, .float .f64 a.make.real, .int .i64 a.make.cap, .string a.make.text, .slice none a.make.list.length 0, .bool a.must, .int .i64 b.kind, .string b.key, .int .i64 b.n, .float .f64 b.x, .string b.s, .int .i64 b.make.kind, .int .i64 b.make.num, .int .i64 b.make.low, .int .i64 b.make.high, .float .f64 b.make.real, .int .i64 b.make.cap, .string b.make.text, .slice none b.make.list.length 0, .bool b.must]
theorem Kp.setRow {S : Nat → Prop} {w0 w : World} {g : Nat} (h : Kp S w0 w) (hg : S g ∨ w0.heap.size ≤ g) (cs : Array Value) : Kp S w0 (w.setRow g cs) :=
  ⟨h.os, h.tape, h.output, by rw [setRow_size]; exact h.size, fun i hi hn => (setRow_other w g i cs (fun e => by subst e; rcases hg with hg | hg; exact hn hg; omega)).trans (h.block i hi hn)⟩
theorem case_inf : (Tryz.prog.info? 37).map (fun i => i.size) = some 37 := by kernel_rfl
def okR (r : RC.Rc) : Bool := (Lit.int .i64 r.kind).wf && (Lit.int .i64 r.num).wf && (Lit.int .i64 r.low).wf && (Lit.int .i64 r.high).wf && decide (r.real < 18446744073709551616) && (Lit.int .i64 r.cap).wf && r.list.all (fun x => decide (x.score < 18446744073709551616)) && decide (r.list.length ≤ 1)
theorem okR_ok {r : RC.Rc} (h : okR r = true) : r.ok ∧ Lim r.list.length := by
  unfold okR at h
  simp only [Bool.and_eq_true, decide_eq_true_eq, List.all_eq_true] at h
  obtain ⟨⟨⟨⟨⟨⟨⟨h1, h2⟩, h3⟩, h4⟩, h5⟩, h6⟩, h7⟩, h8⟩ := h
  exact ⟨⟨h1, h2, h3, h4, by unfold MF.W64; omega, h6, fun x hx => by have := h7 x hx; unfold MF.W64; omega⟩, by unfold Lim; omega⟩
theorem pgrounds_ok (k l : Int) : ∀ x ∈ RU.pgrounds k l, okR x.1 = true := by
  unfold RU.pgrounds
  have hm : 0 ≤ RU.onMax k l ∧ RU.onMax k l ≤ 9 := by have := on_bd k; have := on_bd l; unfold RU.onMax; omega
  generalize RU.onMax k l = m at *
  have hx : m = 0 ∨ m = 1 ∨ m = 2 ∨ m = 3 ∨ m = 4 ∨ m = 5 ∨ m = 6 ∨ m = 7 ∨ m = 8 ∨ m = 9 := by omega
  refine List.all_eq_true.1 (show (((RC.zero, false) :: (RU.recsP m).map fun r => (r, true)).all fun x => okR x.1) = true from ?_)
  rcases hx with rfl | rfl | rfl | rfl | rfl | rfl | rfl | rfl | rfl | rfl <;> decide +kernel
/-- What Witness answers. -/
def WitPost (k l : Int) (w : World) (e : Ending) (w' : World) : Prop :=
  (∃ r t a b A c, e = .returned (.tuple #[.agg (wcaseC r A c t a b), .bool true]) ∧ (AC.known k = true ∧ AC.known l = true ∧ RU.kinds6 k l = false) ∧ (r, t) ∈ RU.pgrounds k l ∧ a ∈ RU.pacts k ∧ b ∈ RU.pacts l ∧ RU.differs r t a b = true ∧ Its w' A r.list ∧ Below w.heap.size w w') ∨
  (e = .returned (.tuple #[.agg (wcaseC RC.zero none 0 false AC.zero AC.zero), .bool false]) ∧ (AC.known k = false ∨ AC.known l = false ∨ RU.kinds6 k l = true ∨ ∀ x ∈ RU.pgrounds k l, ∀ a ∈ RU.pacts k, ∀ b ∈ RU.pacts l, RU.differs x.1 x.2 a b = false) ∧ Below w.heap.size w w')
set_option maxHeartbeats 4000000 in
set_option maxRecDepth 100000 in
theorem pwitness_no (k l : Int) (w : World) (hR : RowsAt w) (h : AC.known k = false ∨ AC.known l = false ∨ RU.kinds6 k l = true) : Calls Tryz.prog 19 #[.int .i64 k, .int .i64 l] w (WitPost k l w) := by
  have HK := Lib.hid (fun u => pknown_any k u)
  have HL := Lib.hid (fun u => pknown_any l u)
  have HS := Lib.hid (fun u (b : Below w.heap.size w u) => pairKinds_any k l u (hR.below b))
  have HP := Lib.hid (show ∀ w', Below w.heap.size w w' → WitPost k l w (.returned (.tuple #[.agg (wcaseC RC.zero none 0 false AC.zero AC.zero), .bool false])) w' from fun w' hb => .inr ⟨rfl, by rcases h with h | h | h; exact .inl h; exact .inr (.inl h); exact .inr (.inr (.inl h)), hb⟩)
  clear hR
  generalize WitPost k l w = PP at *
  generalize AC.known k = a1 at *
  generalize AC.known l = a2 at *
  generalize RU.kinds6 k l = v at *
  go_enter Tryz.func19, Tryz.ntmps19
  go_wp2_with fail
  generalize hwa : World.alloc w _ = wa
  have E4 := Lib.hid (show wa.heap[w.heap.size]? = some (.cells (wcaseC RC.zero none 0 false AC.zero AC.zero) 37 (0, 0)) by rw [← hwa]; exact heap_alloc_new w _)
  have HB := Lib.hid (show Below w.heap.size w wa by rw [← hwa]; exact below1 w _)
  clear hwa
  refine (HK.out _).mono ?_
  rintro e w' ⟨rfl, rfl⟩
  cases a1
  case false =>
    go_wp2_with (first
      | (refine wpList_store_row rfl _ _ _ rfl w.heap.size (wcaseC RC.zero none 0 false AC.zero AC.zero) rfl rfl 37 _ E4.out case_inf rfl (by kernel_rfl) ?_))
    have X4 := setRow_heap _ w.heap.size _ (wcaseC RC.zero none 0 false AC.zero AC.zero) 37 _ E4.out
    have HBf := Lib.hid (show Below w.heap.size w _ from (Kp.setRow (S := fun j => j = w.heap.size) (Kp.of_below HB.out _) (.inl rfl) (wcaseC RC.zero none 0 false AC.zero AC.zero)).below (Nat.le_refl _) (fun i hi x => by omega))
    generalize World.setRow _ _ _ = wf at *
    have hld : (loadVar 37 ⟨w.heap.size, 0, none⟩).run Tryz.prog wf = .ok (.agg (wcaseC RC.zero none 0 false AC.zero AC.zero)) wf := run_loadVar_row _ _ 37 37 _ (0, 0) _ X4 Tryz.underlying37 rfl case_inf
    clear X4
    exact bodyPost_ret (v := .tuple #[.agg (wcaseC RC.zero none 0 false AC.zero AC.zero), .bool false]) (by rw [results_cell_tmp rfl]; show ((loadVar 37 ⟨w.heap.size, 0, none⟩).run Tryz.prog wf).andThen _ = _; rw [hld]; rfl) rfl (HP.out _ HBf.out)

  go_wp2_with fail
  refine (HL.out _).mono ?_
  rintro e w' ⟨rfl, rfl⟩
  cases a2
  case false =>
    go_wp2_with (first
      | (refine wpList_store_row rfl _ _ _ rfl w.heap.size (wcaseC RC.zero none 0 false AC.zero AC.zero) rfl rfl 37 _ E4.out case_inf rfl (by kernel_rfl) ?_))
    have X4 := setRow_heap _ w.heap.size _ (wcaseC RC.zero none 0 false AC.zero AC.zero) 37 _ E4.out
    have HBf := Lib.hid (show Below w.heap.size w _ from (Kp.setRow (S := fun j => j = w.heap.size) (Kp.of_below HB.out _) (.inl rfl) (wcaseC RC.zero none 0 false AC.zero AC.zero)).below (Nat.le_refl _) (fun i hi x => by omega))
    generalize World.setRow _ _ _ = wf at *
    have hld : (loadVar 37 ⟨w.heap.size, 0, none⟩).run Tryz.prog wf = .ok (.agg (wcaseC RC.zero none 0 false AC.zero AC.zero)) wf := run_loadVar_row _ _ 37 37 _ (0, 0) _ X4 Tryz.underlying37 rfl case_inf
    clear X4
    exact bodyPost_ret (v := .tuple #[.agg (wcaseC RC.zero none 0 false AC.zero AC.zero), .bool false]) (by rw [results_cell_tmp rfl]; show ((loadVar 37 ⟨w.heap.size, 0, none⟩).run Tryz.prog wf).andThen _ = _; rw [hld]; rfl) rfl (HP.out _ HBf.out)

  have hv : v = true := by rcases h with h | h | h; cases h; cases h; exact h
  subst hv
  go_wp2_with fail
  refine (HS.out _ HB.out).mono ?_
  rintro e w2 ⟨rfl, hb⟩
  have HB := Lib.hid (HB.out.trans (hb.mono HB.out.size))
  have E4 := Lib.hid ((hb.block _ (lt_of_heap E4.out)).trans E4.out)
  clear hb
  go_wp2_with (first
    | (refine wpList_store_row rfl _ _ _ rfl w.heap.size (wcaseC RC.zero none 0 false AC.zero AC.zero) rfl rfl 37 _ E4.out case_inf rfl (by kernel_rfl) ?_))
  have X4 := setRow_heap _ w.heap.size _ (wcaseC RC.zero none 0 false AC.zero AC.zero) 37 _ E4.out
  have HBf := Lib.hid (show Below w.heap.size w _ from (Kp.setRow (S := fun j => j = w.heap.size) (Kp.of_below HB.out _) (.inl rfl) (wcaseC RC.zero none 0 false AC.zero AC.zero)).below (Nat.le_refl _) (fun i hi x => by omega))
  generalize World.setRow _ _ _ = wf at *
  have hld : (loadVar 37 ⟨w.heap.size, 0, none⟩).run Tryz.prog wf = .ok (.agg (wcaseC RC.zero none 0 false AC.zero AC.zero)) wf := run_loadVar_row _ _ 37 37 _ (0, 0) _ X4 Tryz.underlying37 rfl case_inf
  clear X4
  exact bodyPost_ret (v := .tuple #[.agg (wcaseC RC.zero none 0 false AC.zero AC.zero), .bool false]) (by rw [results_cell_tmp rfl]; show ((loadVar 37 ⟨w.heap.size, 0, none⟩).run Tryz.prog wf).andThen _ = _; rw [hld]; rfl) rfl (HP.out _ HBf.out)
end Go.Proofs.YtlpecaldodganaaGreatDoor
namespace Go.Proofs.YtlpecaldodganaaGreatDoor
open Go.RowKit MM
set_option linter.unusedVariables false
def RU.witness (k l : Int) : Bool := (RU.pgrounds k l).any fun g => (RU.pacts k).any fun a => (RU.pacts l).any fun b => RU.differs g.1 g.2 a b
set_option maxRecDepth 100000 in
theorem wit_all : ((List.range 21).all fun i => (List.range 21).all fun j => RU.kinds6 ((i : Int) + 1) ((j : Int) + 1) || RU.witness ((i : Int) + 1) ((j : Int) + 1)) = true := by decide +kernel
end Go.Proofs.YtlpecaldodganaaGreatDoor
namespace Go.Proofs.YtlpecaldodganaaGreatDoor
open Go.RowKit MM
set_option linter.unusedVariables false
set_option linter.unusedSimpArgs false
theorem act_inf : (Tryz.prog.info? 27).map (fun i => i.size) = some 14 := by kernel_rfl
theorem range_keep {w w' : World} {b o : Nat} {cs : List Value} (hb : Below w.heap.size w w') (h : w.rangeAt b o cs) : w'.rangeAt b o cs := fun j v hv => below_keep hb (h j v hv)
/-- An act in a row, as a range. -/
theorem acts_range {w : World} {L : Option Addr} {P : List AC.Ac} (h : ActsIn w L (P.map fun a => ⟨a, none, 0⟩)) {i : Nat} (hi : i < P.length) : ∃ b off, L = some ⟨b, off, none⟩ ∧ w.rangeAt b (off + i * 14) (actC P[i] none 0).toList := by
  rcases h.rows with h0 | ⟨b, off, rfl, hb, hr⟩
  · have := congrArg List.length h0
    simp at this
    subst this
    simp at hi
  · exact ⟨b, off, rfl, fun j v hv => hr i ⟨P[i], none, 0⟩ (by simp [hi]) j v (by show (actC P[i] none 0)[j]? = some v; rw [← Array.getElem?_toList]; exact hv)⟩
theorem pgrounds_len (k l : Int) : (RU.pgrounds k l).length ≤ 3 := by
  unfold RU.pgrounds RU.recsP
  rw [List.length_cons, List.length_map]
  repeat' split
  all_goals simp
theorem in_take {α : Type} {l : List α} {i : Nat} (hi : i < l.length) {Q : α → Prop} (h : ∀ x ∈ l.take i, Q x) (h2 : Q l[i]) : ∀ x ∈ l.take (i + 1), Q x := fun x hx => by
  rw [List.take_add_one, List.getElem?_eq_getElem hi] at hx
  rcases List.mem_append.1 hx with hx | hx
  · exact h x hx
  · simp at hx
    subst hx
    exact h2
set_option maxHeartbeats 8000000 in
set_option maxRecDepth 100000 in
theorem pwitness_yes (k l : Int) (w : World) (hR : RowsAt w) (h1 : AC.known k = true) (h2 : AC.known l = true) (h3 : RU.kinds6 k l = false) : Calls Tryz.prog 19 #[.int .i64 k, .int .i64 l] w (WitPost k l w) := by
  have hk : 1 ≤ k ∧ k ≤ 21 := by unfold AC.known at h1; have := of_decide_eq_true h1; omega
  have hl : 1 ≤ l ∧ l ≤ 21 := by unfold AC.known at h2; have := of_decide_eq_true h2; omega
  have HK := Lib.hid (fun u => pknown_any k u)
  have HL := Lib.hid (fun u => pknown_any l u)
  have HS := Lib.hid (fun u (b : Below w.heap.size w u) => pairKinds_any k l u (hR.below b))
  have HG := Lib.hid (fun u (b : Below w.heap.size w u) => pgrounds_any k l u (hR.below b))
  have HA := Lib.hid (fun u => pacts_any k u hk)
  have HB := Lib.hid (fun u => pacts_any l u hl)
  have HOa := Lib.hid (pacts_okA hk)
  have HOb := Lib.hid (pacts_okA hl)
  have HOg := Lib.hid (pgrounds_ok k l)
  have HD := Lib.hid (fun (r : RC.Rc) (t : Bool) (a b : AC.Ac) (A : Option Addr) (c : Nat) u (hr : okR r = true) (hI : Its u A r.list) (ha : okA a = true) (hb : okA b = true) (bw : Below w.heap.size w u) => pairDiffers_any r t a b A none none c 0 0 u (okR_ok hr).1 hI (okR_ok hr).2 (okA_in ha u).1 (okA_in hb u).1 (okA_in ha u).2 (okA_in hb u).2 (hR.below bw))
  have HY := Lib.hid (show ∀ r t a b A c w', (r, t) ∈ RU.pgrounds k l → a ∈ RU.pacts k → b ∈ RU.pacts l → RU.differs r t a b = true → Its w' A r.list → Below w.heap.size w w' → WitPost k l w (.returned (.tuple #[.agg (wcaseC r A c t a b), .bool true])) w' from fun r t a b A c w' hg ha hb hd hI hbl => .inl ⟨r, t, a, b, A, c, rfl, ⟨h1, h2, h3⟩, hg, ha, hb, hd, hI, hbl⟩)
  have HN := Lib.hid (show ∀ w', (∀ x ∈ RU.pgrounds k l, ∀ a ∈ RU.pacts k, ∀ b ∈ RU.pacts l, RU.differs x.1 x.2 a b = false) → Below w.heap.size w w' → WitPost k l w (.returned (.tuple #[.agg (wcaseC RC.zero none 0 false AC.zero AC.zero), .bool false])) w' from fun w' h hb => .inr ⟨rfl, .inr (.inr (.inr h)), hb⟩)
  have hla : (RU.pacts k).length ≤ 2 := pacts_len
  have hlb : (RU.pacts l).length ≤ 2 := pacts_len
  have hlg := pgrounds_len k l
  clear hR hk hl
  rw [h1] at HK
  rw [h2] at HL
  rw [h3] at HS
  clear h1 h2 h3
  generalize WitPost k l w = PP at *
  generalize RU.pgrounds k l = G at *
  generalize RU.pacts k = pa at *
  generalize RU.pacts l = pb at *
  go_enter Tryz.func19, Tryz.ntmps19
  go_wp2_with fail
  generalize hwa : World.alloc w _ = wa
  have E4 := Lib.hid (show wa.heap[w.heap.size]? = some (.cells (wcaseC RC.zero none 0 false AC.zero AC.zero) 37 (0, 0)) by rw [← hwa]; exact heap_alloc_new w _)
  have B1 := Lib.hid (show Below w.heap.size w wa by rw [← hwa]; exact below1 w _)
  clear hwa
  refine (HK.out _).mono ?_
  rintro e w' ⟨rfl, rfl⟩
  go_wp2_with fail
  refine (HL.out _).mono ?_
  rintro e w' ⟨rfl, rfl⟩
  go_wp2_with fail
  refine (HS.out _ B1.out).mono ?_
  rintro e w2 ⟨rfl, hb⟩
  have E4 := Lib.hid ((hb.block _ (lt_of_heap E4.out)).trans E4.out)
  have B2 := Lib.hid (B1.out.trans (hb.mono B1.out.size))
  have S2 := Lib.hid (lt_of_heap E4.out)
  clear hb
  go_wp2_with fail
  refine (HG.out _ B2.out).mono ?_
  rintro e w3 ⟨L, cl, ys, rfl, hG, ⟨b, off, rfl, hbl, hrows⟩, hfar, hb⟩
  have E4 := Lib.hid ((hb.block _ (lt_of_heap E4.out)).trans E4.out)
  have B3 := Lib.hid (B2.out.trans (hb.mono B2.out.size))
  have HRW := Lib.hid hrows
  have HGG := Lib.hid hG
  have hly : ys.length ≤ 3 := by rw [← hG] at hlg; simpa using hlg
  clear hlg
  have HFR := Lib.hid (show ∀ y ∈ ys, ∀ k, ob y.A = some k → w.heap.size < k from fun y hy k e => by have h1 := hfar y hy k e; have h2 := S2.out; omega)
  clear hb hrows hG hfar HK HL HS HG
  go_wp2_with fail
  go_loopw [30] (fun t30 wr => ∃ i : Nat, t30 = .int .i64 i ∧ i ≤ ys.length ∧ (∀ y ∈ ys.take i, ∀ a ∈ pa, ∀ b ∈ pb, RU.differs y.r y.t a b = false) ∧ Below w3.heap.size w3 wr) (fun t30 _ => ys.length - (intOf t30).toNat)
  case atStart => exact ⟨0, rfl, Nat.zero_le _, (fun y hy => by simp at hy), Below.refl _ _⟩
  case round =>
    obtain ⟨i, rfl, hi, hno, hbr⟩ := hrel
    have HNO := Lib.hid hno
    have BR := Lib.hid hbr
    clear hno hbr
    by_cases hlt : i < ys.length
    · have hi1 : (i : Int) < (ys.length : Int) := by omega
      have hr := HRW.out i ys[i] (List.getElem?_eq_getElem hlt)
      have hfy := HFR.out ys[i] (List.getElem_mem hlt)
      have hin : (ys[i].r, ys[i].t) ∈ G := by rw [← HGG.out]; exact List.mem_map.2 ⟨ys[i], List.getElem_mem hlt, rfl⟩
      have HTK := Lib.hid (fun (h : ∀ a ∈ pa, ∀ b ∈ pb, RU.differs ys[i].r ys[i].t a b = false) => in_take hlt (Q := fun y : Cs => ∀ a ∈ pa, ∀ b ∈ pb, RU.differs y.r y.t a b = false) HNO.out h)
      generalize ys[i] = y at *
      obtain ⟨r, A, c, t⟩ := y
      have HIN := Lib.hid hin
      have HFAR := Lib.hid (show ∀ ad, A = some ad → ¬ ad.block = w.heap.size from fun ad e x => by have h9 := hfy ad.block (by show ob A = _; rw [e]; rfl); omega)
      have HI := Lib.hid (show Its wr A r.list from hr.2.below BR.out)
      have HRG := Lib.hid (show wr.rangeAt b (off + i * 37) (caseC r A c t).toList from range_keep BR.out (fun j v hv => hr.1 j v hv))
      clear hr hin hfy
      go_wp2_with (first
        | (refine wpList_load_mid rfl _ _ rfl b (off + i * 37) rfl (caseC r A c t).toList _ HRG.out Tryz.underlying37 rfl case_inf ?_)
        | (refine wpList_store_row rfl _ _ _ rfl wr.heap.size (caseC r A c t) rfl rfl 37 _ (heap_alloc_new wr _) case_inf rfl (by kernel_rfl) ?_))
      rw [World.setRow_alloc_new]
      generalize hwb : World.alloc wr _ = wb
      have R7 := Lib.hid (show wb.heap[wr.heap.size]? = some (.cells (caseC r A c t) 37 (0, 0)) by rw [← hwb]; exact heap_alloc_new wr _)
      have hbb : Below wr.heap.size wr wb := by rw [← hwb]; exact below1 wr _
      have BB := Lib.hid (BR.out.trans (hbb.mono BR.out.size))
      have HI := Lib.hid (HI.out.below hbb)
      generalize hg7 : wr.heap.size = g7 at *
      clear hwb hbb HRG hg7
      refine (HA.out _).mono ?_
      rintro e w5 ⟨L5, cl5, rfl, hA5, hb⟩
      have R7 := Lib.hid ((hb.block _ (lt_of_heap R7.out)).trans R7.out)
      have B5 := Lib.hid (BB.out.trans (hb.mono BB.out.size))
      have HI5 := Lib.hid (HI.out.below hb)
      have HA5 := Lib.hid hA5
      clear hb hA5 HI BB
      go_wp2_with fail
      go_loopw [37] (fun t37 ws => ∃ j : Nat, t37 = .int .i64 j ∧ j ≤ pa.length ∧ (∀ a ∈ pa.take j, ∀ b ∈ pb, RU.differs r t a b = false) ∧ Below w5.heap.size w5 ws) (fun t37 _ => pa.length - (intOf t37).toNat)
      case atStart => exact ⟨0, rfl, Nat.zero_le _, (fun y hy => by simp at hy), Below.refl _ _⟩
      case round =>
        obtain ⟨j, rfl, hj, hno, hbr⟩ := hrel
        generalize wr = ws at *
        have HNO2 := Lib.hid hno
        have BR2 := Lib.hid hbr
        clear hno hbr
        by_cases hlt2 : j < pa.length
        · have hj1 : (j : Int) < (pa.length : Int) := by omega
          obtain ⟨b5, o5, rfl, hr5⟩ := acts_range HA5.out hlt2
          have ha := List.getElem_mem hlt2
          have HTK2 := Lib.hid (fun (h : ∀ b ∈ pb, RU.differs r t pa[j] b = false) => in_take hlt2 (Q := fun a => ∀ b ∈ pb, RU.differs r t a b = false) HNO2.out h)
          generalize pa[j] = a at *
          have HRG5 := Lib.hid (range_keep BR2.out hr5)
          have HAa := Lib.hid (show a ∈ pa from ha)
          clear hr5 ha
          go_wp2_with (first
            | (refine wpList_load_mid rfl _ _ rfl b5 (o5 + j * 14) rfl (actC a none 0).toList _ HRG5.out Tryz.underlying27 rfl act_inf ?_)
            | (refine wpList_store_row rfl _ _ _ rfl _ (actC a none 0) rfl rfl 27 _ (heap_alloc_new _ _) act_inf rfl (by kernel_rfl) ?_))
          rw [World.setRow_alloc_new]
          generalize hwc : World.alloc ws _ = wc
          have R9 := Lib.hid (show wc.heap[ws.heap.size]? = some (.cells (actC a none 0) 27 (0, 0)) by rw [← hwc]; exact heap_alloc_new ws _)
          have hbc : Below ws.heap.size ws wc := by rw [← hwc]; exact below1 ws _
          have h5c := BR2.out.trans (hbc.mono BR2.out.size)
          have R7c := Lib.hid ((h5c.block _ (lt_of_heap R7.out)).trans R7.out)
          have BC := Lib.hid (B5.out.trans (h5c.mono B5.out.size))
          have HIc := Lib.hid (HI5.out.below h5c)
          have H5c := Lib.hid h5c
          generalize hg9 : ws.heap.size = g9 at *
          clear hwc hbc HRG5 hg9 h5c
          refine (HB.out _).mono ?_
          rintro e w7 ⟨L7, cl7, rfl, hA7, hb⟩
          have R7d := Lib.hid ((hb.block _ (lt_of_heap R7c.out)).trans R7c.out)
          have R9 := Lib.hid ((hb.block _ (lt_of_heap R9.out)).trans R9.out)
          have B7 := Lib.hid (BC.out.trans (hb.mono BC.out.size))
          have H57 := Lib.hid (H5c.out.trans (hb.mono H5c.out.size))
          have HI7 := Lib.hid (HIc.out.below hb)
          have HA7 := Lib.hid hA7
          clear hb hA7 HIc BC H5c R7c
          go_wp2_with fail
          go_loopw [44] (fun t44 wt => ∃ m : Nat, t44 = .int .i64 m ∧ m ≤ pb.length ∧ (∀ b ∈ pb.take m, RU.differs r t a b = false) ∧ Below w7.heap.size w7 wt) (fun t44 _ => pb.length - (intOf t44).toNat)
          case atStart => exact ⟨0, rfl, Nat.zero_le _, (fun y hy => by simp at hy), Below.refl _ _⟩
          case round =>
            obtain ⟨m, rfl, hm, hno, hbr⟩ := hrel
            generalize wr = wt at *
            have HNO3 := Lib.hid hno
            have BR3 := Lib.hid hbr
            clear hno hbr
            by_cases hlt3 : m < pb.length
            · have hm1 : (m : Int) < (pb.length : Int) := by omega
              obtain ⟨b7, o7, rfl, hr7⟩ := acts_range HA7.out hlt3
              have hbm := List.getElem_mem hlt3
              have HTK3 := Lib.hid (fun (h : RU.differs r t a pb[m] = false) => in_take hlt3 (Q := fun b => RU.differs r t a b = false) HNO3.out h)
              generalize pb[m] = b' at *
              have HRG7 := Lib.hid (range_keep BR3.out hr7)
              have HAb := Lib.hid (show b' ∈ pb from hbm)
              have k7 := fun o => cell_of_row wt _ o _ _ (0, 0) ((BR3.out.block _ (lt_of_heap R7d.out)).trans R7d.out)
              have R7t := Lib.hid ((BR3.out.block _ (lt_of_heap R7d.out)).trans R7d.out)
              have R9t := Lib.hid ((BR3.out.block _ (lt_of_heap R9.out)).trans R9.out)
              clear hr7 hbm k7
              go_upto_region 12 with (first
                | (refine wpList_load_mid rfl _ _ rfl b7 (o7 + m * 14) rfl (actC b' none 0).toList _ HRG7.out Tryz.underlying27 rfl act_inf ?_)
                | (refine wpList_store_row rfl _ _ _ rfl _ (actC b' none 0) rfl rfl 27 _ (heap_alloc_new _ _) act_inf rfl (by kernel_rfl) ?_))
              rw [World.setRow_alloc_new]
              generalize hwd : World.alloc wt _ = wd
              have R11 := Lib.hid (show wd.heap[wt.heap.size]? = some (.cells (actC b' none 0) 27 (0, 0)) by rw [← hwd]; exact heap_alloc_new wt _)
              have hbd : Below wt.heap.size wt wd := by rw [← hwd]; exact below1 wt _
              have h7d := BR3.out.trans (hbd.mono BR3.out.size)
              have R7e := Lib.hid ((hbd.block _ (lt_of_heap R7t.out)).trans R7t.out)
              have R9e := Lib.hid ((hbd.block _ (lt_of_heap R9t.out)).trans R9t.out)
              have BD := Lib.hid (B7.out.trans (h7d.mono B7.out.size))
              have H7d := Lib.hid h7d
              have HId := Lib.hid (HI7.out.below h7d)
              generalize hg11 : wt.heap.size = g11 at *
              clear hwd hbd HRG7 hg11 h7d R7t R9t
              have k7 := fun o => cell_of_row wd _ o _ _ (0, 0) R7e.out
              go_wp2_with (first
                | (refine wpList_load_row rfl _ _ rfl g9 rfl 27 _ (0, 0) _ R9e.out Tryz.underlying27 rfl act_inf ?_)
                | (refine wpList_load_row rfl _ _ rfl g11 rfl 27 _ (0, 0) _ R11.out Tryz.underlying27 rfl act_inf ?_))
              have B0 := Lib.hid (B3.out.trans (BD.out.mono B3.out.size))
              refine (HD.out r t a b' A c _ (HOg.out _ HIN.out) HId.out (HOa.out _ HAa.out) (HOb.out _ HAb.out) B0.out).mono ?_
              generalize hdf : RU.differs r t a b' = df at *
              rintro e w9 ⟨rfl, hb9⟩
              have HF := Lib.hid hdf
              clear hdf k7
              cases df
              case false =>
                have H79 := Lib.hid (H7d.out.trans (hb9.mono H7d.out.size))
                clear hb9 R7e R9e R11 HId B0 BD H7d
                go_wp2_with fail
                go_roundw
                case rel => exact ⟨m + 1, by go_num, by omega, HTK3.out (by simp), H79.out⟩
                case measure => simp [intOf]; omega
              have R7f := Lib.hid ((hb9.block _ (lt_of_heap R7e.out)).trans R7e.out)
              have R9f := Lib.hid ((hb9.block _ (lt_of_heap R9e.out)).trans R9e.out)
              have R11f := Lib.hid ((hb9.block _ (lt_of_heap R11.out)).trans R11.out)
              have h39 := BD.out.trans (hb9.mono BD.out.size)
              have E4f := Lib.hid ((h39.block _ (lt_of_heap E4.out)).trans E4.out)
              have B9 := Lib.hid (B3.out.trans (h39.mono B3.out.size))
              have HIf := Lib.hid (HId.out.below hb9)
              have k7 := fun o => cell_of_row w9 _ o _ _ (0, 0) R7f.out
              clear hb9 h39 R7e R9e R11 HId B0 BD H7d
              go_wp2_with (first
                | (refine wpList_load_row rfl _ _ rfl g9 rfl 27 _ (0, 0) _ R9f.out Tryz.underlying27 rfl act_inf ?_)
                | (refine wpList_load_row rfl _ _ rfl g11 rfl 27 _ (0, 0) _ R11f.out Tryz.underlying27 rfl act_inf ?_)
                | (refine wpList_store_row rfl _ _ _ rfl w.heap.size (wcaseC r A c t a b') rfl rfl 37 _ E4f.out case_inf rfl (by kernel_rfl) ?_))
              have X4 := setRow_heap _ w.heap.size _ (wcaseC r A c t a b') 37 _ E4f.out
              have hkf : Kp (fun j => j = w.heap.size) w9 (w9.setRow w.heap.size (wcaseC r A c t a b')) := Kp.setRow (S := fun j => j = w.heap.size) (Kp.refl _ _) (.inl rfl) _
              have HBf := Lib.hid (show Below w.heap.size w _ from B9.out.trans (hkf.below B9.out.size (fun i hi x => by omega)))
              have HIg := Lib.hid (show Its (w9.setRow w.heap.size (wcaseC r A c t a b')) A r.list from HIf.out.kp hkf (fun ad e x => HFAR.out ad e x))
              generalize World.setRow _ _ _ = wf at *
              have hld : (loadVar 37 ⟨w.heap.size, 0, none⟩).run Tryz.prog wf = .ok (.agg (wcaseC r A c t a b')) wf := run_loadVar_row _ _ 37 37 _ (0, 0) _ X4 Tryz.underlying37 rfl case_inf
              clear X4 hkf
              exact bodyPost_ret (v := .tuple #[.agg (wcaseC r A c t a b'), .bool true]) (by rw [results_cell_tmp rfl]; show ((loadVar 37 ⟨w.heap.size, 0, none⟩).run Tryz.prog wf).andThen _ = _; rw [hld]; rfl) rfl (HY.out r t a b' A c _ HIN.out HAa.out HAb.out HF.out HIg.out HBf.out)
            · have hm' : m = pb.length := by omega
              have hm1 : ¬ (m : Int) < (pb.length : Int) := by omega
              have HAll := Lib.hid (show ∀ b ∈ pb, RU.differs r t a b = false by have := HNO3.out; rw [hm', List.take_length] at this; exact this)
              have H5t := Lib.hid (H57.out.trans (BR3.out.mono H57.out.size))
              clear hlt3 hm hm'
              go_wp2_with fail
              go_roundw
              case rel => exact ⟨j + 1, by go_num, by omega, HTK2.out HAll.out, H5t.out⟩
              case measure => simp [intOf]; omega
        · have hj' : j = pa.length := by omega
          have hj1 : ¬ (j : Int) < (pa.length : Int) := by omega
          have HAll := Lib.hid (show ∀ a ∈ pa, ∀ b ∈ pb, RU.differs r t a b = false by have := HNO2.out; rw [hj', List.take_length] at this; exact this)
          have H3s := Lib.hid (B5.out.trans (BR2.out.mono B5.out.size))
          clear hlt2 hj hj'
          go_wp2_with fail
          go_roundw
          case rel => exact ⟨i + 1, by go_num, by omega, HTK.out HAll.out, H3s.out⟩
          case measure => simp [intOf]; omega
    · have hi' : i = ys.length := by omega
      have hi1 : ¬ (i : Int) < (ys.length : Int) := by omega
      have HAll := Lib.hid (show ∀ x ∈ G, ∀ a ∈ pa, ∀ b ∈ pb, RU.differs x.1 x.2 a b = false by
        have h := HNO.out
        rw [hi', List.take_length] at h
        intro x hx
        rw [← HGG.out] at hx
        obtain ⟨y, hy, rfl⟩ := List.mem_map.1 hx
        exact h y hy)
      have E4r := Lib.hid ((BR.out.block _ (lt_of_heap E4.out)).trans E4.out)
      have HB := Lib.hid (B3.out.trans (BR.out.mono B3.out.size))
      clear hlt hi hi'
      go_wp2_with (first
        | (refine wpList_store_row rfl _ _ _ rfl w.heap.size (wcaseC RC.zero none 0 false AC.zero AC.zero) rfl rfl 37 _ E4r.out case_inf rfl (by kernel_rfl) ?_))
      have X4 := setRow_heap _ w.heap.size _ (wcaseC RC.zero none 0 false AC.zero AC.zero) 37 _ E4r.out
      have HBf := Lib.hid (show Below w.heap.size w _ from (Kp.setRow (S := fun j => j = w.heap.size) (Kp.of_below HB.out _) (.inl rfl) (wcaseC RC.zero none 0 false AC.zero AC.zero)).below (Nat.le_refl _) (fun i hi x => by omega))
      generalize World.setRow _ _ _ = wf at *
      have hld : (loadVar 37 ⟨w.heap.size, 0, none⟩).run Tryz.prog wf = .ok (.agg (wcaseC RC.zero none 0 false AC.zero AC.zero)) wf := run_loadVar_row _ _ 37 37 _ (0, 0) _ X4 Tryz.underlying37 rfl case_inf
      clear X4
      exact bodyPost_ret (v := .tuple #[.agg (wcaseC RC.zero none 0 false AC.zero AC.zero), .bool false]) (by rw [results_cell_tmp rfl]; show ((loadVar 37 ⟨w.heap.size, 0, none⟩).run Tryz.prog wf).andThen _ = _; rw [hld]; rfl) rfl (HN.out _ HAll.out HBf.out)
end Go.Proofs.YtlpecaldodganaaGreatDoor
