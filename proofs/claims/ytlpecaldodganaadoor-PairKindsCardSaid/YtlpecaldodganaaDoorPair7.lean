/- Contracts of package pair: Witness. -/
import Derived.Test.YtlpecaldodganaaDoorPair6
import Derived.Test.YtlpecaldodganaaDoorPair3
import Derived.Test.YtlpecaldodganaaDoorPair1
import Derived.Laws.ResultCell
namespace Go.Proofs.YtlpecaldodganaaDoor
open Go.RowKit MM
set_option linter.unusedVariables false
set_option linter.unusedSimpArgs false

abbrev wcaseC (r : RC.Rc) (A : Option Addr) (c : Nat) (t : Bool) (a b : AC.Ac) : Array Value := #[.int .i64 r.kind, .int .i64 r.num, .int .i64 r.low, .int .i64 r.high, .float .f64 r.real, .int .i64 r.cap, .string r.text, .slice A r.list.length c, .bool t, .int .i64 a.kind, .string a.key, .int .i64 a.n, .float .f64 a.x, .string a.s, .int .i64 a.make.kind, .int .i64 a.make.num, .int .i64 a.make.low, .int .i64 a.make.high, .float .f64 a.make.real, .int .i64 a.make.cap, .string a.make.text, .slice none a.make.list.length 0, .bool a.must, .int .i64 b.kind, .string b.key, .int .i64 b.n, .float .f64 b.x, .string b.s, .int .i64 b.make.kind, .int .i64 b.make.num, .int .i64 b.make.low, .int .i64 b.make.high, .float .f64 b.make.real, .int .i64 b.make.cap, .string b.make.text, .slice none b.make.list.length 0, .bool b.must]
theorem Kp.setRow {S : Nat → Prop} {w0 w : World} {g : Nat} (h : Kp S w0 w) (hg : S g ∨ w0.heap.size ≤ g) (cs : Array Value) : Kp S w0 (w.setRow g cs) :=
  ⟨h.os, h.tape, h.output, by rw [setRow_size]; exact h.size, fun i hi hn => (setRow_other w g i cs (fun e => by subst e; rcases hg with hg | hg; exact hn hg; omega)).trans (h.block i hi hn)⟩
theorem case_inf : (Tryd.prog.info? 36).map (fun i => i.size) = some 37 := by kernel_rfl
def okR (r : RC.Rc) : Bool := (Lit.int .i64 r.kind).wf && (Lit.int .i64 r.num).wf && (Lit.int .i64 r.low).wf && (Lit.int .i64 r.high).wf && decide (r.real < 18446744073709551616) && (Lit.int .i64 r.cap).wf && r.list.all (fun x => decide (x.score < 18446744073709551616)) && decide (r.list.length ≤ 1)
theorem okR_ok {r : RC.Rc} (h : okR r = true) : r.ok ∧ Lim r.list.length := by
  unfold okR at h
  simp only [Bool.and_eq_true, decide_eq_true_eq, List.all_eq_true] at h
  obtain ⟨⟨⟨⟨⟨⟨⟨h1, h2⟩, h3⟩, h4⟩, h5⟩, h6⟩, h7⟩, h8⟩ := h
  exact ⟨⟨h1, h2, h3, h4, by unfold MF.W64; omega, h6, fun x hx => by have := h7 x hx; unfold MF.W64; omega⟩, by unfold Lim; omega⟩
theorem pgrounds_ok (k l : Int) : ∀ x ∈ RU.pgrounds k l, okR x.1 = true := by
  unfold RU.pgrounds
  have hm : 0 ≤ RU.onMax k l ∧ RU.onMax k l ≤ 9 := by have := on_bd k; have := on_bd l; unfold RU.onMax; omega
  generalize RU.onMax k l = m at *
  have hx : m = 0 ∨ m = 1 ∨ m = 2 ∨ m = 3 ∨ m = 4 ∨ m = 5 ∨ m = 6 ∨ m = 7 ∨ m = 8 ∨ m = 9 := by omega
  refine List.all_eq_true.1 (show (((RC.zero, false) :: (RU.recsP m).map fun r => (r, true)).all fun x => okR x.1) = true from ?_)
  rcases hx with rfl | rfl | rfl | rfl | rfl | rfl | rfl | rfl | rfl | rfl <;> decide +kernel
/-- What Witness answers. -/
def WitPost (k l : Int) (w : World) (e : Ending) (w' : World) : Prop :=
  (∃ r t a b A c, e = .returned (.tuple #[.agg (wcaseC r A c t a b), .bool true]) ∧ (AC.known k = true ∧ AC.known l = true ∧ RU.kinds6 k l = false) ∧ (r, t) ∈ RU.pgrounds k l ∧ a ∈ RU.pacts k ∧ b ∈ RU.pacts l ∧ RU.differs r t a b = true ∧ Its w' A r.list ∧ Below w.heap.size w w') ∨
  (e = .returned (.tuple #[.agg (wcaseC RC.zero none 0 false AC.zero AC.zero), .bool false]) ∧ (AC.known k = false ∨ AC.known l = false ∨ RU.kinds6 k l = true ∨ ∀ x ∈ RU.pgrounds k l, ∀ a ∈ RU.pacts k, ∀ b ∈ RU.pacts l, RU.differs x.1 x.2 a b = false) ∧ Below w.heap.size w w')

set_option maxHeartbeats 4000000 in
set_option maxRecDepth 100000 in
theorem pwitness_no (k l : Int) (w : World) (hR : RowsAt w) (h : AC.known k = false ∨ AC.known l = false ∨ RU.kinds6 k l = true) : Calls Tryd.prog 11 #[.int .i64 k, .int .i64 l] w (WitPost k l w) := by
  have HK := Lib.hid (fun u => pknown_any k u)
  have HL := Lib.hid (fun u => pknown_any l u)
  have HS := Lib.hid (fun u (b : Below w.heap.size w u) => pairKinds_any k l u (hR.below b))
  have HP := Lib.hid (show ∀ w', Below w.heap.size w w' → WitPost k l w (.returned (.tuple #[.agg (wcaseC RC.zero none 0 false AC.zero AC.zero), .bool false])) w' from fun w' hb => .inr ⟨rfl, by rcases h with h | h | h; exact .inl h; exact .inr (.inl h); exact .inr (.inr (.inl h)), hb⟩)
  clear hR
  generalize WitPost k l w = PP at *
  generalize AC.known k = a1 at *
  generalize AC.known l = a2 at *
  generalize RU.kinds6 k l = v at *
  go_enter Tryd.func11, Tryd.ntmps11
  go_wp2_with fail
  generalize hwa : World.alloc w _ = wa
  have E4 := Lib.hid (show wa.heap[w.heap.size]? = some (.cells (wcaseC RC.zero none 0 false AC.zero AC.zero) 36 (0, 0)) by rw [← hwa]; exact heap_alloc_new w _)
  have HB := Lib.hid (show Below w.heap.size w wa by rw [← hwa]; exact below1 w _)
  clear hwa
  refine (HK.out _).mono ?_
  rintro e w' ⟨rfl, rfl⟩
  cases a1
  case false =>
    go_wp2_with (first
      | (refine wpList_store_row rfl _ _ _ rfl w.heap.size (wcaseC RC.zero none 0 false AC.zero AC.zero) rfl rfl 36 _ E4.out case_inf rfl (by kernel_rfl) ?_))
    have X4 := setRow_heap _ w.heap.size _ (wcaseC RC.zero none 0 false AC.zero AC.zero) 36 _ E4.out
    have HBf := Lib.hid (show Below w.heap.size w _ from (Kp.setRow (S := fun j => j = w.heap.size) (Kp.of_below HB.out _) (.inl rfl) (wcaseC RC.zero none 0 false AC.zero AC.zero)).below (Nat.le_refl _) (fun i hi x => by omega))
    generalize World.setRow _ _ _ = wf at *
    have hld : (loadVar 36 ⟨w.heap.size, 0, none⟩).run Tryd.prog wf = .ok (.agg (wcaseC RC.zero none 0 false AC.zero AC.zero)) wf := run_loadVar_row _ _ 36 36 _ (0, 0) _ X4 Tryd.underlying36 rfl case_inf
    clear X4
    exact bodyPost_ret (v := .tuple #[.agg (wcaseC RC.zero none 0 false AC.zero AC.zero), .bool false]) (by rw [results_cell_tmp rfl]; show ((loadVar 36 ⟨w.heap.size, 0, none⟩).run Tryd.prog wf).andThen _ = _; rw [hld]; rfl) rfl (HP.out _ HBf.out)

  go_wp2_with fail
  refine (HL.out _).mono ?_
  rintro e w' ⟨rfl, rfl⟩
  cases a2
  case false =>
    go_wp2_with (first
      | (refine wpList_store_row rfl _ _ _ rfl w.heap.size (wcaseC RC.zero none 0 false AC.zero AC.zero) rfl rfl 36 _ E4.out case_inf rfl (by kernel_rfl) ?_))
    have X4 := setRow_heap _ w.heap.size _ (wcaseC RC.zero none 0 false AC.zero AC.zero) 36 _ E4.out
    have HBf := Lib.hid (show Below w.heap.size w _ from (Kp.setRow (S := fun j => j = w.heap.size) (Kp.of_below HB.out _) (.inl rfl) (wcaseC RC.zero none 0 false AC.zero AC.zero)).below (Nat.le_refl _) (fun i hi x => by omega))
    generalize World.setRow _ _ _ = wf at *
    have hld : (loadVar 36 ⟨w.heap.size, 0, none⟩).run Tryd.prog wf = .ok (.agg (wcaseC RC.zero none 0 false AC.zero AC.zero)) wf := run_loadVar_row _ _ 36 36 _ (0, 0) _ X4 Tryd.underlying36 rfl case_inf
    clear X4
    exact bodyPost_ret (v := .tuple #[.agg (wcaseC RC.zero none 0 false AC.zero AC.zero), .bool false]) (by rw [results_cell_tmp rfl]; show ((loadVar 36 ⟨w.heap.size, 0, none⟩).run Tryd.prog wf).andThen _ = _; rw [hld]; rfl) rfl (HP.out _ HBf.out)

  have hv : v = true := by rcases h with h | h | h; cases h; cases h; exact h
  subst hv
  go_wp2_with fail
  refine (HS.out _ HB.out).mono ?_
  rintro e w2 ⟨rfl, hb⟩
  have HB := Lib.hid (HB.out.trans (hb.mono HB.out.size))
  have E4 := Lib.hid ((hb.block _ (lt_of_heap E4.out)).trans E4.out)
  clear hb
  go_wp2_with (first
    | (refine wpList_store_row rfl _ _ _ rfl w.heap.size (wcaseC RC.zero none 0 false AC.zero AC.zero) rfl rfl 36 _ E4.out case_inf rfl (by kernel_rfl) ?_))
  have X4 := setRow_heap _ w.heap.size _ (wcaseC RC.zero none 0 false AC.zero AC.zero) 36 _ E4.out
  have HBf := Lib.hid (show Below w.heap.size w _ from (Kp.setRow (S := fun j => j = w.heap.size) (Kp.of_below HB.out _) (.inl rfl) (wcaseC RC.zero none 0 false AC.zero AC.zero)).below (Nat.le_refl _) (fun i hi x => by omega))
  generalize World.setRow _ _ _ = wf at *
  have hld : (loadVar 36 ⟨w.heap.size, 0, none⟩).run Tryd.prog wf = .ok (.agg (wcaseC RC.zero none 0 false AC.zero AC.zero)) wf := run_loadVar_row _ _ 36 36 _ (0, 0) _ X4 Tryd.underlying36 rfl case_inf
  clear X4
  exact bodyPost_ret (v := .tuple #[.agg (wcaseC RC.zero none 0 false AC.zero AC.zero), .bool false]) (by rw [results_cell_tmp rfl]; show ((loadVar 36 ⟨w.heap.size, 0, none⟩).run Tryd.prog wf).andThen _ = _; rw [hld]; rfl) rfl (HP.out _ HBf.out)

end Go.Proofs.YtlpecaldodganaaDoor
