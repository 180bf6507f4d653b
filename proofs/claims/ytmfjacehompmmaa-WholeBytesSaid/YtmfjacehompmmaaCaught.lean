/- Contracts: what was caught. -/
import Derived.Test.YtmfjacehompmmaaRead4
import Derived.Defers
import Derived.Recover
namespace Go.Proofs.Ytmfjacehompmmaa
open Go.RowKit MM

/-- A Fault as a value. -/
abbrev fltV (code at_ : Nat) : Value := .agg #[.int .i64 code, .int .i64 at_]

set_option maxHeartbeats 400000 in
theorem caught_nil (w : World) :
    Calls Try.prog 31 #[.nilIface] w fun e w' => e = .returned (fltV 0 0) ∧ Below w.heap.size w w' := by
  go_enter Try.func31, Try.ntmps31
  go_wp2
  exact bodyPost_ret (v := fltV 0 0) (by simp [results, Try.results31, go_sem]) rfl ⟨rfl, (Below.refl _ _).alloc (Nat.le_refl _) _⟩

theorem assert_fault (v : Value) (w : World) : (Instr.typeAssert (.iface 30 v) 20 30 true).run Try.prog w = .ok (.tuple #[v, .bool true]) w := by
  simp [Instr.typeAssert, run_underlying Try.underlying30]

set_option maxHeartbeats 400000 in
set_option maxRecDepth 100000 in
theorem faultOf_any (code at_ : Nat) (w : World) :
    Calls Try.prog 50 #[.iface 30 (fltV code at_)] w fun e w' => e = .returned (fltV code at_) ∧ Below w.heap.size w w' := by
  have ha := assert_fault
  go_enter Try.func50, Try.ntmps50
  go_wp2
  exact bodyPost_ret (v := fltV code at_) (by simp [results, Try.results50, go_sem]) rfl ⟨rfl, ((Below.refl _ _).alloc (Nat.le_refl _) _).alloc (by simp) _⟩

set_option maxHeartbeats 400000 in
set_option maxRecDepth 100000 in
theorem caught_fault (code at_ : Nat) (w : World) :
    Calls Try.prog 31 #[.iface 30 (fltV code at_)] w fun e w' => e = .returned (fltV code at_) ∧ Below w.heap.size w w' := by
  go_enter Try.func31, Try.ntmps31
  go_wp2_with (go_at_call 50; refine (faultOf_any code at_ _).mono ?_; rintro e w1 ⟨rfl, hb1⟩; have hc : w1.cell? ⟨w.heap.size, 0, none⟩ = some (.int .i64 0) := (hb1.cell (p := ⟨w.heap.size, 0, none⟩) (by simp)).trans (by simp); have hc1 : w1.cell? ⟨w.heap.size, 1, none⟩ = some (.int .i64 0) := (hb1.cell (p := ⟨w.heap.size, 1, none⟩) (by simp)).trans (by simp); have hf : ∀ o, w1.frozen? ⟨w.heap.size, o, none⟩ = false := fun o => (hb1.frozen (p := ⟨w.heap.size, o, none⟩) (by simp)).trans (by simp))
  refine bodyPost_ret (v := fltV code at_) (by simp [results, Try.results31, go_sem, hc, hc1]) rfl ⟨rfl, ?_⟩
  exact ((((Below.refl w.heap.size w).alloc (Nat.le_refl _) _).trans (hb1.mono (by simp))).setCell (by simp) _).setCell (by simp) _

/-- What the deferred function leaves: the Fault where it is to lie. -/
def LaidAt (q : Nat) (code at_ : Nat) (w w' : World) : Prop := ∃ w1, Below w.heap.size w w1 ∧ w' = (w1.setCell ⟨q, 0, none⟩ (.int .i64 code)).setCell ⟨q, 1, none⟩ (.int .i64 at_)

set_option maxHeartbeats 1000000 in
set_option maxRecDepth 100000 in
theorem catch_fault (q : Nat) (x y : Value) (code at_ : Nat) (older : List PanicEntry) (w : World) (h0 : w.cell? ⟨q, 0, none⟩ = some x) (h1 : w.cell? ⟨q, 1, none⟩ = some y) (hf : ∀ o, w.frozen? ⟨q, o, none⟩ = false) :
    CallsD Try.prog 37 #[.pointer (some ⟨q, 0, none⟩)] (.panicking ({ v := .iface 30 (fltV code at_), recovered := false } :: older)) w fun e u' w' =>
      e = .returned (.tuple #[]) ∧ u' = .panicking ({ v := .iface 30 (fltV code at_), recovered := true } :: older) ∧ LaidAt q code at_ w w' := by
  refine callsD_of_wpS Try.func37 rfl fun c₀ cs hu => ?_
  apply wpS_region
  simp [wpOpsS, go_sem, recoverD, hu, Try.ntmps37]
  refine (caught_fault code at_ w).mono ?_
  rintro e w1 ⟨rfl, hb1⟩
  have hq : q < w.heap.size := World.block_lt_of_cell? w _ h0
  have c0 : w1.cell? ⟨q, 0, none⟩ = some x := (hb1.cell (p := ⟨q, 0, none⟩) hq).trans h0
  have c1 : w1.cell? ⟨q, 1, none⟩ = some y := (hb1.cell (p := ⟨q, 1, none⟩) hq).trans h1
  have f0 : ∀ o, w1.frozen? ⟨q, o, none⟩ = false := fun o => (hb1.frozen (p := ⟨q, o, none⟩) hq).trans (hf o)
  simp [go_sem, c0, c1, f0, bodyPostS, results, Try.results37]
  exact ⟨w1, hb1, rfl⟩

set_option maxHeartbeats 1000000 in
set_option maxRecDepth 100000 in
theorem catch_none (q : Nat) (x y : Value) (w : World) (h0 : w.cell? ⟨q, 0, none⟩ = some x) (h1 : w.cell? ⟨q, 1, none⟩ = some y) (hf : ∀ o, w.frozen? ⟨q, o, none⟩ = false) :
    CallsD Try.prog 37 #[.pointer (some ⟨q, 0, none⟩)] .returning w fun e u' w' =>
      e = .returned (.tuple #[]) ∧ u' = .returning ∧ LaidAt q 0 0 w w' := by
  refine callsD_of_wpS Try.func37 rfl fun c₀ cs hu => ?_
  apply wpS_region
  simp [wpOpsS, go_sem, recoverD, hu, Try.ntmps37]
  refine (caught_nil w).mono ?_
  rintro e w1 ⟨rfl, hb1⟩
  have hq : q < w.heap.size := World.block_lt_of_cell? w _ h0
  have c0 : w1.cell? ⟨q, 0, none⟩ = some x := (hb1.cell (p := ⟨q, 0, none⟩) hq).trans h0
  have c1 : w1.cell? ⟨q, 1, none⟩ = some y := (hb1.cell (p := ⟨q, 1, none⟩) hq).trans h1
  have f0 : ∀ o, w1.frozen? ⟨q, o, none⟩ = false := fun o => (hb1.frozen (p := ⟨q, o, none⟩) hq).trans (hf o)
  cases c₀
  simp_all [go_sem, bodyPostS, results, Try.results37]
  exact ⟨w1, hb1, rfl⟩

end Go.Proofs.Ytmfjacehompmmaa
