/- Contracts of deferred functions that catch. -/
import Derived.Test.YtmfjacehompmmaaCaught
namespace Go.Proofs.Ytmfjacehompmmaa
open Go.RowKit MM

set_option maxHeartbeats 1000000 in
set_option maxRecDepth 100000 in
theorem catch_fault_first (q : Nat) (x y : Value) (code at_ : Nat) (older : List PanicEntry) (w : World) (h0 : w.cell? ⟨q, 0, none⟩ = some x) (h1 : w.cell? ⟨q, 1, none⟩ = some y) (hf : ∀ o, w.frozen? ⟨q, o, none⟩ = false) :
    CallsD Try.prog 45 #[.pointer (some ⟨q, 0, none⟩)] (.panicking ({ v := .iface 30 (fltV code at_), recovered := false } :: older)) w fun e u' w' =>
      e = .returned (.tuple #[]) ∧ u' = .panicking ({ v := .iface 30 (fltV code at_), recovered := true } :: older) ∧ LaidAt q code at_ w w' := by
  refine callsD_of_wpS Try.func45 rfl fun c₀ cs hu => ?_
  apply wpS_region
  simp [wpOpsS, go_sem, recoverD, hu, Try.ntmps45]
  refine (caught_fault code at_ w).mono ?_
  rintro e w1 ⟨rfl, hb1⟩
  have hq : q < w.heap.size := World.block_lt_of_cell? w _ h0
  have c0 : w1.cell? ⟨q, 0, none⟩ = some x := (hb1.cell (p := ⟨q, 0, none⟩) hq).trans h0
  have c1 : w1.cell? ⟨q, 1, none⟩ = some y := (hb1.cell (p := ⟨q, 1, none⟩) hq).trans h1
  have f0 : ∀ o, w1.frozen? ⟨q, o, none⟩ = false := fun o => (hb1.frozen (p := ⟨q, o, none⟩) hq).trans (hf o)
  simp [go_sem, c0, c1, f0, bodyPostS, results, Try.results45]
  exact ⟨w1, hb1, rfl⟩

set_option maxHeartbeats 1000000 in
set_option maxRecDepth 100000 in
theorem catch_none_first (q : Nat) (x y : Value) (w : World) (h0 : w.cell? ⟨q, 0, none⟩ = some x) (h1 : w.cell? ⟨q, 1, none⟩ = some y) (hf : ∀ o, w.frozen? ⟨q, o, none⟩ = false) :
    CallsD Try.prog 45 #[.pointer (some ⟨q, 0, none⟩)] .returning w fun e u' w' =>
      e = .returned (.tuple #[]) ∧ u' = .returning ∧ LaidAt q 0 0 w w' := by
  refine callsD_of_wpS Try.func45 rfl fun c₀ cs hu => ?_
  apply wpS_region
  simp [wpOpsS, go_sem, recoverD, hu, Try.ntmps45]
  refine (caught_nil w).mono ?_
  rintro e w1 ⟨rfl, hb1⟩
  have hq : q < w.heap.size := World.block_lt_of_cell? w _ h0
  have c0 : w1.cell? ⟨q, 0, none⟩ = some x := (hb1.cell (p := ⟨q, 0, none⟩) hq).trans h0
  have c1 : w1.cell? ⟨q, 1, none⟩ = some y := (hb1.cell (p := ⟨q, 1, none⟩) hq).trans h1
  have f0 : ∀ o, w1.frozen? ⟨q, o, none⟩ = false := fun o => (hb1.frozen (p := ⟨q, o, none⟩) hq).trans (hf o)
  cases c₀
  simp_all [go_sem, bodyPostS, results, Try.results45]
  exact ⟨w1, hb1, rfl⟩

set_option maxHeartbeats 1000000 in
set_option maxRecDepth 100000 in
theorem catch_fault_failed (q : Nat) (x y : Value) (code at_ : Nat) (older : List PanicEntry) (w : World) (h0 : w.cell? ⟨q, 0, none⟩ = some x) (h1 : w.cell? ⟨q, 1, none⟩ = some y) (hf : ∀ o, w.frozen? ⟨q, o, none⟩ = false) :
    CallsD Try.prog 47 #[.pointer (some ⟨q, 0, none⟩)] (.panicking ({ v := .iface 30 (fltV code at_), recovered := false } :: older)) w fun e u' w' =>
      e = .returned (.tuple #[]) ∧ u' = .panicking ({ v := .iface 30 (fltV code at_), recovered := true } :: older) ∧ LaidAt q code at_ w w' := by
  refine callsD_of_wpS Try.func47 rfl fun c₀ cs hu => ?_
  apply wpS_region
  simp [wpOpsS, go_sem, recoverD, hu, Try.ntmps47]
  refine (caught_fault code at_ w).mono ?_
  rintro e w1 ⟨rfl, hb1⟩
  have hq : q < w.heap.size := World.block_lt_of_cell? w _ h0
  have c0 : w1.cell? ⟨q, 0, none⟩ = some x := (hb1.cell (p := ⟨q, 0, none⟩) hq).trans h0
  have c1 : w1.cell? ⟨q, 1, none⟩ = some y := (hb1.cell (p := ⟨q, 1, none⟩) hq).trans h1
  have f0 : ∀ o, w1.frozen? ⟨q, o, none⟩ = false := fun o => (hb1.frozen (p := ⟨q, o, none⟩) hq).trans (hf o)
  simp [go_sem, c0, c1, f0, bodyPostS, results, Try.results47]
  exact ⟨w1, hb1, rfl⟩

set_option maxHeartbeats 1000000 in
set_option maxRecDepth 100000 in
theorem catch_none_failed (q : Nat) (x y : Value) (w : World) (h0 : w.cell? ⟨q, 0, none⟩ = some x) (h1 : w.cell? ⟨q, 1, none⟩ = some y) (hf : ∀ o, w.frozen? ⟨q, o, none⟩ = false) :
    CallsD Try.prog 47 #[.pointer (some ⟨q, 0, none⟩)] .returning w fun e u' w' =>
      e = .returned (.tuple #[]) ∧ u' = .returning ∧ LaidAt q 0 0 w w' := by
  refine callsD_of_wpS Try.func47 rfl fun c₀ cs hu => ?_
  apply wpS_region
  simp [wpOpsS, go_sem, recoverD, hu, Try.ntmps47]
  refine (caught_nil w).mono ?_
  rintro e w1 ⟨rfl, hb1⟩
  have hq : q < w.heap.size := World.block_lt_of_cell? w _ h0
  have c0 : w1.cell? ⟨q, 0, none⟩ = some x := (hb1.cell (p := ⟨q, 0, none⟩) hq).trans h0
  have c1 : w1.cell? ⟨q, 1, none⟩ = some y := (hb1.cell (p := ⟨q, 1, none⟩) hq).trans h1
  have f0 : ∀ o, w1.frozen? ⟨q, o, none⟩ = false := fun o => (hb1.frozen (p := ⟨q, o, none⟩) hq).trans (hf o)
  cases c₀
  simp_all [go_sem, bodyPostS, results, Try.results47]
  exact ⟨w1, hb1, rfl⟩

end Go.Proofs.Ytmfjacehompmmaa
