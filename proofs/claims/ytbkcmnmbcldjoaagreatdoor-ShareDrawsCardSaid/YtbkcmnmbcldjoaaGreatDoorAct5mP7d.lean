/- Contracts of package act: an act is written; its bytes. -/
import Derived.Test.YtbkcmnmbcldjoaaGreatDoorAct4mP7d
namespace AC
/-- Which fields a kind has: none, or one of these five. -/
theorem kinds6 {k : Int} (h : 0 < k ∧ k < 22) : (hasN k = false ∧ hasX k = false ∧ hasS k = false ∧ hasM k = false) ∨ (hasN k = true ∧ hasX k = false ∧ hasS k = false ∧ hasM k = false) ∨ (hasN k = false ∧ hasX k = true ∧ hasS k = false ∧ hasM k = false) ∨ (hasN k = false ∧ hasX k = false ∧ hasS k = true ∧ hasM k = false) ∨ (hasN k = false ∧ hasX k = true ∧ hasS k = true ∧ hasM k = false) ∨ (hasN k = false ∧ hasX k = false ∧ hasS k = false ∧ hasM k = true) := by
  have h22 : ∀ j : Fin 22, (hasN (j.val : Int) = false ∧ hasX (j.val : Int) = false ∧ hasS (j.val : Int) = false ∧ hasM (j.val : Int) = false) ∨ (hasN (j.val : Int) = true ∧ hasX (j.val : Int) = false ∧ hasS (j.val : Int) = false ∧ hasM (j.val : Int) = false) ∨ (hasN (j.val : Int) = false ∧ hasX (j.val : Int) = true ∧ hasS (j.val : Int) = false ∧ hasM (j.val : Int) = false) ∨ (hasN (j.val : Int) = false ∧ hasX (j.val : Int) = false ∧ hasS (j.val : Int) = true ∧ hasM (j.val : Int) = false) ∨ (hasN (j.val : Int) = false ∧ hasX (j.val : Int) = true ∧ hasS (j.val : Int) = true ∧ hasM (j.val : Int) = false) ∨ (hasN (j.val : Int) = false ∧ hasX (j.val : Int) = false ∧ hasS (j.val : Int) = false ∧ hasM (j.val : Int) = true) := by decide +kernel
  have := h22 ⟨k.toNat, by omega⟩
  rwa [show ((k.toNat : Nat) : Int) = k by omega] at this
/-- How long the parts of an act are. -/
structure Bd (a : Ac) : Prop where
  kind : (PK.digits a.kind.toNat).length ≤ 10
  key : (PK.textB a.key.data.toList).length ≤ 34
  n : (PK.digits (PK.zig a.n)).length ≤ 10
  s : (PK.textB a.s.data.toList).length ≤ 74
end AC
namespace Go.Proofs.YtbkcmnmbcldjoaaGreatDoor
open Go.RowKit MM
theorem WAt.new (a : AC.Ac) (L : Option Addr) (cl p : Nat) (A : Option Addr) (c : Nat) (xs : List UInt8) (w : World) (hw : Wr 5 w p A c xs) (hI : Its w L a.make.list) (hL : Beside a.make.list L p A) (hR : RowsAt w) (hp : p ≠ 1) (hA : ob A ≠ some 1) :
    WAt w a L cl p A A c xs (w.alloc (.cells (actC a L cl) 37)) :=
  ⟨heap_alloc_new w _, hw.alloc _, ⟨(Kp.refl _ w).alloc _, .inl rfl⟩, hI.alloc _, hL, hR.below (below1 w _), hp, hA, fun e => by have := wr_in hw _ e; omega⟩
end Go.Proofs.YtbkcmnmbcldjoaaGreatDoor
