/- Sectors as rows in memory; contract: whether a sector is blank. -/
import Derived.Test.YtlaecnggbcagcaaSec1
import Derived.Test.YtlaecnggbcagcaaChecked
import Derived.Laws.CopyOwn
import Derived.BigQuiet
import Derived.Deep.QuietTactic
namespace Go.Proofs.Ytlaecnggbcagcaa
open Go.RowKit MM
set_option linter.unusedVariables false
set_option linter.unusedSimpArgs false

theorem below2 (w : World) (o o' : Obj) : Below w.heap.size w ((w.alloc o).alloc o') := ((Below.refl _ w).alloc (Nat.le_refl _) _).alloc (by simp) _
/-- A sector without anything. -/
def zs : List UInt8 := List.replicate 64 0
theorem zs_len : zs.length = 64 := rfl
abbrev secv (s : List UInt8) : Value := .agg (bc s).toArray
abbrev obj (s : List UInt8) (t : TypeId) : Obj := .cells (bc s).toArray t

section
variable {P : Program}
theorem wp_alloc_row {o : Oper} {a : Act} {w : World} {K : Act → World → Prop} {Q : Exit → Act → World → Prop} (ty : TypeId) (ho : o.op = .alloc ty) (z : Value) (cells : Array Value)
    (hz : (P.info? ty).bind (·.zero) = some z) (hc : z.cells = cells) (h : K (a.put o.dst (.pointer (some ⟨w.heap.size, 0, none⟩))) (w.alloc (.cells cells ty))) : o.wp P a w K Q := by
  subst hc
  cases hi : P.info? ty with
  | none => simp [hi] at hz
  | some i =>
    have hz1 : i.zero = some z := by simpa [hi] using hz
    have hr : (Instr.alloc ty true (.tuple #[])).run P w = .ok (.pointer (some ⟨w.heap.size, 0, none⟩)) (w.alloc (.cells z.cells ty)) := by
      simp [Instr.alloc, zeroValue, typeInfo, hi, hz1, newVar, newRow]
    unfold Oper.wp execOp
    simp only [ho, hr, Result.andThen_ok, Sem.run_bind]
    exact h
theorem wpList_alloc_row {ops : Array Oper} {rest : List Oper} {o : Oper} {a : Act} {w : World} {Q : Exit → Act → World → Prop} (hgd : o.guard = none) (ty : TypeId) (ho : o.op = .alloc ty) (z : Value) (cells : Array Value)
    (hz : (P.info? ty).bind (·.zero) = some z) (hc : z.cells = cells) (h : wpList P ops Q rest (a.put o.dst (.pointer (some ⟨w.heap.size, 0, none⟩))) (w.alloc (.cells cells ty))) : wpList P ops Q (o :: rest) a w :=
  wpList_plain hgd fun _ hK => wp_alloc_row ty ho z cells hz hc (hK _ _ h)
theorem wp_build_row {o : Oper} {a : Act} {w : World} {K : Act → World → Prop} {Q : Exit → Act → World → Prop} (t : TypeId) (parts : Array (Nat × Operand)) (ho : o.op = .build t parts) (cells : Array Value)
    (hf : P.built t (parts.map fun (i, x) => (i, a.eval x)).toList = some cells) (h : K (a.put o.dst (.agg cells)) w) : o.wp P a w K Q :=
  wp_build t parts ho (by rw [hf]; rfl) (by rw [hf]; exact h)
theorem wpList_build_row {ops : Array Oper} {rest : List Oper} {o : Oper} {a : Act} {w : World} {Q : Exit → Act → World → Prop} (hg : o.guard = none) (t : TypeId) (parts : Array (Nat × Operand)) (ho : o.op = .build t parts) (cells : Array Value)
    (hf : P.built t (parts.map fun (i, x) => (i, a.eval x)).toList = some cells) (h : wpList P ops Q rest (a.put o.dst (.agg cells)) w) : wpList P ops Q (o :: rest) a w :=
  wpList_plain hg fun _ hK => wp_build_row t parts ho cells hf (hK _ _ h)
theorem wpListG_load_row {ops : Array Oper} {rest : List Oper} {o : Oper} {a : Act} {w : World} {Q : Exit → Act → World → Prop} (hw : Region.wanted o (yielded ops a.tmps) = true) (ty : TypeId) (x : Operand) (ho : o.op = .load ty x)
    (g : Nat) (hx : a.eval x = .pointer (some ⟨g, 0, none⟩)) (t : TypeId) (cs : Array Value) (fr : Nat × Nat) (d : TypeDesc) (hg : w.heap[g]? = some (.cells cs t fr))
    (hu : P.underlying ty = some d) (hd : (match d with | .struct _ | .array _ _ => true | _ => false) = true) (hi : (P.info? ty).map (·.size) = some cs.size)
    (h : wpList P ops Q rest (a.put o.dst (.agg cs)) w) : wpList P ops Q (o :: rest) a w :=
  BigFrame.wpList_want hw fun _ hK => wp_load_row ty x ho g hx t cs fr d hg hu hd hi (hK _ _ h)
theorem wpListG_build_row {ops : Array Oper} {rest : List Oper} {o : Oper} {a : Act} {w : World} {Q : Exit → Act → World → Prop} (hw : Region.wanted o (yielded ops a.tmps) = true) (t : TypeId) (parts : Array (Nat × Operand)) (ho : o.op = .build t parts) (cells : Array Value)
    (hf : P.built t (parts.map fun (i, x) => (i, a.eval x)).toList = some cells) (h : wpList P ops Q rest (a.put o.dst (.agg cells)) w) : wpList P ops Q (o :: rest) a w :=
  BigFrame.wpList_want hw fun _ hK => wp_build_row t parts ho cells hf (hK _ _ h)
end

@[go_sem] theorem sec_guard : Try.prog.eqGuardType Try.prog.depth 40 = false := by kernel_rfl
theorem sec_info : (Try.prog.info? 40).map (·.size) = some 64 := by kernel_rfl
theorem sec_zero : (Try.prog.info? 40).bind (·.zero) = some (secv zs) := by kernel_rfl
theorem sec_built0 : Try.prog.built 40 [] = some (bc zs).toArray := by kernel_rfl
theorem byte_size : (Try.prog.info? 5).map (·.size) = some 1 := by kernel_rfl
theorem sec_eq (a b : List UInt8) (ha : a.length = 64) (hb : b.length = 64) (w : World) : (binOp .eql 40 (secv a) (secv b)).run Try.prog w = .ok (.bool (decide (a = b))) w := by
  have h := run_equalIn_bytes (P := Try.prog) w 9998 40 5 64 a b Try.underlying40 Try.underlying5 byte_size ha hb
  simp only [binOp]
  simp [Op.equal, Op.maxDepth, h]
theorem sec_ne (a b : List UInt8) (ha : a.length = 64) (hb : b.length = 64) (w : World) : (binOp .neq 40 (secv a) (secv b)).run Try.prog w = .ok (.bool (!decide (a = b))) w := by
  have h := run_equalIn_bytes (P := Try.prog) w 9998 40 5 64 a b Try.underlying40 Try.underlying5 byte_size ha hb
  simp only [binOp]
  simp [Op.equal, Op.maxDepth, h]
theorem bc_all (l : List UInt8) : (bc l).toArray.all (·.oneCell') = true := all_oneCell_toArray (bc_one l)
theorem bc_size (l : List UInt8) : (bc l).toArray.size = l.length := by simp [bc_length]
theorem sec_info' (s : List UInt8) (hs : s.length = 64) : (Try.prog.info? 40).map (·.size) = some (bc s).toArray.size := by rw [bc_size, hs]; exact sec_info
theorem sec_info2 (s : List UInt8) (hs : s.length = 64) : (Try.prog.info? 40).map (·.size) = some (bc s).length := by rw [bc_length, hs]; exact sec_info

set_option maxHeartbeats 1000000 in
set_option maxRecDepth 100000 in
theorem blank_any (s : List UInt8) (hs : s.length = 64) (w : World) :
    Calls Try.prog 32 #[secv s] w fun e w' => e = .returned (.bool (decide (s = zs))) ∧ Below w.heap.size w w' := by
  have HS := Lib.hid hs
  clear hs
  have heq := sec_eq s zs HS.out zs_len
  go_enter Try.func32, Try.ntmps32
  go_wp2_with (first
    | (refine wpList_load_row rfl _ _ rfl w.heap.size rfl 40 _ (0, 0) _ (heap_alloc_new _ _) Try.underlying40 rfl (sec_info' s HS.out) ?_)
    | (refine wpList_build_row rfl _ _ rfl (bc zs).toArray (by kernel_rfl) ?_))
  go_ret
  exact ⟨rfl, (Below.refl _ _).alloc (Nat.le_refl _) _⟩

end Go.Proofs.Ytlaecnggbcagcaa
