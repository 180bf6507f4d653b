/- Values that are built of whole rows: structs with a sector in them, slices of one. -/
import Derived.Test.YtlaecnggbcagcaaDk3
namespace Go.Proofs.Ytlaecnggbcagcaa
open Go.RowKit MM
set_option linter.unusedVariables false
set_option linter.unusedSimpArgs false

theorem fold_zip (off : Nat) : ∀ (cs : List Value) (k : Nat) (L : List Value), off + k + cs.length ≤ L.length →
    (cs.zipIdx k).foldl (fun (A : Array Value) (x : Value × Nat) => A.setIfInBounds (off + x.2) x.1) L.toArray = (L.take (off + k) ++ cs ++ L.drop (off + k + cs.length)).toArray
  | [], k, L, _ => by simp
  | c :: cs, k, L, h => by
    rw [List.length_cons] at h
    rw [List.zipIdx_cons, List.foldl_cons, List.setIfInBounds_toArray, fold_zip off cs (k + 1) _ (by rw [List.length_set]; omega)]
    have e1 : (L.set (off + k) c).take (off + (k + 1)) = L.take (off + k) ++ [c] := by
      rw [show off + (k + 1) = off + k + 1 by omega, List.take_add_one, List.take_set_of_le (Nat.le_refl _), List.getElem?_set_self (by omega)]; rfl
    have e2 : (L.set (off + k) c).drop (off + (k + 1) + cs.length) = L.drop (off + k + (cs.length + 1)) := by
      rw [List.drop_set_of_lt (by omega)]; congr 1; omega
    rw [e1, e2, List.length_cons]
    simp
theorem fill_one {place : Nat → Option (Nat × Nat)} {L : List Value} {i off : Nat} {v : Value} {cs : List Value} {rest : List (Nat × Value)} (hp : place i = some (off, cs.length)) (hv : v.cells = cs.toArray) (hl : off + cs.length ≤ L.length) :
    Instr.fill place L.toArray ((i, v) :: rest) = Instr.fill place (L.take off ++ cs ++ L.drop (off + cs.length)).toArray rest := by
  have h := fold_zip off cs 0 L (by omega)
  rw [Nat.add_zero] at h
  have hz : v.cells.zipIdx.foldl (fun (A : Array Value) (x : Value × Nat) => A.setIfInBounds (off + x.2) x.1) L.toArray = (L.take off ++ cs ++ L.drop (off + cs.length)).toArray := by
    rw [hv, ← h, ← Array.foldl_toList]
    simp
  rw [Instr.fill, hp]
  have h1 : ¬ ((v.cells.size ≠ cs.length || off + v.cells.size > L.toArray.size) = true) := by
    rw [hv]; simp; omega
  show (if (v.cells.size ≠ cs.length || off + v.cells.size > L.toArray.size) = true then none else Instr.fill place (v.cells.zipIdx.foldl (fun (A : Array Value) (x : Value × Nat) => A.setIfInBounds (off + x.2) x.1) L.toArray) rest) = _
  rw [if_neg h1, hz]

theorem run_slice_one {P : Program} (w : World) (T e : TypeId) (k : Nat) (z : Value) (cs : List Value) (ht : P.underlying T = some (.slice e)) (hi : (P.info? e).map (fun i => (i.zero, i.size)) = some (some z, k)) (hz : z.cells.size = k) (hk : 0 < k) (hm : k ≤ 16777216) (hl : cs.length = k) :
    (Instr.buildSlice T 1 #[(0, .agg cs.toArray)]).run P w = .ok (.slice (some ⟨w.heap.size, 0, none⟩) 1 1) (w.alloc (.cells cs.toArray e)) := by
  cases hq : P.info? e with
  | none => simp [hq] at hi
  | some i =>
    have h1 : i.zero = some z ∧ i.size = k := by simpa [hq] using hi
    have hf : ∀ A : Array Value, A.size = k → Instr.fill (fun j => some (j * k, k)) A [(0, .agg cs.toArray)] = some cs.toArray := by
      intro A hA
      obtain ⟨L⟩ := A
      have hL : L.length = k := by simpa using hA
      rw [fill_one (off := 0) (cs := cs) (by rw [hl, Nat.zero_mul]) rfl (by omega), Instr.fill, List.take_zero, Nat.zero_add, hl, List.drop_eq_nil_of_le (by omega)]
      simp
    have hn1 : ¬ 16777216 < k := by omega
    have hn2 : ¬ k = 0 := by omega
    have hsz : ((Array.range k).map (z.cells[· % z.cells.size]!)).size = k := by simp
    simp only [Instr.buildSlice, Sem.run_bind, run_underlying ht, Result.andThen_ok, sizeOf, typeInfo, run_program, hq, h1.2, Sem.run_pure, Nat.one_mul]
    simp [hn1, hn2, zeroValue, typeInfo, hq, h1.1]
    rw [hf _ hsz]
    simp [newRow]
theorem wp_slice_one {P : Program} {o : Oper} {a : Act} {w : World} {K : Act → World → Prop} {Q : Exit → Act → World → Prop} (T e : TypeId) (x : Operand) (ho : o.op = .buildSlice T 1 #[(0, x)]) (k : Nat) (z : Value) (cs : List Value) (hx : a.eval x = .agg cs.toArray)
    (ht : P.underlying T = some (.slice e)) (hi : (P.info? e).map (fun i => (i.zero, i.size)) = some (some z, k)) (hz : z.cells.size = k) (hk : 0 < k) (hm : k ≤ 16777216) (hl : cs.length = k)
    (h : K (a.put o.dst (.slice (some ⟨w.heap.size, 0, none⟩) 1 1)) (w.alloc (.cells cs.toArray e))) : o.wp P a w K Q := by
  have hr := run_slice_one (P := P) w T e k z cs ht hi hz hk hm hl
  unfold Oper.wp execOp
  simp only [ho, List.map_toArray, List.map_cons, List.map_nil, hx, Sem.run_bind, hr, Result.andThen_ok]
  exact h

/-- What a write is built of. -/
theorem built_pen (i : Int) (s : List UInt8) (hs : s.length = 64) : Try.prog.built 95 [(0, .int .i64 i), (1, secv s)] = some (.int .i64 i :: bc s).toArray := by
  rw [show Try.prog.built 95 [(0, .int .i64 i), (1, secv s)] = Instr.fill (fun x => #[(0, 1), (1, 64)][x]?) (.int .i64 0 :: bc zs).toArray [(0, .int .i64 i), (1, secv s)] from by kernel_rfl]
  rw [fill_one (off := 0) (cs := [.int .i64 i]) rfl rfl (by simp), fill_one (off := 1) (cs := bc s) (by rw [bc_length, hs]; rfl) rfl (by simp [bc_length, hs, zs]), Instr.fill]
  have : (bc zs).length = 64 := rfl
  simp [bc_length, hs, this]
theorem pen_info : (Try.prog.info? 95).map (fun i => (i.zero, i.size)) = some (some (.agg (.int .i64 0 :: bc zs).toArray), 65) := by kernel_rfl
theorem pen_info3 : (Try.prog.info? 95).map (fun i => (i.zero, i.size, i.bytes)) = some (some (.agg (.int .i64 0 :: bc zs).toArray), 65, 72) := by kernel_rfl
theorem sec_info3 : (Try.prog.info? 40).map (fun i => (i.zero, i.size, i.bytes)) = some (some (secv zs), 64, 64) := by kernel_rfl

end Go.Proofs.Ytlaecnggbcagcaa
