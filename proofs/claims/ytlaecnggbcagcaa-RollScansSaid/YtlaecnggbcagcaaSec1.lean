/- Sectors: rows of 64 bytes as values: whether two are the same. -/
import Derived.Test.YtlaecnggbcagcaaMem
import Derived.Laws.StructEq
import Derived.Laws.Tables
import Derived.Laws.Rows
import Derived.Deep.MidRow
import Derived.Deep.WholeRow
import Derived.WalkKit
namespace Go.Proofs.Ytlaecnggbcagcaa
open Go.RowKit MM
set_option linter.unusedVariables false
set_option linter.unusedSimpArgs false

theorem part_byte {P : Program} (w : World) (e : TypeId) (he : P.underlying e = some (.int .u8)) (a : List UInt8) (i : Nat) (hi : i < a.length) :
    (part e (bc a).toArray i).run P w = .ok (.int .u8 (a[i]).toNat) w := by
  have hagg : (isAgg e).run P w = .ok false w := by
    unfold isAgg
    rw [Sem.run_bind, run_underlying he w]
    rfl
  have hg : (bc a).toArray[i]? = some (.int .u8 (a[i]).toNat) := by simpa using bc_get a i hi
  simp only [part, Sem.run_bind, hagg, Result.andThen_ok, Bool.false_eq_true, if_false, hg, Sem.run_pure]

theorem eq_bytes_from {P : Program} (w : World) (d : Nat) (e : TypeId) (he : P.underlying e = some (.int .u8)) (a b : List UInt8) :
    ∀ (m s : Nat), s + m = a.length → s + m = b.length → (forIn (List.range' s m 1) ((none, ()) : Option Bool × Unit) fun i _ => (do
            let x ← part e (bc a).toArray (i * 1)
            let y ← part e (bc b).toArray (i * 1)
            let r ← Op.equalIn (d + 1) e x y
            if (!r) = true then pure (ForInStep.done (some false, ())) else pure (ForInStep.yield (none, ())) : Sem (ForInStep (Option Bool × Unit)))).run P w =
      .ok (if a.drop s = b.drop s then none else some false, ()) w
  | 0, s, ha, hb => by
    rw [List.drop_eq_nil_of_le (by omega), List.drop_eq_nil_of_le (by omega)]
    simp
  | m + 1, s, ha, hb => by
    have h1 : s < a.length := by omega
    have h2 : s < b.length := by omega
    have ih := eq_bytes_from w d e he a b m (s + 1) (by omega) (by omega)
    rw [List.range'_succ, List.forIn_cons]
    simp only [Nat.mul_one, Sem.run_bind, part_byte w e he a s h1, part_byte w e he b s h2, Result.andThen_ok, run_equalIn_int w d e .u8 .u8 _ _ he]
    have hiff : (a.drop s = b.drop s) ↔ (a[s] = b[s] ∧ a.drop (s + 1) = b.drop (s + 1)) := by
      rw [List.drop_eq_getElem_cons h1, List.drop_eq_getElem_cons h2, List.cons.injEq]
    simp only [hiff]
    clear hiff
    by_cases hx : a[s] = b[s]
    · have hd : ((((a[s]).toNat : Nat) : Int) == ((b[s]).toNat : Int)) = true := by rw [hx]; simp
      simp only [hd, Bool.not_true, Bool.false_eq_true, if_false, Sem.run_pure, Result.andThen_ok]
      simp only [Nat.mul_one, Sem.run_bind] at ih
      rw [ih]
      simp [hx]
    · have hd : ((((a[s]).toNat : Nat) : Int) == ((b[s]).toNat : Int)) = false := by
        simp only [beq_eq_false_iff_ne, ne_eq]
        intro h
        exact hx (UInt8.toNat_inj.1 (by omega))
      simp [hd, hx]

theorem run_equalIn_bytes {P : Program} (w : World) (d : Nat) (t e : TypeId) (n : Nat) (a b : List UInt8) (ht : P.underlying t = some (.array n e)) (he : P.underlying e = some (.int .u8)) (hs : (P.info? e).map (·.size) = some 1)
    (ha : a.length = n) (hb : b.length = n) : (Op.equalIn (d + 2) t (.agg (bc a).toArray) (.agg (bc b).toArray)).run P w = .ok (decide (a = b)) w := by
  cases hi : P.info? e with
  | none => simp [hi] at hs
  | some i =>
    have hs1 : i.size = 1 := by simpa [hi] using hs
    have hf := eq_bytes_from w d e he a b n 0 (by omega) (by omega)
    simp only [List.drop_zero] at hf
    obtain ⟨k, hk⟩ : ∃ k, k = d + 1 := ⟨_, rfl⟩
    rw [← hk] at hf
    rw [show d + 2 = k + 1 by omega]
    clear hk
    simp only [Op.equalIn, Sem.run_bind, run_underlying ht, Result.andThen_ok, sizeOf, typeInfo, run_program, hi, hs1, Sem.run_pure]
    rw [Std.Legacy.Range.forIn_eq_forIn_range']
    show ((Sem.run P (forIn (List.range' 0 ((n - 0 + 1 - 1) / 1) 1) _ _) w).andThen _) = _
    rw [show (n - 0 + 1 - 1) / 1 = n by simp]
    rw [hf]
    by_cases h : a = b <;> simp [h]

end Go.Proofs.Ytlaecnggbcagcaa
