/- Plain facts of RollScans. -/
import Derived.Test.YtlaecnggbcagcaaRl21
namespace Go.Proofs.Ytlaecnggbcagcaa
open Go.RowKit MM
set_option linter.unusedVariables false
set_option linter.unusedSimpArgs false

theorem slice_mid64 (A : Option Addr) (n c lo hi : Nat) (h1 : lo ≤ hi) (h2 : hi ≤ c) (w : World) : (Instr.slice 63 (.slice A n c) (some (.int .i64 (lo : Int))) (some (.int .i64 (hi : Int))) none).run Try.prog w = .ok (.slice (cut64 A lo c) (hi - lo) (c - lo)) w := by
  have h1' : (lo : Int) ≤ (hi : Int) := by omega
  have h2' : (hi : Int) ≤ (c : Int) := by omega
  have h0 : (0 : Int) ≤ (lo : Int) := by omega
  go_simp
  rfl
theorem areaE_1 {d : Dk} {f n : Int} (hd : d.down = false) (h : f < 0 ∨ n < 1 ∨ (d.now.length : Int) - f < n) : areaE d f n = 1 := by
  unfold areaE
  rw [if_neg (by rw [hd]; decide), if_pos h]
/-- So many sectors are laid. -/
def layL (l : List (List UInt8)) (i : Nat) : List (List UInt8) := l.take i ++ List.replicate (l.length - i) zs
theorem layL_len {l : List (List UInt8)} {i : Nat} (h : i ≤ l.length) : (layL l i).length = l.length := by
  unfold layL
  rw [List.length_append, List.length_take, List.length_replicate]
  omega
theorem layL_set {l : List (List UInt8)} {i : Nat} {s : List UInt8} (hs : l[i]? = some s) : (layL l i).set i s = layL l (i + 1) := by
  have hi : i < l.length := (List.getElem?_eq_some_iff.1 hs).1
  unfold layL
  rw [List.set_append_right _ _ (by rw [List.length_take]; omega), List.length_take, Nat.min_eq_left (by omega), Nat.sub_self, show l.length - i = (l.length - (i + 1)) + 1 by omega, List.replicate_succ, List.set_cons_zero, List.take_add_one, hs]
  simp
theorem layL_all (l : List (List UInt8)) : layL l l.length = l := by simp [layL]
theorem flE_le : ∀ es : List (List UInt8), es.length ≤ (flE es).length
  | [] => Nat.le_refl _
  | b :: es => by
    have := flE_le es
    have := needN_pos b.length
    rw [flE_cons, List.length_append, secsL_len, List.length_cons]
    omega
/-- What is read behind an Open. -/
theorem read_opened {d : Dk} {P R es r l : List (List UInt8)} {i : Nat} {s : List UInt8} (h : RSt d P R es r.length) (hl : l = P ++ (flE es ++ (r ++ R))) (hs : l[i]? = some s) :
    d.readS (i : Int) = if P.length + (flE es).length ≤ i ∧ i < P.length + ((flE es).length + r.length) then zs else s := by
  have hi : i < l.length := (List.getElem?_eq_some_iff.1 hs).1
  have hlen : l.length = P.length + ((flE es).length + (r.length + R.length)) := by rw [hl, List.length_append, List.length_append, List.length_append]
  have hdl := h.len
  have he : d.err (i : Int) = 0 := by
    unfold Dk.err
    rw [if_neg (by rw [h.up]; decide), if_neg (by omega)]
  have hg : ∀ t, d.now[i]? = some t → d.readS (i : Int) = t := fun t ht => by
    unfold Dk.readS
    rw [if_pos he, Int.toNat_natCast, List.getD_eq_getElem?_getD, ht]
    rfl
  by_cases h1 : P.length + (flE es).length ≤ i ∧ i < P.length + ((flE es).length + r.length)
  · rw [if_pos h1]
    refine hg _ ?_
    rw [h.now, List.getElem?_append_right (by omega), List.getElem?_append_right (by omega), List.getElem?_append_left (by rw [List.length_replicate]; omega), List.getElem?_replicate, if_pos (by omega)]
  · rw [if_neg h1]
    refine hg _ ?_
    rw [h.now]
    rw [hl] at hs
    by_cases h2 : i < P.length
    · rw [List.getElem?_append_left h2] at hs ⊢
      exact hs
    · rw [List.getElem?_append_right (by omega)] at hs ⊢
      by_cases h3 : i - P.length < (flE es).length
      · rw [List.getElem?_append_left h3] at hs ⊢
        exact hs
      · rw [List.getElem?_append_right (by omega)] at hs ⊢
        rw [List.getElem?_append_right (by omega)] at hs
        rw [List.getElem?_append_right (by rw [List.length_replicate]; omega), List.length_replicate]
        exact hs

end Go.Proofs.Ytlaecnggbcagcaa
