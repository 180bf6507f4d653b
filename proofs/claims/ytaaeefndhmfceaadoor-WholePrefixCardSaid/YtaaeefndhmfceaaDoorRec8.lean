/- Contracts of package rec: a record is read. -/
import Derived.Test.YtaaeefndhmfceaaDoorRec7
namespace Go.Proofs.YtaaeefndhmfceaaDoor
open Go.RowKit MM

section
variable {l : List UInt8} {k n0 n e : Nat} {r : RC.Rc}
theorem recR_bad1 (hk : kindR l = .bad e n) : recR l = .bad e n := by rw [recR_kind, andR_bad hk]
theorem recR_bad2 (hk : kindR l = .ok k n0) (hf : fieldR k (l.drop n0) = .bad e n) : recR l = .bad e (n0 + n) := by rw [recR_kind, andR_ok hk, andR_bad hf]; rfl
theorem recR_ok (hk : kindR l = .ok k n0) (hf : fieldR k (l.drop n0) = .ok r n) (hc : RC.chk r = 0) : recR l = .ok r (n0 + n) := by rw [recR_kind, andR_ok hk, andR_ok hf]; unfold endC; rw [if_pos hc]; rfl
theorem recR_no (hk : kindR l = .ok k n0) (hf : fieldR k (l.drop n0) = .ok r n) (hc : RC.chk r ≠ 0) : recR l = .bad (RC.chk r) (n0 + n) := by rw [recR_kind, andR_ok hk, andR_ok hf]; unfold endC; rw [if_neg hc]; rfl
theorem kindR_pos (hk : kindR l = .ok k n0) : 0 < k ∧ k ≤ 9 := by
  obtain ⟨x, a, b, hx, hf, rfl⟩ := andR_inv (show andR (uptoR 9 l) l _ = _ from hk)
  have h9 := (uptoR_one hx).2.2
  split at hf
  · cases hf
  · injection hf with h1 h2
    subst h1
    have h9' : x ≤ 9 := h9
    omega
end

theorem itsR_count {k : Nat} : ∀ {m : Nat} {l : List UInt8} {xs : List RC.It} {n : Nat}, itsR k m l = .ok xs n → xs.length = m
  | 0, l, xs, n, h => by injection h with h1 h2; subst h1; rfl
  | m + 1, l, xs, n, h => by
    obtain ⟨x, a, b, hx, hf, rfl⟩ := andR_inv (show andR (itR k l) l _ = _ from h)
    obtain ⟨ys, hy, rfl⟩ := map_inv hf
    simp [itsR_count hy]

abbrev recC (k n l h : Int) (x : Nat) (cap : Int) (t : ByteArray) (v : Value) : Array Value := #[.int .i64 k, .int .i64 n, .int .i64 l, .int .i64 h, .float .f64 x, .int .i64 cap, .string t, v]

theorem fieldR_list2 {k : Nat} (hk : k = 8 ∨ k = 9) (l : List UInt8) : fieldR k l = andR (uptoR 32 l) l fun c l1 => Res.map (fun xs => (⟨(k : Int), 0, 0, 0, 0, (c : Int), ⟨#[]⟩, xs⟩ : RC.Rc)) (countR k l1) := by
  have h : ∀ l, fieldR k l = andR (uptoR 32 l) l fun c l1 => andR (uptoR 32 l1) l1 fun n l2 => Res.map (fun xs => (⟨(k : Int), 0, 0, 0, 0, (c : Int), ⟨#[]⟩, xs⟩ : RC.Rc)) (itsR k n l2) := by intro l; rcases hk with rfl | rfl <;> rfl
  rw [h]
  congr 1
  funext c l1
  unfold countR
  cases h1 : uptoR 32 l1 with
  | bad e n => rfl
  | ok x n =>
    rw [andR_ok rfl, andR_ok rfl]
    cases itsR k x (l1.drop n) <;> rfl
theorem countR_len {k : Nat} {l : List UInt8} {xs : List RC.It} {n : Nat} (h : countR k l = .ok xs n) : xs.length ≤ 32 := by
  obtain ⟨m, a, b, hm, hf, rfl⟩ := andR_inv (show andR (uptoR 32 l) l _ = _ from h)
  have h1 : m ≤ 32 := (uptoR_one hm).2.2
  have h2 := itsR_count hf
  omega

end Go.Proofs.YtaaeefndhmfceaaDoor
