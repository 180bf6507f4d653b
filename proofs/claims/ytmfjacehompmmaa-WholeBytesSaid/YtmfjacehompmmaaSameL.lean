/- Contracts of what the statements of layer 2 are made of: same. -/
import Derived.Test.YtmfjacehompmmaaPlainL
import Derived.Deep.QuietTactic
import Derived.BigQuiet
namespace Go.Proofs.Ytmfjacehompmmaa
open Go.RowKit MM

set_option maxRecDepth 100000 in
@[go_sem] theorem eqRp (k u p : Int) (i : Int) (s : ByteArray) (b : Bool) (w : World) : (Op.equalIn 10000 60 (.agg #[.int .u8 k, .int .u64 u, .int .i64 i, .int .u64 p, .string s, .bool b]) (.agg #[.int .u8 k, .int .u64 u, .int .i64 i, .int .u64 p, .string s, .bool b])).run Try.prog w = .ok true w := by
  have hS : Try.prog.underlying 60 = some (.struct (Try.prog.fieldsOf 60)) := by kernel_rfl
  have hp : Try.prog.stoodInHeld 60 = false := by kernel_rfl
  rw [show (10000 : Nat) = 9999 + 1 from rfl, run_equalIn_agg w 9999 60 _ _ hS hp]
  simp only [Program.fieldsOf, Try.underlying60]
  go_simp

@[go_sem] theorem eqRpGuard : Try.prog.eqGuardType Try.prog.depth 60 = false := by kernel_rfl

theorem rpCells_length (ps : List PK.Rp) : (rpCells ps).length = ps.length * 6 := by
  induction ps with
  | nil => rfl
  | cons q l ih =>
    have : rpCells (q :: l) = q.cells.toList ++ rpCells l := by simp [rpCells]
    rw [this, List.length_append, ih]
    simp [PK.Rp.cells]
    omega
theorem rpCells_get : ∀ (ps : List PK.Rp) (i : Nat) (q : PK.Rp) (j : Nat) (v : Value), ps[i]? = some q → q.cells[j]? = some v → (rpCells ps)[i * 6 + j]? = some v
  | [], i, q, j, v, h, _ => by simp at h
  | p :: l, i, q, j, v, h, hj => by
    have hc : rpCells (p :: l) = p.cells.toList ++ rpCells l := by simp [rpCells]
    have hl : p.cells.toList.length = 6 := rfl
    cases i with
    | zero =>
      simp only [List.getElem?_cons_zero, Option.some.injEq] at h
      subst h
      have hj6 : j < 6 := (Array.getElem?_eq_some_iff.1 hj).1
      rw [hc, Nat.zero_mul, Nat.zero_add, List.getElem?_append_left (by omega)]
      simpa using hj
    | succ i =>
      rw [List.getElem?_cons_succ] at h
      have ih := rpCells_get l i q j v h hj
      rw [hc, List.getElem?_append_right (by omega), hl, show (i + 1) * 6 + j - 6 = i * 6 + j by omega]
      exact ih
theorem Rps.own {w : World} {A : Option Addr} {c : Nat} {ps : List PK.Rp} {E : TypeId} (h : w.ownsRow 0 E 6 (.slice A ps.length c) ps.length (rpCells ps)) : Rps w A ps := by
  rcases h.2 with ⟨hv, h0⟩ | ⟨g, cap, cur, hv, _⟩
  · exact .inl (List.eq_nil_of_length_eq_zero h0)
  · injection hv with hA _ hc
    subst hA hc
    refine .inr ⟨g, 0, rfl, own_inside h _ rfl, fun i q hq j v hj => ?_⟩
    have := h.cells (g := g) rfl (i * 6 + j) v (rpCells_get ps i q j v hq hj)
    rw [MM.add_plain] at this
    rw [← Nat.add_assoc] at this
    exact this

set_option maxHeartbeats 1000000 in
set_option maxRecDepth 100000 in
theorem same_eq (A B : Option Addr) (c d : Nat) (rs : List PK.Rp) (w : World) (ha : Rps w A rs) (hb : Rps w B rs) (hn : Lim rs.length) :
    Calls Try.prog 18 #[.slice A rs.length c, .slice B rs.length d] w fun e w' => e = .returned (.bool true) ∧ ∃ n, w' = w.drewN n := by
  have hn' : (rs.length : Int) ≤ 4294967296 := by unfold Lim at hn; omega
  go_enter Try.func18, Try.ntmps18
  go_wp2_with fail
  go_loopw [5, 8] (fun _ t wr => ∃ i n : Nat, t = .int .i64 i ∧ i ≤ rs.length ∧ wr = w.drewN n) (fun _ t _ => rs.length - (intOf t).toNat)
  case atStart => exact ⟨0, 0, rfl, Nat.zero_le _, rfl⟩
  case round =>
    obtain ⟨i, n, rfl, hi, rfl⟩ := hrel
    by_cases hlt : i < rs.length
    · rcases ha with rfl | ⟨b, off, rfl, hbl, hca⟩
      · simp at hlt
      rcases hb with rfl | ⟨b2, off2, rfl, hbl2, hcb⟩
      · simp at hlt
      have hc1 := hca i rs[i] (List.getElem?_eq_getElem hlt)
      have hc2 := hcb i rs[i] (List.getElem?_eq_getElem hlt)
      generalize rs[i] = q at *
      obtain ⟨qk, qu, qi, qp, qs', qb⟩ := q
      have a0 : w.cell? ⟨b, off + i * 6, none⟩ = some (.int .u8 qk) := hc1 0 _ rfl
      have a1 : w.cell? ⟨b, off + i * 6 + 1, none⟩ = some (.int .u64 qu) := hc1 1 _ rfl
      have a2 : w.cell? ⟨b, off + i * 6 + 2, none⟩ = some (.int .i64 qi) := hc1 2 _ rfl
      have a3 : w.cell? ⟨b, off + i * 6 + 3, none⟩ = some (.int .u64 qp) := hc1 3 _ rfl
      have a4 : w.cell? ⟨b, off + i * 6 + 4, none⟩ = some (.string qs') := hc1 4 _ rfl
      have a5 : w.cell? ⟨b, off + i * 6 + 5, none⟩ = some (.bool qb) := hc1 5 _ rfl
      have b0 : w.cell? ⟨b2, off2 + i * 6, none⟩ = some (.int .u8 qk) := hc2 0 _ rfl
      have b1 : w.cell? ⟨b2, off2 + i * 6 + 1, none⟩ = some (.int .u64 qu) := hc2 1 _ rfl
      have b2' : w.cell? ⟨b2, off2 + i * 6 + 2, none⟩ = some (.int .i64 qi) := hc2 2 _ rfl
      have b3 : w.cell? ⟨b2, off2 + i * 6 + 3, none⟩ = some (.int .u64 qp) := hc2 3 _ rfl
      have b4 : w.cell? ⟨b2, off2 + i * 6 + 4, none⟩ = some (.string qs') := hc2 4 _ rfl
      have b5 : w.cell? ⟨b2, off2 + i * 6 + 5, none⟩ = some (.bool qb) := hc2 5 _ rfl
      clear hc1 hc2 hca hcb
      have hi1 : (i : Int) < (rs.length : Int) := by omega
      have hge : decide ((rs.length : Int) ≤ (i : Int)) = false := by simp; omega
      go_wp2_with fail
      go_quiet (fail)
      go_wp2
      refine ⟨⟨i + 1, n + nq, by go_num, by omega, rfl⟩, ?_⟩
      simp [intOf]
      omega
    · have hi' : i = rs.length := by omega
      subst hi'
      go_wp2
      go_ret
      exact ⟨rfl, n, rfl⟩

end Go.Proofs.Ytmfjacehompmmaa
