/- Layer 2's statements' own head: a few parts there and back. -/
import Derived.Test.YtmfjacehompmmaaReads
import Derived.Laws.StructEq
namespace Go.Proofs.Ytmfjacehompmmaa
open Go.RowKit MM

theorem dig300 : PK.digits 300 = [172, 2] := by rw [PK.digits_big (by omega), PK.digits_small (by omega)]; rfl
def spParts : List PK.Pt := [⟨117, 300, 0, 0, ⟨#[]⟩, false⟩, ⟨105, 0, -2, 0, ⟨#[]⟩, false⟩, ⟨115, 0, 0, 0, ⟨#[97, 98]⟩, false⟩, ⟨98, 0, 0, 0, ⟨#[]⟩, true⟩]
theorem spBytes : PK.partsB spParts = [172, 2, 3, 2, 97, 98, 1] := by
  show PK.digits 300 ++ (PK.digits (PK.zig (-2)) ++ ((PK.digits ([97, 98] : List UInt8).length ++ [97, 98]) ++ ([1] ++ []))) = _
  rw [dig300, PK.digits_small (show PK.zig (-2) < 128 by decide), PK.digits_small (show ([97, 98] : List UInt8).length < 128 by decide)]
  rfl
theorem spRead : partsR 5 [117, 105, 115, 98] [172, 2, 3, 2, 97, 98, 1] = .ok spParts 7 := by rfl
theorem spForm : partsR 5 [117] [128, 0] = .bad 4 2 := by rfl
theorem spOk : ∀ q ∈ spParts, q.ok := by
  intro q hq
  simp only [spParts, List.mem_cons, List.mem_nil_iff, or_false] at hq
  rcases hq with rfl | rfl | rfl | rfl <;> exact ⟨by decide, by unfold MF.W64; decide, by decide, by unfold MF.W64; decide⟩
theorem spPlace : PK.placeB (MF.key 0) = [128, 0, 0, 0, 0, 0, 0, 0] := by decide

set_option maxRecDepth 100000 in
@[go_sem] theorem eqFault (a b c d : Int) (w : World) : (Op.equalIn 10000 30 (.agg #[.int .i64 a, .int .i64 b]) (.agg #[.int .i64 c, .int .i64 d])).run Try.prog w = .ok (a == c && b == d) w := by
  have hS : Try.prog.underlying 30 = some (.struct (Try.prog.fieldsOf 30)) := by kernel_rfl
  have hp : Try.prog.stoodInHeld 30 = false := by kernel_rfl
  rw [show (10000 : Nat) = 9999 + 1 from rfl, run_equalIn_agg w 9999 30 _ _ hS hp]
  simp only [Program.fieldsOf, Try.underlying30]
  go_simp
  by_cases h1 : a = c <;> by_cases h2 : b = d <;> simp [h1, h2]

@[go_sem] theorem eqFaultGuard : Try.prog.eqGuardType Try.prog.depth 30 = false := by kernel_rfl

theorem ptCells_length (ps : List PK.Pt) : (ptCells ps).length = ps.length * 6 := by
  induction ps with
  | nil => rfl
  | cons q l ih =>
    have : ptCells (q :: l) = q.cells.toList ++ ptCells l := by simp [ptCells]
    rw [this, List.length_append, ih]
    simp [PK.Pt.cells]
    omega
theorem ptCells_get : ∀ (ps : List PK.Pt) (i : Nat) (q : PK.Pt) (j : Nat) (v : Value), ps[i]? = some q → q.cells[j]? = some v → (ptCells ps)[i * 6 + j]? = some v
  | [], i, q, j, v, h, _ => by simp at h
  | p :: l, i, q, j, v, h, hj => by
    have e : ptCells (p :: l) = p.cells.toList ++ ptCells l := by simp [ptCells]
    have hl : p.cells.toList.length = 6 := by simp [PK.Pt.cells]
    rw [e]
    cases i with
    | zero =>
      simp only [List.getElem?_cons_zero, Option.some.injEq] at h
      subst h
      have hj6 : j < 6 := by
        have := (Array.getElem?_eq_some_iff.1 hj).1
        simpa [PK.Pt.cells] using this
      rw [List.getElem?_append_left (by omega)]
      simpa using hj
    | succ i =>
      rw [List.getElem?_append_right (by omega), hl]
      rw [show (i + 1) * 6 + j - 6 = i * 6 + j by omega]
      exact ptCells_get l i q j v (by simpa using h) hj
theorem Pts.own {w : World} {A : Option Addr} {c : Nat} {ps : List PK.Pt} {E : TypeId} (h : w.ownsRow 0 E 6 (.slice A ps.length c) ps.length (ptCells ps)) : Pts w A ps := by
  rcases h.2 with ⟨hv, h0⟩ | ⟨g, cap, cur, hv, _⟩
  · exact .inl (List.eq_nil_of_length_eq_zero h0)
  · injection hv with hA _ hc
    subst hA hc
    refine .inr ⟨g, 0, rfl, own_inside h _ rfl, fun i q hq j v hj => ?_⟩
    have := h.cells (g := g) rfl (i * 6 + j) v (ptCells_get ps i q j v hq hj)
    rw [MM.add_plain] at this
    rw [← Nat.add_assoc] at this
    exact this
theorem Pts.new (w : World) (t : TypeId) (ps : List PK.Pt) (hl : ps.length ≤ maxLen) : Pts (w.alloc (.cells (ptCells ps).toArray t)) (some ⟨w.heap.size, 0, none⟩) ps := by
  have h := World.ownsRow_lit (base := 0) (e := t) (size := 6) w (ptCells ps).toArray ps.length (Nat.zero_le _) hl (by simp [ptCells_length])
  exact Pts.own h

set_option maxHeartbeats 4000000 in
set_option maxRecDepth 100000 in
theorem speaks_any (w : World) :
    Calls Try.prog 12 #[] w fun e w' => e = .returned (.bool true) ∧ Below w.heap.size w w' := by
  go_enter Try.func12, Try.ntmps12
  go_wp2_with fail
  refine (write_any (some ⟨w.heap.size, 0, none⟩) 4 spParts _ spOk (Pts.new w _ spParts (by decide)) (by unfold Lim; decide) (by rw [spBytes]; unfold Lim; decide)).mono ?_
  rw [spBytes]
  rintro e w1 ⟨A1, c1, rfl, ho1, hn1, hb1⟩
  go_wp2_with fail
  refine (read_any A1 c1 [172, 2, 3, 2, 97, 98, 1] ⟨#[117, 105, 115, 98]⟩ 5 _ (Bts.own ho1) (by unfold Lim; decide) (by unfold Lim; decide) (by decide)).mono ?_
  rw [show partsR 5 (ByteArray.mk #[117, 105, 115, 98]).data.toList [172, 2, 3, 2, 97, 98, 1] = .ok spParts 7 from spRead]
  rintro e w2 ⟨A2, c2, rfl, ho2, hn2, hb2⟩
  go_wp2_with fail
  refine (read_any (some ⟨w2.heap.size + 1, 0, none⟩) 2 [128, 0] ⟨#[117]⟩ 5 _ (Bts.new _ _ [128, 0] _ (by simp) (by decide)) (by unfold Lim; decide) (by unfold Lim; decide) (by decide)).mono ?_
  rw [show partsR 5 (ByteArray.mk #[117]).data.toList [128, 0] = .bad 4 2 from spForm]
  rintro e w3 ⟨rfl, hb3⟩
  go_wp2_with fail
  refine (wf_any (w3.heap.size + 1) none 0 [] 0 _ (by unfold MF.W64; decide) (Wr.new' _ _ _ _ (by simp)) (by unfold Lim; decide)).mono ?_
  rintro e w5 ⟨rfl, A5, c5, hw5, hs5⟩
  rw [spPlace, List.nil_append] at hw5
  have hz3 := hb3.size
  simp only [World.size_alloc] at hz3
  have hb4 : Below (w3.heap.size + 1) ((w3.alloc (.cells #[.int .i64 4, .int .i64 2] 30)).alloc (.cells #[.slice none 0 0] 49)) w5 :=
    (hs5.below (B := w3.heap.size + 1) (by simp) (Nat.le_refl _) (fun k e => by cases e)).1
  have hb35 : Below w3.heap.size w3 w5 := (((Below.refl _ w3).alloc (Nat.le_refl _) _).alloc (by simp) _).trans (hb4.mono (by omega))
  have hb25 : Below w2.heap.size w2 w5 := ((((Below.refl _ w2).alloc (Nat.le_refl _) _).alloc (by simp) _).trans (hb3.mono (by simp; omega))).trans (hb35.mono (by omega))
  have hb15 : Below w1.heap.size w1 w5 := hb2.trans (hb25.mono hb2.size)
  have e3 : w5.heap[w2.heap.size]? = some (.cells #[.int .i64 0, .int .i64 0] 30 (0, 0)) :=
    (hb35.block _ (by omega)).trans ((hb3.block _ (by simp; omega)).trans ((Below.heap_alloc _ _ _ (by simp)).trans (heap_alloc_new w2 _)))
  have e5 : w5.heap[w3.heap.size]? = some (.cells #[.int .i64 4, .int .i64 2] 30 (0, 0)) :=
    (hb4.block _ (by omega)).trans ((Below.heap_alloc _ _ _ (by simp)).trans (heap_alloc_new w3 _))
  have k30 := (cell_of_row w5 _ 0 _ _ (0, 0) e3)
  have k31 := (cell_of_row w5 _ 1 _ _ (0, 0) e3)
  have k50 := (cell_of_row w5 _ 0 _ _ (0, 0) e5)
  have k51 := (cell_of_row w5 _ 1 _ _ (0, 0) e5)
  have hcv := run_text (P := Try.prog) w5 26 9 5 A1 c1 [172, 2, 3, 2, 97, 98, 1] Try.underlying26 Try.underlying5 Try.underlying9 ((Bts.own ho1).below hb15)
  rw [show ([172, 2, 3, 2, 97, 98, 1] : List UInt8).length = 7 from rfl] at hcv
  have hP := Pts.own (own_below ho2 hb25)
  rcases hP with hP | ⟨g, off, rfl, hg, hP⟩
  · cases hP
  have p0 : w5.cell? ⟨g, off + 1, none⟩ = some (.int .u64 300) := hP 0 _ rfl 1 _ rfl
  have p1 : w5.cell? ⟨g, off + 6 + 2, none⟩ = some (.int .i64 (-2)) := hP 1 _ rfl 2 _ rfl
  have p2 : w5.cell? ⟨g, off + 12 + 4, none⟩ = some (.string ⟨#[97, 98]⟩) := hP 2 _ rfl 4 _ rfl
  have p3 : w5.cell? ⟨g, off + 18 + 5, none⟩ = some (.bool true) := hP 3 _ rfl 5 _ rfl
  have hlen : spParts.length = 4 := rfl
  have H1 := Lib.hid hb1
  have H15 := Lib.hid hb15
  clear hP hb1 hb2 hb3 hb4 hb35 hb25 hb15 hz3 e3 e5 ho1 ho2 hn1 hn2 hg hs5
  go_wp2_with (first
    | (go_at_call 28; refine (wlen_any (w3.heap.size + 1) A5 c5 [128, 0, 0, 0, 0, 0, 0, 0] _ hw5).mono ?_; rintro e w' ⟨rfl, rfl⟩)
    | (go_at_call 27; refine (bytes_any (w3.heap.size + 1) A5 c5 [128, 0, 0, 0, 0, 0, 0, 0] _ hw5 (by unfold Lim; decide)).mono ?_; rintro e w6 ⟨A6, c6, rfl, ho6, hn6, hb6⟩; obtain ⟨g6, rfl, hg6⟩ := own_at ho6 (by decide); have hg60 : w6.cell? ⟨g6, 0, none⟩ = some (.int .u8 128) := hg6 0 (by decide); clear hg6))
  go_ret
  exact ⟨rfl, (((Below.refl _ w).alloc (Nat.le_refl _) _).trans (H1.out.mono (by simp))).trans ((H15.out.mono (Nat.le_trans (by simp) H1.out.size)).trans (hb6.mono (Nat.le_trans (Nat.le_trans (by simp) H1.out.size) H15.out.size)))⟩

end Go.Proofs.Ytmfjacehompmmaa
