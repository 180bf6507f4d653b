/- Parts as bytes: the document's, in plain words; the writer's part. -/
import Derived.Test.YtmfjacehompmmaaClone
namespace PK
open Go

/-- A part: its kind, and what it may have. -/
structure Pt where
  k : Nat
  u : Nat
  i : Int
  f : Nat
  s : ByteArray
  b : Bool

/-- Each of its numbers is one of its kind. -/
structure Pt.ok (p : Pt) : Prop where
  k : p.k < 256
  u : MF.W64 p.u
  i : (Lit.int .i64 p.i).wf = true
  f : MF.W64 p.f

def Pt.cells (p : Pt) : Array Value := #[.int .u8 p.k, .int .u64 p.u, .int .i64 p.i, .float .f64 p.f, .string p.s, .bool p.b]

/-- A part as bytes. -/
def partB (p : Pt) : List UInt8 :=
  if p.k = 117 then digits p.u else if p.k = 105 then digits (zig p.i) else if p.k = 102 then placeB (MF.key p.f) else if p.k = 115 then textB p.s.data.toList else if p.k = 98 then flagB p.b else []
def partsB : List Pt → List UInt8
  | [] => []
  | p :: l => partB p ++ partsB l
theorem partsB_append (a b : List Pt) : partsB (a ++ b) = partsB a ++ partsB b := by
  induction a with
  | nil => rfl
  | cons p l ih => simp [partsB, ih]
theorem partsB_take (l : List Pt) (i : Nat) (h : i < l.length) : partsB (l.take (i + 1)) = partsB (l.take i) ++ partB l[i] := by
  rw [List.take_succ_eq_append_getElem h, partsB_append]; simp [partsB]
theorem partsB_le (l : List Pt) (i : Nat) : (partsB (l.take i)).length ≤ (partsB l).length := by
  have := congrArg List.length (partsB_append (l.take i) (l.drop i))
  rw [List.take_append_drop, List.length_append] at this
  omega
end PK
namespace Go.Proofs.Ytmfjacehompmmaa
open Go.RowKit MM

set_option maxHeartbeats 1000000 in
set_option maxRecDepth 100000 in
theorem wpart_any (p : Nat) (A : Option Addr) (c : Nat) (xs : List UInt8) (q : PK.Pt) (w : World) (hq : q.ok) (hw : Wr 5 w p A c xs) (hl : Lim (xs.length + (PK.partB q).length)) :
    Calls Try.prog 36 #[.pointer (some ⟨p, 0, none⟩), .agg q.cells] w (WPost 5 p A (xs ++ PK.partB q) w) := by
  obtain ⟨k, u, i, f, s, b⟩ := q
  have hu := hq.u
  have hi := hq.i
  have hf := hq.f
  have hk := hq.k
  simp only at hu hi hf hk
  clear hq
  have hpl := hw.lt
  unfold PK.Pt.cells
  simp only
  by_cases k0 : k = 117
  · subst k0
    have hB : PK.partB ⟨117, u, i, f, s, b⟩ = PK.digits u := rfl
    rw [hB] at hl ⊢
    clear hB
    go_enter Try.func36, Try.ntmps36
    go_wp2_with fail
    refine (wu_any p A c xs u _ (hw.alloc _) hl).mono ?_
    rintro e w1 ⟨rfl, A1, c1, hw1, hs1⟩
    go_wp2
    go_end0
    exact ⟨rfl, A1, c1, hw1, hs1.pre ((Kp.refl _ w).alloc _)⟩
  have b0 : ((k : Int) == 117) = false := by simp; omega
  by_cases k1 : k = 105
  · subst k1
    have hB : PK.partB ⟨105, u, i, f, s, b⟩ = PK.digits (PK.zig i) := rfl
    rw [hB] at hl ⊢
    clear hB
    go_enter Try.func36, Try.ntmps36
    go_wp2_with fail
    refine (wi_any p A c xs i _ (hw.alloc _) hi hl).mono ?_
    rintro e w1 ⟨rfl, A1, c1, hw1, hs1⟩
    go_wp2
    go_end0
    exact ⟨rfl, A1, c1, hw1, hs1.pre ((Kp.refl _ w).alloc _)⟩
  have b1 : ((k : Int) == 105) = false := by simp; omega
  by_cases k2 : k = 102
  · subst k2
    have hB : PK.partB ⟨102, u, i, f, s, b⟩ = PK.placeB (MF.key f) := rfl
    rw [hB] at hl ⊢
    rw [PK.placeB_length] at hl
    clear hB
    go_enter Try.func36, Try.ntmps36
    go_wp2_with fail
    refine (wf_any p A c xs f _ hf (hw.alloc _) hl).mono ?_
    rintro e w1 ⟨rfl, A1, c1, hw1, hs1⟩
    go_wp2
    go_end0
    exact ⟨rfl, A1, c1, hw1, hs1.pre ((Kp.refl _ w).alloc _)⟩
  have b2 : ((k : Int) == 102) = false := by simp; omega
  by_cases k3 : k = 115
  · subst k3
    have hB : PK.partB ⟨115, u, i, f, s, b⟩ = PK.textB s.data.toList := rfl
    rw [hB] at hl ⊢
    clear hB
    go_enter Try.func36, Try.ntmps36
    go_wp2_with fail
    refine (ws_any p A c xs s _ (hw.alloc _) hl).mono ?_
    rintro e w1 ⟨rfl, A1, c1, hw1, hs1⟩
    go_wp2
    go_end0
    exact ⟨rfl, A1, c1, hw1, hs1.pre ((Kp.refl _ w).alloc _)⟩
  have b3 : ((k : Int) == 115) = false := by simp; omega
  by_cases k4 : k = 98
  · subst k4
    have hB : PK.partB ⟨98, u, i, f, s, b⟩ = PK.flagB b := rfl
    rw [hB] at hl ⊢
    have hl : Lim (xs.length + 1) := hl
    clear hB
    go_enter Try.func36, Try.ntmps36
    go_wp2_with fail
    refine (flag_any p A c xs b _ (hw.alloc _) hl).mono ?_
    rintro e w1 ⟨rfl, A1, c1, hw1, hs1⟩
    go_wp2
    go_end0
    exact ⟨rfl, A1, c1, hw1, hs1.pre ((Kp.refl _ w).alloc _)⟩
  have b4 : ((k : Int) == 98) = false := by simp; omega
  have hB : PK.partB ⟨k, u, i, f, s, b⟩ = [] := by unfold PK.partB; simp only; rw [if_neg k0, if_neg k1, if_neg k2, if_neg k3, if_neg k4]
  rw [hB, List.append_nil]
  clear hB k0 k1 k2 k3 k4
  go_enter Try.func36, Try.ntmps36
  go_wp2
  go_end0
  exact ⟨rfl, A, c, hw.alloc _, (WS.refl p A _).pre ((Kp.refl _ w).alloc _)⟩

/-- A slice of parts that reads as a list. -/
def Pts (w : World) (A : Option Addr) (ps : List PK.Pt) : Prop :=
  ps = [] ∨ ∃ b off, A = some ⟨b, off, none⟩ ∧ b < w.heap.size ∧ ∀ i q, ps[i]? = some q → ∀ j v, q.cells[j]? = some v → w.cell? ⟨b, off + i * 6 + j, none⟩ = some v

set_option maxHeartbeats 1000000 in
set_option maxRecDepth 100000 in
theorem write_any (A : Option Addr) (c : Nat) (ps : List PK.Pt) (w : World) (hq : ∀ q ∈ ps, q.ok) (hp : Pts w A ps) (hn : Lim ps.length) (hl : Lim (PK.partsB ps).length) :
    Calls Try.prog 14 #[.slice A ps.length c] w (Fresh 5 (PK.partsB ps) w) := by
  have hn' : (ps.length : Int) ≤ 4294967296 := by unfold Lim at hn; omega
  go_enter Try.func14, Try.ntmps14
  go_wp2_with fail
  go_loopw [5, 8] (fun _ t wr => ∃ (i : Nat) (A1 : Option Addr) (c1 : Nat), t = .int .i64 i ∧ i ≤ ps.length ∧ Wr 5 wr w.heap.size A1 c1 (PK.partsB (ps.take i)) ∧ Below w.heap.size w wr ∧ (∀ k, ob A1 = some k → w.heap.size ≤ k)) (fun _ t _ => ps.length - (intOf t).toNat)
  case atStart => exact ⟨0, none, 0, rfl, Nat.zero_le _, Wr.new _ _ w, (Below.refl _ w).alloc (Nat.le_refl _) _, (fun k e => by cases e)⟩
  case round =>
    obtain ⟨i, A1, c1, rfl, hi, hw1, hb1, ha1⟩ := hrel
    by_cases hlt : i < ps.length
    · rcases hp with rfl | ⟨b, off, rfl, hbl, hcell⟩
      · simp at hlt
      have hcs := hcell i ps[i] (List.getElem?_eq_getElem hlt)
      have hok := hq ps[i] (List.getElem_mem _)
      have htk : PK.partsB (ps.take (i + 1)) = PK.partsB (ps.take i) ++ PK.partB ps[i] := PK.partsB_take ps i hlt
      generalize ps[i] = q at *
      have Htk := Lib.hid htk
      clear htk hcell
      obtain ⟨qk, qu, qi, qf, qs, qb⟩ := q
      have c0 : wr.cell? ⟨b, off + i * 6, none⟩ = some (.int .u8 qk) := (hb1.cell (p := ⟨b, off + i * 6, none⟩) hbl).trans (hcs 0 _ rfl)
      have c1' : wr.cell? ⟨b, off + i * 6 + 1, none⟩ = some (.int .u64 qu) := (hb1.cell (p := ⟨b, off + i * 6 + 1, none⟩) hbl).trans (hcs 1 _ rfl)
      have c2 : wr.cell? ⟨b, off + i * 6 + 2, none⟩ = some (.int .i64 qi) := (hb1.cell (p := ⟨b, off + i * 6 + 2, none⟩) hbl).trans (hcs 2 _ rfl)
      have c3 : wr.cell? ⟨b, off + i * 6 + 3, none⟩ = some (.float .f64 qf) := (hb1.cell (p := ⟨b, off + i * 6 + 3, none⟩) hbl).trans (hcs 3 _ rfl)
      have c4 : wr.cell? ⟨b, off + i * 6 + 4, none⟩ = some (.string qs) := (hb1.cell (p := ⟨b, off + i * 6 + 4, none⟩) hbl).trans (hcs 4 _ rfl)
      have c5 : wr.cell? ⟨b, off + i * 6 + 5, none⟩ = some (.bool qb) := (hb1.cell (p := ⟨b, off + i * 6 + 5, none⟩) hbl).trans (hcs 5 _ rfl)
      clear hcs
      have hlen := PK.partsB_le ps (i + 1)
      rw [Htk.out, List.length_append] at hlen
      have hl1 := hl.le hlen
      clear hlen
      go_wp2_with fail
      refine (wpart_any w.heap.size A1 c1 (PK.partsB (ps.take i)) ⟨qk, qu, qi, qf, qs, qb⟩ _ hok (hw1.alloc _) hl1).mono ?_
      rintro e w1 ⟨rfl, A2, c2', hw2, hs2⟩
      obtain ⟨hb2, ha2⟩ := hs2.below (B := w.heap.size) (Nat.le_trans hb1.size (by simp)) (Nat.le_refl _) ha1
      go_wp2
      go_roundw
      case rel => exact ⟨i + 1, A2, c2', by go_num, by omega, by rw [Htk.out]; exact hw2, (hb1.alloc hb1.size _).trans hb2, ha2⟩
      case measure => simp [intOf]; omega
    · have hi' : i = ps.length := by omega
      subst hi'
      rw [List.take_length] at hw1
      go_wp2_with fail
      refine (bytes_any w.heap.size A1 c1 (PK.partsB ps) _ hw1 hl).mono ?_
      rintro e w1 ⟨A2, c2, rfl, ho2, hk2, hb2⟩
      go_wp2
      go_ret
      exact ⟨A2, c2, rfl, ho2, (fun k e => Nat.le_trans hb1.size (hk2 k e)), hb1.trans (hb2.mono hb1.size)⟩

end Go.Proofs.Ytmfjacehompmmaa
