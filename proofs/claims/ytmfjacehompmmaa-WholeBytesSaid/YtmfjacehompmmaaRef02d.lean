/- Contracts of the document's own answers for layer 2: One, Write. -/
import Derived.Test.YtmfjacehompmmaaRef02c
namespace Go.Proofs.Ytmfjacehompmmaa
open Go.RowKit MM

theorem FreshB.eqv {xs ys : List UInt8} {w : World} {e : Ending} {w' : World} (h : FreshB xs w e w') (he : xs = ys) : FreshB ys w e w' := he ▸ h
theorem FreshB.behind {xs : List UInt8} {w w0 : World} {e : Ending} {w' : World} (h : FreshB xs w0 e w') (hb : Below w.heap.size w w0) : FreshB xs w e w' := by
  obtain ⟨A, c, rfl, hB, hc, hb'⟩ := h
  exact ⟨A, c, rfl, hB, hc, hb.trans (hb'.mono hb.size)⟩

theorem rdigits_B (n : Nat) (w : World) (hn : MF.W64 n) : Calls Try.prog 61 #[.int .u64 n] w (FreshB (PK.digits n) w) :=
  (rdigits_any n w hn).mono fun _ _ h => Fresh.toB h

set_option maxHeartbeats 1000000 in
set_option maxRecDepth 100000 in
theorem rone_any (q : PK.Rp) (w : World) (hq : q.ok) (hl : Lim (PK.refB q).length) :
    Calls Try.prog 41 #[.agg q.cells] w (FreshB (PK.refB q) w) := by
  obtain ⟨k, u, i, p, s, b⟩ := q
  have hu : MF.W64 u := hq.u
  have hi : (Lit.int .i64 i).wf = true := hq.i
  have hp : MF.W64 p := hq.p
  have hk : k < 256 := hq.k
  have hzz := (PK.zag_zig i (wf_i64 hi)).2
  have Hu := Lib.hid hu
  have Hi := Lib.hid hi
  have Hp := Lib.hid hp
  have Hz := Lib.hid hzz
  clear hq hu hi hp hzz
  by_cases h4 : k = 115
  · subst h4
    exact rone_text u i p s b w hl
  have Hl := Lib.hid hl
  clear hl
  show Calls Try.prog 41 #[.agg #[.int .u8 k, .int .u64 u, .int .i64 i, .int .u64 p, .string s, .bool b]] w _
  by_cases h1 : k = 117
  · subst h1
    go_enter Try.func41, Try.ntmps41
    go_wp2_with (go_at_call 61; refine (rdigits_B u _ Hu.out).mono ?_; rintro e w1 ⟨A1, c1, rfl, hB, hc, hb⟩)
    go_ret
    exact (show FreshB (PK.digits u) _ _ _ from ⟨A1, c1, rfl, hB, hc, hb⟩).behind ((Below.refl _ w).alloc (Nat.le_refl _) _)
  by_cases h2 : k = 105
  · subst h2
    go_enter Try.func41, Try.ntmps41
    go_wp2_with (first
      | (go_at_call 62; refine (rzig_any i _ Hi.out).mono ?_; rintro e w1 ⟨rfl, rfl⟩)
      | (go_at_call 61; refine (rdigits_B (PK.zig i) _ Hz.out).mono ?_; rintro e w1 ⟨A1, c1, rfl, hB, hc, hb⟩))
    go_ret
    exact (show FreshB (PK.digits (PK.zig i)) _ _ _ from ⟨A1, c1, rfl, hB, hc, hb⟩).behind ((Below.refl _ w).alloc (Nat.le_refl _) _)
  by_cases h3 : k = 102
  · subst h3
    go_enter Try.func41, Try.ntmps41
    go_wp2_with (go_at_call 63; refine (rplace_any p _ Hp.out).mono ?_; rintro e w1 ⟨A1, c1, rfl, hB, hc, hb⟩)
    go_ret
    exact (show FreshB (PK.placeB p) _ _ _ from ⟨A1, c1, rfl, hB, hc, hb⟩).behind ((Below.refl _ w).alloc (Nat.le_refl _) _)
  by_cases h5 : k = 98
  · subst h5
    have hbn : ∀ (n : Nat) (w0 : World), n = w0.heap.size → Below w.heap.size w w0 → ∀ x : Bool, FreshB (PK.flagB x) w (.returned (.slice (some ⟨n, 0, none⟩) 1 1)) (w0.alloc (.cells #[.int .u8 (if x then 1 else 0)] 5)) := by
      rintro n w0 rfl h0 x
      have ho := World.ownsRow_lit (base := 0) (e := 5) (size := 1) w0 #[.int .u8 (if x then 1 else 0)] 1 (Nat.zero_le _) (by unfold maxLen; omega) rfl
      exact FreshB.of_own (xs := PK.flagB x) ho rfl (by cases x <;> rfl) (h0.alloc h0.size _)
    have Hb := Lib.hid hbn
    clear hbn
    cases b
    · go_enter Try.func41, Try.ntmps41
      go_wp2
      go_ret
      exact Hb.out (w.heap.size + 1) _ (by simp) ((Below.refl _ w).alloc (Nat.le_refl _) _) false
    · go_enter Try.func41, Try.ntmps41
      go_wp2
      go_ret
      exact Hb.out (w.heap.size + 1) _ (by simp) ((Below.refl _ w).alloc (Nat.le_refl _) _) true
  · have h1' : ¬ (k : Int) = 117 := by omega
    have h2' : ¬ (k : Int) = 105 := by omega
    have h3' : ¬ (k : Int) = 102 := by omega
    have h4' : ¬ (k : Int) = 115 := by omega
    have h5' : ¬ (k : Int) = 98 := by omega
    have he : PK.refB ⟨k, u, i, p, s, b⟩ = [] := by
      unfold PK.refB
      rw [if_neg h1, if_neg h2, if_neg h3, if_neg h4, if_neg h5]
    have He := Lib.hid he
    clear he
    go_enter Try.func41, Try.ntmps41
    go_wp2
    go_ret
    rw [He.out]
    exact ⟨_, 0, rfl, Bts.nil _, by simp, (((Below.refl _ w).alloc (Nat.le_refl _) _).alloc (by simp) _)⟩

/-- A slice of the document's parts that reads as a list. -/
def Rps (w : World) (A : Option Addr) (qs : List PK.Rp) : Prop :=
  qs = [] ∨ ∃ b off, A = some ⟨b, off, none⟩ ∧ b < w.heap.size ∧ ∀ i q, qs[i]? = some q → ∀ j v, q.cells[j]? = some v → w.cell? ⟨b, off + i * 6 + j, none⟩ = some v
theorem Rps.below {w w' : World} {A : Option Addr} {qs : List PK.Rp} (h : Rps w A qs) (hb : Below w.heap.size w w') : Rps w' A qs := by
  rcases h with h | ⟨b, off, h1, h2, h3⟩
  · exact .inl h
  · exact .inr ⟨b, off, h1, Nat.lt_of_lt_of_le h2 hb.size, fun i q hq j v hv => (hb.cell (p := ⟨b, off + i * 6 + j, none⟩) h2).trans (h3 i q hq j v hv)⟩
theorem Pts.below {w w' : World} {A : Option Addr} {qs : List PK.Pt} (h : Pts w A qs) (hb : Below w.heap.size w w') : Pts w' A qs := by
  rcases h with h | ⟨b, off, h1, h2, h3⟩
  · exact .inl h
  · exact .inr ⟨b, off, h1, Nat.lt_of_lt_of_le h2 hb.size, fun i q hq j v hv => (hb.cell (p := ⟨b, off + i * 6 + j, none⟩) h2).trans (h3 i q hq j v hv)⟩

set_option maxHeartbeats 1000000 in
set_option maxRecDepth 100000 in
theorem rwrite_any (A : Option Addr) (c : Nat) (qs : List PK.Rp) (w : World) (hq : ∀ q ∈ qs, q.ok) (hp : Rps w A qs) (hn : Lim qs.length) (hl : Lim (PK.refsB qs).length) :
    Calls Try.prog 16 #[.slice A qs.length c] w (Fresh 5 (PK.refsB qs) w) := by
  obtain ⟨i0, hi0, hz0, hz1, hz2⟩ := info_parts byte_info
  have hn' : (qs.length : Int) ≤ 4294967296 := by unfold Lim at hn; omega
  go_enter Try.func16, Try.ntmps16
  go_wp2_with fail
  go_loopw [3, 4] (fun to t wr => ∃ (i : Nat) (A1 : Option Addr) (c1 : Nat), to = .slice A1 (PK.refsB (qs.take i)).length c1 ∧ t = .int .i64 i ∧ i ≤ qs.length ∧ wr.ownsRow 0 5 1 (.slice A1 (PK.refsB (qs.take i)).length c1) (PK.refsB (qs.take i)).length (bc (PK.refsB (qs.take i))) ∧ Below w.heap.size w wr ∧ (∀ k, ob A1 = some k → w.heap.size ≤ k)) (fun _ t _ => qs.length - (intOf t).toNat)
  case atStart =>
    have ho := World.ownsRow_lit (base := 0) (e := 5) (size := 1) w #[] 0 (Nat.zero_le _) (Nat.zero_le _) rfl
    exact ⟨0, some ⟨w.heap.size, 0, none⟩, 0, rfl, rfl, Nat.zero_le _, ho, (Below.refl _ w).alloc (Nat.le_refl _) _, fun k e => by have e : some w.heap.size = some k := e; injection e with e; omega⟩
  case round =>
    obtain ⟨i, A1, c1, rfl, rfl, hi, ho1, hb1, ha1⟩ := hrel
    by_cases hlt : i < qs.length
    · rcases hp with rfl | ⟨b, off, rfl, hbl, hcell⟩
      · simp at hlt
      have hcs := hcell i qs[i] (List.getElem?_eq_getElem hlt)
      have hok := hq qs[i] (List.getElem_mem _)
      have htk : PK.refsB (qs.take (i + 1)) = PK.refsB (qs.take i) ++ PK.refB qs[i] := PK.refsB_take qs i hlt
      generalize qs[i] = q at *
      have Htk := Lib.hid htk
      clear htk hcell
      obtain ⟨qk, qu, qi, qf, qs', qb⟩ := q
      have c0 : wr.cell? ⟨b, off + i * 6, none⟩ = some (.int .u8 qk) := (hb1.cell (p := ⟨b, off + i * 6, none⟩) hbl).trans (hcs 0 _ rfl)
      have c1' : wr.cell? ⟨b, off + i * 6 + 1, none⟩ = some (.int .u64 qu) := (hb1.cell (p := ⟨b, off + i * 6 + 1, none⟩) hbl).trans (hcs 1 _ rfl)
      have c2 : wr.cell? ⟨b, off + i * 6 + 2, none⟩ = some (.int .i64 qi) := (hb1.cell (p := ⟨b, off + i * 6 + 2, none⟩) hbl).trans (hcs 2 _ rfl)
      have c3 : wr.cell? ⟨b, off + i * 6 + 3, none⟩ = some (.int .u64 qf) := (hb1.cell (p := ⟨b, off + i * 6 + 3, none⟩) hbl).trans (hcs 3 _ rfl)
      have c4 : wr.cell? ⟨b, off + i * 6 + 4, none⟩ = some (.string qs') := (hb1.cell (p := ⟨b, off + i * 6 + 4, none⟩) hbl).trans (hcs 4 _ rfl)
      have c5 : wr.cell? ⟨b, off + i * 6 + 5, none⟩ = some (.bool qb) := (hb1.cell (p := ⟨b, off + i * 6 + 5, none⟩) hbl).trans (hcs 5 _ rfl)
      clear hcs
      have hlen := PK.refsB_le qs (i + 1)
      rw [Htk.out, List.length_append] at hlen
      have hl1 := hl.le hlen
      have hl2 : Lim (PK.refB ⟨qk, qu, qi, qf, qs', qb⟩).length := hl1.le (by omega)
      clear hlen
      have Ho1 := Lib.hid ho1
      clear ho1
      go_wp2_with fail
      refine (rone_any ⟨qk, qu, qi, qf, qs', qb⟩ _ hok hl2).mono ?_
      rintro e w1 ⟨A2, c2', rfl, hB2, hc2, hb2⟩
      go_wp2_with (first
      | (at_builtin
         refine wpList_append_at rfl (.tmp 12) (.tmp 17) _ _ rfl 5 i0 _ 1 1 Try.underlying26 hi0 hz0 hz1 hz2 rfl _ _ c1 _ rfl (own_below Ho1.out hb2) _ _ _ rfl (hB2.src Try.underlying26 hc2) hl1.len hl1.fits ?_
         intro A3 c3' w3 ho3 hg3 hat3))
      go_roundw
      case rel =>
        have hk : Kp (fun _ => False) w w3 := ((Kp.of_below hb1 (fun _ => False)).trans (Kp.of_below hb2 (fun _ => False)) (fun _ _ x => x)).grown hg3 (fun k e => .inr (ha1 k e))
        refine ⟨i + 1, A3, c3', ?_, by go_num, by omega, ?_, hk.below (Nat.le_refl _) (fun _ _ x => x), ?_⟩
        · rw [Htk.out, List.length_append]
        · rw [Htk.out, List.length_append, bc_append]
          exact ho3
        · intro k e
          rcases hat3 with h3 | h3
          · rw [h3] at e; exact ha1 k e
          · rw [h3] at e; injection e with e; have := hb1.size; have := hb2.size; omega
      case measure => simp [intOf]; omega
    · have hi' : i = qs.length := by omega
      subst hi'
      rw [List.take_length] at ho1 ⊢
      go_wp2
      go_ret
      exact ⟨A1, c1, rfl, ho1, ha1, hb1⟩

end Go.Proofs.Ytmfjacehompmmaa
