/- Contracts of package roll over a sound disk of which an area holds entries. -/
import Derived.Test.YtlaecnggbcagcaaRl10
namespace Go.Proofs.Ytlaecnggbcagcaa
open Go.RowKit MM
set_option linter.unusedVariables false
set_option linter.unusedSimpArgs false

theorem set_at {l : List (List UInt8)} {j : Nat} {s : List UInt8} (h : l[j]? = some s) : l.set j s = l := by
  apply List.ext_getElem?
  intro i
  rw [List.getElem?_set]
  split
  · rename_i e
    subst e
    split
    · exact h.symm
    · rename_i hn
      exact absurd (List.getElem?_eq_some_iff.1 h).1 hn
  · rfl
/-- Sectors that are wiped, of a disk that is up. -/
theorem wipe_up {d : Dk} {a n : Nat} (h1 : d.down = false) (h2 : d.left = 0) (h3 : a + n ≤ d.now.length) (h4 : d.now.length ≤ 4096) :
    ∃ d', d.wipe (a : Int) (n : Int) = (d', 0) ∧ d'.down = false ∧ d'.left = 0 ∧ d'.now = setL d.now a (List.replicate n zs) ∧ (Frm d → Frm d') := by
  have hN : ∀ i, i ≤ n → ∃ d' b, d.wipeN (a : Int) i = (d', b, 0) ∧ d'.down = false ∧ d'.left = 0 ∧ d'.now = setL d.now a (List.replicate i zs) ∧ (b = false → d' = d) := by
    intro i
    induction i with
    | zero => intro _; exact ⟨d, false, rfl, h1, h2, by simp [setL], fun _ => rfl⟩
    | succ i ih =>
      intro hi
      obtain ⟨d', b, e0, e1, e2, e3, e4⟩ := ih (by omega)
      have hl : d'.now.length = d.now.length := by rw [e3, setL_len _ _ _ (by rw [List.length_replicate]; omega)]
      have he : d'.err ((a + i : Nat) : Int) = 0 := by
        unfold Dk.err
        rw [if_neg (by rw [e1]; decide), if_neg (by omega)]
      have hw : wrap64 ((a : Int) + (i : Int)) = ((a + i : Nat) : Int) := by unfold wrap64; omega
      have hs : d'.now.set (a + i) zs = setL d.now a (List.replicate (i + 1) zs) := by
        have := setL_step d.now a (List.replicate i zs) zs (by rw [List.length_replicate]; omega)
        rw [List.length_replicate, ← List.replicate_succ'] at this
        rw [e3, this]
      have hr : d'.readS ((a + i : Nat) : Int) = d'.now[a + i]'(by omega) := by
        unfold Dk.readS
        rw [if_pos he, Int.toNat_natCast, List.getD_eq_getElem?_getD, List.getElem?_eq_getElem (by omega)]
        rfl
      unfold Dk.wipeN
      rw [e0, if_pos rfl, hw]
      by_cases hz : d'.now[a + i]'(by omega) = zs
      · have hx : d'.wipe1 ((a + i : Nat) : Int) = (d', false, 0) := by
          unfold Dk.wipe1
          rw [if_neg (fun x => x.2 (hr.trans hz)), he]
        rw [hx]
        refine ⟨d', b || false, rfl, e1, e2, ?_, by rw [Bool.or_false]; exact e4⟩
        rw [← hs]
        exact (set_at (by rw [List.getElem?_eq_getElem (by omega), hz])).symm
      · have hx : d'.wipe1 ((a + i : Nat) : Int) = (d'.put (a + i) zs, true, 0) := by
          unfold Dk.wipe1
          rw [if_pos ⟨he, fun x => hz (hr.symm.trans x)⟩, Dk.write_up e1 e2 (by omega)]
          rfl
        rw [hx]
        exact ⟨d'.put (a + i) zs, b || true, rfl, e1, e2, hs, by simp⟩
  obtain ⟨d', b, e0, e1, e2, e3, e4⟩ := hN n (Nat.le_refl _)
  unfold Dk.wipe
  rw [Int.toNat_natCast, e0, if_pos rfl]
  cases b
  · rw [if_neg (fun x => by cases x)]
    exact ⟨d', rfl, e1, e2, e3, by rw [e4 rfl]; exact id⟩
  · rw [if_pos rfl, Dk.sync_up e1]
    exact ⟨_, rfl, e1, e2, e3, fun _ => ⟨rfl, rfl⟩⟩
theorem RSt.app_full {d : Dk} {P R es : List (List UInt8)} {k a e : Nat} (h : RSt d P R es k) {b : List UInt8} (hb : b.length ≤ 3840) (hk : e - a < needN b.length) : d.app a e b = (d, 8, a) := by
  unfold Dk.app
  rw [if_neg (by rw [h.up]; decide), if_neg (by omega), if_pos hk]
theorem RSt.app_long {d : Dk} {P R es : List (List UInt8)} {k a e : Nat} (h : RSt d P R es k) {b : List UInt8} (hb : 3840 < b.length) : d.app a e b = (d, 3, a) := by
  unfold Dk.app
  rw [if_neg (by rw [h.up]; decide), if_pos hb]
theorem RSt.room {d : Dk} {P R es : List (List UInt8)} {k : Nat} (h : RSt d P R es k) {n : Nat} (hn : n = (flE es).length + k) : P.length + n ≤ d.now.length := by have := h.len; omega

/-- Scan. -/
theorem scan_st (T : Nat → Prop) (p : Nat) (d : Dk) (P R es : List (List UInt8)) (k f n : Nat) (w : World) (h : RSt d P R es k) (hf : f = P.length) (hn : n = (flE es).length + k) (hp : 0 < n) (hO : OwnT T w p d) :
    Calls Try.prog 40 #[.pointer (some ⟨p, 0, none⟩), .agg (arV f n)] w fun x w' => Below w.heap.size w w' ∧ ∃ vs A c, x = .returned (.tuple #[.slice A es.length c, .int .i64 ((flE es).length : Nat), .int .i64 0]) ∧ EntsO w' (fun k => w.heap.size ≤ k) A c es vs := by
  subst hf
  refine (scan_ok p T d P.length n w h.up hp (h.room hn) hO.1).mono ?_
  rintro x w' ⟨hb, es', vs, A, c, r, hs, hr, rfl, he⟩
  obtain ⟨rfl, rfl⟩ := h.scn hn hs
  refine ⟨hb, vs, A, c, ?_, he⟩
  rw [List.length_replicate, show (n : Int) - (k : Int) = (((flE es').length : Nat) : Int) by omega]
/-- Open. -/
theorem open_st (T : Nat → Prop) (p : Nat) (d : Dk) (P R es : List (List UInt8)) (k f n : Nat) (w : World) (h : RSt d P R es k) (hf : f = P.length) (hn : n = (flE es).length + k) (hp : 0 < n) (hpd : d.pend.length ≤ 5000) (hO : OwnT T w p d) :
    Calls Try.prog 41 #[.pointer (some ⟨p, 0, none⟩), .agg (arV f n)] w fun x w' => Kp T w w' ∧ ∃ (q : Nat) (A : Option Addr) (c : Nat) (vs : List Value) (U : Nat → Prop), x = .returned (.tuple #[.pointer (some ⟨q, 0, none⟩), .slice A es.length c, .int .i64 0]) ∧ RlAt w' q p (f + (flE es).length) (f + n) ∧
        OwnT (fun k => T k ∧ ¬ U k) w' p d ∧ EntsO w' (fun k => U k ∧ k ≠ q) A c es vs ∧ U q ∧ ∀ k, U k → w.heap.size ≤ k ∧ k < w'.heap.size := by
  subst hf
  refine (ropen_ok T p d P.length n w h.up hp (h.room hn) hpd hO).mono ?_
  rintro x w' ⟨hk, es', r, m, hs, hm, hc⟩
  obtain ⟨rfl, rfl⟩ := h.scn hn hs
  rw [List.length_replicate] at hm
  obtain rfl : m = (flE es').length := by omega
  have hw : d.wipe ((P.length : Int) + ((flE es').length : Int)) ((n : Int) - ((flE es').length : Int)) = (d, 0) := by
    rw [show (P.length : Int) + ((flE es').length : Int) = ((P.length + (flE es').length : Nat) : Int) by omega, show (n : Int) - ((flE es').length : Int) = (k : Int) by omega]
    exact h.wipe
  rw [hw] at hc
  rcases hc with ⟨_, q, A, c, vs, U, h1⟩ | ⟨h0, _⟩
  · exact ⟨hk, q, A, c, vs, U, h1⟩
  · exact absurd rfl h0

end Go.Proofs.Ytlaecnggbcagcaa
