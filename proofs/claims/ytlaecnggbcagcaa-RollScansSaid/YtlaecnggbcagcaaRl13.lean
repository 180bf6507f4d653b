/- A roll in memory beside other blocks; contract of moietyref19.Need; plain: a disk that goes down. -/
import Derived.Test.YtlaecnggbcagcaaSp19
import Derived.Test.YtlaecnggbcagcaaSec6
import Derived.Test.YtlaecnggbcagcaaOpK
namespace Go.Proofs.Ytlaecnggbcagcaa
open Go.RowKit MM
set_option linter.unusedVariables false
set_option linter.unusedSimpArgs false

/-- A roll q upon a disk p: the disk in blocks of T, all of both new since b0. -/
structure Rol (b0 : Nat) (T : Nat → Prop) (w : World) (p q : Nat) (d : Dk) (a e : Nat) : Prop where
  own : OwnT T w p d
  box : RlAt w q p a e
  nq : ¬ T q
  low : ∀ k, T k → b0 ≤ k
  lowq : b0 ≤ q
  le : b0 ≤ w.heap.size
section
variable {b0 : Nat} {T : Nat → Prop} {w w' : World} {p q : Nat} {d : Dk} {a e : Nat}
theorem Rol.below (h : Rol b0 T w p q d a e) (hb : Below w.heap.size w w') : Rol b0 T w' p q d a e := ⟨h.own.below hb, h.box.below hb, h.nq, h.low, h.lowq, Nat.le_trans h.le hb.size⟩
theorem Rol.kp {S : Nat → Prop} (h : Rol b0 T w p q d a e) (hk : Kp S w w') (h1 : ∀ k, T k → ¬ S k) (h2 : ¬ S q) : Rol b0 T w' p q d a e := ⟨h.own.kp hk h1, h.box.kp hk h2, h.nq, h.low, h.lowq, Nat.le_trans h.le hk.size⟩
theorem Rol.now (h : Rol b0 T w p q d a e) (hb : Below w.heap.size w w') : Rol b0 (fun k => T k ∧ (k < w.heap.size ∨ w'.heap.size ≤ k)) w' p q d a e :=
  ⟨h.own.now hb, h.box.below hb, fun x => h.nq x.1, fun k x => h.low k x.1, h.lowq, Nat.le_trans h.le hb.size⟩
theorem Rol.bel (h : Rol b0 T w p q d a e) (hk : Kp (fun k => T k ∨ k = q) w w') : Below b0 w w' := hk.below h.le fun k hk x => by
  rcases x with x | x
  · have := h.low k x; omega
  · have := h.lowq; omega
theorem Rol.belT (h : Rol b0 T w p q d a e) (hk : Kp T w w') : Below b0 w w' := h.bel (hk.mono fun k _ x => .inl x)
end
theorem rol_append {b0 : Nat} {T : Nat → Prop} {p q a e : Nat} {d : Dk} (A : Option Addr) (c : Nat) (b : List UInt8) (w : World) (hb : Bts w A b) (hbc : b.length ≤ c) (hbn : A = none → c = 0) (hbl : b.length ≤ 100000) (hae : a ≤ e) (he : e ≤ 100000) (hp : d.pend.length ≤ 5000) (h : Rol b0 T w p q d a e) :
    Calls Try.prog 48 #[.pointer (some ⟨q, 0, none⟩), .slice A b.length c] w fun x w' => x = .returned (.int .i64 ((d.app a e b).2.1 : Nat)) ∧ Rol b0 T w' p q (d.app a e b).1 (d.app a e b).2.2 e ∧ Kp (fun k => T k ∨ k = q) w w' :=
  (append_any T p q a e d A c b w hb hbc hbn hbl hae he hp h.box h.nq h.own).mono fun x w' hh =>
    ⟨hh.1, ⟨hh.2.1, hh.2.2.1, h.nq, h.low, h.lowq, Nat.le_trans h.le hh.2.2.2.size⟩, hh.2.2.2⟩
theorem rol_sync {b0 : Nat} {T : Nat → Prop} {p q a e : Nat} {d : Dk} (w : World) (hp : d.pend.length ≤ 1000000) (h : Rol b0 T w p q d a e) :
    Calls Try.prog 51 #[.pointer (some ⟨q, 0, none⟩)] w fun x w' => x = .returned (.int .i64 (d.sync.2 : Nat)) ∧ Rol b0 T w' p q d.sync.1 a e ∧ Kp T w w' :=
  (rsync_any T p q a e d w hp h.box h.own).mono fun x w' hh => ⟨hh.1, ⟨hh.2.1, h.box.kp hh.2.2 h.nq, h.nq, h.low, h.lowq, Nat.le_trans h.le hh.2.2.size⟩, hh.2.2⟩
theorem rol_open (b0 : Nat) (T : Nat → Prop) (p : Nat) (d : Dk) (P R es : List (List UInt8)) (k f n : Nat) (w : World) (h : RSt d P R es k) (hf : f = P.length) (hn : n = (flE es).length + k) (hp : 0 < n) (hpd : d.pend.length ≤ 5000) (hlow : ∀ k, T k → b0 ≤ k) (hb0 : b0 ≤ w.heap.size) (hO : OwnT T w p d) :
    Calls Try.prog 41 #[.pointer (some ⟨p, 0, none⟩), .agg (arV f n)] w fun x w' => Kp T w w' ∧ ∃ (q : Nat) (A : Option Addr) (c : Nat) (vs : List Value) (U : Nat → Prop), x = .returned (.tuple #[.pointer (some ⟨q, 0, none⟩), .slice A es.length c, .int .i64 0]) ∧
        Rol b0 (fun k => T k ∧ ¬ U k) w' p q d (f + (flE es).length) (f + n) ∧ EntsO w' (fun k => U k ∧ k ≠ q) A c es vs ∧ U q ∧ ∀ k, U k → w.heap.size ≤ k ∧ k < w'.heap.size :=
  (open_st T p d P R es k f n w h hf hn hp hpd hO).mono fun x w' hh => by
    obtain ⟨h1, q, A, c, vs, U, h2, h3, h4, h5, h6, h7⟩ := hh
    exact ⟨h1, q, A, c, vs, U, h2, ⟨h4, h3, fun x => x.2 h6, fun k x => hlow k x.1, Nat.le_trans hb0 (h7 q h6).1, Nat.le_trans hb0 h1.size⟩, h5, h6, h7⟩

set_option maxHeartbeats 1000000 in
set_option maxRecDepth 100000 in
theorem rneed_any (n : Nat) (hn : n ≤ 1000000) (w : World) :
    Calls Try.prog 47 #[.int .i64 (n : Int)] w fun e w' => e = .returned (.int .i64 (needN n : Nat)) ∧ w' = w := by
  have hn' : (n : Int) ≤ 1000000 := by omega
  have HP := Lib.hid (show needN n = max 1 ((n + 59) / 60) from rfl)
  obtain ⟨m, hm⟩ : ∃ m, m = needN n := ⟨_, rfl⟩
  rw [← hm] at HP ⊢
  clear hm
  go_enter Try.func47, Try.ntmps47
  go_wp2_with fail
  go_loopw [3] (fun t wr => ∃ k : Nat, t = .int .i64 k ∧ 1 ≤ k ∧ k ≤ m ∧ wr = w) (fun t _ => m - (intOf t).toNat)
  case atStart => exact ⟨1, rfl, Nat.le_refl _, by have := HP.out; omega, by first | rfl | trivial⟩
  case round =>
    obtain ⟨k, rfl, h1, h2, rfl⟩ := hrel
    have hk : (k : Int) ≤ 100000 := by have := HP.out; omega
    by_cases hlt : k < m
    · have hlt' : (k : Int) * 60 < (n : Int) := by have := HP.out; omega
      go_wp2_with fail
      go_roundw
      case rel => exact ⟨k + 1, by go_num, by omega, by omega, by first | rfl | trivial⟩
      case measure => simp [intOf]; omega
    · obtain rfl : k = m := by omega
      have hlt' : ¬ (k : Int) * 60 < (n : Int) := by have := HP.out; omega
      go_wp2_with fail
      go_ret
      exact ⟨rfl, rfl⟩

/-- A disk that goes down with its Kth write. -/
theorem putN_brk {d : Dk} {a K : Nat} {L : List (List UInt8)} (h1 : d.down = false) (h2 : d.left = K) (h0 : 0 < K) (h3 : a + L.length ≤ d.now.length) :
    ∀ i, i ≤ L.length → (i < K → (d.putN a L i).2 = 0 ∧ (d.putN a L i).1.down = false ∧ (d.putN a L i).1.left = K - i ∧ (d.putN a L i).1.now.length = d.now.length) ∧ (K ≤ i → (d.putN a L i).2 = 14 ∧ (d.putN a L i).1.down = true)
  | 0, _ => ⟨fun _ => ⟨rfl, h1, h2, rfl⟩, fun h => absurd h (by omega)⟩
  | i + 1, hi => by
    obtain ⟨ih1, ih2⟩ := putN_brk h1 h2 h0 h3 i (by omega)
    unfold Dk.putN
    by_cases hK : K ≤ i
    · obtain ⟨e1, e2⟩ := ih2 hK
      rw [if_neg (by rw [e1]; decide)]
      exact ⟨fun h => absurd h (by omega), fun _ => ⟨e1, e2⟩⟩
    · obtain ⟨e1, e2, e3, e4⟩ := ih1 (by omega)
      rw [if_pos e1]
      generalize (d.putN a L i).1 = D at *
      have he : D.err ((a : Int) + (i : Int)) = 0 := by
        unfold Dk.err
        rw [if_neg (by rw [e2]; decide), if_neg (by omega)]
      unfold Dk.write
      rw [if_pos he]
      unfold Dk.wear
      have hpl : (D.put ((a : Int) + (i : Int)).toNat (L.getD i zs)).left = K - i := e3
      rw [if_neg (by rw [hpl]; omega)]
      by_cases hz : K - i = 1
      · rw [if_pos (by rw [hpl]; exact hz)]
        exact ⟨fun h => absurd h (by omega), fun _ => ⟨rfl, rfl⟩⟩
      · rw [if_neg (by rw [hpl]; exact hz)]
        refine ⟨fun _ => ⟨rfl, e2, ?_, ?_⟩, fun h => absurd h (by omega)⟩
        · show (D.put _ _).left - 1 = _
          rw [hpl]; omega
        · show (D.now.set _ _).length = _
          rw [List.length_set]; exact e4
theorem app_down {d : Dk} {a e : Nat} {b : List UInt8} (h : d.down = true) : d.app a e b = (d, 14, a) := if_pos h
theorem areaE_down {d : Dk} {f n : Int} (h : d.down = true) : areaE d f n = 14 := if_pos h

end Go.Proofs.Ytlaecnggbcagcaa
