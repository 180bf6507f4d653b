/- What a crash leaves of entries that weren't synced, plain; Open of any sound disk. -/
import Derived.Test.YtlaecnggbcagcaaRl16
namespace Go.Proofs.Ytlaecnggbcagcaa
open Go.RowKit MM
set_option linter.unusedVariables false
set_option linter.unusedSimpArgs false

theorem seal_63 (b : List UInt8) (h : b.length ≤ 61) : (sealL b)[63]? = some 1 := by
  have e : sealL b = (1 :: UInt8.ofNat b.length :: (b ++ List.replicate (61 - b.length) 0)) ++ [1] := by simp [sealL]
  rw [e, List.getElem?_append_right (by simp; omega)]
  have : 63 - (1 :: UInt8.ofNat b.length :: (b ++ List.replicate (61 - b.length) 0)).length = 0 := by simp; omega
  rw [this]
  rfl
theorem open_63 {s : List UInt8} (h : s[63]? ≠ some 1) : openL s = none := by
  unfold openL
  cases s[1]? with
  | none => rfl
  | some c =>
    simp only
    split
    · rfl
    · rename_i hc
      rw [if_neg]
      intro e
      refine h ?_
      rw [e]
      refine seal_63 _ ?_
      rw [List.length_take]; omega
/-- A sector that is written upon a blank one: whole, or told not to be. -/
theorem torn_or (b : List UInt8) (hb : b.length ≤ 61) (k : Int) : torn zs (sealL b) k = sealL b ∨ openL (torn zs (sealL b) k) = none := by
  have hl := sealL_len b hb
  by_cases h : 63 < k
  · left
    unfold torn
    rw [show min k.toNat 64 = 64 by omega, List.take_of_length_le (by omega), List.drop_eq_nil_of_le (by rw [zs_len]; omega), List.append_nil]
  · right
    refine open_63 ?_
    unfold torn
    intro e
    rw [List.getElem?_append_right (by rw [List.length_take, hl]; omega), List.length_take, hl, List.getElem?_drop] at e
    have h3 : min k.toNat 64 + (63 - min (min k.toNat 64) 64) = 63 := by omega
    rw [h3] at e
    revert e
    decide
theorem open_zs : openL zs = none := open_63 (by decide)

/-- Each of the sectors, whole or told not to be. -/
def Tn (L L' : List (List UInt8)) : Prop := L'.length = L.length ∧ ∀ (i : Nat) (s : List UInt8), L[i]? = some s → ∃ t, L'[i]? = some t ∧ (t = s ∨ openL t = none)
theorem Tn.nil : Tn [] [] := ⟨rfl, fun i s h => by cases h⟩
theorem Tn.cons {L L' : List (List UInt8)} {s t : List UInt8} (h : Tn L L') (ht : t = s ∨ openL t = none) : Tn (s :: L) (t :: L') := by
  refine ⟨by rw [List.length_cons, List.length_cons, h.1], fun i u hu => ?_⟩
  cases i with
  | zero => injection hu with hu; subst hu; exact ⟨t, rfl, ht⟩
  | succ i => exact h.2 i u hu
theorem Tn.blank : ∀ L : List (List UInt8), Tn L (List.replicate L.length zs)
  | [] => Tn.nil
  | s :: L => (Tn.blank L).cons (.inr open_zs)
theorem Tn.drop {L M T : List (List UInt8)} (h : Tn (L ++ M) T) : Tn M (T.drop L.length) := by
  refine ⟨by rw [List.length_drop, h.1, List.length_append]; omega, fun i s hs => ?_⟩
  obtain ⟨t, h1, h2⟩ := h.2 (L.length + i) s (by rw [List.getElem?_append_right (by omega), show L.length + i - L.length = i by omega]; exact hs)
  exact ⟨t, by rw [List.getElem?_drop]; exact h1, h2⟩
theorem crash_at : ∀ (L P R : List (List UInt8)) (ks : List Int), (∀ s ∈ L, ∃ b, b.length ≤ 61 ∧ s = sealL b) → ∃ L', Tn L L' ∧ crashL (P ++ (List.replicate L.length zs ++ R)) (atL P.length L) ks = P ++ (L' ++ R)
  | [], P, R, ks, _ => ⟨[], Tn.nil, by show crashL _ [] ks = _; rw [crash_nil]; rfl⟩
  | s :: L, P, R, [], _ => ⟨List.replicate (s :: L).length zs, Tn.blank _, crash_none _ _⟩
  | s :: L, P, R, k :: ks, hL => by
    obtain ⟨b, hb, rfl⟩ := hL s (List.mem_cons_self ..)
    have hg : (P ++ (List.replicate (sealL b :: L).length zs ++ R)).getD P.length zs = zs := by
      rw [List.getD_eq_getElem?_getD, List.getElem?_append_right (Nat.le_refl _), Nat.sub_self]
      rfl
    have hs : (P ++ (List.replicate (sealL b :: L).length zs ++ R)).set P.length (torn zs (sealL b) k) = (P ++ [torn zs (sealL b) k]) ++ (List.replicate L.length zs ++ R) := by
      rw [List.set_append_right _ _ (Nat.le_refl _), Nat.sub_self]
      simp [List.replicate_succ]
    obtain ⟨L', h1, h2⟩ := crash_at L (P ++ [torn zs (sealL b) k]) R ks (fun s hs => hL s (List.mem_cons_of_mem _ hs))
    refine ⟨torn zs (sealL b) k :: L', h1.cons (torn_or b hb k), ?_⟩
    show crashL ((P ++ (List.replicate (sealL b :: L).length zs ++ R)).set P.length (torn ((P ++ (List.replicate (sealL b :: L).length zs ++ R)).getD P.length zs) (sealL b) k)) (atL (P.length + 1) L) ks = _
    rw [hg, hs]
    rw [List.length_append, List.length_singleton] at h2
    rw [h2]
    simp

theorem flE_seal {es : List (List UInt8)} : ∀ s ∈ flE es, ∃ b, b.length ≤ 61 ∧ s = sealL b := fun s hs => by
  obtain ⟨l, hl, hsl⟩ := List.mem_flatten.1 hs
  obtain ⟨b, _, rfl⟩ := List.mem_map.1 hl
  obtain ⟨i, _, rfl⟩ := List.mem_map.1 hsl
  exact ⟨_, partL_len b i, rfl⟩
theorem flE_cons (b : List UInt8) (es : List (List UInt8)) : flE (b :: es) = secsL b ++ flE es := by simp [flE]
/-- Of entries whose sectors are whole or told, a front is found. -/
theorem front_scn : ∀ (ms : List (List UInt8)) (T Z : List (List UInt8)), (∀ e ∈ ms, e.length ≤ 3840) → (∀ s ∈ Z, s = zs) → Tn (flE ms) T → ∃ j r, j ≤ ms.length ∧ Scn (T ++ Z) (ms.take j) r
  | [], T, Z, _, hZ, hT => by
    obtain rfl : T = [] := List.eq_nil_of_length_eq_zero hT.1
    exact ⟨0, Z, Nat.le_refl _, scn_nil (fst_blank fun s hs => hZ s (List.mem_of_getElem? hs))⟩
  | b :: ms, T, Z, hm, hZ, hT => by
    have hb := hm b (List.mem_cons_self ..)
    have hsl := secsL_len b
    rw [flE_cons] at hT
    have hTl : needN b.length ≤ T.length := by have := hT.1; rw [List.length_append] at this; omega
    by_cases hh : T.take (needN b.length) = secsL b
    · obtain ⟨j, r, h1, h2⟩ := front_scn ms (T.drop (needN b.length)) Z (fun e he => hm e (List.mem_cons_of_mem _ he)) hZ (by have := hT.drop; rwa [hsl] at this)
      refine ⟨j + 1, r, by rw [List.length_cons]; omega, ?_, fun e he => ?_, h2.2.2⟩
      · have h3 := h2.1
        rw [List.take_succ_cons, List.map_cons, List.flatten_cons, List.append_assoc, ← h3, ← hh, ← List.append_assoc, List.take_append_drop]
      · rw [List.take_succ_cons] at he
        rcases List.mem_cons.1 he with x | x
        · rw [x]; exact hb
        · exact h2.2.1 e x
    · have hex : ∃ i, i < needN b.length ∧ T[i]? ≠ (secsL b)[i]? := by
        refine Classical.byContradiction fun hn => hh (List.ext_getElem? fun i => ?_)
        by_cases hi : i < needN b.length
        · rw [List.getElem?_take_of_lt hi]
          exact Classical.byContradiction fun hne => hn ⟨i, hi, hne⟩
        · rw [List.getElem?_eq_none (by rw [List.length_take]; omega), List.getElem?_eq_none (by omega)]
      obtain ⟨i, hi, hne⟩ := hex
      have hT' : ∀ i, i < needN b.length → ∃ t, T[i]? = some t ∧ (t = sealL (partL b i) ∨ openL t = none) := fun i hi =>
        hT.2 i _ (by rw [List.getElem?_append_left (by omega)]; exact secsL_get b hi)
      refine ⟨0, T ++ Z, Nat.zero_le _, scn_nil fun b' hf => ?_⟩
      have hget : ∀ i, i < needN b.length → i < needN b'.length → T[i]? = some (sealL (partL b' i)) := fun i h1 h2 => by
        have := hf.get h2
        rwa [List.getElem?_append_left (by omega)] at this
      have h0 : sealL (partL b 0) = sealL (partL b' 0) := by
        obtain ⟨t, h1, h2⟩ := hT' 0 (needN_pos _)
        rw [hget 0 (needN_pos _) (needN_pos _)] at h1
        injection h1 with h1
        subst h1
        rcases h2 with h2 | h2
        · exact h2.symm
        · rw [openL_sealL _ (partL_len b' 0)] at h2; cases h2
      have h1 : partL b 0 = partL b' 0 := by
        have := openL_sealL _ (partL_len b 0)
        rw [h0, openL_sealL _ (partL_len b' 0)] at this
        injection this with this
        exact this.symm
      have h2 : needN b.length - 1 - 0 = needN b'.length - 1 - 0 := by
        unfold partL at h1
        injection h1 with h1 _
        have := congrArg UInt8.toNat h1
        rwa [follow_nat (needN_le hb), follow_nat (needN_le hf.1)] at this
      have h3 : i < needN b'.length := by have := needN_pos b'.length; omega
      obtain ⟨t, h4, h5⟩ := hT' i hi
      have h6 := hget i hi h3
      rcases h5 with h5 | h5
      · rw [h5] at h4
        exact hne (h4.trans (secsL_get b hi).symm)
      · rw [h6] at h4
        injection h4 with h4
        rw [← h4, openL_sealL _ (partL_len b' i)] at h5
        cases h5

/-- What a crash leaves of a roll: what was synced, and a front of the others. -/
theorem crash_front {d : Dk} {P R es ms : List (List UInt8)} {k : Nat} (h : RSt d P R (es ++ ms) k) (hg : d.good = P ++ (flE es ++ (List.replicate ((flE ms).length + k) zs ++ R))) (hp : d.pend = atL (P.length + (flE es).length) (flE ms)) (ks : List Int) :
    ∃ j r, j ≤ ms.length ∧ (d.crash ks).now = P ++ (flE (es ++ ms.take j) ++ (r ++ R)) ∧ Scn (flE (es ++ ms.take j) ++ r) (es ++ ms.take j) r ∧ (flE (es ++ ms.take j)).length + r.length = (flE (es ++ ms)).length + k := by
  obtain ⟨L', h1, h2⟩ := crash_at (flE ms) (P ++ flE es) (List.replicate k zs ++ R) ks flE_seal
  obtain ⟨j, r, h3, h4⟩ := front_scn ms L' (List.replicate k zs) (fun e he => h.each e (List.mem_append_right _ he)) (fun s hs => (List.mem_replicate.1 hs).2) h1
  have hn : (d.crash ks).now = P ++ flE es ++ (L' ++ (List.replicate k zs ++ R)) := by
    show crashL d.good d.pend ks = _
    rw [hg, hp, ← List.length_append, ← h2]
    congr 1
    rw [show List.replicate ((flE ms).length + k) zs = List.replicate (flE ms).length zs ++ List.replicate k zs from List.replicate_append_replicate.symm]
    simp only [List.append_assoc]
  have h5 : L' ++ List.replicate k zs = flE (ms.take j) ++ r := h4.1
  have hl := congrArg List.length h5
  rw [List.length_append, List.length_replicate, List.length_append, h1.1] at hl
  refine ⟨j, r, h3, ?_, ⟨rfl, fun e he => ?_, h4.2.2⟩, ?_⟩
  · rw [hn, flE_append, ← List.append_assoc L', h5]
    simp
  · rcases List.mem_append.1 he with x | x
    · exact h.each e (List.mem_append_left _ x)
    · exact h4.2.1 e x
  · rw [flE_append, flE_append, List.length_append, List.length_append]
    omega

/-- Open, of a disk that is up, whatever its sectors are. -/
theorem rol_scn (b0 : Nat) (T : Nat → Prop) (p : Nat) (d : Dk) (P R es r : List (List UInt8)) (f n : Nat) (w : World) (hd : d.down = false) (hl : d.left = 0) (hlim : d.now.length ≤ 4096) (hnow : d.now = P ++ (flE es ++ (r ++ R))) (hs : Scn (flE es ++ r) es r)
    (hf : f = P.length) (hn : n = (flE es).length + r.length) (hp : 0 < n) (hpd : d.pend.length ≤ 5000) (hlow : ∀ k, T k → b0 ≤ k) (hb0 : b0 ≤ w.heap.size) (hO : OwnT T w p d) :
    ∃ d', (RSt d' P R es r.length ∧ (Frm d → Frm d')) ∧ Calls Try.prog 41 #[.pointer (some ⟨p, 0, none⟩), .agg (arV f n)] w fun x w' => Kp T w w' ∧ ∃ (q : Nat) (A : Option Addr) (c : Nat) (vs : List Value) (U : Nat → Prop), x = .returned (.tuple #[.pointer (some ⟨q, 0, none⟩), .slice A es.length c, .int .i64 0]) ∧
        Rol b0 (fun k => T k ∧ ¬ U k) w' p q d' (f + (flE es).length) (f + n) ∧ EntsO w' (fun k => U k ∧ k ≠ q) A c es vs ∧ U q ∧ ∀ k, U k → w.heap.size ≤ k ∧ k < w'.heap.size := by
  subst hf
  have hlen : d.now.length = P.length + ((flE es).length + (r.length + R.length)) := by rw [hnow, List.length_append, List.length_append, List.length_append]
  have hA : areaL d P.length n = flE es ++ r := by
    unfold areaL
    rw [hnow, List.drop_left, ← List.append_assoc, hn, List.take_left' (by rw [List.length_append])]
  obtain ⟨d', hw, h1, h2, h3, h4⟩ := wipe_up (d := d) (a := P.length + (flE es).length) (n := r.length) hd hl (by omega) hlim
  refine ⟨d', ⟨⟨h1, h2, by rw [h3, setL_len _ _ _ (by rw [List.length_replicate]; omega)]; exact hlim, ?_, hs.2.1⟩, h4⟩, ?_⟩
  · rw [h3, hnow, ← List.append_assoc P, ← List.length_append, setL_mid _ _ _ _ (by rw [List.length_replicate])]
    simp
  refine (ropen_ok T p d P.length n w hd hp (by omega) hpd hO).mono ?_
  rintro x w' ⟨hk, es', r', m, hs', hm, hc⟩
  rw [hA] at hs'
  obtain ⟨rfl, rfl⟩ := scn_unique hs' hs
  obtain rfl : m = (flE es').length := by omega
  rw [show (P.length : Int) + ((flE es').length : Int) = ((P.length + (flE es').length : Nat) : Int) by omega, show (n : Int) - ((flE es').length : Int) = (r'.length : Int) by omega, hw] at hc
  rcases hc with ⟨_, q, A, c, vs, U, h5, h6, h7, h8, h9, h10⟩ | ⟨h0, _⟩
  · exact ⟨hk, q, A, c, vs, U, h5, ⟨h7, h6, fun x => x.2 h9, fun k x => hlow k x.1, Nat.le_trans hb0 (h10 q h9).1, Nat.le_trans hb0 hk.size⟩, h8, h9, h10⟩
  · exact absurd rfl h0

end Go.Proofs.Ytlaecnggbcagcaa
