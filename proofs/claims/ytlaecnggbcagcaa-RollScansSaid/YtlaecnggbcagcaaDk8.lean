/- What a crash leaves: plain facts; a part of a row that is written. -/
import Derived.Test.YtlaecnggbcagcaaDk7
namespace Go.Proofs.Ytlaecnggbcagcaa
open Go.RowKit MM
set_option linter.unusedVariables false
set_option linter.unusedSimpArgs false

theorem torn_len {old s : List UInt8} (ho : old.length = 64) (hs : s.length = 64) (n : Int) : (torn old s n).length = 64 := by
  unfold torn
  rw [List.length_append, List.length_take, List.length_drop]
  omega
theorem crash_len : ∀ (l : List (Nat × List UInt8)) (g : List (List UInt8)) (ks : List Int), (crashL g l ks).length = g.length
  | [], g, ks => by cases ks <;> rfl
  | x :: l, g, [] => rfl
  | x :: l, g, k :: ks => by
    show (crashL (g.set x.1 _) l ks).length = _
    rw [crash_len l, List.length_set]
theorem getD_len {g : List (List UInt8)} (h : ∀ s ∈ g, s.length = 64) (i : Nat) : (g.getD i zs).length = 64 := by
  rw [List.getD_eq_getElem?_getD]
  cases hx : g[i]? with
  | none => rfl
  | some s => exact h s (List.mem_of_getElem? hx)
theorem crash_secs : ∀ (l : List (Nat × List UInt8)) (g : List (List UInt8)) (ks : List Int), (∀ s ∈ g, s.length = 64) → (∀ x ∈ l, x.2.length = 64) → ∀ s ∈ crashL g l ks, s.length = 64
  | [], g, ks, h, _ => by cases ks <;> exact h
  | x :: l, g, [], h, _ => h
  | x :: l, g, k :: ks, h, hl => crash_secs l _ ks (fun s hs => by
      rcases List.mem_or_eq_of_mem_set hs with y | y
      · exact h s y
      · rw [y]; exact torn_len (getD_len h _) (hl x (List.mem_cons_self ..)) k) (fun y hy => hl y (List.mem_cons_of_mem _ hy))
theorem crash_nil (g : List (List UInt8)) (ks : List Int) : crashL g [] ks = g := by cases ks <;> rfl
theorem crash_none : ∀ (l : List (Nat × List UInt8)) (g : List (List UInt8)), crashL g l [] = g
  | [], _ => rfl
  | _ :: _, _ => rfl
theorem crash_step : ∀ (l : List (Nat × List UInt8)) (g : List (List UInt8)) (ks : List Int) (i : Nat) (x : Nat × List UInt8), l[i]? = some x →
    crashL g (l.take (i + 1)) ks = match ks[i]? with
      | none => crashL g (l.take i) ks
      | some k => (crashL g (l.take i) ks).set x.1 (torn ((crashL g (l.take i) ks).getD x.1 zs) x.2 k)
  | [], g, ks, i, x, h => by simp at h
  | y :: l, g, [], i, x, h => by
    simp only [List.getElem?_nil]
    rw [crash_none, crash_none]
  | y :: l, g, k :: ks, 0, x, h => by
    simp only [List.getElem?_cons_zero, Option.some.injEq] at h
    subst h
    simp only [Nat.zero_add, List.take_succ_cons, List.take_zero, List.getElem?_cons_zero]
    show crashL (g.set y.1 _) [] ks = _
    rw [crash_nil, crash_nil]
  | y :: l, g, k :: ks, i + 1, x, h => by
    rw [List.getElem?_cons_succ] at h
    have ih := crash_step l (g.set y.1 (torn (g.getD y.1 zs) y.2 k)) ks i x h
    rw [List.getElem?_cons_succ, List.take_succ_cons, List.take_succ_cons]
    exact ih
theorem play_at (f : Nat → List UInt8) : ∀ (l : List (Nat × List UInt8)) (g : List (List UInt8)) (j : Nat), j < g.length →
    (play g (l.map fun x => (x.1, f x.1)))[j]? = if j ∈ l.map (·.1) then some (f j) else g[j]?
  | [], g, j, hj => by simp [play]
  | x :: l, g, j, hj => by
    have ih := play_at f l (g.set x.1 (f x.1)) j (by rw [List.length_set]; exact hj)
    show (play (g.set x.1 (f x.1)) (l.map fun x => (x.1, f x.1)))[j]? = _
    rw [ih]
    by_cases h1 : j ∈ l.map (·.1)
    · rw [if_pos h1, if_pos (by rw [List.map_cons]; exact List.mem_cons_of_mem _ h1)]
    · rw [if_neg h1]
      by_cases h2 : j = x.1
      · subst h2
        rw [if_pos (by rw [List.map_cons]; exact List.mem_cons_self ..), List.getElem?_set_self hj]
      · rw [if_neg (by rw [List.map_cons]; intro h; rcases List.mem_cons.1 h with h | h; exact h2 h; exact h1 h), List.getElem?_set_ne (fun e => h2 e.symm)]
theorem play_other : ∀ (l : List (Nat × List UInt8)) (g : List (List UInt8)) (j : Nat), ¬ j ∈ l.map (·.1) → (play g l)[j]? = g[j]?
  | [], g, j, _ => rfl
  | x :: l, g, j, h => by
    rw [List.map_cons] at h
    show (play (g.set x.1 x.2) l)[j]? = _
    rw [play_other l _ j (fun h' => h (List.mem_cons_of_mem _ h')), List.getElem?_set_ne (fun e => h (by rw [← e]; exact List.mem_cons_self ..))]
theorem crash_other : ∀ (l : List (Nat × List UInt8)) (g : List (List UInt8)) (ks : List Int) (j : Nat), ¬ j ∈ l.map (·.1) → (crashL g l ks)[j]? = g[j]?
  | [], g, ks, j, _ => by rw [crash_nil]
  | x :: l, g, [], j, _ => rfl
  | x :: l, g, k :: ks, j, h => by
    rw [List.map_cons] at h
    show (crashL (g.set x.1 _) l ks)[j]? = _
    rw [crash_other l _ ks j (fun h' => h (List.mem_cons_of_mem _ h')), List.getElem?_set_ne (fun e => h (by rw [← e]; exact List.mem_cons_self ..))]
/-- What is read behind a crash is what is there for good. -/
theorem crash_now {d : Dk} (h : d.ok) (ks : List Int) : play d.now (d.pend.map fun x => (x.1, (crashL d.good d.pend ks).getD x.1 zs)) = crashL d.good d.pend ks := by
  apply List.ext_getElem?
  intro j
  by_cases hj : j < d.now.length
  · rw [play_at (fun i => (crashL d.good d.pend ks).getD i zs) d.pend d.now j hj]
    have hc : j < (crashL d.good d.pend ks).length := by rw [crash_len, ← h.len]; exact hj
    by_cases hm : j ∈ d.pend.map (·.1)
    · rw [if_pos hm, List.getD_eq_getElem?_getD, List.getElem?_eq_getElem hc]; rfl
    · rw [if_neg hm, crash_other _ _ _ _ hm, h.play, play_other _ _ _ hm]
  · rw [List.getElem?_eq_none (by rw [play_len]; omega), List.getElem?_eq_none (by rw [crash_len, ← h.len]; omega)]
theorem crash_ok {d : Dk} (h : d.ok) (ks : List Int) : (d.crash ks).ok :=
  ⟨crash_secs _ _ _ h.secs fun x hx => (h.pend x hx).2, crash_secs _ _ _ h.secs fun x hx => (h.pend x hx).2, rfl, by show 0 < (crashL d.good d.pend ks).length; rw [crash_len]; exact h.pos, by show (crashL d.good d.pend ks).length ≤ 4096; rw [crash_len]; exact h.lim, fun x hx => (by cases hx), rfl, Nat.zero_le _⟩

/-- A part of a row, its first cells, written. -/
theorem own_part {w : World} {e : TypeId} {k n c g : Nat} {R : List (List Value)} (ho : w.ownsRow 0 e k (.slice (some ⟨g, 0, none⟩) n c) n R.flatten) (hR : RowsOk k R) (hn : n = R.length) {i : Nat} {r : List Value} (hi : R[i]? = some r) (vs : List Value) (hvs : vs.length ≤ k) :
    (w.setCells g (i * k) vs).ownsRow 0 e k (.slice (some ⟨g, 0, none⟩) n c) n (R.set i (vs ++ r.drop vs.length)).flatten := by
  have hil : i < R.length := (List.getElem?_eq_some_iff.1 hi).1
  have hr : r.length = k := hR r (List.mem_of_getElem? hi)
  have hfull := own_store ho hR hn hil (vs ++ r.drop vs.length) (by rw [List.length_append, List.length_drop]; omega)
  refine ⟨hfull.1, .inr ?_⟩
  have hrg := own_range ho hR hn hi
  rcases ho.2 with ⟨hv, h0⟩ | ⟨g', cap, cur, hv, hb, hg, hnc, hcm, hcs, ht⟩
  · cases hv
  injection hv with h1 h2 h3
  injection h1 with h1
  injection h1 with h1 _ _
  subst h1 h3
  obtain ⟨l⟩ := cur
  have hl : l.length = c * k := by simpa using hcs
  have hle : i * k + k ≤ n * k := by
    have : (i + 1) * k ≤ n * k := Nat.mul_le_mul_right _ (by omega)
    rw [Nat.add_mul] at this; omega
  have hnk : n * k ≤ c * k := Nat.mul_le_mul_right _ hnc
  have s1 := setCells_row g e vs (i * k) w l hg (by omega)
  have s2 := setCells_row g e (vs ++ r.drop vs.length) (i * k) w l hg (by rw [List.length_append, List.length_drop]; omega)
  have hrl : r = (l.drop (i * k)).take k := by
    apply List.ext_getElem?
    intro j
    by_cases hj : j < k
    · rw [List.getElem?_take_of_lt hj, List.getElem?_drop, List.getElem?_eq_getElem (by omega : j < r.length)]
      have := hrg j r[j] (List.getElem?_eq_getElem (by omega))
      rw [cell_of_row w g _ _ e (0, 0) hg] at this
      simpa using this.symm
    · rw [List.getElem?_eq_none (by omega), List.getElem?_eq_none (by rw [List.length_take]; omega)]
  have hE : l.take (i * k) ++ vs ++ l.drop (i * k + vs.length) = l.take (i * k) ++ (vs ++ r.drop vs.length) ++ l.drop (i * k + (vs ++ r.drop vs.length).length) := by
    have e1 : (vs ++ r.drop vs.length).length = k := by rw [List.length_append, List.length_drop]; omega
    have e2 : l.drop (i * k + vs.length) = r.drop vs.length ++ l.drop (i * k + k) := by
      have e3 : l.drop (i * k) = r ++ l.drop (i * k + k) := by
        rw [hrl, ← List.drop_drop, List.take_append_drop]
      rw [← List.drop_drop, e3, List.drop_append_of_le_length (by omega)]
    rw [e1, e2]
    simp
  rw [← hE] at s2
  have h4 := hfull.2
  rcases h4 with ⟨hv4, _⟩ | ⟨g4, cap4, cur4, hv4, hb4, hg4, hnc4, hcm4, hcs4, ht4⟩
  · cases hv4
  injection hv4 with j1 j2 j3
  injection j1 with j1
  injection j1 with j1 _ _
  subst j1 j3
  rw [s2] at hg4
  injection hg4 with hg4
  injection hg4 with hg4 _ _
  subst hg4
  exact ⟨g, c, _, rfl, hb, s1, hnc, hcm, hcs4, ht4⟩
theorem torn_min (old s : List UInt8) (k : Int) (n : Nat) (hn : (n : Int) = min (max k 0) 64) (hs : s.length = 64) : torn old s k = s.take n ++ old.drop (s.take n).length := by
  have h1 : min k.toNat 64 = n := by omega
  unfold torn
  rw [h1, List.length_take, Nat.min_eq_left (by omega)]
theorem DkAt.partG {w : World} {p g c : Nat} {N Pd : Value} {d : Dk} (h : DkAt w p (.slice (some ⟨g, 0, none⟩) d.good.length c) N Pd d) (hs : ∀ s ∈ d.good, s.length = 64) {j n : Nat} (hj : j < d.good.length) (s : List UInt8) (hl : s.length = 64) (hn : n ≤ 64) :
    DkAt (w.setCells g (j * 64) (bc (s.take n))) p (.slice (some ⟨g, 0, none⟩) d.good.length c) N Pd { d with good := d.good.set j (s.take n ++ (d.good.getD j zs).drop (s.take n).length) } := by
  have hk := setCells_kp1 g (j * 64) (bc (s.take n)) w
  refine ⟨(hk.block _ (lt_of_heap h.box) (fun e => (h.gn g rfl).2.2 e.symm)).trans h.box, ?_, own_kp h.now hk fun b e x => (h.gn g rfl).1 (by rw [e, x]), own_kp h.pend hk fun b e x => (h.gn g rfl).2.1 (by rw [e, x]), h.gn, h.np, h.pp⟩
  have hjg : d.good[j]? = some (d.good.getD j zs) := by rw [List.getD_eq_getElem?_getD, List.getElem?_eq_getElem hj]; rfl
  have ho := own_part h.good (secR_ok hs) (by simp [secR]) (i := j) (r := bc (d.good.getD j zs)) (by simp only [secR, List.getElem?_map, hjg, Option.map_some]) (bc (s.take n)) (by rw [bc_length, List.length_take]; omega)
  show (w.setCells g (j * 64) (bc (s.take n))).ownsRow 0 40 64 _ (d.good.set j _).length (secR (d.good.set j _)).flatten
  rw [secR_set, List.length_set, bc_append]
  have e : bc ((d.good.getD j zs).drop (s.take n).length) = (bc (d.good.getD j zs)).drop (bc (s.take n)).length := by
    rw [bc_length]; simp [bc]
  rw [e]
  exact ho

end Go.Proofs.Ytlaecnggbcagcaa
