/- Layer 19, plain: the sectors of an entry; the entry that sectors begin with; all entries. -/
import Derived.Test.YtlaecnggbcagcaaSec7
namespace Go.Proofs.Ytlaecnggbcagcaa
open Go.RowKit MM
set_option linter.unusedVariables false
set_option linter.unusedSimpArgs false

/-- How many sectors an entry of so many bytes has. -/
def needN (n : Nat) : Nat := max 1 ((n + 59) / 60)
/-- What the i-th one holds. -/
def partL (b : List UInt8) (i : Nat) : List UInt8 := UInt8.ofNat (needN b.length - 1 - i) :: (b.drop (60 * i)).take 60
def secsL (b : List UInt8) : List (List UInt8) := (List.range (needN b.length)).map fun i => sealL (partL b i)
/-- Sectors begin with an entry's. -/
def Fst (l : List (List UInt8)) (b : List UInt8) : Prop := b.length ≤ 3840 ∧ secsL b <+: l
/-- All entries that sectors begin with, and what is behind them. -/
def Scn (l : List (List UInt8)) (es : List (List UInt8)) (r : List (List UInt8)) : Prop := l = (es.map secsL).flatten ++ r ∧ (∀ e ∈ es, e.length ≤ 3840) ∧ ∀ b, ¬ Fst r b

theorem needN_pos (n : Nat) : 0 < needN n := by unfold needN; omega
theorem needN_le {n : Nat} (h : n ≤ 3840) : needN n ≤ 64 := by unfold needN; omega
theorem needN_cover (n : Nat) : n ≤ 60 * needN n := by unfold needN; omega
theorem needN_of {n m : Nat} (h : n ≤ 60 * m) (hm : 0 < m) : needN n ≤ m := by unfold needN; omega
theorem secsL_len (b : List UInt8) : (secsL b).length = needN b.length := by simp [secsL]
theorem partL_len (b : List UInt8) (i : Nat) : (partL b i).length ≤ 61 := by
  unfold partL
  rw [List.length_cons, List.length_take]
  omega
theorem secsL_secs (b : List UInt8) : ∀ s ∈ secsL b, s.length = 64 := fun s hs => by
  obtain ⟨i, _, rfl⟩ := List.mem_map.1 hs
  exact sealL_len _ (partL_len b i)
theorem secsL_get (b : List UInt8) {i : Nat} (h : i < needN b.length) : (secsL b)[i]? = some (sealL (partL b i)) := by
  unfold secsL
  rw [List.getElem?_map, List.getElem?_range h]
  rfl
theorem Fst.le {l : List (List UInt8)} {b : List UInt8} (h : Fst l b) : needN b.length ≤ l.length := by
  have := h.2.length_le
  rwa [secsL_len] at this
theorem Fst.get {l : List (List UInt8)} {b : List UInt8} (h : Fst l b) {i : Nat} (hi : i < needN b.length) : l[i]? = some (sealL (partL b i)) := by
  obtain ⟨r, rfl⟩ := h.2
  rw [List.getElem?_append_left (by rw [secsL_len]; exact hi)]
  exact secsL_get b hi
theorem take_all (b : List UInt8) : b.take (60 * needN b.length) = b := List.take_of_length_le (needN_cover _)
theorem take_step (b : List UInt8) (i : Nat) : b.take (60 * (i + 1)) = b.take (60 * i) ++ (b.drop (60 * i)).take 60 := by
  rw [Nat.mul_add, Nat.mul_one, List.take_add]
theorem openL_len {s x : List UInt8} (h : openL s = some x) : x.length ≤ 61 := by
  unfold openL at h
  split at h
  · cases h
  · rename_i c _
    split at h
    · cases h
    · split at h
      · injection h with h
        rw [← h, List.length_take]
        omega
      · cases h
theorem follow_nat {n i : Nat} (h : n ≤ 64) : (UInt8.ofNat (n - 1 - i)).toNat = n - 1 - i := by
  rw [UInt8.toNat_ofNat']
  omega

/-- Who may be there yet: what was gone through is its front. -/
def Cand (l : List (List UInt8)) (i : Nat) (acc : List UInt8) : Prop := ∀ b, Fst l b → i < needN b.length ∧ acc = b.take (60 * i)
theorem cand_zero (l : List (List UInt8)) : Cand l 0 [] := fun b _ => ⟨needN_pos _, rfl⟩
theorem cand_part {l : List (List UInt8)} {i : Nat} {acc : List UInt8} (h : Cand l i acc) {s : List UInt8} (hs : l[i]? = some s) {b : List UInt8} (hb : Fst l b) : openL s = some (partL b i) := by
  have h1 := hb.get (h b hb).1
  rw [hs] at h1
  injection h1 with h1
  rw [h1]
  exact openL_sealL _ (partL_len b i)
theorem cand_fail {l : List (List UInt8)} {i : Nat} {acc : List UInt8} (h : Cand l i acc) {s : List UInt8} (hs : l[i]? = some s) (ho : openL s = none ∨ openL s = some []) : ∀ b, ¬ Fst l b := fun b hb => by
  have h1 := cand_part h hs hb
  rcases ho with ho | ho
  · rw [ho] at h1; cases h1
  · rw [ho] at h1; injection h1 with h1; cases h1
theorem cand_head {l : List (List UInt8)} {i : Nat} {acc : List UInt8} (h : Cand l i acc) {s : List UInt8} (hs : l[i]? = some s) {f : UInt8} {r : List UInt8} (ho : openL s = some (f :: r)) {b : List UInt8} (hb : Fst l b) :
    f.toNat = needN b.length - 1 - i ∧ acc ++ r = b.take (60 * (i + 1)) := by
  have h1 := cand_part h hs hb
  rw [ho] at h1
  injection h1 with h1
  unfold partL at h1
  injection h1 with h2 h3
  exact ⟨by rw [h2]; exact follow_nat (needN_le hb.1), by rw [take_step, ← (h b hb).2, h3]⟩
theorem cand_next {l : List (List UInt8)} {i : Nat} {acc : List UInt8} (h : Cand l i acc) {s : List UInt8} (hs : l[i]? = some s) {f : UInt8} {r : List UInt8} (ho : openL s = some (f :: r)) (hf : f.toNat ≠ 0) : Cand l (i + 1) (acc ++ r) := fun b hb => by
  obtain ⟨h1, h2⟩ := cand_head h hs ho hb
  exact ⟨by omega, h2⟩
theorem cand_last {l : List (List UInt8)} {i : Nat} {acc : List UInt8} (h : Cand l i acc) {s : List UInt8} (hs : l[i]? = some s) {f : UInt8} {r : List UInt8} (ho : openL s = some (f :: r)) (hf : f.toNat = 0) {b : List UInt8} (hb : Fst l b) : acc ++ r = b ∧ needN b.length = i + 1 := by
  obtain ⟨h1, h2⟩ := cand_head h hs ho hb
  have h3 := (h b hb).1
  have h4 : needN b.length = i + 1 := by omega
  exact ⟨by rw [h2, ← h4, take_all], h4⟩
theorem cand_no {l : List (List UInt8)} {i : Nat} {acc : List UInt8} (h : Cand l i acc) (hi : min l.length 64 ≤ i) : ∀ b, ¬ Fst l b := fun b hb => by
  have h1 := (h b hb).1
  have h2 := hb.le
  have h3 := needN_le hb.1
  omega
/-- The last part: it is the entry, or there is none. -/
theorem fst_of {l : List (List UInt8)} {i : Nat} {acc : List UInt8} (ha : acc.length ≤ 3840) (h : l.take (i + 1) = secsL acc) : Fst l acc := ⟨ha, by rw [← h]; exact List.take_prefix _ _⟩
theorem fst_not {l : List (List UInt8)} {i : Nat} {acc : List UInt8} (h : Cand l i acc) {s : List UInt8} (hs : l[i]? = some s) {f : UInt8} {r : List UInt8} (ho : openL s = some (f :: r)) (hf : f.toNat = 0) (hn : ¬ l.take (i + 1) = secsL (acc ++ r)) : ∀ b, ¬ Fst l b := fun b hb => by
  obtain ⟨h1, h2⟩ := cand_last h hs ho hf hb
  apply hn
  rw [h1]
  obtain ⟨t, rfl⟩ := hb.2
  rw [← h2, ← secsL_len, List.take_left]

theorem fst_unique {l : List (List UInt8)} {b c : List UInt8} (hb : Fst l b) (hc : Fst l c) : b = c := by
  have hp : ∀ i, i < needN b.length → i < needN c.length → partL b i = partL c i := fun i h1 h2 => by
    have e1 := hb.get h1
    rw [hc.get h2] at e1
    injection e1 with e1
    have e2 := congrArg openL e1
    rw [openL_sealL _ (partL_len _ _), openL_sealL _ (partL_len _ _)] at e2
    injection e2 with e2
    exact e2.symm
  have hn : needN b.length = needN c.length := by
    have h0 := hp 0 (needN_pos _) (needN_pos _)
    unfold partL at h0
    injection h0 with h1 _
    have h2 := congrArg UInt8.toNat h1
    rw [follow_nat (needN_le hb.1), follow_nat (needN_le hc.1)] at h2
    have := needN_pos b.length
    have := needN_pos c.length
    omega
  have ht : ∀ i, i ≤ needN b.length → b.take (60 * i) = c.take (60 * i) := by
    intro i
    induction i with
    | zero => intro _; rfl
    | succ i ih =>
      intro hi
      have h0 := hp i (by omega) (by omega)
      unfold partL at h0
      injection h0 with _ h1
      rw [take_step, take_step, ih (by omega), h1]
  have h := ht _ (Nat.le_refl _)
  rw [take_all, hn, take_all] at h
  exact h
theorem scn_nil {l : List (List UInt8)} (h : ∀ b, ¬ Fst l b) : Scn l [] l := ⟨rfl, fun e he => (by cases he), h⟩
theorem scn_head {l : List (List UInt8)} {e : List UInt8} {es r : List (List UInt8)} (h : Scn l (e :: es) r) : Fst l e := ⟨h.2.1 e (List.mem_cons_self ..), by rw [h.1, List.map_cons, List.flatten_cons, List.append_assoc]; exact List.prefix_append _ _⟩
theorem scn_unique : ∀ {es es' : List (List UInt8)} {l r r' : List (List UInt8)}, Scn l es r → Scn l es' r' → es = es' ∧ r = r'
  | [], [], l, r, r', h, h' => ⟨rfl, by have h1 := h.1; have h2 := h'.1; simp at h1 h2; rw [← h1, ← h2]⟩
  | [], e :: es', l, r, r', h, h' => by
    have h1 := h.1
    simp at h1
    subst h1
    exact absurd (scn_head h') (h.2.2 e)
  | e :: es, [], l, r, r', h, h' => by
    have h1 := h'.1
    simp at h1
    subst h1
    exact absurd (scn_head h) (h'.2.2 e)
  | e :: es, e' :: es', l, r, r', h, h' => by
    obtain rfl := fst_unique (scn_head h) (scn_head h')
    have h1 := h.1
    have h2 := h'.1
    rw [List.map_cons, List.flatten_cons, List.append_assoc] at h1 h2
    have h3 : (es.map secsL).flatten ++ r = (es'.map secsL).flatten ++ r' := List.append_cancel_left (h1.symm.trans h2)
    obtain ⟨h4, h5⟩ := scn_unique (l := (es.map secsL).flatten ++ r) ⟨rfl, fun x hx => h.2.1 x (List.mem_cons_of_mem _ hx), h.2.2⟩ ⟨h3, fun x hx => h'.2.1 x (List.mem_cons_of_mem _ hx), h'.2.2⟩
    exact ⟨by rw [h4], h5⟩
/-- One entry more. -/
theorem scn_snoc {l : List (List UInt8)} {es r : List (List UInt8)} {e : List UInt8} (h : l = (es.map secsL).flatten ++ r) (hf : Fst r e) : l = ((es ++ [e]).map secsL).flatten ++ r.drop (needN e.length) := by
  obtain ⟨t, ht⟩ := hf.2
  rw [h, List.map_append, List.flatten_append, ← ht, ← secsL_len, List.drop_left]
  simp
theorem fst_blank {r : List (List UInt8)} (h : ∀ s, r[0]? = some s → s = zs) : ∀ b, ¬ Fst r b := fun b hb => by
  have h1 := hb.get (needN_pos _)
  exact seal_blank _ (h _ h1)

end Go.Proofs.Ytlaecnggbcagcaa
