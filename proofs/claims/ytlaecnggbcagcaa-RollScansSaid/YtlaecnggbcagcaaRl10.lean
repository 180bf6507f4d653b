/- Layer 19, plain: a sound disk of which an area holds entries, and is blank behind them. -/
import Derived.Test.YtlaecnggbcagcaaRl9
namespace Go.Proofs.Ytlaecnggbcagcaa
open Go.RowKit MM
set_option linter.unusedVariables false
set_option linter.unusedSimpArgs false

def flE (es : List (List UInt8)) : List (List UInt8) := (es.map secsL).flatten
theorem flE_snoc (es : List (List UInt8)) (b : List UInt8) : flE (es ++ [b]) = flE es ++ secsL b := by simp [flE]
theorem flE_append (es fs : List (List UInt8)) : flE (es ++ fs) = flE es ++ flE fs := by simp [flE]
/-- Sectors that are set one behind the other; as writes. -/
def setL (now : List (List UInt8)) (a : Nat) (L : List (List UInt8)) : List (List UInt8) := now.take a ++ (L ++ now.drop (a + L.length))
def atL : Nat → List (List UInt8) → List (Nat × List UInt8)
  | _, [] => []
  | a, s :: L => (a, s) :: atL (a + 1) L
theorem atL_append : ∀ (L M : List (List UInt8)) (a : Nat), atL a (L ++ M) = atL a L ++ atL (a + L.length) M
  | [], M, a => by simp [atL]
  | s :: L, M, a => by
    show (a, s) :: atL (a + 1) (L ++ M) = (a, s) :: (atL (a + 1) L ++ _)
    rw [atL_append L M (a + 1), List.length_cons, show a + 1 + L.length = a + (L.length + 1) by omega]
theorem atL_len : ∀ (L : List (List UInt8)) (a : Nat), (atL a L).length = L.length
  | [], _ => rfl
  | s :: L, a => by show (atL (a + 1) L).length + 1 = _; rw [atL_len L (a + 1)]; rfl
theorem setL_step (now : List (List UInt8)) (a : Nat) (L : List (List UInt8)) (s : List UInt8) (h : a + L.length < now.length) : (setL now a L).set (a + L.length) s = setL now a (L ++ [s]) := by
  unfold setL
  obtain ⟨y, D, hy⟩ : ∃ y D, now.drop (a + L.length) = y :: D := by
    cases hd : now.drop (a + L.length) with
    | nil => have := congrArg List.length hd; rw [List.length_drop] at this; simp at this; omega
    | cons y D => exact ⟨y, D, rfl⟩
  have hD : now.drop (a + (L ++ [s]).length) = D := by
    rw [List.length_append, List.length_singleton, ← Nat.add_assoc, ← List.drop_drop, hy]
    rfl
  have hl : (now.take a).length = a := by rw [List.length_take]; omega
  rw [hD, hy, List.set_append_right _ _ (by omega), hl, show a + L.length - a = L.length by omega, List.set_append_right _ _ (Nat.le_refl _), Nat.sub_self]
  simp
theorem setL_len (now : List (List UInt8)) (a : Nat) (L : List (List UInt8)) (h : a + L.length ≤ now.length) : (setL now a L).length = now.length := by
  unfold setL
  rw [List.length_append, List.length_append, List.length_take, List.length_drop]
  omega
theorem setL_mid (P X Y Z : List (List UInt8)) (h : X.length = Y.length) : setL (P ++ (X ++ Z)) P.length Y = P ++ (Y ++ Z) := by
  unfold setL
  rw [List.take_left, ← h, ← List.drop_drop, List.drop_left, List.drop_left]
theorem putN_up {d : Dk} {a : Nat} {L : List (List UInt8)} (h1 : d.down = false) (h2 : d.left = 0) (h3 : a + L.length ≤ d.now.length) :
    ∀ i, i ≤ L.length → ∃ ws, d.putN a L i = ({ d with now := setL d.now a (L.take i), pend := d.pend ++ atL a (L.take i), writes := ws }, 0)
  | 0, _ => ⟨d.writes, by simp [Dk.putN, setL, atL]⟩
  | i + 1, hi => by
    obtain ⟨ws, ih⟩ := putN_up h1 h2 h3 i (by omega)
    have hx : L[i]? = some L[i] := List.getElem?_eq_getElem (by omega)
    have hl : (L.take i).length = i := by rw [List.length_take]; omega
    have hs := setL_step d.now a (L.take i) L[i] (by omega)
    rw [hl] at hs
    have ht : L.take (i + 1) = L.take i ++ [L[i]] := by rw [List.take_add_one, hx]; rfl
    refine ⟨wrap64 (ws + 1), ?_⟩
    unfold Dk.putN
    rw [ih, if_pos rfl, List.getD_eq_getElem?_getD, hx, show (a : Int) + (i : Int) = ((a + i : Nat) : Int) by omega]
    refine (Dk.write_up (d := { d with now := setL d.now a (L.take i), pend := d.pend ++ atL a (L.take i), writes := ws }) (j := a + i) h1 h2 (by show a + i < (setL d.now a (L.take i)).length; rw [setL_len _ _ _ (by omega)]; omega)).trans ?_
    show (({ d with now := (setL d.now a (L.take i)).set (a + i) L[i], pend := (d.pend ++ atL a (L.take i)) ++ [(a + i, L[i])], writes := _ } : Dk), 0) = _
    rw [hs, ht, atL_append, hl, List.append_assoc]
    rfl

/-- Nothing to wipe. -/
theorem wipe_blank {d : Dk} {a n : Nat} (h1 : d.down = false) (h2 : a + n ≤ d.now.length) (h3 : d.now.length ≤ 4096) (h4 : ∀ j, a ≤ j → j < a + n → d.now[j]? = some zs) : d.wipe (a : Int) (n : Int) = (d, 0) := by
  have hN : ∀ i, i ≤ n → d.wipeN (a : Int) i = (d, false, 0) := by
    intro i
    induction i with
    | zero => intro _; rfl
    | succ i ih =>
      intro hi
      have he : d.err ((a + i : Nat) : Int) = 0 := by
        unfold Dk.err
        rw [if_neg (by rw [h1]; decide), if_neg (by omega)]
      have hr : d.readS ((a + i : Nat) : Int) = zs := by
        unfold Dk.readS
        rw [if_pos he, Int.toNat_natCast, List.getD_eq_getElem?_getD, h4 (a + i) (by omega) (by omega)]
        rfl
      have hw : wrap64 ((a : Int) + (i : Int)) = ((a + i : Nat) : Int) := by unfold wrap64; omega
      have h1' : d.wipe1 ((a + i : Nat) : Int) = (d, false, 0) := by
        unfold Dk.wipe1
        rw [if_neg (fun x => x.2 hr), he]
      unfold Dk.wipeN
      rw [ih (by omega), if_pos rfl, hw, h1']
      rfl
  unfold Dk.wipe
  rw [Int.toNat_natCast, hN n (Nat.le_refl _)]
  rfl

/-- A disk that is up, of which an area holds entries, and is blank behind them. -/
structure RSt (d : Dk) (P R es : List (List UInt8)) (k : Nat) : Prop where
  up : d.down = false
  left : d.left = 0
  lim : d.now.length ≤ 4096
  now : d.now = P ++ (flE es ++ (List.replicate k zs ++ R))
  each : ∀ e ∈ es, e.length ≤ 3840
def Frm (d : Dk) : Prop := d.good = d.now ∧ d.pend = []
section
variable {d : Dk} {P R es : List (List UInt8)} {k : Nat}
theorem RSt.len (h : RSt d P R es k) : d.now.length = P.length + ((flE es).length + (k + R.length)) := by
  rw [h.now, List.length_append, List.length_append, List.length_append, List.length_replicate]
theorem RSt.areaE (h : RSt d P R es k) {n : Nat} (hn : n = (flE es).length + k) (hp : 0 < n) : areaE d (P.length : Int) (n : Int) = 0 := by
  have := h.len
  unfold Go.Proofs.Ytlaecnggbcagcaa.areaE
  rw [if_neg (by rw [h.up]; decide), if_neg (by omega)]
theorem RSt.areaL (h : RSt d P R es k) {n : Nat} (hn : n = (flE es).length + k) : areaL d P.length n = flE es ++ List.replicate k zs := by
  unfold Go.Proofs.Ytlaecnggbcagcaa.areaL
  rw [h.now, List.drop_left, ← List.append_assoc, hn, List.take_left' (by rw [List.length_append, List.length_replicate])]
theorem RSt.scn (h : RSt d P R es k) {n : Nat} (hn : n = (flE es).length + k) {es' r : List (List UInt8)} (hs : Scn (Go.Proofs.Ytlaecnggbcagcaa.areaL d P.length n) es' r) : es' = es ∧ r = List.replicate k zs := by
  rw [h.areaL hn] at hs
  exact scn_unique hs ⟨rfl, h.each, fst_blank fun s hs => by
    rw [List.getElem?_replicate] at hs
    split at hs
    · injection hs with hs; exact hs.symm
    · cases hs⟩
theorem RSt.wipe (h : RSt d P R es k) : d.wipe (((P.length + (flE es).length : Nat)) : Int) (k : Int) = (d, 0) := by
  have := h.len
  refine wipe_blank h.up (by omega) h.lim fun j h1 h2 => ?_
  rw [h.now, List.getElem?_append_right (by omega), List.getElem?_append_right (by omega), List.getElem?_append_left (by rw [List.length_replicate]; omega), List.getElem?_replicate, if_pos (by omega)]
theorem RSt.app (h : RSt d P R es k) {b : List UInt8} (hb : b.length ≤ 3840) (hk : needN b.length ≤ k) {a e : Nat} (ha : a = P.length + (flE es).length) (he : e = a + k) :
    ∃ d', d.app a e b = (d', 0, a + needN b.length) ∧ RSt d' P R (es ++ [b]) (k - needN b.length) ∧ d'.good = d.good ∧ d'.pend = d.pend ++ atL a (secsL b) := by
  have hl := h.len
  have hsl := secsL_len b
  obtain ⟨ws, hp⟩ := putN_up (a := a) (L := secsL b) h.up h.left (by omega) (needN b.length) (by omega)
  rw [show (secsL b).take (needN b.length) = secsL b by rw [← hsl, List.take_length]] at hp
  refine ⟨{ d with now := setL d.now a (secsL b), pend := d.pend ++ atL a (secsL b), writes := ws }, ?_, ⟨h.up, h.left, ?_, ?_, ?_⟩, rfl, rfl⟩
  · unfold Dk.app
    rw [if_neg (by rw [h.up]; decide), if_neg (by omega), if_neg (by omega), hp, if_pos rfl]
  · show (setL d.now a (secsL b)).length ≤ _
    rw [setL_len _ _ _ (by omega)]
    exact h.lim
  · show setL d.now a (secsL b) = _
    rw [h.now, flE_snoc, ← List.append_assoc P, ha, ← List.length_append, show List.replicate k zs = List.replicate (needN b.length) zs ++ List.replicate (k - needN b.length) zs by rw [List.replicate_append_replicate, show needN b.length + (k - needN b.length) = k by omega], List.append_assoc (List.replicate _ zs), setL_mid _ _ _ _ (by rw [List.length_replicate, hsl])]
    simp
  · intro e he
    rcases List.mem_append.1 he with x | x
    · exact h.each e x
    · have : e = b := by simpa using x
      rw [this]; exact hb
theorem RSt.sync (h : RSt d P R es k) : ∃ d', d.sync = (d', 0) ∧ RSt d' P R es k ∧ Frm d' :=
  ⟨_, Dk.sync_up h.up, ⟨h.up, h.left, h.lim, h.now, h.each⟩, rfl, rfl⟩
theorem RSt.crash (h : RSt d P R es k) (hf : Frm d) (ks : List Int) : RSt (d.crash ks) P R es k ∧ Frm (d.crash ks) := by
  have hg : crashL d.good d.pend ks = d.now := by rw [hf.2, crash_nil, hf.1]
  exact ⟨⟨rfl, rfl, by show (crashL _ _ _).length ≤ _; rw [hg]; exact h.lim, by show crashL _ _ _ = _; rw [hg]; exact h.now, h.each⟩, rfl, rfl⟩
theorem RSt.new {f k r N : Nat} (hN : N = f + (k + r)) (hl : N ≤ 4096) : RSt (Dk.new N) (List.replicate f zs) (List.replicate r zs) [] k ∧ Frm (Dk.new N) :=
  ⟨⟨rfl, rfl, by show (List.replicate N zs).length ≤ _; rw [List.length_replicate]; exact hl, by show List.replicate N zs = _; rw [hN]; simp [flE], fun e he => by cases he⟩, rfl, rfl⟩
end

end Go.Proofs.Ytlaecnggbcagcaa
