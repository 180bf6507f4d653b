/- Plain facts of DiskKeeps. -/
import Derived.Test.YtmgkbgjchcekpaaKs2
namespace Go.Proofs.Ytmgkbgjchcekpaa
open Go.RowKit MM
set_option linter.unusedVariables false
set_option linter.unusedSimpArgs false

/-- Writes alone are done. -/
def wr1 (d : Dk) (o : Od) : Dk := if o.kind = 0 then (d.write o.n (filL o.fill)).1 else d
def wrL (d : Dk) (l : List Od) : Dk := l.foldl wr1 d
def tch (l : List Od) (j : Nat) : Bool := l.any fun o => decide (o.kind = 0 ∧ o.n = (j : Int))
theorem wrL_snoc (d : Dk) (l : List Od) (o : Od) : wrL d (l ++ [o]) = wr1 (wrL d l) o := by simp [wrL]
theorem tch_snoc (l : List Od) (o : Od) (j : Nat) : tch (l ++ [o]) j = (tch l j || decide (o.kind = 0 ∧ o.n = (j : Int))) := by simp [tch]
structure Up8 (d : Dk) (m : Nat) : Prop where
  down : d.down = false
  left : d.left = 0
  len : d.now.length = 8
  few : d.pend.length ≤ m
theorem err_up {d : Dk} {m : Nat} (h : Up8 d m) (n : Int) : d.err n = if n < 0 ∨ 8 ≤ n then 1 else 0 := by
  unfold Dk.err
  rw [if_neg (by rw [h.down]; decide), h.len]
  rfl
theorem write_in {d : Dk} {m : Nat} (h : Up8 d m) (j : Nat) (hj : j < 8) (s : List UInt8) : d.write (j : Int) s = (d.put j s, 0) := Dk.write_up h.down h.left (by rw [h.len]; exact hj)
theorem write_out {d : Dk} {m : Nat} (h : Up8 d m) (n : Int) (hn : n < 0 ∨ 8 ≤ n) (s : List UInt8) : d.write n s = (d, 1) := by
  have he : d.err n = 1 := by rw [err_up h, if_pos hn]
  unfold Dk.write
  rw [if_neg (by rw [he]; decide), he]
theorem wr1_cases {d : Dk} {m : Nat} (h : Up8 d m) (o : Od) : (wr1 d o = d ∧ ¬ (o.kind = 0 ∧ 0 ≤ o.n ∧ o.n < 8)) ∨ ∃ j : Nat, j < 8 ∧ o.n = (j : Int) ∧ o.kind = 0 ∧ wr1 d o = d.put j (filL o.fill) := by
  unfold wr1
  by_cases hk : o.kind = 0
  · rw [if_pos hk]
    by_cases hn : o.n < 0 ∨ 8 ≤ o.n
    · rw [write_out h _ hn]
      exact .inl ⟨rfl, fun x => by omega⟩
    · obtain ⟨j, hj⟩ : ∃ j : Nat, o.n = (j : Int) := ⟨o.n.toNat, by omega⟩
      have hj8 : j < 8 := by omega
      rw [hj, write_in h j hj8]
      exact .inr ⟨j, hj8, rfl, hk, rfl⟩
  · rw [if_neg hk]
    exact .inl ⟨rfl, fun x => hk x.1⟩
theorem wr1_up {d : Dk} {m : Nat} (h : Up8 d m) (o : Od) : Up8 (wr1 d o) (m + 1) := by
  rcases wr1_cases h o with ⟨he, _⟩ | ⟨j, hj, _, _, he⟩
  · rw [he]
    exact ⟨h.down, h.left, h.len, by have := h.few; omega⟩
  · rw [he]
    refine ⟨h.down, h.left, ?_, ?_⟩
    · simp [Dk.put, h.len]
    · have := h.few
      simp [Dk.put]
      omega
theorem wrL_up {d : Dk} {m : Nat} (h : Up8 d m) : ∀ l : List Od, Up8 (wrL d l) (m + l.length)
  | [] => h
  | o :: l => by
    have := wrL_up (wr1_up h o) l
    rw [show m + 1 + l.length = m + (o :: l).length by simp; omega] at this
    exact this
theorem wrL_good {d : Dk} {m : Nat} (h : Up8 d m) : ∀ l : List Od, (wrL d l).good = d.good ∧ ∀ x ∈ (wrL d l).pend, x ∈ d.pend ∨ tch l x.1 = true
  | [] => ⟨rfl, fun x hx => .inl hx⟩
  | o :: l => by
    obtain ⟨h1, h2⟩ := wrL_good (wr1_up h o) l
    have hc := wr1_cases h o
    have e : wrL d (o :: l) = wrL (wr1 d o) l := rfl
    rw [e]
    refine ⟨?_, fun x hx => ?_⟩
    · rw [h1]
      rcases hc with ⟨he, _⟩ | ⟨j, _, _, _, he⟩ <;> rw [he] <;> rfl
    · rcases h2 x hx with hx | hx
      · rcases hc with ⟨he, _⟩ | ⟨j, _, hn, hk, he⟩
        · rw [he] at hx
          exact .inl hx
        · rw [he] at hx
          rcases List.mem_append.1 hx with hx | hx
          · exact .inl hx
          · obtain rfl := List.mem_singleton.1 hx
            refine .inr ?_
            simp [tch, hk, hn]
      · refine .inr ?_
        unfold tch at hx ⊢
        rw [List.any_cons, hx, Bool.or_true]
theorem new_up : Up8 (Dk.new 8) 0 := ⟨rfl, rfl, by simp [Dk.new], by simp [Dk.new]⟩
/-- What was synced, and not touched. -/
theorem keeps_sec {D : Dk} (hD : Up8 D 0) (hg : D.good = D.now) (l : List Od) (ks : List Int) (j : Nat) (hj : j < 8) (ht : tch l j = false) :
    ((wrL D l).crash ks).readS (j : Int) = D.readS (j : Int) := by
  obtain ⟨h1, h2⟩ := wrL_good hD l
  have hp : D.pend = [] := List.length_eq_zero_iff.1 (by have := hD.few; omega)
  have hno : ¬ j ∈ (wrL D l).pend.map (·.1) := by
    intro hm
    obtain ⟨x, hx, rfl⟩ := List.mem_map.1 hm
    rcases h2 x hx with h | h
    · rw [hp] at h
      cases h
    · rw [ht] at h
      cases h
  have ha := crash_other (wrL D l).pend (wrL D l).good ks j hno
  have hl : ((wrL D l).crash ks).now.length = 8 := by
    show (crashL _ _ _).length = 8
    rw [crash_len, h1, hg, hD.len]
  have e1 : ((wrL D l).crash ks).err (j : Int) = 0 := by
    unfold Dk.err
    rw [if_neg (by show ¬ (false = true); decide), hl, if_neg (by omega)]
  have e2 : D.err (j : Int) = 0 := by rw [err_up hD, if_neg (by omega)]
  unfold Dk.readS
  rw [if_pos e1, if_pos e2, Int.toNat_natCast, List.getD_eq_getElem?_getD, List.getD_eq_getElem?_getD]
  show ((crashL (wrL D l).good (wrL D l).pend ks)[j]?).getD zs = _
  rw [ha, h1, hg]
theorem crash_up {D : Dk} {m : Nat} (hD : Up8 D m) (hok : D.ok) (ks : List Int) : Up8 (D.crash ks) 0 := ⟨rfl, rfl, by show (crashL _ _ _).length = 8; rw [crash_len, ← hok.len]; exact hD.len, Nat.zero_le _⟩
theorem sync_up {D : Dk} {m : Nat} (hD : Up8 D m) : Up8 D.sync.1 0 ∧ D.sync.1.good = D.sync.1.now := by
  rw [Dk.sync_up hD.down]
  exact ⟨⟨hD.down, hD.left, hD.len, Nat.zero_le _⟩, rfl⟩

end Go.Proofs.Ytmgkbgjchcekpaa
