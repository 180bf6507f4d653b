/- Plain mathematics of layer 5: records stay records. No program. -/
import Derived.Test.YtofaonknfihaiaaDoorRuT
import Derived.Test.YtofaonknfihaiaaDoorRuB
namespace RU
open Go Go.RowKit RC

/-- Items that may be in a list, one behind the other. -/
def Okay (k : Int) (x : It) : Prop := x.name.size ≤ 16 ∧ fits k x.score = true
theorem itemE_of {k : Int} {p : Option It} {x : It} (h : Okay k x) (hf : follows k p x = true) : itemE k p x = 0 := by
  unfold itemE
  rw [if_neg (by have := h.1; omega), if_pos (by rw [h.2, hf]; rfl)]
theorem itemE_ok {k : Int} {p : Option It} {x : It} (h : itemE k p x = 0) : Okay k x ∧ follows k p x = true := by
  refine ⟨itemE_zero h, ?_⟩
  unfold itemE at h
  split at h
  · cases h
  · split at h
    · rename_i h3
      simp only [Bool.and_eq_true] at h3
      exact h3.2
    · cases h
theorem itemsE_cons {k : Int} {p : Option It} {x : It} {l : List It} : itemsE k p (x :: l) = 0 ↔ itemE k p x = 0 ∧ itemsE k (some x) l = 0 := by
  show (if itemE k p x = 0 then itemsE k (some x) l else itemE k p x) = 0 ↔ _
  constructor
  · intro h
    split at h
    · exact ⟨‹_›, h⟩
    · exact absurd h ‹_›
  · rintro ⟨h1, h2⟩
    rw [if_pos h1]; exact h2
/-- The last of a row, or what was ahead of it. -/
def lastOf (p : Option It) : List It → Option It
  | [] => p
  | x :: l => lastOf (some x) l
theorem itemsE_append {k : Int} : ∀ (a b : List It) (p : Option It), itemsE k p (a ++ b) = 0 ↔ itemsE k p a = 0 ∧ itemsE k (lastOf p a) b = 0
  | [], b, p => by simp [itemsE, lastOf]
  | x :: a, b, p => by
    show itemsE k p (x :: (a ++ b)) = 0 ↔ itemsE k p (x :: a) = 0 ∧ itemsE k (lastOf (some x) a) b = 0
    rw [itemsE_cons, itemsE_cons, itemsE_append a b (some x)]
    exact ⟨fun ⟨h1, h2, h3⟩ => ⟨⟨h1, h2⟩, h3⟩, fun ⟨⟨h1, h2⟩, h3⟩ => ⟨h1, h2, h3⟩⟩
theorem lastOf_mem : ∀ (l : List It) (p : Option It) (y : It), lastOf p l = some y → (l = [] ∧ p = some y) ∨ y ∈ l
  | [], p, y, h => .inl ⟨rfl, h⟩
  | x :: l, p, y, h => by
    rcases lastOf_mem l (some x) y h with ⟨h1, h2⟩ | h1
    · injection h2 with h2; subst h2; exact .inr (List.mem_cons_self ..)
    · exact .inr (List.mem_cons_of_mem _ h1)
theorem itemsE_head {k : Int} {p q : Option It} {x : It} {l : List It} (h : itemsE k p (x :: l) = 0) (hf : follows k q x = true) : itemsE k q (x :: l) = 0 := by
  rw [itemsE_cons] at h ⊢
  exact ⟨itemE_of (itemE_ok h.1).1 hf, h.2⟩
theorem itemsE_take {k : Int} (l : List It) (n : Nat) (h : itemsE k none l = 0) : itemsE k none (l.take n) = 0 := by
  have h1 : l = l.take n ++ l.drop n := (List.take_append_drop n l).symm
  rw [h1, itemsE_append] at h
  exact h.1
/-- An item is laid in its place. -/
theorem itemsE_lay {k : Int} (l : List It) (x : It) (h : itemsE k none l = 0) (hx : Okay k x) (hb : ∀ y ∈ l, better y x = true → ahead k y x = true) (ha : ∀ y, l[find l x]? = some y → ahead k x y = true) : itemsE k none (lay l x) = 0 := by
  unfold lay
  have h1 : l = l.take (find l x) ++ l.drop (find l x) := (List.take_append_drop _ l).symm
  have h2 := h
  rw [h1, itemsE_append] at h2
  rw [itemsE_append]
  refine ⟨h2.1, ?_⟩
  rw [itemsE_cons]
  refine ⟨itemE_of hx ?_, ?_⟩
  · cases hl : lastOf none (l.take (find l x)) with
    | none => rfl
    | some y =>
      rcases lastOf_mem _ _ _ hl with ⟨_, h4⟩ | h4
      · cases h4
      · exact hb y (List.mem_of_mem_take h4) (find_ahead l x y h4)
  · cases hd : l.drop (find l x) with
    | nil => rfl
    | cons y d =>
      rw [hd] at h2
      refine itemsE_head h2.2 (ha y ?_)
      have := List.getElem?_drop (xs := l) (i := find l x) (j := 0)
      rw [hd] at this
      simpa using this.symm
/-- An item is taken out. -/
theorem itemsE_lose {k : Int} (l : List It) (x : It) (h : itemsE k none l = 0) (htr : ∀ a b c : It, a ∈ l → b ∈ l → c ∈ l → ahead k a b = true → ahead k b c = true → ahead k a c = true) : itemsE k none (lose l x) = 0 := by
  unfold lose
  generalize find l x = n
  have h1 : l = l.take n ++ l.drop n := (List.take_append_drop _ l).symm
  have h2 := h
  rw [h1, itemsE_append] at h2
  rw [itemsE_append]
  refine ⟨h2.1, ?_⟩
  rw [show l.drop (n + 1) = (l.drop n).drop 1 by rw [List.drop_drop]]
  cases hd : l.drop n with
  | nil => rfl
  | cons y d =>
    show itemsE k (lastOf none (l.take n)) d = 0
    rw [hd, itemsE_cons] at h2
    cases hd2 : d with
    | nil => rfl
    | cons z e =>
      rw [hd2] at h2
      refine itemsE_head h2.2.2 ?_
      have hyz := (itemE_ok (itemsE_cons.1 h2.2.2).1).2
      have hy := (itemE_ok h2.2.1).2
      cases hl : lastOf none (l.take n) with
      | none => rfl
      | some u =>
        rw [hl] at hy
        rcases lastOf_mem _ _ _ hl with ⟨_, h4⟩ | h4
        · cases h4
        · have hin : ∀ v, v ∈ l.drop n → v ∈ l := fun v hv => List.mem_of_mem_drop hv
          exact htr u y z (List.mem_of_mem_take h4) (hin y (by rw [hd]; exact List.mem_cons_self ..)) (hin z (by rw [hd, hd2]; exact List.mem_cons_of_mem _ (List.mem_cons_self ..))) hy hyz
end RU
namespace Go.Proofs.YtofaonknfihaiaaDoor
open Go.RowKit MM

theorem list_chk {r : RC.Rc} (h : RC.chk r = 0) (hk : r.kind = 8 ∨ r.kind = 9) (l : List RC.It) (hi : RC.itemsE r.kind none l = 0) (hl : (l.length : Int) ≤ r.cap) : RC.chk { r with list := l } = 0 := by
  obtain ⟨h1, h2, h3⟩ := RC.chk_zero h
  have h4 : RC.clean { r with list := l } = true := (RC.clean_iff _).2 ⟨h2.num, h2.low, h2.high, h2.real, h2.cap, h2.text, fun x => absurd (show 8 ≤ r.kind ∧ r.kind ≤ 9 by omega) x⟩
  unfold RC.fieldE at h3
  rw [if_neg (by omega), if_neg (by omega), if_neg (by omega), if_pos (by omega)] at h3
  unfold RC.listE at h3
  split at h3
  · cases h3
  · rename_i hc
    unfold RC.chk
    rw [if_pos h1, if_pos h4]
    unfold RC.fieldE
    rw [if_neg (show ¬ r.kind = 1 by omega), if_neg (show ¬ r.kind = 4 by omega), if_neg (show ¬ (5 ≤ r.kind ∧ r.kind ≤ 7) by omega), if_pos (show 8 ≤ r.kind by omega)]
    unfold RC.listE
    rw [if_neg (show ¬ (r.cap < 1 ∨ 32 < r.cap) from hc), if_neg (show ¬ r.cap < (l.length : Int) by omega)]
    exact hi
theorem list_of {r : RC.Rc} (h : RC.chk r = 0) (hk : r.kind = 8 ∨ r.kind = 9) : RC.itemsE r.kind none r.list = 0 ∧ (r.list.length : Int) ≤ r.cap := by
  obtain ⟨h1, h2, h3⟩ := RC.chk_zero h
  unfold RC.fieldE at h3
  rw [if_neg (by omega), if_neg (by omega), if_neg (by omega), if_pos (by omega)] at h3
  unfold RC.listE at h3
  split at h3
  · cases h3
  · split at h3
    · cases h3
    · exact ⟨h3, by omega⟩
theorem real_chk {r : RC.Rc} (h : RC.chk r = 0) (hk : 5 ≤ r.kind ∧ r.kind ≤ 7) (x : Nat) (hx : MF.proper x = true) : RC.chk { r with real := x } = 0 := by
  obtain ⟨h1, h2, h3⟩ := RC.chk_zero h
  have h4 : RC.clean { r with real := x } = true := (RC.clean_iff _).2 ⟨h2.num, h2.low, h2.high, fun y => absurd hk y, h2.cap, h2.text, h2.list⟩
  unfold RC.chk
  rw [if_pos h1, if_pos h4]
  unfold RC.fieldE
  rw [if_neg (show ¬ r.kind = 1 by omega), if_neg (show ¬ r.kind = 4 by omega), if_pos hk, if_pos hx]
theorem text_chk {r : RC.Rc} (h : RC.chk r = 0) (hk : r.kind = 1) (s : ByteArray) (hs : s.size ≤ 64) : RC.chk { r with text := s } = 0 := by
  obtain ⟨h1, h2, h3⟩ := RC.chk_zero h
  have h4 : RC.clean { r with text := s } = true := (RC.clean_iff _).2 ⟨h2.num, h2.low, h2.high, h2.real, h2.cap, fun y => absurd hk y, h2.list⟩
  unfold RC.chk
  rw [if_pos h1, if_pos h4]
  unfold RC.fieldE
  rw [if_pos hk, if_neg (show ¬ 64 < s.size by omega)]

theorem at_no {l : List RC.It} {x y : RC.It} (h : RU.at_ l x = false) (hy : l[RU.find l x]? = some y) : RC.better x y = true := by
  unfold RU.at_ at h
  rw [hy] at h
  simpa using h
theorem joined_chk {r : RC.Rc} {a : AC.Ac} (hr : r.ok) (h : RC.chk r = 0) (hk : r.kind = 8) (hs : a.s.size ≤ 16) (hf : RU.at_ r.list ⟨0, a.s⟩ = true ∨ (r.list.length : Int) < r.cap) : RC.chk (RU.joined r a) = 0 := by
  have hm := RC.chk_may hr h
  obtain ⟨hi, hl⟩ := list_of h (.inl hk)
  unfold RU.joined
  split
  · exact h
  · rename_i hat
    have hat' : RU.at_ r.list ⟨0, a.s⟩ = false := by simpa using hat
    have h0 : ∀ y ∈ r.list, y.score = 0 := fun y hy => (hm.items y hy).2.2 hk
    refine list_chk h (.inl hk) _ ?_ ?_
    · rw [hk] at hi ⊢
      refine RU.itemsE_lay _ _ hi ⟨hs, by unfold RC.fits; rw [if_pos rfl]; exact RC.same_refl 0⟩ (fun y hy hb => ?_) (fun y hy => ?_)
      · obtain ⟨ys, yn⟩ := y
        have : ys = 0 := h0 _ hy
        subst this
        rw [RU.better0] at hb
        unfold RC.ahead
        simpa using hb
      · have hb := at_no hat' hy
        have hy0 := h0 y (List.mem_of_getElem? hy)
        obtain ⟨ys, yn⟩ := y
        have : ys = 0 := hy0
        subst this
        rw [RU.better0] at hb
        unfold RC.ahead
        simpa using hb
    · rw [RU.lay_len]
      rcases hf with hf | hf
      · exact absurd hf hat
      · push_cast; omega
theorem left_chk {r : RC.Rc} {a : AC.Ac} (h : RC.chk r = 0) (hk : r.kind = 8) : RC.chk (RU.left r a) = 0 := by
  obtain ⟨hi, hl⟩ := list_of h (.inl hk)
  unfold RU.left
  split
  · refine list_chk h (.inl hk) _ ?_ ?_
    · rw [hk] at hi ⊢
      refine RU.itemsE_lose _ _ hi (fun u v z _ _ _ h1 h2 => ?_)
      unfold RC.ahead at h1 h2 ⊢
      simp only [if_true] at h1 h2 ⊢
      exact RC.strLt_trans h1 h2
    · have := RU.lose_len r.list ⟨0, a.s⟩
      omega
  · exact h
theorem offered_chk {r : RC.Rc} {a : AC.Ac} (h : RC.chk r = 0) (hk : r.kind = 9) (hs : a.s.size ≤ 16) (hx : MF.proper a.x = true) : RC.chk (RU.offered r a) = 0 := by
  obtain ⟨hi, hl⟩ := list_of h (.inr hk)
  unfold RU.offered
  split
  · exact h
  · rename_i hat
    have hat' : RU.at_ r.list ⟨a.x, a.s⟩ = false := by simpa using hat
    have hlay : RC.itemsE r.kind none (RU.lay r.list ⟨a.x, a.s⟩) = 0 := by
      rw [hk] at hi ⊢
      refine RU.itemsE_lay _ _ hi ⟨hs, by unfold RC.fits; rw [if_neg (by omega)]; exact hx⟩ (fun y hy hb => ?_) (fun y hy => ?_)
      · unfold RC.ahead; rw [if_neg (by omega)]; exact hb
      · unfold RC.ahead; rw [if_neg (by omega)]; exact at_no hat' hy
    split
    · refine list_chk h (.inr hk) _ hlay ?_
      rw [RU.lay_len]; push_cast; omega
    · refine list_chk h (.inr hk) _ ?_ ?_
      · have h1 : RU.lay r.list ⟨a.x, a.s⟩ = (RU.lay r.list ⟨a.x, a.s⟩).take r.cap.toNat ++ (RU.lay r.list ⟨a.x, a.s⟩).drop r.cap.toNat := (List.take_append_drop _ _).symm
        rw [h1, RU.itemsE_append] at hlay
        exact hlay.1
      · rw [List.length_take]
        have := (RC.chk_zero h).2.2
        omega

theorem refE_kind {q : RC.Rc} {a : AC.Ac} (h : refE q true a = 0) : kindE q.kind a.kind = 0 := by
  rw [refE_both (refE_act h) (refE_rec h)] at h
  exact h
theorem refE_none {q : RC.Rc} {a : AC.Ac} (h : refE q false a = 0) : a.kind = 1 ∨ a.kind = 3 := by
  have h1 := refE_act h
  unfold refE at h
  rw [if_neg (by simp [h1])] at h
  have h : noneE a.kind = 0 := h
  unfold noneE at h
  split at h
  · assumption
  · cases h

/-- What is there may be, or there is none. -/
structure Keeps (q : RC.Rc) (t : Bool) : Prop where
  ok : q.ok
  yes : t = true → RC.chk q = 0
  no : t = false → q = RC.zero
theorem Keeps.own {q : RC.Rc} {t : Bool} (h : Keeps q t) : ownR q t = q := by
  cases t
  · exact (h.no rfl).symm
  · rfl
theorem Keeps.there {q : RC.Rc} {t : Bool} (h : Keeps q t) : (q.kind != 0) = t := by
  cases t
  · rw [h.no rfl]; rfl
  · simpa using known_ne (h.yes rfl)
theorem doR_keeps {q : RC.Rc} {t : Bool} {a : AC.Ac} (h : Keeps q t) (ha : a.ok) (hE : refE q t a = 0) : ((RU.doR q a).1.kind ≠ 0 → RC.chk (RU.doR q a).1 = 0) ∧ ((RU.doR q a).1.kind = 0 → (RU.doR q a).1 = RC.zero) := by
  have hm := AC.chk_may ha (refE_act hE)
  have hkn := hm.known
  by_cases k1 : a.kind = 1
  · have hd : RU.doR q a = (a.make, RU.err 0) := by unfold RU.doR; simp [k1]
    have hc := hm.made (by unfold AC.hasM; simp [k1])
    rw [hd]
    exact ⟨fun _ => hc, fun h0 => absurd h0 (known_ne hc)⟩
  by_cases k2 : a.kind = 2
  · have hd : RU.doR q a = (RC.zero, RU.err 0) := by unfold RU.doR; simp [k2]
    rw [hd]
    exact ⟨fun h0 => absurd rfl h0, fun _ => rfl⟩
  have hself : (q.kind ≠ 0 → RC.chk q = 0) ∧ (q.kind = 0 → q = RC.zero) := by
    cases t
    · rw [h.no rfl]; exact ⟨fun h0 => absurd rfl h0, fun _ => rfl⟩
    · exact ⟨fun _ => h.yes rfl, fun h0 => absurd h0 (known_ne (h.yes rfl))⟩
  by_cases k3 : a.kind = 3
  · have hd : RU.doR q a = (q, ⟨0, q.kind, RC.zero⟩) := by unfold RU.doR; simp [k3]
    rw [hd]
    exact hself
  have ht : t = true := by
    cases t
    · rcases refE_none hE with h1 | h1
      · exact absurd h1 k1
      · exact absurd h1 k3
    · rfl
  subst ht
  have hc := h.yes rfl
  have hK := refE_kind hE
  have hone : ∀ p : RC.Rc, RC.chk p = 0 → (p.kind ≠ 0 → RC.chk p = 0) ∧ (p.kind = 0 → p = RC.zero) := fun p hp => ⟨fun _ => hp, fun h0 => absurd h0 (known_ne hp)⟩
  refine hone _ ?_
  have hk18 : a.kind = 4 ∨ a.kind = 5 ∨ a.kind = 6 ∨ a.kind = 7 ∨ a.kind = 8 ∨ a.kind = 9 ∨ a.kind = 10 ∨ a.kind = 11 ∨ a.kind = 12 ∨ a.kind = 13 ∨ a.kind = 14 ∨ a.kind = 15 ∨ a.kind = 16 ∨ a.kind = 17 ∨ a.kind = 18 ∨ a.kind = 19 ∨ a.kind = 20 ∨ a.kind = 21 := by omega
  rcases hk18 with hk | hk | hk | hk | hk | hk | hk | hk | hk | hk | hk | hk | hk | hk | hk | hk | hk | hk
  · have hd : RU.doR q a = (q, ⟨0, 0, q⟩) := by unfold RU.doR; simp [hk]
    rw [hd]; exact hc
  · have hd : RU.doR q a = ({ q with text := a.s }, RU.err 0) := by unfold RU.doR; simp [hk]
    rw [hk] at hK
    have hs := hm.most
    rw [hk] at hs
    rw [hd]
    exact text_chk hc (kindE_on (o := 1) (by omega) rfl (by omega) hK) _ hs
  · have hd : RU.doR q a = ({ q with text := a.s }, ⟨0, 0, q⟩) := by unfold RU.doR; simp [hk]
    rw [hk] at hK
    have hs := hm.most
    rw [hk] at hs
    rw [hd]
    exact text_chk hc (kindE_on (o := 1) (by omega) rfl (by omega) hK) _ hs
  · have hd : RU.doR q a = ({ q with num := RU.w64 (q.num + a.n) }, RU.err 0) := by unfold RU.doR; simp [hk]
    rw [hk] at hK
    rw [hd]
    exact num_chk hc (.inl (kindE_on (o := 2) (by omega) rfl (by omega) hK)) _
  · have hd : RU.doR q a = if RU.plusOver q a.n = true then (q, RU.err 9) else ({ q with num := RU.w64 (q.num + a.n) }, RU.err 0) := by unfold RU.doR; simp [hk]
    rw [hk] at hK
    rw [hd]
    split
    · exact hc
    · exact num_chk hc (.inr (kindE_on (o := 3) (by omega) rfl (by omega) hK)) _
  · have hd : RU.doR q a = if a.n ≤ q.num then (q, RU.err 0) else (q, RU.err 11) := by unfold RU.doR; simp [hk]
    rw [hd]
    split <;> exact hc
  · have hd : RU.doR q a = if q.high < RU.w64 (q.num + a.n) then (q, RU.err 9) else ({ q with num := RU.w64 (q.num + a.n) }, RU.err 0) := by unfold RU.doR; simp [hk]
    rw [hk] at hK
    have hk4 := kindE_on (o := 4) (by omega) rfl (by omega) hK
    have b1 := purse_bd hc hk4
    have b2 : 0 ≤ a.n ∧ a.n ≤ 2305843009213693952 := amount_bd (key := a.key) (x := a.x) (s := a.s) (m := a.make) (must := a.must) (.inl hk) (refE_act hE)
    rw [hd]
    split
    · exact hc
    · rename_i ho
      refine purse_chk hc hk4 _ ⟨?_, by omega⟩
      unfold RU.w64 wrap64
      omega
  · have hd : RU.doR q a = if RU.w64 (q.num - a.n) < q.low then (q, RU.err 10) else ({ q with num := RU.w64 (q.num - a.n) }, RU.err 0) := by unfold RU.doR; simp [hk]
    rw [hk] at hK
    have hk4 := kindE_on (o := 4) (by omega) rfl (by omega) hK
    have b1 := purse_bd hc hk4
    have b2 : 0 ≤ a.n ∧ a.n ≤ 2305843009213693952 := amount_bd (key := a.key) (x := a.x) (s := a.s) (m := a.make) (must := a.must) (.inr hk) (refE_act hE)
    rw [hd]
    split
    · exact hc
    · rename_i ho
      refine purse_chk hc hk4 _ ⟨by omega, ?_⟩
      unfold RU.w64 wrap64
      omega
  · have hd : RU.doR q a = if a.n ≤ q.num then (q, RU.err 0) else (q, RU.err 11) := by unfold RU.doR; simp [hk]
    rw [hd]
    split <;> exact hc
  · have hd : RU.doR q a = ({ q with real := MF.mx q.real a.x }, RU.err 0) := by unfold RU.doR; simp [hk]
    rw [hk] at hK
    have hk4 := kindE_on (o := 5) (by omega) rfl (by omega) hK
    rw [hd]
    exact real_chk hc (by omega) _ (MF.proper_mx _ _)
  · have hd : RU.doR q a = ({ q with real := MF.mn q.real a.x }, RU.err 0) := by unfold RU.doR; simp [hk]
    rw [hk] at hK
    have hk4 := kindE_on (o := 6) (by omega) rfl (by omega) hK
    rw [hd]
    exact real_chk hc (by omega) _ (MF.proper_mn _ _)
  · have hd : RU.doR q a = ({ q with real := MF.plus q.real a.x }, RU.err 0) := by unfold RU.doR; simp [hk]
    rw [hk] at hK
    have hk4 := kindE_on (o := 7) (by omega) rfl (by omega) hK
    rw [hd]
    exact real_chk hc (by omega) _ (MF.proper_canonO _)
  · have hd : RU.doR q a = ({ q with real := MF.times q.real a.x }, RU.err 0) := by unfold RU.doR; simp [hk]
    rw [hk] at hK
    have hk4 := kindE_on (o := 7) (by omega) rfl (by omega) hK
    rw [hd]
    exact real_chk hc (by omega) _ (MF.proper_canonO _)
  · have hd : RU.doR q a = ({ q with real := a.x }, RU.err 0) := by unfold RU.doR; simp [hk]
    rw [hk] at hK
    have hk4 := kindE_on (o := 7) (by omega) rfl (by omega) hK
    rw [hd]
    exact real_chk hc (by omega) _ hm.proper
  · have hd : RU.doR q a = if RU.at_ q.list ⟨0, a.s⟩ = true ∨ (q.list.length : Int) < q.cap then (RU.joined q a, RU.err 0) else (q, RU.err 8) := by unfold RU.doR; simp [hk]
    rw [hk] at hK
    have hs := hm.most
    rw [hk] at hs
    rw [hd]
    split
    · rename_i hf; exact joined_chk h.ok hc (kindE_on (o := 8) (by omega) rfl (by omega) hK) hs hf
    · exact hc
  · have hd : RU.doR q a = (RU.left q a, RU.err 0) := by unfold RU.doR; simp [hk]
    rw [hk] at hK
    rw [hd]
    exact left_chk hc (kindE_on (o := 8) (by omega) rfl (by omega) hK)
  · have hd : RU.doR q a = if RU.at_ q.list ⟨0, a.s⟩ = true then (q, RU.err 0) else (q, RU.err 11) := by unfold RU.doR; simp [hk]
    rw [hd]
    split <;> exact hc
  · have hd : RU.doR q a = (RU.offered q a, RU.err 0) := by unfold RU.doR; simp [hk]
    rw [hk] at hK
    have hs := hm.most
    rw [hk] at hs
    rw [hd]
    exact offered_chk hc (kindE_on (o := 9) (by omega) rfl (by omega) hK) hs hm.proper
theorem doR_code {q : RC.Rc} {a : AC.Ac} : (RU.doR q a).2.code ≠ 0 → (RU.doR q a).1 = q ∧ (RU.doR q a).2 = RU.err (RU.doR q a).2.code :=
  doR_all (P := fun x => x.2.code ≠ 0 → x.1 = q ∧ x.2 = RU.err x.2.code) (fun _ _ => ⟨rfl, rfl⟩) (fun h => absurd rfl h) (fun h => absurd rfl h) (fun h => absurd rfl h) (fun h => absurd rfl h) (fun h => absurd rfl h) (fun h => absurd rfl h) (fun h => absurd rfl h) (fun h => absurd rfl h) (fun h => absurd rfl h) (fun h => absurd rfl h) (fun h => absurd rfl h) (fun h => absurd rfl h) (fun h => absurd rfl h) (fun h => absurd rfl h) (fun h => absurd rfl h) (fun h => absurd rfl h) (fun h => absurd rfl h) (fun h => absurd rfl h)
theorem doR_reads {q : RC.Rc} {a : AC.Ac} (hk : 0 < a.kind ∧ a.kind < 22) (h : (rowAt a.kind).reads = true) : (RU.doR q a).1 = q := by
  have h5 : a.kind = 3 ∨ a.kind = 4 ∨ a.kind = 9 ∨ a.kind = 12 ∨ a.kind = 20 := by
    have h21 : a.kind = 1 ∨ a.kind = 2 ∨ a.kind = 3 ∨ a.kind = 4 ∨ a.kind = 5 ∨ a.kind = 6 ∨ a.kind = 7 ∨ a.kind = 8 ∨ a.kind = 9 ∨ a.kind = 10 ∨ a.kind = 11 ∨ a.kind = 12 ∨ a.kind = 13 ∨ a.kind = 14 ∨ a.kind = 15 ∨ a.kind = 16 ∨ a.kind = 17 ∨ a.kind = 18 ∨ a.kind = 19 ∨ a.kind = 20 ∨ a.kind = 21 := by omega
    rcases h21 with e | e | e | e | e | e | e | e | e | e | e | e | e | e | e | e | e | e | e | e | e <;> rw [e] at h <;> first | (exfalso; revert h; decide +kernel) | omega
  unfold RU.doR
  rcases h5 with e | e | e | e | e
  · simp [e]
  · simp [e]
  · simp [e]; split <;> rfl
  · simp [e]; split <;> rfl
  · simp [e]; split <;> rfl

/-- Records stay records. -/
theorem keeps_plain {q : RC.Rc} {t : Bool} {a : AC.Ac} (h : Keeps q t) (ha : a.ok) :
    Keeps (RU.apply q t a).1 (RU.apply q t a).2.1 ∧ ((RU.apply q t a).2.2.code ≠ 0 ∨ (rowAt a.kind).reads = true → (RU.apply q t a).2.1 = t ∧ (RU.apply q t a).1 = q) ∧ ((RU.apply q t a).2.2.code ≠ 0 → (RU.apply q t a).2.2 = RU.err (RU.apply q t a).2.2.code) := by
  have hok := apply_ok (there := t) h.ok ha
  by_cases hE : refE q t a = 0
  · have e1 : RU.apply q t a = ((RU.doR q a).1, (RU.doR q a).1.kind != 0, (RU.doR q a).2) := by
      unfold RU.apply
      rw [h.own, if_pos hE]
    rw [e1] at hok ⊢
    have hk := doR_keeps h ha hE
    refine ⟨⟨hok.1, fun h1 => hk.1 (by simpa using h1), fun h1 => hk.2 (by simpa using h1)⟩, fun h1 => ?_, fun h1 => (doR_code h1).2⟩
    have hp : (RU.doR q a).1 = q := by
      rcases h1 with h1 | h1
      · exact (doR_code h1).1
      · exact doR_reads (AC.chk_may ha (refE_act hE)).known h1
    show ((RU.doR q a).1.kind != 0) = t ∧ (RU.doR q a).1 = q
    rw [hp]
    exact ⟨h.there, rfl⟩
  · have e1 : RU.apply q t a = (q, t, RU.err (refE q t a)) := by
      unfold RU.apply
      rw [h.own, if_neg hE]
    rw [e1]
    exact ⟨h, fun _ => ⟨rfl, rfl⟩, fun _ => rfl⟩

end Go.Proofs.YtofaonknfihaiaaDoor
