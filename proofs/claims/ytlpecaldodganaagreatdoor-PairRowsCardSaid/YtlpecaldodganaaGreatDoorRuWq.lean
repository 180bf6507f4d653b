/- Plain mathematics of layer 5: acts that, done twice, leave what they leave done once. No program. -/
import Derived.Test.YtlpecaldodganaaGreatDoorRuVq
namespace RU
open Go Go.RowKit RC
theorem better_irrefl (x : It) : better x x = false := by unfold better; rw [if_pos (RC.same_refl _)]; exact strLt_irrefl _
theorem find_ahead : ∀ (l : List It) (x : It), ∀ y ∈ l.take (find l x), better y x = true
  | [], _, y, h => by simp at h
  | z :: l, x, y, h => by
    unfold find at h
    split at h
    · rename_i hz
      rw [List.take_succ_cons] at h
      rcases List.mem_cons.1 h with rfl | h
      · exact hz
      · exact find_ahead l x y h
    · simp at h
theorem better0 (s t : ByteArray) : better ⟨0, s⟩ ⟨0, t⟩ = strLt s t := by unfold better; rw [if_pos (RC.same_refl _)]
end RU
namespace Go.Proofs.YtlpecaldodganaaGreatDoor
open Go.RowKit MM
end Go.Proofs.YtlpecaldodganaaGreatDoor
namespace Go.Proofs.YtlpecaldodganaaGreatDoor
open Go.RowKit MM
theorem i64_bd {n : Int} (h : RC.I64 n) : -9223372036854775808 ≤ n ∧ n ≤ 9223372036854775807 := by
  unfold RC.I64 at h
  have h1 : IntKind.i64.min = -9223372036854775808 := by decide
  have h2 : IntKind.i64.max = 9223372036854775807 := by decide
  simp only [Lit.wf, Bool.and_eq_true, decide_eq_true_eq, h1, h2] at h
  exact h
theorem refE_both {r : RC.Rc} {a : AC.Ac} (h1 : AC.chk a = 0) (h2 : RC.chk r = 0) : refE r true a = kindE r.kind a.kind := by
  unfold refE
  simp [h1, h2]
theorem known_ne {r : RC.Rc} (h : RC.chk r = 0) : r.kind ≠ 0 := by
  have := RC.kind9 (RC.chk_zero h).1
  omega
theorem num_chk {r : RC.Rc} (h : RC.chk r = 0) (hk : r.kind = 2 ∨ r.kind = 3) (n : Int) : RC.chk { r with num := n } = 0 := by
  obtain ⟨h1, h2, h3⟩ := RC.chk_zero h
  have h4 : RC.clean { r with num := n } = true := (RC.clean_iff _).2 ⟨fun x => absurd (show 2 ≤ r.kind ∧ r.kind ≤ 4 by omega) x, h2.low, h2.high, h2.real, h2.cap, h2.text, h2.list⟩
  unfold RC.chk
  rw [if_pos h1, if_pos h4]
  unfold RC.fieldE
  show (if r.kind = 1 then _ else if r.kind = 4 then _ else if 5 ≤ r.kind ∧ r.kind ≤ 7 then _ else if 8 ≤ r.kind then _ else 0) = 0
  rw [if_neg (by omega), if_neg (by omega), if_neg (by omega), if_neg (by omega)]
theorem purse_bd {r : RC.Rc} (h : RC.chk r = 0) (hk : r.kind = 4) : -2305843009213693952 ≤ r.low ∧ r.low ≤ r.num ∧ r.num ≤ r.high ∧ r.high ≤ 2305843009213693952 := by
  obtain ⟨h1, h2, h3⟩ := RC.chk_zero h
  unfold RC.fieldE at h3
  rw [if_neg (by omega), if_pos hk] at h3
  split at h3
  · rename_i h4; unfold RC.purseOk at h4; simpa using h4
  · cases h3
theorem purse_chk {r : RC.Rc} (h : RC.chk r = 0) (hk : r.kind = 4) (n : Int) (hn : r.low ≤ n ∧ n ≤ r.high) : RC.chk { r with num := n } = 0 := by
  have hb := purse_bd h hk
  obtain ⟨h1, h2, h3⟩ := RC.chk_zero h
  have h4 : RC.clean { r with num := n } = true := (RC.clean_iff _).2 ⟨fun x => absurd (show 2 ≤ r.kind ∧ r.kind ≤ 4 by omega) x, h2.low, h2.high, h2.real, h2.cap, h2.text, h2.list⟩
  have h5 : RC.purseOk { r with num := n } = true := by
    unfold RC.purseOk
    simp only [decide_eq_true_eq]
    exact ⟨hb.1, hn.1, hn.2, hb.2.2.2⟩
  unfold RC.chk
  rw [if_pos h1, if_pos h4]
  unfold RC.fieldE
  rw [if_neg (show ¬ r.kind = 1 by omega), if_pos (show r.kind = 4 from hk), if_pos h5]
theorem kindE_on {k o : Int} (h1 : k ≠ 1) (ho : (rowAt k).on = o) (h0 : o ≠ 0) {kind : Int} (h : kindE kind k = 0) : kind = o := by
  unfold kindE at h
  rw [if_neg h1, ho] at h
  split at h
  · cases h
  · rename_i h2
    rcases Decidable.em (o = kind) with h3 | h3
    · exact h3.symm
    · exact absurd ⟨h0, h3⟩ h2
section
variable {r : RC.Rc} {key : ByteArray} {n : Int} {x : Nat} {s : ByteArray} {m : RC.Rc} {must : Bool}
theorem amount_bd {k : Int} (hk : k = 10 ∨ k = 11) (h1 : AC.chk ⟨k, key, n, x, s, m, must⟩ = 0) : 0 ≤ n ∧ n ≤ 2305843009213693952 := by
  have h3 : AC.amount ⟨k, key, n, x, s, m, must⟩ = true := by
    unfold AC.chk at h1
    split at h1
    · split at h1
      · split at h1
        · cases h1
        · split at h1
          · cases h1
          · split at h1
            · assumption
            · cases h1
      · cases h1
    · cases h1
  unfold AC.amount at h3
  rw [if_pos hk] at h3
  simpa using h3
end
end Go.Proofs.YtlpecaldodganaaGreatDoor
namespace RU
open Go Go.RowKit RC
/-- Items that may be in a list, one behind the other. -/
def Okay (k : Int) (x : It) : Prop := x.name.size ≤ 16 ∧ fits k x.score = true
theorem itemE_of {k : Int} {p : Option It} {x : It} (h : Okay k x) (hf : follows k p x = true) : itemE k p x = 0 := by
  unfold itemE
  rw [if_neg (by have := h.1; omega), if_pos (by rw [h.2, hf]; rfl)]
theorem itemE_ok {k : Int} {p : Option It} {x : It} (h : itemE k p x = 0) : Okay k x ∧ follows k p x = true := by
  refine ⟨itemE_zero h, ?_⟩
  unfold itemE at h
  split at h
  · cases h
  · split at h
    · rename_i h3
      simp only [Bool.and_eq_true] at h3
      exact h3.2
    · cases h
theorem itemsE_cons {k : Int} {p : Option It} {x : It} {l : List It} : itemsE k p (x :: l) = 0 ↔ itemE k p x = 0 ∧ itemsE k (some x) l = 0 := by
  show (if itemE k p x = 0 then itemsE k (some x) l else itemE k p x) = 0 ↔ _
  constructor
  · intro h
    split at h
    · exact ⟨‹_›, h⟩
    · exact absurd h ‹_›
  · rintro ⟨h1, h2⟩
    rw [if_pos h1]; exact h2
/-- The last of a row, or what was ahead of it. -/
def lastOf (p : Option It) : List It → Option It
  | [] => p
  | x :: l => lastOf (some x) l
theorem itemsE_append {k : Int} : ∀ (a b : List It) (p : Option It), itemsE k p (a ++ b) = 0 ↔ itemsE k p a = 0 ∧ itemsE k (lastOf p a) b = 0
  | [], b, p => by simp [itemsE, lastOf]
  | x :: a, b, p => by
    show itemsE k p (x :: (a ++ b)) = 0 ↔ itemsE k p (x :: a) = 0 ∧ itemsE k (lastOf (some x) a) b = 0
    rw [itemsE_cons, itemsE_cons, itemsE_append a b (some x)]
    exact ⟨fun ⟨h1, h2, h3⟩ => ⟨⟨h1, h2⟩, h3⟩, fun ⟨⟨h1, h2⟩, h3⟩ => ⟨h1, h2, h3⟩⟩
theorem lastOf_mem : ∀ (l : List It) (p : Option It) (y : It), lastOf p l = some y → (l = [] ∧ p = some y) ∨ y ∈ l
  | [], p, y, h => .inl ⟨rfl, h⟩
  | x :: l, p, y, h => by
    rcases lastOf_mem l (some x) y h with ⟨h1, h2⟩ | h1
    · injection h2 with h2; subst h2; exact .inr (List.mem_cons_self ..)
    · exact .inr (List.mem_cons_of_mem _ h1)
theorem itemsE_head {k : Int} {p q : Option It} {x : It} {l : List It} (h : itemsE k p (x :: l) = 0) (hf : follows k q x = true) : itemsE k q (x :: l) = 0 := by
  rw [itemsE_cons] at h ⊢
  exact ⟨itemE_of (itemE_ok h.1).1 hf, h.2⟩
/-- An item is laid in its place. -/
theorem itemsE_lay {k : Int} (l : List It) (x : It) (h : itemsE k none l = 0) (hx : Okay k x) (hb : ∀ y ∈ l, better y x = true → ahead k y x = true) (ha : ∀ y, l[find l x]? = some y → ahead k x y = true) : itemsE k none (lay l x) = 0 := by
  unfold lay
  have h1 : l = l.take (find l x) ++ l.drop (find l x) := (List.take_append_drop _ l).symm
  have h2 := h
  rw [h1, itemsE_append] at h2
  rw [itemsE_append]
  refine ⟨h2.1, ?_⟩
  rw [itemsE_cons]
  refine ⟨itemE_of hx ?_, ?_⟩
  · cases hl : lastOf none (l.take (find l x)) with
    | none => rfl
    | some y =>
      rcases lastOf_mem _ _ _ hl with ⟨_, h4⟩ | h4
      · cases h4
      · exact hb y (List.mem_of_mem_take h4) (find_ahead l x y h4)
  · cases hd : l.drop (find l x) with
    | nil => rfl
    | cons y d =>
      rw [hd] at h2
      refine itemsE_head h2.2 (ha y ?_)
      have := List.getElem?_drop (xs := l) (i := find l x) (j := 0)
      rw [hd] at this
      simpa using this.symm
/-- An item is taken out. -/
theorem itemsE_lose {k : Int} (l : List It) (x : It) (h : itemsE k none l = 0) (htr : ∀ a b c : It, a ∈ l → b ∈ l → c ∈ l → ahead k a b = true → ahead k b c = true → ahead k a c = true) : itemsE k none (lose l x) = 0 := by
  unfold lose
  generalize find l x = n
  have h1 : l = l.take n ++ l.drop n := (List.take_append_drop _ l).symm
  have h2 := h
  rw [h1, itemsE_append] at h2
  rw [itemsE_append]
  refine ⟨h2.1, ?_⟩
  rw [show l.drop (n + 1) = (l.drop n).drop 1 by rw [List.drop_drop]]
  cases hd : l.drop n with
  | nil => rfl
  | cons y d =>
    show itemsE k (lastOf none (l.take n)) d = 0
    rw [hd, itemsE_cons] at h2
    cases hd2 : d with
    | nil => rfl
    | cons z e =>
      rw [hd2] at h2
      refine itemsE_head h2.2.2 ?_
      have hyz := (itemE_ok (itemsE_cons.1 h2.2.2).1).2
      have hy := (itemE_ok h2.2.1).2
      cases hl : lastOf none (l.take n) with
      | none => rfl
      | some u =>
        rw [hl] at hy
        rcases lastOf_mem _ _ _ hl with ⟨_, h4⟩ | h4
        · cases h4
        · have hin : ∀ v, v ∈ l.drop n → v ∈ l := fun v hv => List.mem_of_mem_drop hv
          exact htr u y z (List.mem_of_mem_take h4) (hin y (by rw [hd]; exact List.mem_cons_self ..)) (hin z (by rw [hd, hd2]; exact List.mem_cons_of_mem _ (List.mem_cons_self ..))) hy hyz
end RU
namespace Go.Proofs.YtlpecaldodganaaGreatDoor
open Go.RowKit MM
theorem list_chk {r : RC.Rc} (h : RC.chk r = 0) (hk : r.kind = 8 ∨ r.kind = 9) (l : List RC.It) (hi : RC.itemsE r.kind none l = 0) (hl : (l.length : Int) ≤ r.cap) : RC.chk { r with list := l } = 0 := by
  obtain ⟨h1, h2, h3⟩ := RC.chk_zero h
  have h4 : RC.clean { r with list := l } = true := (RC.clean_iff _).2 ⟨h2.num, h2.low, h2.high, h2.real, h2.cap, h2.text, fun x => absurd (show 8 ≤ r.kind ∧ r.kind ≤ 9 by omega) x⟩
  unfold RC.fieldE at h3
  rw [if_neg (by omega), if_neg (by omega), if_neg (by omega), if_pos (by omega)] at h3
  unfold RC.listE at h3
  split at h3
  · cases h3
  · rename_i hc
    unfold RC.chk
    rw [if_pos h1, if_pos h4]
    unfold RC.fieldE
    rw [if_neg (show ¬ r.kind = 1 by omega), if_neg (show ¬ r.kind = 4 by omega), if_neg (show ¬ (5 ≤ r.kind ∧ r.kind ≤ 7) by omega), if_pos (show 8 ≤ r.kind by omega)]
    unfold RC.listE
    rw [if_neg (show ¬ (r.cap < 1 ∨ 32 < r.cap) from hc), if_neg (show ¬ r.cap < (l.length : Int) by omega)]
    exact hi
theorem list_of {r : RC.Rc} (h : RC.chk r = 0) (hk : r.kind = 8 ∨ r.kind = 9) : RC.itemsE r.kind none r.list = 0 ∧ (r.list.length : Int) ≤ r.cap := by
  obtain ⟨h1, h2, h3⟩ := RC.chk_zero h
  unfold RC.fieldE at h3
  rw [if_neg (by omega), if_neg (by omega), if_neg (by omega), if_pos (by omega)] at h3
  unfold RC.listE at h3
  split at h3
  · cases h3
  · split at h3
    · cases h3
    · exact ⟨h3, by omega⟩
theorem real_chk {r : RC.Rc} (h : RC.chk r = 0) (hk : 5 ≤ r.kind ∧ r.kind ≤ 7) (x : Nat) (hx : MF.proper x = true) : RC.chk { r with real := x } = 0 := by
  obtain ⟨h1, h2, h3⟩ := RC.chk_zero h
  have h4 : RC.clean { r with real := x } = true := (RC.clean_iff _).2 ⟨h2.num, h2.low, h2.high, fun y => absurd hk y, h2.cap, h2.text, h2.list⟩
  unfold RC.chk
  rw [if_pos h1, if_pos h4]
  unfold RC.fieldE
  rw [if_neg (show ¬ r.kind = 1 by omega), if_neg (show ¬ r.kind = 4 by omega), if_pos hk, if_pos hx]
theorem text_chk {r : RC.Rc} (h : RC.chk r = 0) (hk : r.kind = 1) (s : ByteArray) (hs : s.size ≤ 64) : RC.chk { r with text := s } = 0 := by
  obtain ⟨h1, h2, h3⟩ := RC.chk_zero h
  have h4 : RC.clean { r with text := s } = true := (RC.clean_iff _).2 ⟨h2.num, h2.low, h2.high, h2.real, h2.cap, fun y => absurd hk y, h2.list⟩
  unfold RC.chk
  rw [if_pos h1, if_pos h4]
  unfold RC.fieldE
  rw [if_pos hk, if_neg (show ¬ 64 < s.size by omega)]
theorem at_no {l : List RC.It} {x y : RC.It} (h : RU.at_ l x = false) (hy : l[RU.find l x]? = some y) : RC.better x y = true := by
  unfold RU.at_ at h
  rw [hy] at h
  simpa using h
theorem joined_chk {r : RC.Rc} {a : AC.Ac} (hr : r.ok) (h : RC.chk r = 0) (hk : r.kind = 8) (hs : a.s.size ≤ 16) (hf : RU.at_ r.list ⟨0, a.s⟩ = true ∨ (r.list.length : Int) < r.cap) : RC.chk (RU.joined r a) = 0 := by
  have hm := RC.chk_may hr h
  obtain ⟨hi, hl⟩ := list_of h (.inl hk)
  unfold RU.joined
  split
  · exact h
  · rename_i hat
    have hat' : RU.at_ r.list ⟨0, a.s⟩ = false := by simpa using hat
    have h0 : ∀ y ∈ r.list, y.score = 0 := fun y hy => (hm.items y hy).2.2 hk
    refine list_chk h (.inl hk) _ ?_ ?_
    · rw [hk] at hi ⊢
      refine RU.itemsE_lay _ _ hi ⟨hs, by unfold RC.fits; rw [if_pos rfl]; exact RC.same_refl 0⟩ (fun y hy hb => ?_) (fun y hy => ?_)
      · obtain ⟨ys, yn⟩ := y
        have : ys = 0 := h0 _ hy
        subst this
        rw [RU.better0] at hb
        unfold RC.ahead
        simpa using hb
      · have hb := at_no hat' hy
        have hy0 := h0 y (List.mem_of_getElem? hy)
        obtain ⟨ys, yn⟩ := y
        have : ys = 0 := hy0
        subst this
        rw [RU.better0] at hb
        unfold RC.ahead
        simpa using hb
    · rw [RU.lay_len]
      rcases hf with hf | hf
      · exact absurd hf hat
      · push_cast; omega
theorem left_chk {r : RC.Rc} {a : AC.Ac} (h : RC.chk r = 0) (hk : r.kind = 8) : RC.chk (RU.left r a) = 0 := by
  obtain ⟨hi, hl⟩ := list_of h (.inl hk)
  unfold RU.left
  split
  · refine list_chk h (.inl hk) _ ?_ ?_
    · rw [hk] at hi ⊢
      refine RU.itemsE_lose _ _ hi (fun u v z _ _ _ h1 h2 => ?_)
      unfold RC.ahead at h1 h2 ⊢
      simp only [if_true] at h1 h2 ⊢
      exact RC.strLt_trans h1 h2
    · have := RU.lose_len r.list ⟨0, a.s⟩
      omega
  · exact h
theorem offered_chk {r : RC.Rc} {a : AC.Ac} (h : RC.chk r = 0) (hk : r.kind = 9) (hs : a.s.size ≤ 16) (hx : MF.proper a.x = true) : RC.chk (RU.offered r a) = 0 := by
  obtain ⟨hi, hl⟩ := list_of h (.inr hk)
  unfold RU.offered
  split
  · exact h
  · rename_i hat
    have hat' : RU.at_ r.list ⟨a.x, a.s⟩ = false := by simpa using hat
    have hlay : RC.itemsE r.kind none (RU.lay r.list ⟨a.x, a.s⟩) = 0 := by
      rw [hk] at hi ⊢
      refine RU.itemsE_lay _ _ hi ⟨hs, by unfold RC.fits; rw [if_neg (by omega)]; exact hx⟩ (fun y hy hb => ?_) (fun y hy => ?_)
      · unfold RC.ahead; rw [if_neg (by omega)]; exact hb
      · unfold RC.ahead; rw [if_neg (by omega)]; exact at_no hat' hy
    split
    · refine list_chk h (.inr hk) _ hlay ?_
      rw [RU.lay_len]; push_cast; omega
    · refine list_chk h (.inr hk) _ ?_ ?_
      · have h1 : RU.lay r.list ⟨a.x, a.s⟩ = (RU.lay r.list ⟨a.x, a.s⟩).take r.cap.toNat ++ (RU.lay r.list ⟨a.x, a.s⟩).drop r.cap.toNat := (List.take_append_drop _ _).symm
        rw [h1, RU.itemsE_append] at hlay
        exact hlay.1
      · rw [List.length_take]
        have := (RC.chk_zero h).2.2
        omega
theorem refE_kind {q : RC.Rc} {a : AC.Ac} (h : refE q true a = 0) : kindE q.kind a.kind = 0 := by
  rw [refE_both (refE_act h) (refE_rec h)] at h
  exact h
theorem refE_none {q : RC.Rc} {a : AC.Ac} (h : refE q false a = 0) : a.kind = 1 ∨ a.kind = 3 := by
  have h1 := refE_act h
  unfold refE at h
  rw [if_neg (by simp [h1])] at h
  have h : noneE a.kind = 0 := h
  unfold noneE at h
  split at h
  · assumption
  · cases h
/-- What is there may be, or there is none. -/
structure Keeps (q : RC.Rc) (t : Bool) : Prop where
  ok : q.ok
  yes : t = true → RC.chk q = 0
  no : t = false → q = RC.zero
theorem Keeps.own {q : RC.Rc} {t : Bool} (h : Keeps q t) : ownR q t = q := by
  cases t
  · exact (h.no rfl).symm
  · rfl
theorem Keeps.there {q : RC.Rc} {t : Bool} (h : Keeps q t) : (q.kind != 0) = t := by
  cases t
  · rw [h.no rfl]; rfl
  · simpa using known_ne (h.yes rfl)
theorem doR_keeps {q : RC.Rc} {t : Bool} {a : AC.Ac} (h : Keeps q t) (ha : a.ok) (hE : refE q t a = 0) : ((RU.doR q a).1.kind ≠ 0 → RC.chk (RU.doR q a).1 = 0) ∧ ((RU.doR q a).1.kind = 0 → (RU.doR q a).1 = RC.zero) := by
  have hm := AC.chk_may ha (refE_act hE)
  have hkn := hm.known
  by_cases k1 : a.kind = 1
  · have hd : RU.doR q a = (a.make, RU.err 0) := by unfold RU.doR; simp [k1]
    have hc := hm.made (by unfold AC.hasM; simp [k1])
    rw [hd]
    exact ⟨fun _ => hc, fun h0 => absurd h0 (known_ne hc)⟩
  by_cases k2 : a.kind = 2
  · have hd : RU.doR q a = (RC.zero, RU.err 0) := by unfold RU.doR; simp [k2]
    rw [hd]
    exact ⟨fun h0 => absurd rfl h0, fun _ => rfl⟩
  have hself : (q.kind ≠ 0 → RC.chk q = 0) ∧ (q.kind = 0 → q = RC.zero) := by
    cases t
    · rw [h.no rfl]; exact ⟨fun h0 => absurd rfl h0, fun _ => rfl⟩
    · exact ⟨fun _ => h.yes rfl, fun h0 => absurd h0 (known_ne (h.yes rfl))⟩
  by_cases k3 : a.kind = 3
  · have hd : RU.doR q a = (q, ⟨0, q.kind, RC.zero⟩) := by unfold RU.doR; simp [k3]
    rw [hd]
    exact hself
  have ht : t = true := by
    cases t
    · rcases refE_none hE with h1 | h1
      · exact absurd h1 k1
      · exact absurd h1 k3
    · rfl
  subst ht
  have hc := h.yes rfl
  have hK := refE_kind hE
  have hone : ∀ p : RC.Rc, RC.chk p = 0 → (p.kind ≠ 0 → RC.chk p = 0) ∧ (p.kind = 0 → p = RC.zero) := fun p hp => ⟨fun _ => hp, fun h0 => absurd h0 (known_ne hp)⟩
  refine hone _ ?_
  have hk18 : a.kind = 4 ∨ a.kind = 5 ∨ a.kind = 6 ∨ a.kind = 7 ∨ a.kind = 8 ∨ a.kind = 9 ∨ a.kind = 10 ∨ a.kind = 11 ∨ a.kind = 12 ∨ a.kind = 13 ∨ a.kind = 14 ∨ a.kind = 15 ∨ a.kind = 16 ∨ a.kind = 17 ∨ a.kind = 18 ∨ a.kind = 19 ∨ a.kind = 20 ∨ a.kind = 21 := by omega
  rcases hk18 with hk | hk | hk | hk | hk | hk | hk | hk | hk | hk | hk | hk | hk | hk | hk | hk | hk | hk
  · have hd : RU.doR q a = (q, ⟨0, 0, q⟩) := by unfold RU.doR; simp [hk]
    rw [hd]; exact hc
  · have hd : RU.doR q a = ({ q with text := a.s }, RU.err 0) := by unfold RU.doR; simp [hk]
    rw [hk] at hK
    have hs := hm.most
    rw [hk] at hs
    rw [hd]
    exact text_chk hc (kindE_on (o := 1) (by omega) rfl (by omega) hK) _ hs
  · have hd : RU.doR q a = ({ q with text := a.s }, ⟨0, 0, q⟩) := by unfold RU.doR; simp [hk]
    rw [hk] at hK
    have hs := hm.most
    rw [hk] at hs
    rw [hd]
    exact text_chk hc (kindE_on (o := 1) (by omega) rfl (by omega) hK) _ hs
  · have hd : RU.doR q a = ({ q with num := RU.w64 (q.num + a.n) }, RU.err 0) := by unfold RU.doR; simp [hk]
    rw [hk] at hK
    rw [hd]
    exact num_chk hc (.inl (kindE_on (o := 2) (by omega) rfl (by omega) hK)) _
  · have hd : RU.doR q a = if RU.plusOver q a.n = true then (q, RU.err 9) else ({ q with num := RU.w64 (q.num + a.n) }, RU.err 0) := by unfold RU.doR; simp [hk]
    rw [hk] at hK
    rw [hd]
    split
    · exact hc
    · exact num_chk hc (.inr (kindE_on (o := 3) (by omega) rfl (by omega) hK)) _
  · have hd : RU.doR q a = if a.n ≤ q.num then (q, RU.err 0) else (q, RU.err 11) := by unfold RU.doR; simp [hk]
    rw [hd]
    split <;> exact hc
  · have hd : RU.doR q a = if q.high < RU.w64 (q.num + a.n) then (q, RU.err 9) else ({ q with num := RU.w64 (q.num + a.n) }, RU.err 0) := by unfold RU.doR; simp [hk]
    rw [hk] at hK
    have hk4 := kindE_on (o := 4) (by omega) rfl (by omega) hK
    have b1 := purse_bd hc hk4
    have b2 : 0 ≤ a.n ∧ a.n ≤ 2305843009213693952 := amount_bd (key := a.key) (x := a.x) (s := a.s) (m := a.make) (must := a.must) (.inl hk) (refE_act hE)
    rw [hd]
    split
    · exact hc
    · rename_i ho
      refine purse_chk hc hk4 _ ⟨?_, by omega⟩
      unfold RU.w64 wrap64
      omega
  · have hd : RU.doR q a = if RU.w64 (q.num - a.n) < q.low then (q, RU.err 10) else ({ q with num := RU.w64 (q.num - a.n) }, RU.err 0) := by unfold RU.doR; simp [hk]
    rw [hk] at hK
    have hk4 := kindE_on (o := 4) (by omega) rfl (by omega) hK
    have b1 := purse_bd hc hk4
    have b2 : 0 ≤ a.n ∧ a.n ≤ 2305843009213693952 := amount_bd (key := a.key) (x := a.x) (s := a.s) (m := a.make) (must := a.must) (.inr hk) (refE_act hE)
    rw [hd]
    split
    · exact hc
    · rename_i ho
      refine purse_chk hc hk4 _ ⟨by omega, ?_⟩
      unfold RU.w64 wrap64
      omega
  · have hd : RU.doR q a = if a.n ≤ q.num then (q, RU.err 0) else (q, RU.err 11) := by unfold RU.doR; simp [hk]
    rw [hd]
    split <;> exact hc
  · have hd : RU.doR q a = ({ q with real := MF.mx q.real a.x }, RU.err 0) := by unfold RU.doR; simp [hk]
    rw [hk] at hK
    have hk4 := kindE_on (o := 5) (by omega) rfl (by omega) hK
    rw [hd]
    exact real_chk hc (by omega) _ (MF.proper_mx _ _)
  · have hd : RU.doR q a = ({ q with real := MF.mn q.real a.x }, RU.err 0) := by unfold RU.doR; simp [hk]
    rw [hk] at hK
    have hk4 := kindE_on (o := 6) (by omega) rfl (by omega) hK
    rw [hd]
    exact real_chk hc (by omega) _ (MF.proper_mn _ _)
  · have hd : RU.doR q a = ({ q with real := MF.plus q.real a.x }, RU.err 0) := by unfold RU.doR; simp [hk]
    rw [hk] at hK
    have hk4 := kindE_on (o := 7) (by omega) rfl (by omega) hK
    rw [hd]
    exact real_chk hc (by omega) _ (MF.proper_canonO _)
  · have hd : RU.doR q a = ({ q with real := MF.times q.real a.x }, RU.err 0) := by unfold RU.doR; simp [hk]
    rw [hk] at hK
    have hk4 := kindE_on (o := 7) (by omega) rfl (by omega) hK
    rw [hd]
    exact real_chk hc (by omega) _ (MF.proper_canonO _)
  · have hd : RU.doR q a = ({ q with real := a.x }, RU.err 0) := by unfold RU.doR; simp [hk]
    rw [hk] at hK
    have hk4 := kindE_on (o := 7) (by omega) rfl (by omega) hK
    rw [hd]
    exact real_chk hc (by omega) _ hm.proper
  · have hd : RU.doR q a = if RU.at_ q.list ⟨0, a.s⟩ = true ∨ (q.list.length : Int) < q.cap then (RU.joined q a, RU.err 0) else (q, RU.err 8) := by unfold RU.doR; simp [hk]
    rw [hk] at hK
    have hs := hm.most
    rw [hk] at hs
    rw [hd]
    split
    · rename_i hf; exact joined_chk h.ok hc (kindE_on (o := 8) (by omega) rfl (by omega) hK) hs hf
    · exact hc
  · have hd : RU.doR q a = (RU.left q a, RU.err 0) := by unfold RU.doR; simp [hk]
    rw [hk] at hK
    rw [hd]
    exact left_chk hc (kindE_on (o := 8) (by omega) rfl (by omega) hK)
  · have hd : RU.doR q a = if RU.at_ q.list ⟨0, a.s⟩ = true then (q, RU.err 0) else (q, RU.err 11) := by unfold RU.doR; simp [hk]
    rw [hd]
    split <;> exact hc
  · have hd : RU.doR q a = (RU.offered q a, RU.err 0) := by unfold RU.doR; simp [hk]
    rw [hk] at hK
    have hs := hm.most
    rw [hk] at hs
    rw [hd]
    exact offered_chk hc (kindE_on (o := 9) (by omega) rfl (by omega) hK) hs hm.proper
theorem doR_code {q : RC.Rc} {a : AC.Ac} : (RU.doR q a).2.code ≠ 0 → (RU.doR q a).1 = q ∧ (RU.doR q a).2 = RU.err (RU.doR q a).2.code :=
  doR_all (P := fun x => x.2.code ≠ 0 → x.1 = q ∧ x.2 = RU.err x.2.code) (fun _ _ => ⟨rfl, rfl⟩) (fun h => absurd rfl h) (fun h => absurd rfl h) (fun h => absurd rfl h) (fun h => absurd rfl h) (fun h => absurd rfl h) (fun h => absurd rfl h) (fun h => absurd rfl h) (fun h => absurd rfl h) (fun h => absurd rfl h) (fun h => absurd rfl h) (fun h => absurd rfl h) (fun h => absurd rfl h) (fun h => absurd rfl h) (fun h => absurd rfl h) (fun h => absurd rfl h) (fun h => absurd rfl h) (fun h => absurd rfl h) (fun h => absurd rfl h)
theorem doR_reads {q : RC.Rc} {a : AC.Ac} (hk : 0 < a.kind ∧ a.kind < 22) (h : (rowAt a.kind).reads = true) : (RU.doR q a).1 = q := by
  have h5 : a.kind = 3 ∨ a.kind = 4 ∨ a.kind = 9 ∨ a.kind = 12 ∨ a.kind = 20 := by
    have h21 : a.kind = 1 ∨ a.kind = 2 ∨ a.kind = 3 ∨ a.kind = 4 ∨ a.kind = 5 ∨ a.kind = 6 ∨ a.kind = 7 ∨ a.kind = 8 ∨ a.kind = 9 ∨ a.kind = 10 ∨ a.kind = 11 ∨ a.kind = 12 ∨ a.kind = 13 ∨ a.kind = 14 ∨ a.kind = 15 ∨ a.kind = 16 ∨ a.kind = 17 ∨ a.kind = 18 ∨ a.kind = 19 ∨ a.kind = 20 ∨ a.kind = 21 := by omega
    rcases h21 with e | e | e | e | e | e | e | e | e | e | e | e | e | e | e | e | e | e | e | e | e <;> rw [e] at h <;> first | (exfalso; revert h; decide +kernel) | omega
  unfold RU.doR
  rcases h5 with e | e | e | e | e
  · simp [e]
  · simp [e]
  · simp [e]; split <;> rfl
  · simp [e]; split <;> rfl
  · simp [e]; split <;> rfl
/-- Records stay records. -/
theorem keeps_plain {q : RC.Rc} {t : Bool} {a : AC.Ac} (h : Keeps q t) (ha : a.ok) :
    Keeps (RU.apply q t a).1 (RU.apply q t a).2.1 ∧ ((RU.apply q t a).2.2.code ≠ 0 ∨ (rowAt a.kind).reads = true → (RU.apply q t a).2.1 = t ∧ (RU.apply q t a).1 = q) ∧ ((RU.apply q t a).2.2.code ≠ 0 → (RU.apply q t a).2.2 = RU.err (RU.apply q t a).2.2.code) := by
  have hok := apply_ok (there := t) h.ok ha
  by_cases hE : refE q t a = 0
  · have e1 : RU.apply q t a = ((RU.doR q a).1, (RU.doR q a).1.kind != 0, (RU.doR q a).2) := by
      unfold RU.apply
      rw [h.own, if_pos hE]
    rw [e1] at hok ⊢
    have hk := doR_keeps h ha hE
    refine ⟨⟨hok.1, fun h1 => hk.1 (by simpa using h1), fun h1 => hk.2 (by simpa using h1)⟩, fun h1 => ?_, fun h1 => (doR_code h1).2⟩
    have hp : (RU.doR q a).1 = q := by
      rcases h1 with h1 | h1
      · exact (doR_code h1).1
      · exact doR_reads (AC.chk_may ha (refE_act hE)).known h1
    show ((RU.doR q a).1.kind != 0) = t ∧ (RU.doR q a).1 = q
    rw [hp]
    exact ⟨h.there, rfl⟩
  · have e1 : RU.apply q t a = (q, t, RU.err (refE q t a)) := by
      unfold RU.apply
      rw [h.own, if_neg hE]
    rw [e1]
    exact ⟨h, fun _ => ⟨rfl, rfl⟩, fun _ => rfl⟩
end Go.Proofs.YtlpecaldodganaaGreatDoor
namespace RU
open Go Go.RowKit RC
theorem strLt_tri {a b : ByteArray} (h1 : strLt a b = false) (h2 : strLt b a = false) : a = b := by
  have h1' : ¬ a.data.toList < b.data.toList := fun x => by rw [(strLt_iff a b).2 x] at h1; cases h1
  have h2' : ¬ b.data.toList < a.data.toList := fun x => by rw [(strLt_iff b a).2 x] at h2; cases h2
  have h : a.data.toList = b.data.toList := List.le_antisymm h2' h1'
  cases a; cases b
  simpa using h
def sameK (y x : It) : Bool := strEq y.name x.name && MF.same y.score x.score
theorem sameK_of {x y : It} (h : better y x = false) : sameK y x = !better x y := by
  cases h2 : better x y
  · unfold better at h h2
    unfold sameK
    cases hs : MF.same y.score x.score
    · rw [if_neg (by rw [hs]; simp)] at h
      rw [if_neg (by rw [RC.same_comm, hs]; simp)] at h2
      unfold MF.less at h h2
      unfold MF.same at hs
      simp at h h2 hs
      omega
    · rw [if_pos hs] at h
      rw [if_pos (by rw [RC.same_comm]; exact hs)] at h2
      rw [strLt_tri h h2, strEq_refl]
      rfl
  · unfold sameK
    cases hs : MF.same y.score x.score
    · simp
    · unfold better at h2
      rw [if_pos (by rw [RC.same_comm]; exact hs)] at h2
      cases he : strEq y.name x.name
      · rfl
      · rw [(strEq_iff _ _).1 he, strLt_irrefl] at h2
        cases h2
/-- A list with an item more, as the document says it. -/
def laidG (ah sm : It → Bool) (x : It) : List It → Bool → List It
  | [], d => if d then [] else [x]
  | y :: l, d => if !d && !ah y then (if sm y then y :: laidG ah sm x l true else x :: y :: laidG ah sm x l true) else y :: laidG ah sm x l d
theorem laidG_done (ah sm : It → Bool) (x : It) : ∀ l, laidG ah sm x l true = l
  | [] => rfl
  | y :: l => by
    show (if !true && !ah y then _ else y :: laidG ah sm x l true) = _
    rw [laidG_done ah sm x l]
    simp
theorem laid_better (x : It) : ∀ l, laidG (fun y => better y x) (fun y => sameK y x) x l false = if at_ l x then l else lay l x
  | [] => rfl
  | y :: l => by
    show (if !false && !better y x then (if sameK y x then y :: laidG _ _ x l true else x :: y :: laidG _ _ x l true) else y :: laidG _ _ x l false) = _
    rw [laidG_done]
    cases hb : better y x
    · have hf : find (y :: l) x = 0 := by show (if better y x then _ else 0) = 0; rw [hb]; rfl
      have ha : at_ (y :: l) x = !better x y := by unfold at_; rw [hf]; rfl
      have hl : lay (y :: l) x = x :: y :: l := by unfold lay; rw [hf]; rfl
      rw [ha, hl, sameK_of hb]
      rfl
    · have hf : find (y :: l) x = find l x + 1 := by show (if better y x then find l x + 1 else 0) = _; rw [hb]; rfl
      have ha : at_ (y :: l) x = at_ l x := by unfold at_; rw [hf]; rfl
      have hl : lay (y :: l) x = y :: lay l x := by unfold lay; rw [hf]; rfl
      rw [ha, hl, laid_better x l]
      cases at_ l x <;> rfl
theorem sorted_rest : ∀ (l : List It) (y : It), itemsE 8 (some y) l = 0 → ∀ z ∈ l, strLt y.name z.name = true
  | [], _, _, z, hz => by cases hz
  | u :: l, y, h, z, hz => by
    rw [itemsE_cons] at h
    have hyu : strLt y.name u.name = true := by
      have := (itemE_ok h.1).2
      unfold follows RC.ahead at this
      simpa using this
    rcases List.mem_cons.1 hz with rfl | hz
    · exact hyu
    · exact strLt_trans hyu (sorted_rest l u h.2 z hz)
theorem strEq_lt {a b : ByteArray} (h : strLt a b = true) : strEq a b = false := by
  cases he : strEq a b
  · rfl
  · rw [(strEq_iff a b).1 he, strLt_irrefl] at h; cases h
/-- Of a list in order, of whose items none has a score: has it a name; what is left without it. -/
theorem has_sorted (s : ByteArray) : ∀ (l : List It) (p : Option It), (∀ y ∈ l, y.score = 0) → itemsE 8 p l = 0 → (l.any fun x => strEq x.name s) = at_ l ⟨0, s⟩
  | [], _, _, _ => rfl
  | y :: l, p, h0, h => by
    rw [itemsE_cons] at h
    have ih := has_sorted s l (some y) (fun z hz => h0 z (List.mem_cons_of_mem _ hz)) h.2
    have hy0 := h0 y (List.mem_cons_self ..)
    obtain ⟨ys, yn⟩ := y
    have hy0 : ys = 0 := hy0
    subst hy0
    rw [List.any_cons]
    cases hb : strLt yn s
    · have hf : find (⟨0, yn⟩ :: l) ⟨0, s⟩ = 0 := by show (if better ⟨0, yn⟩ ⟨0, s⟩ then _ else 0) = 0; rw [better0, hb]; rfl
      have ha : at_ (⟨0, yn⟩ :: l) ⟨0, s⟩ = !strLt s yn := by unfold at_; rw [hf]; show (!better ⟨0, s⟩ ⟨0, yn⟩) = _; rw [better0]
      rw [ha]
      cases hs : strLt s yn
      · rw [strLt_tri hb hs, strEq_refl]; rfl
      · show (strEq yn s || _) = false
        rw [RC.strEq_comm, strEq_lt hs, Bool.false_or, List.any_eq_false]
        intro z hz
        rw [RC.strEq_comm, strEq_lt (strLt_trans hs (sorted_rest l ⟨0, yn⟩ h.2 z hz))]
        simp
    · have hf : find (⟨0, yn⟩ :: l) ⟨0, s⟩ = find l ⟨0, s⟩ + 1 := by show (if better ⟨0, yn⟩ ⟨0, s⟩ then _ else 0) = _; rw [better0, hb]; rfl
      have ha : at_ (⟨0, yn⟩ :: l) ⟨0, s⟩ = at_ l ⟨0, s⟩ := by unfold at_; rw [hf]; rfl
      rw [ha, ih]
      show (strEq yn s || _) = _
      rw [strEq_lt hb, Bool.false_or]
theorem filter_sorted (s : ByteArray) : ∀ (l : List It) (p : Option It), (∀ y ∈ l, y.score = 0) → itemsE 8 p l = 0 → (l.filter fun x => !strEq x.name s) = if at_ l ⟨0, s⟩ then lose l ⟨0, s⟩ else l
  | [], _, _, _ => rfl
  | y :: l, p, h0, h => by
    rw [itemsE_cons] at h
    have ih := filter_sorted s l (some y) (fun z hz => h0 z (List.mem_cons_of_mem _ hz)) h.2
    have hy0 := h0 y (List.mem_cons_self ..)
    obtain ⟨ys, yn⟩ := y
    have hy0 : ys = 0 := hy0
    subst hy0
    have hall : strLt s yn = true ∨ yn = s → l.filter (fun x => !strEq x.name s) = l := fun hs => by
      rw [List.filter_eq_self]
      intro z hz
      have h1 := sorted_rest l ⟨0, yn⟩ h.2 z hz
      have h2 : strLt s z.name = true := by
        rcases hs with hs | hs
        · exact strLt_trans hs h1
        · rw [← hs]; exact h1
      rw [RC.strEq_comm, strEq_lt h2]
      rfl
    rw [List.filter_cons]
    cases hb : strLt yn s
    · have hf : find (⟨0, yn⟩ :: l) ⟨0, s⟩ = 0 := by show (if better ⟨0, yn⟩ ⟨0, s⟩ then _ else 0) = 0; rw [better0, hb]; rfl
      have ha : at_ (⟨0, yn⟩ :: l) ⟨0, s⟩ = !strLt s yn := by unfold at_; rw [hf]; show (!better ⟨0, s⟩ ⟨0, yn⟩) = _; rw [better0]
      have hl : lose (⟨0, yn⟩ :: l) ⟨0, s⟩ = l := by unfold lose; rw [hf]; rfl
      rw [ha, hl]
      cases hs : strLt s yn
      · have he := strLt_tri hb hs
        rw [if_neg (by rw [he, strEq_refl]; simp), hall (.inr he)]
        rfl
      · rw [if_pos (by rw [RC.strEq_comm, strEq_lt hs]; rfl), hall (.inl hs)]
        rfl
    · have hf : find (⟨0, yn⟩ :: l) ⟨0, s⟩ = find l ⟨0, s⟩ + 1 := by show (if better ⟨0, yn⟩ ⟨0, s⟩ then _ else 0) = _; rw [better0, hb]; rfl
      have ha : at_ (⟨0, yn⟩ :: l) ⟨0, s⟩ = at_ l ⟨0, s⟩ := by unfold at_; rw [hf]; rfl
      have hl : lose (⟨0, yn⟩ :: l) ⟨0, s⟩ = ⟨0, yn⟩ :: lose l ⟨0, s⟩ := by unfold lose; rw [hf]; rfl
      rw [ha, hl, if_pos (by rw [strEq_lt hb]; rfl), ih]
      cases at_ l ⟨0, s⟩ <;> rfl
end RU
namespace RU
open Go Go.RowKit RC
theorem better_iff (a b : It) : better a b = true ↔ (MF.key b.score < MF.key a.score ∨ (MF.key a.score = MF.key b.score ∧ strLt a.name b.name = true)) := by
  unfold better MF.same MF.less
  by_cases h : MF.key a.score = MF.key b.score
  · rw [if_pos (by simpa using h)]
    constructor
    · exact fun x => .inr ⟨h, x⟩
    · rintro (x | x)
      · omega
      · exact x.2
  · rw [if_neg (by simpa using h)]
    constructor
    · exact fun x => .inl (of_decide_eq_true x)
    · rintro (x | x)
      · exact decide_eq_true x
      · exact absurd x.1 h
theorem better_trans {a b c : It} (h : better a b = true) (k : better b c = true) : better a c = true := by
  rw [better_iff] at *
  rcases h with h | ⟨h, h'⟩ <;> rcases k with k | ⟨k, k'⟩
  · exact .inl (by omega)
  · exact .inl (by omega)
  · exact .inl (by omega)
  · exact .inr ⟨by omega, strLt_trans h' k'⟩
theorem better_asymm {a b : It} (h : better a b = true) : better b a = false := by
  cases hb : better b a
  · rfl
  · have := better_trans h hb
    rw [better_irrefl] at this
    cases this
theorem better_tri {a b : It} (h1 : better a b = false) (h2 : better b a = false) : MF.key a.score = MF.key b.score ∧ a.name = b.name := by
  have n1 := mt (better_iff a b).2 (by rw [h1]; simp)
  have n2 := mt (better_iff b a).2 (by rw [h2]; simp)
  have hk : MF.key a.score = MF.key b.score := by
    have x1 : ¬ MF.key b.score < MF.key a.score := fun x => n1 (.inl x)
    have x2 : ¬ MF.key a.score < MF.key b.score := fun x => n2 (.inl x)
    omega
  refine ⟨hk, strLt_tri ?_ ?_⟩
  · cases h : strLt a.name b.name
    · rfl
    · exact absurd (.inr ⟨hk, h⟩) n1
  · cases h : strLt b.name a.name
    · rfl
    · exact absurd (.inr ⟨hk.symm, h⟩) n2
theorem better_not {a b c : It} (h1 : better a b = false) (h2 : better b c = false) : better a c = false := by
  cases h : better a c
  · rfl
  · cases h3 : better b a
    · obtain ⟨k, n⟩ := better_tri h1 h3
      rw [better_iff] at h
      have : better b c = true := (better_iff b c).2 (by rw [← k, ← n]; exact h)
      rw [h2] at this
      cases this
    · have := better_trans h3 h
      rw [h2] at this
      cases this
/-- An item more, ahead of the first one that doesn't stand ahead of it; unless it is there. -/
def ins (x : It) : List It → List It
  | [] => [x]
  | y :: l => if better y x then y :: ins x l else if better x y then x :: y :: l else y :: l
theorem ins_eq (x : It) : ∀ l, ins x l = if at_ l x then l else lay l x
  | [] => rfl
  | y :: l => by
    show (if better y x then y :: ins x l else if better x y then x :: y :: l else y :: l) = _
    cases hb : better y x
    · have hf : find (y :: l) x = 0 := by show (if better y x then _ else 0) = 0; rw [hb]; rfl
      have ha : at_ (y :: l) x = !better x y := by unfold at_; rw [hf]; rfl
      have hl : lay (y :: l) x = x :: y :: l := by unfold lay; rw [hf]; rfl
      rw [ha, hl]
      cases better x y <;> rfl
    · have hf : find (y :: l) x = find l x + 1 := by show (if better y x then find l x + 1 else 0) = _; rw [hb]; rfl
      have ha : at_ (y :: l) x = at_ l x := by unfold at_; rw [hf]; rfl
      have hl : lay (y :: l) x = y :: lay l x := by unfold lay; rw [hf]; rfl
      rw [ha, hl, ins_eq x l]
      cases at_ l x <;> rfl
theorem ins_take (x : It) : ∀ (l : List It) (n : Nat), (ins x (l.take n)).take n = (ins x l).take n
  | _, 0 => by simp
  | [], n + 1 => by simp
  | y :: l, n + 1 => by
    rw [List.take_succ_cons]
    show (if better y x then y :: ins x (l.take n) else if better x y then x :: y :: l.take n else y :: l.take n).take (n + 1) = (if better y x then y :: ins x l else if better x y then x :: y :: l else y :: l).take (n + 1)
    cases better y x
    · cases better x y
      · simp [List.take_take]
      · cases n with
        | zero => simp
        | succ m => simp [List.take_take]
    · show (y :: ins x (l.take n)).take (n + 1) = (y :: ins x l).take (n + 1)
      rw [List.take_succ_cons, List.take_succ_cons, ins_take x l n]
structure Good (x : It) : Prop where
  w : MF.W64 x.score
  p : MF.proper x.score = true
theorem Good.eq {x y : It} (hx : Good x) (hy : Good y) (h1 : better x y = false) (h2 : better y x = false) : x = y := by
  obtain ⟨k, n⟩ := better_tri h1 h2
  have hs := RC.same_proper hx.w hy.w hx.p hy.p (MF.same_of k)
  cases x; cases y
  simp at hs n
  rw [hs, n]
theorem ins_nil (x : It) : ins x [] = [x] := rfl
theorem ins_cons (x y : It) (l : List It) : ins x (y :: l) = if better y x then y :: ins x l else if better x y then x :: y :: l else y :: l := rfl
theorem ins_ahead {x y : It} (l : List It) (h : better y x = true) : ins x (y :: l) = y :: ins x l := by rw [ins_cons, if_pos h]
theorem ins_first {x y : It} (l : List It) (h : better x y = true) : ins x (y :: l) = x :: y :: l := by rw [ins_cons, if_neg (by rw [better_asymm h]; simp), if_pos h]
theorem ins_there {x y : It} (l : List It) (h : better y x = false) (h' : better x y = false) : ins x (y :: l) = y :: l := by rw [ins_cons, if_neg (by rw [h]; simp), if_neg (by rw [h']; simp)]
theorem ins_comm1 {x y : It} (hxy : better x y = true) : ∀ l, ins y (ins x l) = ins x (ins y l)
  | [] => by rw [ins_nil, ins_nil, ins_ahead _ hxy, ins_first _ hxy]; rfl
  | z :: m => by
    have ih := ins_comm1 hxy m
    cases a1 : better z x
    · -- z isn't ahead of x
      cases a2 : better x z
      · -- x stands there
        rw [ins_there m a1 a2]
        have b1 : better z y = true := by
          cases h : better z y
          · have := better_not a2 h
            rw [hxy] at this
            cases this
          · rfl
        rw [ins_ahead m b1, ins_there _ a1 a2]
      · rw [ins_first m a2, ins_ahead _ hxy]
        cases b1 : better z y
        · cases b2 : better y z
          · rw [ins_there m b1 b2, ins_first m a2]
          · rw [ins_first m b2, ins_first _ hxy]
        · rw [ins_ahead m b1, ins_first _ a2]
    · have b1 := better_trans a1 hxy
      rw [ins_ahead m a1, ins_ahead m b1, ins_ahead _ b1, ins_ahead _ a1, ih]
theorem ins_comm {x y : It} (hx : Good x) (hy : Good y) (l : List It) : ins y (ins x l) = ins x (ins y l) := by
  cases h1 : better x y
  · cases h2 : better y x
    · rw [hx.eq hy h1 h2]
    · exact (ins_comm1 h2 l).symm
  · exact ins_comm1 h1 l
theorem mx_swap {a b c : Nat} (ha : MF.W64 a) (hb : MF.W64 b) (hc : MF.W64 c) : MF.mx (MF.mx a b) c = MF.mx (MF.mx a c) b :=
  RC.same_proper (MF.w_mx (MF.w_mx ha hb) hc) (MF.w_mx (MF.w_mx ha hc) hb) (MF.proper_mx _ _) (MF.proper_mx _ _) (MF.same_of (by rw [MF.key_mx, MF.key_mx, MF.key_mx, MF.key_mx]; omega))
theorem mn_swap {a b c : Nat} (ha : MF.W64 a) (hb : MF.W64 b) (hc : MF.W64 c) : MF.mn (MF.mn a b) c = MF.mn (MF.mn a c) b :=
  RC.same_proper (MF.w_mn (MF.w_mn ha hb) hc) (MF.w_mn (MF.w_mn ha hc) hb) (MF.proper_mn _ _) (MF.proper_mn _ _) (MF.same_of (by rw [MF.key_mn, MF.key_mn, MF.key_mn, MF.key_mn]; omega))
theorem w64_swap (a b c : Int) : w64 (w64 (a + b) + c) = w64 (w64 (a + c) + b) := by
  unfold w64 wrap64
  omega
end RU
namespace Go.Proofs.YtlpecaldodganaaGreatDoor
open Go.RowKit MM
theorem offered_ins {r : RC.Rc} {a : AC.Ac} (hc : (r.list.length : Int) ≤ r.cap) : RU.offered r a = { r with list := (RU.ins ⟨a.x, a.s⟩ r.list).take r.cap.toNat } := by
  unfold RU.offered
  rw [RU.ins_eq]
  cases h : RU.at_ r.list ⟨a.x, a.s⟩
  · by_cases hl : (r.list.length : Int) < r.cap
    · rw [if_neg (by simp), if_pos hl]
      have h1 := RU.lay_len r.list ⟨a.x, a.s⟩
      rw [if_neg (by simp), List.take_of_length_le (by omega)]
    · rw [if_neg (by simp), if_neg hl, if_neg (by simp)]
  · rw [if_pos rfl, if_pos rfl, List.take_of_length_le (by omega)]
theorem offered_swap {r : RC.Rc} {a b : AC.Ac} (hc : (r.list.length : Int) ≤ r.cap) (ha : RU.Good ⟨a.x, a.s⟩) (hb : RU.Good ⟨b.x, b.s⟩) : RU.offered (RU.offered r a) b = RU.offered (RU.offered r b) a := by
  have hn : (r.cap.toNat : Int) = r.cap := by omega
  rw [offered_ins hc, offered_ins hc, offered_ins (by show (((RU.ins _ r.list).take r.cap.toNat).length : Int) ≤ r.cap; rw [List.length_take]; omega), offered_ins (by show (((RU.ins _ r.list).take r.cap.toNat).length : Int) ≤ r.cap; rw [List.length_take]; omega)]
  show ({ r with list := (RU.ins _ ((RU.ins _ r.list).take r.cap.toNat)).take r.cap.toNat } : RC.Rc) = { r with list := (RU.ins _ ((RU.ins _ r.list).take r.cap.toNat)).take r.cap.toNat }
  rw [RU.ins_take, RU.ins_take, RU.ins_comm ha hb]
theorem left_filter {r : RC.Rc} {a : AC.Ac} (h0 : ∀ y ∈ r.list, y.score = 0) (hs : RC.itemsE 8 none r.list = 0) : RU.left r a = { r with list := r.list.filter fun x => !RC.strEq x.name a.s } := by
  rw [RU.filter_sorted a.s r.list none h0 hs]
  unfold RU.left
  cases RU.at_ r.list ⟨0, a.s⟩ <;> rfl
theorem left_swap {r : RC.Rc} {a b : AC.Ac} (h : RC.chk r = 0) (hr : r.ok) (hk : r.kind = 8) : RU.left (RU.left r a) b = RU.left (RU.left r b) a := by
  have hs := (list_of h (.inl hk)).1
  rw [hk] at hs
  have h0 : ∀ y ∈ r.list, y.score = 0 := fun y hy => (RC.fits_proper (hr.list y hy) ((RC.itemsE_zero hs y hy).2)).2 rfl
  have hone : ∀ c : AC.Ac, (∀ y ∈ (RU.left r c).list, y.score = 0) ∧ RC.itemsE 8 none (RU.left r c).list = 0 := fun c => by
    have h1 := left_chk (a := c) h hk
    have hk1 : (RU.left r c).kind = 8 := by rw [left_filter h0 hs]; exact hk
    have h2 := (list_of h1 (.inl hk1)).1
    rw [hk1] at h2
    refine ⟨fun y hy => h0 y ?_, h2⟩
    rw [left_filter h0 hs] at hy
    exact (List.mem_filter.1 hy).1
  rw [left_filter (hone a).1 (hone a).2, left_filter (hone b).1 (hone b).2, left_filter h0 hs, left_filter h0 hs]
  show ({ r with list := _ } : RC.Rc) = { r with list := _ }
  rw [List.filter_filter, List.filter_filter]
  congr 2
  funext x
  exact Bool.and_comm _ _
/-- Which kinds change places. -/
def RU.reads6 (k : Int) : Bool := k == 3 || k == 4 || k == 9 || k == 12 || k == 20
def RU.kinds6 (k l : Int) : Bool :=
  if k < 3 ∨ 21 < k ∨ l < 3 ∨ 21 < l then false
  else if (RU.reads6 k && RU.reads6 l) = true then true
  else if k = 3 ∨ l = 3 then true
  else if k = 4 ∨ l = 4 then false
  else if (rowAt k).on ≠ (rowAt l).on then true
  else k == l && (k == 7 || k == 13 || k == 14 || k == 19 || k == 21)
/-- Two acts come to the same, whichever is first. -/
structure Swaps (q : RC.Rc) (t : Bool) (a b : AC.Ac) : Prop where
  rc : (RU.apply (RU.apply q t a).1 (RU.apply q t a).2.1 b).1 = (RU.apply (RU.apply q t b).1 (RU.apply q t b).2.1 a).1
  th : (RU.apply (RU.apply q t a).1 (RU.apply q t a).2.1 b).2.1 = (RU.apply (RU.apply q t b).1 (RU.apply q t b).2.1 a).2.1
  one : (RU.apply q t a).2.2 = (RU.apply (RU.apply q t b).1 (RU.apply q t b).2.1 a).2.2
  two : (RU.apply (RU.apply q t a).1 (RU.apply q t a).2.1 b).2.2 = (RU.apply q t b).2.2
theorem Swaps.symm {q : RC.Rc} {t : Bool} {a b : AC.Ac} (h : Swaps q t a b) : Swaps q t b a := ⟨h.rc.symm, h.th.symm, h.two.symm, h.one.symm⟩
/-- Why an act that may be isn't done to a record that may be, or to none. -/
def whyE (kind : Int) (t : Bool) (k : Int) : Nat := if t then kindE kind k else noneE k
theorem refE_why {q : RC.Rc} {t : Bool} {a : AC.Ac} (h : Keeps q t) (ca : AC.chk a = 0) : refE q t a = whyE q.kind t a.kind := by
  unfold refE whyE
  rw [if_neg (by simp [ca])]
  cases t
  · rfl
  · have h1 := h.yes rfl
    simp [h1]
theorem apply_why {q : RC.Rc} {t : Bool} {a : AC.Ac} (h : Keeps q t) (ca : AC.chk a = 0) : RU.apply q t a = if whyE q.kind t a.kind = 0 then ((RU.doR q a).1, (RU.doR q a).1.kind != 0, (RU.doR q a).2) else (q, t, RU.err (whyE q.kind t a.kind)) := by
  unfold RU.apply
  rw [h.own, refE_why h ca]
theorem doR_kind {q : RC.Rc} {a : AC.Ac} (hk : 3 ≤ a.kind) : (RU.doR q a).1.kind = q.kind := by
  have h1 : a.kind ≠ 1 := by omega
  have h2 : a.kind ≠ 2 := by omega
  have hj : (RU.joined q a).kind = q.kind := by unfold RU.joined; split <;> rfl
  have hl : (RU.left q a).kind = q.kind := by unfold RU.left; split <;> rfl
  have ho : (RU.offered q a).kind = q.kind := by
    unfold RU.offered
    split
    · rfl
    · split <;> rfl
  unfold RU.doR
  rw [if_neg h1, if_neg h2]
  by_cases k3 : a.kind = 3
  · rw [if_pos k3]
  rw [if_neg k3]
  by_cases k4 : a.kind = 4
  · rw [if_pos k4]
  rw [if_neg k4]
  by_cases k5 : a.kind = 5
  · rw [if_pos k5]
  rw [if_neg k5]
  by_cases k6 : a.kind = 6
  · rw [if_pos k6]
  rw [if_neg k6]
  by_cases k7 : a.kind = 7
  · rw [if_pos k7]
  rw [if_neg k7]
  by_cases k8 : a.kind = 8
  · rw [if_pos k8]; split <;> rfl
  rw [if_neg k8]
  by_cases k9 : a.kind = 9
  · rw [if_pos k9]; split <;> rfl
  rw [if_neg k9]
  by_cases k10 : a.kind = 10
  · rw [if_pos k10]; split <;> rfl
  rw [if_neg k10]
  by_cases k11 : a.kind = 11
  · rw [if_pos k11]; split <;> rfl
  rw [if_neg k11]
  by_cases k12 : a.kind = 12
  · rw [if_pos k12]; split <;> rfl
  rw [if_neg k12]
  by_cases k13 : a.kind = 13
  · rw [if_pos k13]
  rw [if_neg k13]
  by_cases k14 : a.kind = 14
  · rw [if_pos k14]
  rw [if_neg k14]
  by_cases k15 : a.kind = 15
  · rw [if_pos k15]
  rw [if_neg k15]
  by_cases k16 : a.kind = 16
  · rw [if_pos k16]
  rw [if_neg k16]
  by_cases k17 : a.kind = 17
  · rw [if_pos k17]
  rw [if_neg k17]
  by_cases k18 : a.kind = 18
  · rw [if_pos k18]; split
    · exact hj
    · rfl
  rw [if_neg k18]
  by_cases k19 : a.kind = 19
  · rw [if_pos k19]; exact hl
  rw [if_neg k19]
  by_cases k20 : a.kind = 20
  · rw [if_pos k20]; split <;> rfl
  rw [if_neg k20]
  by_cases k21 : a.kind = 21
  · rw [if_pos k21]; exact ho
  rw [if_neg k21]
theorem apply_same {q : RC.Rc} {t : Bool} {a : AC.Ac} (h : Keeps q t) (ca : AC.chk a = 0) (hk : 3 ≤ a.kind) : (RU.apply q t a).1.kind = q.kind ∧ (RU.apply q t a).2.1 = t := by
  rw [apply_why h ca]
  split
  · refine ⟨doR_kind hk, ?_⟩
    show ((RU.doR q a).1.kind != 0) = t
    rw [doR_kind hk]
    exact h.there
  · exact ⟨rfl, rfl⟩
/-- Where an act leaves all as it is, and answers by the kind alone, or by what the other one leaves as it is. -/
theorem swaps_idle {q : RC.Rc} {t : Bool} {a b : AC.Ac} (h1 : ∀ p s, (p = q ∧ s = t) ∨ (p = (RU.apply q t b).1 ∧ s = (RU.apply q t b).2.1) → (RU.apply p s a).1 = p ∧ (RU.apply p s a).2.1 = s ∧ (RU.apply p s a).2.2 = (RU.apply q t a).2.2) : Swaps q t a b := by
  obtain ⟨e1, e2, _⟩ := h1 q t (.inl ⟨rfl, rfl⟩)
  obtain ⟨f1, f2, f3⟩ := h1 _ _ (.inr ⟨rfl, rfl⟩)
  refine ⟨?_, ?_, f3.symm, ?_⟩
  · rw [e1, e2, f1]
  · rw [e1, e2, f2]
  · rw [e1, e2]
theorem swaps_refused {q : RC.Rc} {t : Bool} {a b : AC.Ac} (h : Keeps q t) (hb : b.ok) (ca : AC.chk a = 0) (cb : AC.chk b = 0) (kb : 3 ≤ b.kind) (hw : whyE q.kind t a.kind ≠ 0) : Swaps q t a b := by
  obtain ⟨s1, s2⟩ := apply_same h cb kb
  have hK := (keeps_plain h hb).1
  refine swaps_idle fun p s hps => ?_
  have hp : Keeps p s ∧ p.kind = q.kind ∧ s = t := by
    rcases hps with ⟨rfl, rfl⟩ | ⟨rfl, rfl⟩
    · exact ⟨h, rfl, rfl⟩
    · exact ⟨hK, s1, s2⟩
  rw [apply_why hp.1 ca, apply_why h ca, hp.2.1, hp.2.2, if_neg hw, if_neg hw]
  exact ⟨rfl, rfl, rfl⟩
theorem swaps_is {q : RC.Rc} {t : Bool} {a b : AC.Ac} (h : Keeps q t) (hb : b.ok) (ca : AC.chk a = 0) (cb : AC.chk b = 0) (ka : a.kind = 3) (kb : 3 ≤ b.kind) : Swaps q t a b := by
  obtain ⟨s1, s2⟩ := apply_same h cb kb
  have hK := (keeps_plain h hb).1
  refine swaps_idle fun p s hps => ?_
  have hp : Keeps p s ∧ p.kind = q.kind ∧ s = t := by
    rcases hps with ⟨rfl, rfl⟩ | ⟨rfl, rfl⟩
    · exact ⟨h, rfl, rfl⟩
    · exact ⟨hK, s1, s2⟩
  have hd : ∀ r, RU.doR r a = (r, ⟨0, r.kind, RC.zero⟩) := fun r => by unfold RU.doR; simp [ka]
  have hw : whyE q.kind t a.kind = 0 := by
    unfold whyE kindE noneE
    rw [ka]
    cases t
    · simp
    · simp
      intro x
      exact absurd (by decide +kernel) x
  rw [apply_why hp.1 ca, apply_why h ca, hp.2.1, hp.2.2, if_pos hw, if_pos hw, hd, hd]
  refine ⟨rfl, ?_, ?_⟩
  · show (p.kind != 0) = t
    rw [hp.2.1]
    exact h.there
  · show (⟨0, p.kind, RC.zero⟩ : RU.Ans) = ⟨0, q.kind, RC.zero⟩
    rw [hp.2.1]
theorem reads_row {k : Int} (h : RU.reads6 k = true) : (rowAt k).reads = true ∧ 3 ≤ k ∧ k ≤ 20 := by
  unfold RU.reads6 at h
  simp at h
  rcases h with (((e | e) | e) | e) | e <;> subst e <;> exact ⟨by decide +kernel, by omega, by omega⟩
theorem swaps_reads {q : RC.Rc} {t : Bool} {a b : AC.Ac} (h : Keeps q t) (ha : a.ok) (hb : b.ok) (ka : RU.reads6 a.kind = true) (kb : RU.reads6 b.kind = true) : Swaps q t a b := by
  obtain ⟨e2, e1⟩ := (keeps_plain h hb).2.1 (.inr (reads_row kb).1)
  obtain ⟨f2, f1⟩ := (keeps_plain h ha).2.1 (.inr (reads_row ka).1)
  refine swaps_idle fun p s hps => ?_
  have hp : p = q ∧ s = t := by
    rcases hps with hps | ⟨rfl, rfl⟩
    · exact hps
    · exact ⟨e1, e2⟩
  rw [hp.1, hp.2, f1, f2]
  exact ⟨rfl, rfl, rfl⟩
/-- Two acts of one kind that are done, each of which is answered alike. -/
theorem swaps_done {q : RC.Rc} {t : Bool} {a b : AC.Ac} (h : Keeps q t) (ha : a.ok) (hb : b.ok) (ca : AC.chk a = 0) (cb : AC.chk b = 0) (hk : b.kind = a.kind) (k3 : 3 ≤ a.kind) (f : RC.Rc → AC.Ac → RC.Rc) (fa : ∀ r, RU.doR r a = (f r a, RU.err 0)) (fb : ∀ r, RU.doR r b = (f r b, RU.err 0)) (hw : whyE q.kind t a.kind = 0) (hf : f (f q a) b = f (f q b) a) : Swaps q t a b := by
  have ea : RU.apply q t a = (f q a, q.kind != 0, RU.err 0) := by
    rw [apply_why h ca, if_pos hw, fa]
    have := doR_kind (q := q) k3
    rw [fa] at this
    show (f q a, (f q a).kind != 0, RU.err 0) = _
    rw [this]
  have eb : RU.apply q t b = (f q b, q.kind != 0, RU.err 0) := by
    rw [apply_why h cb, hk, if_pos hw, fb]
    have := doR_kind (q := q) (a := b) (by omega)
    rw [fb] at this
    show (f q b, (f q b).kind != 0, RU.err 0) = _
    rw [this]
  have Ka := (keeps_plain h ha).1
  have Kb := (keeps_plain h hb).1
  obtain ⟨s1, s2⟩ := apply_same h ca k3
  obtain ⟨t1, t2⟩ := apply_same h cb (by omega)
  have eab : RU.apply (RU.apply q t a).1 (RU.apply q t a).2.1 b = (f (f q a) b, (f (f q a) b).kind != 0, RU.err 0) := by
    rw [apply_why Ka cb, s1, s2, hk, if_pos hw, fb, ea]
  have eba : RU.apply (RU.apply q t b).1 (RU.apply q t b).2.1 a = (f (f q b) a, (f (f q b) a).kind != 0, RU.err 0) := by
    rw [apply_why Kb ca, t1, t2, if_pos hw, fa, eb]
  refine ⟨?_, ?_, ?_, ?_⟩
  · rw [eab, eba]; exact hf
  · rw [eab, eba]; show ((f (f q a) b).kind != 0) = ((f (f q b) a).kind != 0); rw [hf]
  · rw [eba, ea]
  · rw [eab, eb]
/-- SOUND: acts of kinds that change places do, whatever is there. -/
theorem sound_plain {q : RC.Rc} {t : Bool} {a b : AC.Ac} (h : Keeps q t) (ha : a.ok) (hb : b.ok) (ca : AC.chk a = 0) (cb : AC.chk b = 0) (hk : RU.kinds6 a.kind b.kind = true) : Swaps q t a b := by
  unfold RU.kinds6 at hk
  split at hk
  · cases hk
  rename_i hr
  have ka : 3 ≤ a.kind := by omega
  have kb : 3 ≤ b.kind := by omega
  split at hk
  · rename_i h2
    simp only [Bool.and_eq_true] at h2
    exact swaps_reads h ha hb h2.1 h2.2
  split at hk
  · rename_i h3
    rcases h3 with h3 | h3
    · exact swaps_is h hb ca cb h3 kb
    · exact (swaps_is h ha cb ca h3 ka).symm
  rename_i h3
  split at hk
  · cases hk
  rename_i h4
  by_cases wa : whyE q.kind t a.kind = 0
  case neg => exact swaps_refused h hb ca cb kb wa
  by_cases wb : whyE q.kind t b.kind = 0
  case neg => exact (swaps_refused h ha cb ca ka wb).symm
  have ht : t = true := by
    cases t
    · unfold whyE noneE at wa
      simp at wa
      omega
    · rfl
  subst ht
  have hc := h.yes rfl
  have on_of : ∀ k : Int, 5 ≤ k → k ≤ 21 → whyE q.kind true k = 0 → (rowAt k).on = q.kind := fun k h5 h21 hw => by
    have hw : kindE q.kind k = 0 := hw
    unfold kindE at hw
    rw [if_neg (by omega)] at hw
    have h0 : (rowAt k).on ≠ 0 := by
      have : k = 5 ∨ k = 6 ∨ k = 7 ∨ k = 8 ∨ k = 9 ∨ k = 10 ∨ k = 11 ∨ k = 12 ∨ k = 13 ∨ k = 14 ∨ k = 15 ∨ k = 16 ∨ k = 17 ∨ k = 18 ∨ k = 19 ∨ k = 20 ∨ k = 21 := by omega
      rcases this with e | e | e | e | e | e | e | e | e | e | e | e | e | e | e | e | e <;> subst e <;> decide +kernel
    by_cases ho : (rowAt k).on = q.kind
    · exact ho
    · rw [if_pos ⟨h0, ho⟩] at hw
      cases hw
  have oa := on_of a.kind (by omega) (by omega) wa
  have ob' := on_of b.kind (by omega) (by omega) wb
  split at hk
  · rename_i h5
    exact absurd (oa.trans ob'.symm) h5
  simp only [Bool.and_eq_true, Bool.or_eq_true, beq_iff_eq] at hk
  obtain ⟨hab, hk⟩ := hk
  have ma := AC.chk_may ha ca
  have mb := AC.chk_may hb cb
  rcases hk with (((e | e) | e) | e) | e
  · exact swaps_done h ha hb ca cb hab.symm ka (fun r a => { r with num := RU.w64 (r.num + a.n) }) (fun r => by unfold RU.doR; simp [e]) (fun r => by unfold RU.doR; simp [← hab, e]) wa (by simp only [RU.w64_swap])
  · exact swaps_done h ha hb ca cb hab.symm ka (fun r a => { r with real := MF.mx r.real a.x }) (fun r => by unfold RU.doR; simp [e]) (fun r => by unfold RU.doR; simp [← hab, e]) wa (by simp only [RU.mx_swap h.ok.real ha.x hb.x])
  · exact swaps_done h ha hb ca cb hab.symm ka (fun r a => { r with real := MF.mn r.real a.x }) (fun r => by unfold RU.doR; simp [e]) (fun r => by unfold RU.doR; simp [← hab, e]) wa (by simp only [RU.mn_swap h.ok.real ha.x hb.x])
  · refine swaps_done h ha hb ca cb hab.symm ka RU.left (fun r => by unfold RU.doR; simp [e]) (fun r => by unfold RU.doR; simp [← hab, e]) wa (left_swap hc h.ok ?_)
    rw [← oa, e]
    decide +kernel
  · refine swaps_done h ha hb ca cb hab.symm ka RU.offered (fun r => by unfold RU.doR; simp [e]) (fun r => by unfold RU.doR; simp [← hab, e]) wa (offered_swap ?_ ⟨ha.x, ma.proper⟩ ⟨hb.x, mb.proper⟩)
    exact (list_of hc (.inr (by rw [← oa, e]; decide +kernel))).2
end Go.Proofs.YtlpecaldodganaaGreatDoor
