/- Plain mathematics of layer 5: acts that, done twice, leave what they leave done once. No program. -/
import Derived.Test.YtofaonknfihaiaaDoorRule26
namespace RU
open Go Go.RowKit RC

theorem better_irrefl (x : It) : better x x = false := by unfold better; rw [if_pos (RC.same_refl _)]; exact strLt_irrefl _
theorem find_app : ∀ (p q : List It) (x : It), (∀ y ∈ p, better y x = true) → find (p ++ q) x = p.length + find q x
  | [], q, x, _ => by simp
  | y :: p, q, x, h => by
    show (if better y x then find (p ++ q) x + 1 else 0) = _
    rw [if_pos (h y (List.mem_cons_self ..)), find_app p q x (fun z hz => h z (List.mem_cons_of_mem _ hz))]
    simp; omega
theorem find_ahead : ∀ (l : List It) (x : It), ∀ y ∈ l.take (find l x), better y x = true
  | [], _, y, h => by simp at h
  | z :: l, x, y, h => by
    unfold find at h
    split at h
    · rename_i hz
      rw [List.take_succ_cons] at h
      rcases List.mem_cons.1 h with rfl | h
      · exact hz
      · exact find_ahead l x y h
    · simp at h
theorem find_stops : ∀ (l : List It) (x y : It), l[find l x]? = some y → better y x = false
  | [], _, y, h => by simp at h
  | z :: l, x, y, h => by
    unfold find at h
    split at h
    · exact find_stops l x y (by simpa using h)
    · rename_i hz
      simp at h
      subst h
      simpa using hz
theorem find_lay (l : List It) (x : It) : find (lay l x) x = find l x := by
  unfold lay
  rw [find_app _ _ _ (find_ahead l x), List.length_take, Nat.min_eq_left (find_le l x)]
  show _ + (if better x x then _ else 0) = _
  rw [if_neg (by rw [better_irrefl]; simp)]
  rfl
theorem at_of {p q : List It} {x : It} (h : ∀ y ∈ p, better y x = true) : at_ (p ++ x :: q) x = true := by
  unfold at_
  have hf : find (p ++ x :: q) x = p.length := by
    rw [find_app _ _ _ h]
    show _ + (if better x x then _ else 0) = _
    rw [if_neg (by rw [better_irrefl]; simp)]
    rfl
  rw [hf, List.getElem?_append_right (Nat.le_refl _)]
  simp [better_irrefl]
theorem at_lay (l : List It) (x : It) : at_ (lay l x) x = true := at_of (find_ahead l x)
theorem at_lay_take (l : List It) (x : It) (n : Nat) (h : find l x < n) : at_ ((lay l x).take n) x = true := by
  have hl : (l.take (find l x)).length = find l x := by rw [List.length_take, Nat.min_eq_left (find_le l x)]
  have : (lay l x).take n = l.take (find l x) ++ x :: (l.drop (find l x)).take (n - find l x - 1) := by
    unfold lay
    rw [List.take_append, hl, List.take_of_length_le (by omega)]
    congr 1
    obtain ⟨m, hm⟩ : ∃ m, n - find l x = m + 1 := ⟨n - find l x - 1, by omega⟩
    rw [hm, List.take_succ_cons]
    rfl
  rw [this]
  exact at_of (find_ahead l x)
theorem lay_take_all (l : List It) (x : It) (n : Nat) (h : l.length ≤ n) (hf : n ≤ find l x) : (lay l x).take n = l := by
  have h1 := find_le l x
  have h2 : find l x = l.length := by omega
  unfold lay
  rw [h2, List.take_length, List.take_append, List.take_of_length_le h]
  rw [show n - l.length = 0 by omega]
  simp

theorem itemsE_app {k : Int} : ∀ (a b : List It) (p : Option It), itemsE k p (a ++ b) = 0 → ∃ p', itemsE k p' b = 0
  | [], b, p, h => ⟨p, h⟩
  | y :: a, b, p, h => by
    have h : (if itemE k p y = 0 then itemsE k (some y) (a ++ b) else itemE k p y) = 0 := h
    split at h
    · exact itemsE_app a b _ h
    · exact absurd h ‹_›
theorem itemsE_two {k : Int} {p : Option It} {y z : It} {q : List It} (h : itemsE k p (y :: z :: q) = 0) : ahead k y z = true := by
  have h : (if itemE k p y = 0 then (if itemE k (some y) z = 0 then itemsE k (some z) q else itemE k (some y) z) else itemE k p y) = 0 := h
  split at h
  · split at h
    · rename_i h2
      unfold itemE at h2
      split at h2
      · cases h2
      · split at h2
        · rename_i h3
          simp only [Bool.and_eq_true] at h3
          exact h3.2
        · cases h2
    · exact absurd h ‹_›
  · exact absurd h ‹_›
theorem strLt_le {a b c : ByteArray} (h : strLt b a = false) (k : strLt b c = true) : strLt a c = true := by
  rw [strLt_iff] at *
  have h' : ¬ b.data.toList < a.data.toList := fun x => by rw [(strLt_iff b a).2 x] at h; cases h
  exact List.lt_of_le_of_lt h' k
theorem better0 (s t : ByteArray) : better ⟨0, s⟩ ⟨0, t⟩ = strLt s t := by unfold better; rw [if_pos (RC.same_refl _)]
/-- Of a list in order, of whose items none has a score: what left isn't there. -/
theorem at_lose (l : List It) (s : ByteArray) (h0 : ∀ y ∈ l, y.score = 0) (hs : itemsE 8 none l = 0) (h : at_ l ⟨0, s⟩ = true) : at_ (lose l ⟨0, s⟩) ⟨0, s⟩ = false := by
  have hk := find_le l ⟨0, s⟩
  have ha := find_ahead l ⟨0, s⟩
  have hst := find_stops l ⟨0, s⟩
  unfold at_ at h
  unfold lose
  generalize find l ⟨0, s⟩ = k at *
  cases hy : l[k]? with
  | none => rw [hy] at h; cases h
  | some y =>
    rw [hy] at h
    have h : (!better ⟨0, s⟩ y) = true := h
    have hyx := hst y hy
    have hlt : k < l.length := (List.getElem?_eq_some_iff.1 hy).1
    have hly : l[k] = y := (List.getElem?_eq_some_iff.1 hy).2
    have hl : l = l.take k ++ y :: l.drop (k + 1) := by
      rw [← hly, ← List.drop_eq_getElem_cons hlt, List.take_append_drop]
    have hy0 : y.score = 0 := h0 y (List.mem_of_getElem? hy)
    obtain ⟨ys, yn⟩ := y
    simp only at hy0
    subst hy0
    rw [better0] at hyx
    have hlen : (l.take k).length = k := by rw [List.length_take, Nat.min_eq_left hk]
    unfold at_
    rw [find_app _ _ _ ha, hlen]
    cases hd : l.drop (k + 1) with
    | nil =>
      show (match (l.take k ++ [])[k + 0]? with | none => false | some y => !better ⟨0, s⟩ y) = false
      rw [List.getElem?_eq_none (by simp; omega)]
    | cons z d =>
      have hz0 : z.score = 0 := h0 z (List.mem_of_mem_drop (i := k + 1) (by rw [hd]; exact List.mem_cons_self ..))
      rw [hd] at hl
      obtain ⟨p', hp⟩ := itemsE_app (l.take k) (⟨0, yn⟩ :: z :: d) none (by rw [← hl]; exact hs)
      have hyz := itemsE_two hp
      obtain ⟨zs, zn⟩ := z
      simp only at hz0
      subst hz0
      have hyz : strLt yn zn = true := by unfold RC.ahead at hyz; simpa using hyz
      have hsz := strLt_le hyx hyz
      have hf : find (⟨0, zn⟩ :: d) ⟨0, s⟩ = 0 := by
        show (if better ⟨0, zn⟩ ⟨0, s⟩ then _ else 0) = 0
        rw [if_neg (by rw [better0, strLt_asymm hsz]; simp)]
      rw [hf, List.getElem?_append_right (by omega), hlen]
      simp [better0, hsz]

theorem mx_twice (a b : Nat) : MF.mx (MF.mx a b) b = MF.mx a b := by
  have h : MF.less (MF.mx a b) b = false := by
    unfold MF.less
    cases hl : MF.less a b
    · rw [MF.mx_no a b hl, MF.key_canon]
      exact hl
    · rw [MF.mx_yes a b hl, MF.key_canon]
      simp
  rw [MF.mx_no _ _ h]
  unfold MF.mx
  split <;> exact MF.canon_canon _
theorem mn_twice (a b : Nat) : MF.mn (MF.mn a b) b = MF.mn a b := by
  have h : MF.less b (MF.mn a b) = false := by
    unfold MF.less
    cases hl : MF.less b a
    · rw [MF.mn_no a b hl, MF.key_canon]
      exact hl
    · rw [MF.mn_yes a b hl, MF.key_canon]
      simp
  rw [MF.mn_no _ _ h]
  unfold MF.mn
  split <;> exact MF.canon_canon _
end RU
namespace Go.Proofs.YtofaonknfihaiaaDoor
open Go.RowKit MM

theorem joined_twice (r : RC.Rc) (a : AC.Ac) : RU.joined (RU.joined r a) a = RU.joined r a := by
  cases h : RU.at_ r.list ⟨0, a.s⟩
  · have h1 : RU.joined r a = { r with list := RU.lay r.list ⟨0, a.s⟩ } := by unfold RU.joined; rw [h]; rfl
    rw [h1]
    unfold RU.joined
    rw [if_pos (RU.at_lay r.list ⟨0, a.s⟩)]
  · have h1 : RU.joined r a = r := by unfold RU.joined; rw [h]; rfl
    rw [h1, h1]
theorem joined_at (r : RC.Rc) (a : AC.Ac) : RU.at_ (RU.joined r a).list ⟨0, a.s⟩ = true := by
  unfold RU.joined
  split
  · assumption
  · exact RU.at_lay r.list ⟨0, a.s⟩
theorem left_twice (r : RC.Rc) (a : AC.Ac) (h0 : ∀ y ∈ r.list, y.score = 0) (hs : RC.itemsE 8 none r.list = 0) : RU.left (RU.left r a) a = RU.left r a := by
  cases h : RU.at_ r.list ⟨0, a.s⟩
  · have h1 : RU.left r a = r := by unfold RU.left; rw [h]; rfl
    rw [h1, h1]
  · have h1 : RU.left r a = { r with list := RU.lose r.list ⟨0, a.s⟩ } := by unfold RU.left; rw [h]; rfl
    rw [h1]
    unfold RU.left
    rw [if_neg (by rw [RU.at_lose r.list a.s h0 hs h]; simp)]
theorem offered_twice (r : RC.Rc) (a : AC.Ac) (hc : (r.list.length : Int) ≤ r.cap) : RU.offered (RU.offered r a) a = RU.offered r a := by
  cases h : RU.at_ r.list ⟨a.x, a.s⟩
  · by_cases hl : (r.list.length : Int) < r.cap
    · have h1 : RU.offered r a = { r with list := RU.lay r.list ⟨a.x, a.s⟩ } := by unfold RU.offered; rw [h, if_pos hl]; rfl
      rw [h1]
      unfold RU.offered
      rw [if_pos (RU.at_lay r.list ⟨a.x, a.s⟩)]
    · have h1 : RU.offered r a = { r with list := (RU.lay r.list ⟨a.x, a.s⟩).take r.cap.toNat } := by unfold RU.offered; rw [h, if_neg hl]; rfl
      by_cases hf : RU.find r.list ⟨a.x, a.s⟩ < r.cap.toNat
      · rw [h1]
        unfold RU.offered
        rw [if_pos (RU.at_lay_take r.list ⟨a.x, a.s⟩ _ hf)]
      · have h2 : RU.offered r a = r := by rw [h1, RU.lay_take_all _ _ _ (by omega) (by omega)]
        rw [h2, h2]
  · have h1 : RU.offered r a = r := by unfold RU.offered; rw [h]; rfl
    rw [h1, h1]

/-- Some acts, done twice, leave what they leave done once. -/
theorem twice_plain (r : RC.Rc) (a : AC.Ac) (hr : r.ok) (hk : a.kind = 5 ∨ a.kind = 6 ∨ a.kind = 13 ∨ a.kind = 14 ∨ a.kind = 17 ∨ a.kind = 18 ∨ a.kind = 19 ∨ a.kind = 21) :
    (RU.apply (RU.apply r true a).1 true a).2.1 = true ∧ (RU.apply (RU.apply r true a).1 true a).1 = (RU.apply r true a).1 := by
  by_cases h1 : refE r true a = 0
  · have e1 : RU.apply r true a = ((RU.doR r a).1, (RU.doR r a).1.kind != 0, (RU.doR r a).2) := if_pos h1
    rw [e1]
    show (RU.apply (RU.doR r a).1 true a).2.1 = true ∧ (RU.apply (RU.doR r a).1 true a).1 = (RU.doR r a).1
    have hc := RC.chk_zero (refE_rec h1)
    have hm := RC.chk_may hr (refE_rec h1)
    have hfix : (RU.doR (RU.doR r a).1 a).1 = (RU.doR r a).1 := by
      rcases hk with hk | hk | hk | hk | hk | hk | hk | hk
      · have hd : ∀ q, RU.doR q a = ({ q with text := a.s }, RU.err 0) := fun q => by unfold RU.doR; simp [hk]
        rw [hd, hd]
      · have hd : ∀ q, RU.doR q a = ({ q with text := a.s }, ⟨0, 0, q⟩) := fun q => by unfold RU.doR; simp [hk]
        rw [hd, hd]
      · have hd : ∀ q, RU.doR q a = ({ q with real := MF.mx q.real a.x }, RU.err 0) := fun q => by unfold RU.doR; simp [hk]
        rw [hd, hd]
        simp [RU.mx_twice]
      · have hd : ∀ q, RU.doR q a = ({ q with real := MF.mn q.real a.x }, RU.err 0) := fun q => by unfold RU.doR; simp [hk]
        rw [hd, hd]
        simp [RU.mn_twice]
      · have hd : ∀ q, RU.doR q a = ({ q with real := a.x }, RU.err 0) := fun q => by unfold RU.doR; simp [hk]
        rw [hd, hd]
      · have hd : ∀ q, RU.doR q a = if RU.at_ q.list ⟨0, a.s⟩ = true ∨ (q.list.length : Int) < q.cap then (RU.joined q a, RU.err 0) else (q, RU.err 8) := fun q => by unfold RU.doR; simp [hk]
        by_cases hx : RU.at_ r.list ⟨0, a.s⟩ = true ∨ (r.list.length : Int) < r.cap
        · have h2 : RU.doR r a = (RU.joined r a, RU.err 0) := by rw [hd, if_pos hx]
          rw [h2]
          show (RU.doR (RU.joined r a) a).1 = RU.joined r a
          rw [hd, if_pos (.inl (joined_at r a))]
          exact joined_twice r a
        · have h2 : RU.doR r a = (r, RU.err 8) := by rw [hd, if_neg hx]
          rw [h2]
          show (RU.doR r a).1 = r
          rw [h2]
      · have hd : ∀ q, RU.doR q a = (RU.left q a, RU.err 0) := fun q => by unfold RU.doR; simp [hk]
        rw [hd, hd]
        show RU.left (RU.left r a) a = RU.left r a
        have hkind : r.kind = 8 := by
          unfold refE at h1
          have h2 := refE_act (show refE r true a = 0 from h1)
          rw [if_neg (by simp [h2])] at h1
          simp only [if_true] at h1
          rw [if_neg (by simp [refE_rec (show refE r true a = 0 by unfold refE; rw [if_neg (by simp [h2])]; exact h1)])] at h1
          unfold kindE at h1
          rw [hk] at h1
          have h3 : (rowAt 19).on = 8 := rfl
          rw [h3] at h1
          simp at h1
          omega
        refine left_twice r a (fun y hy => (hm.items y hy).2.2 hkind) ?_
        have hf := hc.2.2
        unfold RC.fieldE at hf
        rw [if_neg (by omega), if_neg (by omega), if_neg (by omega), if_pos (by omega)] at hf
        unfold RC.listE at hf
        split at hf
        · cases hf
        · split at hf
          · cases hf
          · rw [hkind] at hf; exact hf
      · have hd : ∀ q, RU.doR q a = (RU.offered q a, RU.err 0) := fun q => by unfold RU.doR; simp [hk]
        rw [hd, hd]
        show RU.offered (RU.offered r a) a = RU.offered r a
        refine offered_twice r a ?_
        by_cases k : 8 ≤ r.kind ∧ r.kind ≤ 9
        · have hf := hc.2.2
          unfold RC.fieldE at hf
          rw [if_neg (by omega), if_neg (by omega), if_neg (by omega), if_pos (by omega)] at hf
          unfold RC.listE at hf
          split at hf
          · cases hf
          · split at hf
            · cases hf
            · omega
        · rw [hc.2.1.list k, hc.2.1.cap k]
          exact Int.le_refl _
    by_cases h2 : refE (RU.doR r a).1 true a = 0
    · have e2 : RU.apply (RU.doR r a).1 true a = ((RU.doR (RU.doR r a).1 a).1, (RU.doR (RU.doR r a).1 a).1.kind != 0, (RU.doR (RU.doR r a).1 a).2) := if_pos h2
      rw [e2]
      refine ⟨?_, hfix⟩
      show ((RU.doR (RU.doR r a).1 a).1.kind != 0) = true
      rw [hfix]
      have h3 := (RC.chk_zero (refE_rec h2)).1
      have h4 := RC.kind9 h3
      simp
      omega
    · have e2 : RU.apply (RU.doR r a).1 true a = ((RU.doR r a).1, true, RU.err (refE (RU.doR r a).1 true a)) := if_neg h2
      rw [e2]
      exact ⟨rfl, rfl⟩
  · have e1 : RU.apply r true a = (r, true, RU.err (refE r true a)) := if_neg h1
    rw [e1]
    show (RU.apply r true a).2.1 = true ∧ (RU.apply r true a).1 = r
    rw [e1]
    exact ⟨rfl, rfl⟩

end Go.Proofs.YtofaonknfihaiaaDoor
