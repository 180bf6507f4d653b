/- Plain mathematics of layer 5: acts that, done twice, leave what they leave done once. No program. -/
import Derived.Test.YtbkcmnmbcldjoaaGreatDoorRuVP7d
namespace RU
open Go Go.RowKit RC
theorem better0 (s t : ByteArray) : better ⟨0, s⟩ ⟨0, t⟩ = strLt s t := by unfold better; rw [if_pos (RC.same_refl _)]
end RU
namespace Go.Proofs.YtbkcmnmbcldjoaaGreatDoor
open Go.RowKit MM
end Go.Proofs.YtbkcmnmbcldjoaaGreatDoor
namespace Go.Proofs.YtbkcmnmbcldjoaaGreatDoor
open Go.RowKit MM
theorem known_ne {r : RC.Rc} (h : RC.chk r = 0) : r.kind ≠ 0 := by
  have := RC.kind9 (RC.chk_zero h).1
  omega
theorem purse_bd {r : RC.Rc} (h : RC.chk r = 0) (hk : r.kind = 4) : -2305843009213693952 ≤ r.low ∧ r.low ≤ r.num ∧ r.num ≤ r.high ∧ r.high ≤ 2305843009213693952 := by
  obtain ⟨h1, h2, h3⟩ := RC.chk_zero h
  unfold RC.fieldE at h3
  rw [if_neg (by omega), if_pos hk] at h3
  split at h3
  · rename_i h4; unfold RC.purseOk at h4; simpa using h4
  · cases h3
section
variable {r : RC.Rc} {key : ByteArray} {n : Int} {x : Nat} {s : ByteArray} {m : RC.Rc} {must : Bool}
end
end Go.Proofs.YtbkcmnmbcldjoaaGreatDoor
namespace RU
open Go Go.RowKit RC
/-- Items that may be in a list, one behind the other. -/
def Okay (k : Int) (x : It) : Prop := x.name.size ≤ 16 ∧ fits k x.score = true
theorem itemE_ok {k : Int} {p : Option It} {x : It} (h : itemE k p x = 0) : Okay k x ∧ follows k p x = true := by
  refine ⟨itemE_zero h, ?_⟩
  unfold itemE at h
  split at h
  · cases h
  · split at h
    · rename_i h3
      simp only [Bool.and_eq_true] at h3
      exact h3.2
    · cases h
theorem itemsE_cons {k : Int} {p : Option It} {x : It} {l : List It} : itemsE k p (x :: l) = 0 ↔ itemE k p x = 0 ∧ itemsE k (some x) l = 0 := by
  show (if itemE k p x = 0 then itemsE k (some x) l else itemE k p x) = 0 ↔ _
  constructor
  · intro h
    split at h
    · exact ⟨‹_›, h⟩
    · exact absurd h ‹_›
  · rintro ⟨h1, h2⟩
    rw [if_pos h1]; exact h2
end RU
namespace Go.Proofs.YtbkcmnmbcldjoaaGreatDoor
open Go.RowKit MM
theorem list_of {r : RC.Rc} (h : RC.chk r = 0) (hk : r.kind = 8 ∨ r.kind = 9) : RC.itemsE r.kind none r.list = 0 ∧ (r.list.length : Int) ≤ r.cap := by
  obtain ⟨h1, h2, h3⟩ := RC.chk_zero h
  unfold RC.fieldE at h3
  rw [if_neg (by omega), if_neg (by omega), if_neg (by omega), if_pos (by omega)] at h3
  unfold RC.listE at h3
  split at h3
  · cases h3
  · split at h3
    · cases h3
    · exact ⟨h3, by omega⟩
theorem at_no {l : List RC.It} {x y : RC.It} (h : RU.at_ l x = false) (hy : l[RU.find l x]? = some y) : RC.better x y = true := by
  unfold RU.at_ at h
  rw [hy] at h
  simpa using h
/-- What is there may be, or there is none. -/
structure Keeps (q : RC.Rc) (t : Bool) : Prop where
  ok : q.ok
  yes : t = true → RC.chk q = 0
  no : t = false → q = RC.zero
theorem Keeps.own {q : RC.Rc} {t : Bool} (h : Keeps q t) : ownR q t = q := by
  cases t
  · exact (h.no rfl).symm
  · rfl
theorem Keeps.there {q : RC.Rc} {t : Bool} (h : Keeps q t) : (q.kind != 0) = t := by
  cases t
  · rw [h.no rfl]; rfl
  · simpa using known_ne (h.yes rfl)
end Go.Proofs.YtbkcmnmbcldjoaaGreatDoor
namespace RU
open Go Go.RowKit RC
theorem strLt_tri {a b : ByteArray} (h1 : strLt a b = false) (h2 : strLt b a = false) : a = b := by
  have h1' : ¬ a.data.toList < b.data.toList := fun x => by rw [(strLt_iff a b).2 x] at h1; cases h1
  have h2' : ¬ b.data.toList < a.data.toList := fun x => by rw [(strLt_iff b a).2 x] at h2; cases h2
  have h : a.data.toList = b.data.toList := List.le_antisymm h2' h1'
  cases a; cases b
  simpa using h
theorem sorted_rest : ∀ (l : List It) (y : It), itemsE 8 (some y) l = 0 → ∀ z ∈ l, strLt y.name z.name = true
  | [], _, _, z, hz => by cases hz
  | u :: l, y, h, z, hz => by
    rw [itemsE_cons] at h
    have hyu : strLt y.name u.name = true := by
      have := (itemE_ok h.1).2
      unfold follows RC.ahead at this
      simpa using this
    rcases List.mem_cons.1 hz with rfl | hz
    · exact hyu
    · exact strLt_trans hyu (sorted_rest l u h.2 z hz)
theorem strEq_lt {a b : ByteArray} (h : strLt a b = true) : strEq a b = false := by
  cases he : strEq a b
  · rfl
  · rw [(strEq_iff a b).1 he, strLt_irrefl] at h; cases h
/-- Of a list in order, of whose items none has a score: has it a name; what is left without it. -/
theorem has_sorted (s : ByteArray) : ∀ (l : List It) (p : Option It), (∀ y ∈ l, y.score = 0) → itemsE 8 p l = 0 → (l.any fun x => strEq x.name s) = at_ l ⟨0, s⟩
  | [], _, _, _ => rfl
  | y :: l, p, h0, h => by
    rw [itemsE_cons] at h
    have ih := has_sorted s l (some y) (fun z hz => h0 z (List.mem_cons_of_mem _ hz)) h.2
    have hy0 := h0 y (List.mem_cons_self ..)
    obtain ⟨ys, yn⟩ := y
    have hy0 : ys = 0 := hy0
    subst hy0
    rw [List.any_cons]
    cases hb : strLt yn s
    · have hf : find (⟨0, yn⟩ :: l) ⟨0, s⟩ = 0 := by show (if better ⟨0, yn⟩ ⟨0, s⟩ then _ else 0) = 0; rw [better0, hb]; rfl
      have ha : at_ (⟨0, yn⟩ :: l) ⟨0, s⟩ = !strLt s yn := by unfold at_; rw [hf]; show (!better ⟨0, s⟩ ⟨0, yn⟩) = _; rw [better0]
      rw [ha]
      cases hs : strLt s yn
      · rw [strLt_tri hb hs, strEq_refl]; rfl
      · show (strEq yn s || _) = false
        rw [RC.strEq_comm, strEq_lt hs, Bool.false_or, List.any_eq_false]
        intro z hz
        rw [RC.strEq_comm, strEq_lt (strLt_trans hs (sorted_rest l ⟨0, yn⟩ h.2 z hz))]
        simp
    · have hf : find (⟨0, yn⟩ :: l) ⟨0, s⟩ = find l ⟨0, s⟩ + 1 := by show (if better ⟨0, yn⟩ ⟨0, s⟩ then _ else 0) = _; rw [better0, hb]; rfl
      have ha : at_ (⟨0, yn⟩ :: l) ⟨0, s⟩ = at_ l ⟨0, s⟩ := by unfold at_; rw [hf]; rfl
      rw [ha, ih]
      show (strEq yn s || _) = _
      rw [strEq_lt hb, Bool.false_or]
end RU
namespace RU
open Go Go.RowKit RC
theorem better_iff (a b : It) : better a b = true ↔ (MF.key b.score < MF.key a.score ∨ (MF.key a.score = MF.key b.score ∧ strLt a.name b.name = true)) := by
  unfold better MF.same MF.less
  by_cases h : MF.key a.score = MF.key b.score
  · rw [if_pos (by simpa using h)]
    constructor
    · exact fun x => .inr ⟨h, x⟩
    · rintro (x | x)
      · omega
      · exact x.2
  · rw [if_neg (by simpa using h)]
    constructor
    · exact fun x => .inl (of_decide_eq_true x)
    · rintro (x | x)
      · exact decide_eq_true x
      · exact absurd x.1 h
theorem better_tri {a b : It} (h1 : better a b = false) (h2 : better b a = false) : MF.key a.score = MF.key b.score ∧ a.name = b.name := by
  have n1 := mt (better_iff a b).2 (by rw [h1]; simp)
  have n2 := mt (better_iff b a).2 (by rw [h2]; simp)
  have hk : MF.key a.score = MF.key b.score := by
    have x1 : ¬ MF.key b.score < MF.key a.score := fun x => n1 (.inl x)
    have x2 : ¬ MF.key a.score < MF.key b.score := fun x => n2 (.inl x)
    omega
  refine ⟨hk, strLt_tri ?_ ?_⟩
  · cases h : strLt a.name b.name
    · rfl
    · exact absurd (.inr ⟨hk, h⟩) n1
  · cases h : strLt b.name a.name
    · rfl
    · exact absurd (.inr ⟨hk.symm, h⟩) n2
structure Good (x : It) : Prop where
  w : MF.W64 x.score
  p : MF.proper x.score = true
theorem Good.eq {x y : It} (hx : Good x) (hy : Good y) (h1 : better x y = false) (h2 : better y x = false) : x = y := by
  obtain ⟨k, n⟩ := better_tri h1 h2
  have hs := RC.same_proper hx.w hy.w hx.p hy.p (MF.same_of k)
  cases x; cases y
  simp at hs n
  rw [hs, n]
end RU
namespace Go.Proofs.YtbkcmnmbcldjoaaGreatDoor
open Go.RowKit MM
/-- Which kinds change places. -/
def RU.reads6 (k : Int) : Bool := k == 3 || k == 4 || k == 9 || k == 12 || k == 20
def RU.kinds6 (k l : Int) : Bool :=
  if k < 3 ∨ 21 < k ∨ l < 3 ∨ 21 < l then false
  else if (RU.reads6 k && RU.reads6 l) = true then true
  else if k = 3 ∨ l = 3 then true
  else if k = 4 ∨ l = 4 then false
  else if (rowAt k).on ≠ (rowAt l).on then true
  else k == l && (k == 7 || k == 13 || k == 14 || k == 19 || k == 21)
/-- Two acts come to the same, whichever is first. -/
structure Swaps (q : RC.Rc) (t : Bool) (a b : AC.Ac) : Prop where
  rc : (RU.apply (RU.apply q t a).1 (RU.apply q t a).2.1 b).1 = (RU.apply (RU.apply q t b).1 (RU.apply q t b).2.1 a).1
  th : (RU.apply (RU.apply q t a).1 (RU.apply q t a).2.1 b).2.1 = (RU.apply (RU.apply q t b).1 (RU.apply q t b).2.1 a).2.1
  one : (RU.apply q t a).2.2 = (RU.apply (RU.apply q t b).1 (RU.apply q t b).2.1 a).2.2
  two : (RU.apply (RU.apply q t a).1 (RU.apply q t a).2.1 b).2.2 = (RU.apply q t b).2.2
theorem Swaps.symm {q : RC.Rc} {t : Bool} {a b : AC.Ac} (h : Swaps q t a b) : Swaps q t b a := ⟨h.rc.symm, h.th.symm, h.two.symm, h.one.symm⟩
end Go.Proofs.YtbkcmnmbcldjoaaGreatDoor
