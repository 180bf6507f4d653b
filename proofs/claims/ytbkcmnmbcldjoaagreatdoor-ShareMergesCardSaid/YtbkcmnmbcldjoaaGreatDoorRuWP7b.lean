/- Plain mathematics of layer 5: acts that, done twice, leave what they leave done once. No program. -/
import Derived.Test.YtbkcmnmbcldjoaaGreatDoorRuVP7b
namespace RU
open Go Go.RowKit RC
theorem better0 (s t : ByteArray) : better ⟨0, s⟩ ⟨0, t⟩ = strLt s t := by unfold better; rw [if_pos (RC.same_refl _)]
end RU
namespace Go.Proofs.YtbkcmnmbcldjoaaGreatDoor
open Go.RowKit MM
end Go.Proofs.YtbkcmnmbcldjoaaGreatDoor
namespace Go.Proofs.YtbkcmnmbcldjoaaGreatDoor
open Go.RowKit MM
theorem i64_bd {n : Int} (h : RC.I64 n) : -9223372036854775808 ≤ n ∧ n ≤ 9223372036854775807 := by
  unfold RC.I64 at h
  have h1 : IntKind.i64.min = -9223372036854775808 := by decide
  have h2 : IntKind.i64.max = 9223372036854775807 := by decide
  simp only [Lit.wf, Bool.and_eq_true, decide_eq_true_eq, h1, h2] at h
  exact h
theorem known_ne {r : RC.Rc} (h : RC.chk r = 0) : r.kind ≠ 0 := by
  have := RC.kind9 (RC.chk_zero h).1
  omega
theorem purse_bd {r : RC.Rc} (h : RC.chk r = 0) (hk : r.kind = 4) : -2305843009213693952 ≤ r.low ∧ r.low ≤ r.num ∧ r.num ≤ r.high ∧ r.high ≤ 2305843009213693952 := by
  obtain ⟨h1, h2, h3⟩ := RC.chk_zero h
  unfold RC.fieldE at h3
  rw [if_neg (by omega), if_pos hk] at h3
  split at h3
  · rename_i h4; unfold RC.purseOk at h4; simpa using h4
  · cases h3
section
variable {r : RC.Rc} {key : ByteArray} {n : Int} {x : Nat} {s : ByteArray} {m : RC.Rc} {must : Bool}
end
end Go.Proofs.YtbkcmnmbcldjoaaGreatDoor
namespace RU
open Go Go.RowKit RC
/-- Items that may be in a list, one behind the other. -/
def Okay (k : Int) (x : It) : Prop := x.name.size ≤ 16 ∧ fits k x.score = true
theorem itemE_ok {k : Int} {p : Option It} {x : It} (h : itemE k p x = 0) : Okay k x ∧ follows k p x = true := by
  refine ⟨itemE_zero h, ?_⟩
  unfold itemE at h
  split at h
  · cases h
  · split at h
    · rename_i h3
      simp only [Bool.and_eq_true] at h3
      exact h3.2
    · cases h
theorem itemsE_cons {k : Int} {p : Option It} {x : It} {l : List It} : itemsE k p (x :: l) = 0 ↔ itemE k p x = 0 ∧ itemsE k (some x) l = 0 := by
  show (if itemE k p x = 0 then itemsE k (some x) l else itemE k p x) = 0 ↔ _
  constructor
  · intro h
    split at h
    · exact ⟨‹_›, h⟩
    · exact absurd h ‹_›
  · rintro ⟨h1, h2⟩
    rw [if_pos h1]; exact h2
end RU
namespace Go.Proofs.YtbkcmnmbcldjoaaGreatDoor
open Go.RowKit MM
theorem list_of {r : RC.Rc} (h : RC.chk r = 0) (hk : r.kind = 8 ∨ r.kind = 9) : RC.itemsE r.kind none r.list = 0 ∧ (r.list.length : Int) ≤ r.cap := by
  obtain ⟨h1, h2, h3⟩ := RC.chk_zero h
  unfold RC.fieldE at h3
  rw [if_neg (by omega), if_neg (by omega), if_neg (by omega), if_pos (by omega)] at h3
  unfold RC.listE at h3
  split at h3
  · cases h3
  · split at h3
    · cases h3
    · exact ⟨h3, by omega⟩
theorem at_no {l : List RC.It} {x y : RC.It} (h : RU.at_ l x = false) (hy : l[RU.find l x]? = some y) : RC.better x y = true := by
  unfold RU.at_ at h
  rw [hy] at h
  simpa using h
/-- What is there may be, or there is none. -/
structure Keeps (q : RC.Rc) (t : Bool) : Prop where
  ok : q.ok
  yes : t = true → RC.chk q = 0
  no : t = false → q = RC.zero
theorem Keeps.own {q : RC.Rc} {t : Bool} (h : Keeps q t) : ownR q t = q := by
  cases t
  · exact (h.no rfl).symm
  · rfl
theorem Keeps.there {q : RC.Rc} {t : Bool} (h : Keeps q t) : (q.kind != 0) = t := by
  cases t
  · rw [h.no rfl]; rfl
  · simpa using known_ne (h.yes rfl)
end Go.Proofs.YtbkcmnmbcldjoaaGreatDoor
namespace RU
open Go Go.RowKit RC
theorem strLt_tri {a b : ByteArray} (h1 : strLt a b = false) (h2 : strLt b a = false) : a = b := by
  have h1' : ¬ a.data.toList < b.data.toList := fun x => by rw [(strLt_iff a b).2 x] at h1; cases h1
  have h2' : ¬ b.data.toList < a.data.toList := fun x => by rw [(strLt_iff b a).2 x] at h2; cases h2
  have h : a.data.toList = b.data.toList := List.le_antisymm h2' h1'
  cases a; cases b
  simpa using h
def sameK (y x : It) : Bool := strEq y.name x.name && MF.same y.score x.score
theorem sameK_of {x y : It} (h : better y x = false) : sameK y x = !better x y := by
  cases h2 : better x y
  · unfold better at h h2
    unfold sameK
    cases hs : MF.same y.score x.score
    · rw [if_neg (by rw [hs]; simp)] at h
      rw [if_neg (by rw [RC.same_comm, hs]; simp)] at h2
      unfold MF.less at h h2
      unfold MF.same at hs
      simp at h h2 hs
      omega
    · rw [if_pos hs] at h
      rw [if_pos (by rw [RC.same_comm]; exact hs)] at h2
      rw [strLt_tri h h2, strEq_refl]
      rfl
  · unfold sameK
    cases hs : MF.same y.score x.score
    · simp
    · unfold better at h2
      rw [if_pos (by rw [RC.same_comm]; exact hs)] at h2
      cases he : strEq y.name x.name
      · rfl
      · rw [(strEq_iff _ _).1 he, strLt_irrefl] at h2
        cases h2
/-- A list with an item more, as the document says it. -/
def laidG (ah sm : It → Bool) (x : It) : List It → Bool → List It
  | [], d => if d then [] else [x]
  | y :: l, d => if !d && !ah y then (if sm y then y :: laidG ah sm x l true else x :: y :: laidG ah sm x l true) else y :: laidG ah sm x l d
theorem laidG_done (ah sm : It → Bool) (x : It) : ∀ l, laidG ah sm x l true = l
  | [] => rfl
  | y :: l => by
    show (if !true && !ah y then _ else y :: laidG ah sm x l true) = _
    rw [laidG_done ah sm x l]
    simp
theorem laid_better (x : It) : ∀ l, laidG (fun y => better y x) (fun y => sameK y x) x l false = if at_ l x then l else lay l x
  | [] => rfl
  | y :: l => by
    show (if !false && !better y x then (if sameK y x then y :: laidG _ _ x l true else x :: y :: laidG _ _ x l true) else y :: laidG _ _ x l false) = _
    rw [laidG_done]
    cases hb : better y x
    · have hf : find (y :: l) x = 0 := by show (if better y x then _ else 0) = 0; rw [hb]; rfl
      have ha : at_ (y :: l) x = !better x y := by unfold at_; rw [hf]; rfl
      have hl : lay (y :: l) x = x :: y :: l := by unfold lay; rw [hf]; rfl
      rw [ha, hl, sameK_of hb]
      rfl
    · have hf : find (y :: l) x = find l x + 1 := by show (if better y x then find l x + 1 else 0) = _; rw [hb]; rfl
      have ha : at_ (y :: l) x = at_ l x := by unfold at_; rw [hf]; rfl
      have hl : lay (y :: l) x = y :: lay l x := by unfold lay; rw [hf]; rfl
      rw [ha, hl, laid_better x l]
      cases at_ l x <;> rfl
theorem sorted_rest : ∀ (l : List It) (y : It), itemsE 8 (some y) l = 0 → ∀ z ∈ l, strLt y.name z.name = true
  | [], _, _, z, hz => by cases hz
  | u :: l, y, h, z, hz => by
    rw [itemsE_cons] at h
    have hyu : strLt y.name u.name = true := by
      have := (itemE_ok h.1).2
      unfold follows RC.ahead at this
      simpa using this
    rcases List.mem_cons.1 hz with rfl | hz
    · exact hyu
    · exact strLt_trans hyu (sorted_rest l u h.2 z hz)
theorem strEq_lt {a b : ByteArray} (h : strLt a b = true) : strEq a b = false := by
  cases he : strEq a b
  · rfl
  · rw [(strEq_iff a b).1 he, strLt_irrefl] at h; cases h
/-- Of a list in order, of whose items none has a score: has it a name; what is left without it. -/
theorem has_sorted (s : ByteArray) : ∀ (l : List It) (p : Option It), (∀ y ∈ l, y.score = 0) → itemsE 8 p l = 0 → (l.any fun x => strEq x.name s) = at_ l ⟨0, s⟩
  | [], _, _, _ => rfl
  | y :: l, p, h0, h => by
    rw [itemsE_cons] at h
    have ih := has_sorted s l (some y) (fun z hz => h0 z (List.mem_cons_of_mem _ hz)) h.2
    have hy0 := h0 y (List.mem_cons_self ..)
    obtain ⟨ys, yn⟩ := y
    have hy0 : ys = 0 := hy0
    subst hy0
    rw [List.any_cons]
    cases hb : strLt yn s
    · have hf : find (⟨0, yn⟩ :: l) ⟨0, s⟩ = 0 := by show (if better ⟨0, yn⟩ ⟨0, s⟩ then _ else 0) = 0; rw [better0, hb]; rfl
      have ha : at_ (⟨0, yn⟩ :: l) ⟨0, s⟩ = !strLt s yn := by unfold at_; rw [hf]; show (!better ⟨0, s⟩ ⟨0, yn⟩) = _; rw [better0]
      rw [ha]
      cases hs : strLt s yn
      · rw [strLt_tri hb hs, strEq_refl]; rfl
      · show (strEq yn s || _) = false
        rw [RC.strEq_comm, strEq_lt hs, Bool.false_or, List.any_eq_false]
        intro z hz
        rw [RC.strEq_comm, strEq_lt (strLt_trans hs (sorted_rest l ⟨0, yn⟩ h.2 z hz))]
        simp
    · have hf : find (⟨0, yn⟩ :: l) ⟨0, s⟩ = find l ⟨0, s⟩ + 1 := by show (if better ⟨0, yn⟩ ⟨0, s⟩ then _ else 0) = _; rw [better0, hb]; rfl
      have ha : at_ (⟨0, yn⟩ :: l) ⟨0, s⟩ = at_ l ⟨0, s⟩ := by unfold at_; rw [hf]; rfl
      rw [ha, ih]
      show (strEq yn s || _) = _
      rw [strEq_lt hb, Bool.false_or]
theorem filter_sorted (s : ByteArray) : ∀ (l : List It) (p : Option It), (∀ y ∈ l, y.score = 0) → itemsE 8 p l = 0 → (l.filter fun x => !strEq x.name s) = if at_ l ⟨0, s⟩ then lose l ⟨0, s⟩ else l
  | [], _, _, _ => rfl
  | y :: l, p, h0, h => by
    rw [itemsE_cons] at h
    have ih := filter_sorted s l (some y) (fun z hz => h0 z (List.mem_cons_of_mem _ hz)) h.2
    have hy0 := h0 y (List.mem_cons_self ..)
    obtain ⟨ys, yn⟩ := y
    have hy0 : ys = 0 := hy0
    subst hy0
    have hall : strLt s yn = true ∨ yn = s → l.filter (fun x => !strEq x.name s) = l := fun hs => by
      rw [List.filter_eq_self]
      intro z hz
      have h1 := sorted_rest l ⟨0, yn⟩ h.2 z hz
      have h2 : strLt s z.name = true := by
        rcases hs with hs | hs
        · exact strLt_trans hs h1
        · rw [← hs]; exact h1
      rw [RC.strEq_comm, strEq_lt h2]
      rfl
    rw [List.filter_cons]
    cases hb : strLt yn s
    · have hf : find (⟨0, yn⟩ :: l) ⟨0, s⟩ = 0 := by show (if better ⟨0, yn⟩ ⟨0, s⟩ then _ else 0) = 0; rw [better0, hb]; rfl
      have ha : at_ (⟨0, yn⟩ :: l) ⟨0, s⟩ = !strLt s yn := by unfold at_; rw [hf]; show (!better ⟨0, s⟩ ⟨0, yn⟩) = _; rw [better0]
      have hl : lose (⟨0, yn⟩ :: l) ⟨0, s⟩ = l := by unfold lose; rw [hf]; rfl
      rw [ha, hl]
      cases hs : strLt s yn
      · have he := strLt_tri hb hs
        rw [if_neg (by rw [he, strEq_refl]; simp), hall (.inr he)]
        rfl
      · rw [if_pos (by rw [RC.strEq_comm, strEq_lt hs]; rfl), hall (.inl hs)]
        rfl
    · have hf : find (⟨0, yn⟩ :: l) ⟨0, s⟩ = find l ⟨0, s⟩ + 1 := by show (if better ⟨0, yn⟩ ⟨0, s⟩ then _ else 0) = _; rw [better0, hb]; rfl
      have ha : at_ (⟨0, yn⟩ :: l) ⟨0, s⟩ = at_ l ⟨0, s⟩ := by unfold at_; rw [hf]; rfl
      have hl : lose (⟨0, yn⟩ :: l) ⟨0, s⟩ = ⟨0, yn⟩ :: lose l ⟨0, s⟩ := by unfold lose; rw [hf]; rfl
      rw [ha, hl, if_pos (by rw [strEq_lt hb]; rfl), ih]
      cases at_ l ⟨0, s⟩ <;> rfl
end RU
namespace RU
open Go Go.RowKit RC
theorem better_iff (a b : It) : better a b = true ↔ (MF.key b.score < MF.key a.score ∨ (MF.key a.score = MF.key b.score ∧ strLt a.name b.name = true)) := by
  unfold better MF.same MF.less
  by_cases h : MF.key a.score = MF.key b.score
  · rw [if_pos (by simpa using h)]
    constructor
    · exact fun x => .inr ⟨h, x⟩
    · rintro (x | x)
      · omega
      · exact x.2
  · rw [if_neg (by simpa using h)]
    constructor
    · exact fun x => .inl (of_decide_eq_true x)
    · rintro (x | x)
      · exact decide_eq_true x
      · exact absurd x.1 h
theorem better_tri {a b : It} (h1 : better a b = false) (h2 : better b a = false) : MF.key a.score = MF.key b.score ∧ a.name = b.name := by
  have n1 := mt (better_iff a b).2 (by rw [h1]; simp)
  have n2 := mt (better_iff b a).2 (by rw [h2]; simp)
  have hk : MF.key a.score = MF.key b.score := by
    have x1 : ¬ MF.key b.score < MF.key a.score := fun x => n1 (.inl x)
    have x2 : ¬ MF.key a.score < MF.key b.score := fun x => n2 (.inl x)
    omega
  refine ⟨hk, strLt_tri ?_ ?_⟩
  · cases h : strLt a.name b.name
    · rfl
    · exact absurd (.inr ⟨hk, h⟩) n1
  · cases h : strLt b.name a.name
    · rfl
    · exact absurd (.inr ⟨hk.symm, h⟩) n2
/-- An item more, ahead of the first one that doesn't stand ahead of it; unless it is there. -/
def ins (x : It) : List It → List It
  | [] => [x]
  | y :: l => if better y x then y :: ins x l else if better x y then x :: y :: l else y :: l
theorem ins_eq (x : It) : ∀ l, ins x l = if at_ l x then l else lay l x
  | [] => rfl
  | y :: l => by
    show (if better y x then y :: ins x l else if better x y then x :: y :: l else y :: l) = _
    cases hb : better y x
    · have hf : find (y :: l) x = 0 := by show (if better y x then _ else 0) = 0; rw [hb]; rfl
      have ha : at_ (y :: l) x = !better x y := by unfold at_; rw [hf]; rfl
      have hl : lay (y :: l) x = x :: y :: l := by unfold lay; rw [hf]; rfl
      rw [ha, hl]
      cases better x y <;> rfl
    · have hf : find (y :: l) x = find l x + 1 := by show (if better y x then find l x + 1 else 0) = _; rw [hb]; rfl
      have ha : at_ (y :: l) x = at_ l x := by unfold at_; rw [hf]; rfl
      have hl : lay (y :: l) x = y :: lay l x := by unfold lay; rw [hf]; rfl
      rw [ha, hl, ins_eq x l]
      cases at_ l x <;> rfl
structure Good (x : It) : Prop where
  w : MF.W64 x.score
  p : MF.proper x.score = true
theorem Good.eq {x y : It} (hx : Good x) (hy : Good y) (h1 : better x y = false) (h2 : better y x = false) : x = y := by
  obtain ⟨k, n⟩ := better_tri h1 h2
  have hs := RC.same_proper hx.w hy.w hx.p hy.p (MF.same_of k)
  cases x; cases y
  simp at hs n
  rw [hs, n]
end RU
namespace Go.Proofs.YtbkcmnmbcldjoaaGreatDoor
open Go.RowKit MM
theorem offered_ins {r : RC.Rc} {a : AC.Ac} (hc : (r.list.length : Int) ≤ r.cap) : RU.offered r a = { r with list := (RU.ins ⟨a.x, a.s⟩ r.list).take r.cap.toNat } := by
  unfold RU.offered
  rw [RU.ins_eq]
  cases h : RU.at_ r.list ⟨a.x, a.s⟩
  · by_cases hl : (r.list.length : Int) < r.cap
    · rw [if_neg (by simp), if_pos hl]
      have h1 := RU.lay_len r.list ⟨a.x, a.s⟩
      rw [if_neg (by simp), List.take_of_length_le (by omega)]
    · rw [if_neg (by simp), if_neg hl, if_neg (by simp)]
  · rw [if_pos rfl, if_pos rfl, List.take_of_length_le (by omega)]
theorem left_filter {r : RC.Rc} {a : AC.Ac} (h0 : ∀ y ∈ r.list, y.score = 0) (hs : RC.itemsE 8 none r.list = 0) : RU.left r a = { r with list := r.list.filter fun x => !RC.strEq x.name a.s } := by
  rw [RU.filter_sorted a.s r.list none h0 hs]
  unfold RU.left
  cases RU.at_ r.list ⟨0, a.s⟩ <;> rfl
/-- Which kinds change places. -/
def RU.reads6 (k : Int) : Bool := k == 3 || k == 4 || k == 9 || k == 12 || k == 20
def RU.kinds6 (k l : Int) : Bool :=
  if k < 3 ∨ 21 < k ∨ l < 3 ∨ 21 < l then false
  else if (RU.reads6 k && RU.reads6 l) = true then true
  else if k = 3 ∨ l = 3 then true
  else if k = 4 ∨ l = 4 then false
  else if (rowAt k).on ≠ (rowAt l).on then true
  else k == l && (k == 7 || k == 13 || k == 14 || k == 19 || k == 21)
/-- Two acts come to the same, whichever is first. -/
structure Swaps (q : RC.Rc) (t : Bool) (a b : AC.Ac) : Prop where
  rc : (RU.apply (RU.apply q t a).1 (RU.apply q t a).2.1 b).1 = (RU.apply (RU.apply q t b).1 (RU.apply q t b).2.1 a).1
  th : (RU.apply (RU.apply q t a).1 (RU.apply q t a).2.1 b).2.1 = (RU.apply (RU.apply q t b).1 (RU.apply q t b).2.1 a).2.1
  one : (RU.apply q t a).2.2 = (RU.apply (RU.apply q t b).1 (RU.apply q t b).2.1 a).2.2
  two : (RU.apply (RU.apply q t a).1 (RU.apply q t a).2.1 b).2.2 = (RU.apply q t b).2.2
theorem Swaps.symm {q : RC.Rc} {t : Bool} {a b : AC.Ac} (h : Swaps q t a b) : Swaps q t b a := ⟨h.rc.symm, h.th.symm, h.two.symm, h.one.symm⟩
theorem doR_kind {q : RC.Rc} {a : AC.Ac} (hk : 3 ≤ a.kind) : (RU.doR q a).1.kind = q.kind := by
  have h1 : a.kind ≠ 1 := by omega
  have h2 : a.kind ≠ 2 := by omega
  have hj : (RU.joined q a).kind = q.kind := by unfold RU.joined; split <;> rfl
  have hl : (RU.left q a).kind = q.kind := by unfold RU.left; split <;> rfl
  have ho : (RU.offered q a).kind = q.kind := by
    unfold RU.offered
    split
    · rfl
    · split <;> rfl
  unfold RU.doR
  rw [if_neg h1, if_neg h2]
  by_cases k3 : a.kind = 3
  · rw [if_pos k3]
  rw [if_neg k3]
  by_cases k4 : a.kind = 4
  · rw [if_pos k4]
  rw [if_neg k4]
  by_cases k5 : a.kind = 5
  · rw [if_pos k5]
  rw [if_neg k5]
  by_cases k6 : a.kind = 6
  · rw [if_pos k6]
  rw [if_neg k6]
  by_cases k7 : a.kind = 7
  · rw [if_pos k7]
  rw [if_neg k7]
  by_cases k8 : a.kind = 8
  · rw [if_pos k8]; split <;> rfl
  rw [if_neg k8]
  by_cases k9 : a.kind = 9
  · rw [if_pos k9]; split <;> rfl
  rw [if_neg k9]
  by_cases k10 : a.kind = 10
  · rw [if_pos k10]; split <;> rfl
  rw [if_neg k10]
  by_cases k11 : a.kind = 11
  · rw [if_pos k11]; split <;> rfl
  rw [if_neg k11]
  by_cases k12 : a.kind = 12
  · rw [if_pos k12]; split <;> rfl
  rw [if_neg k12]
  by_cases k13 : a.kind = 13
  · rw [if_pos k13]
  rw [if_neg k13]
  by_cases k14 : a.kind = 14
  · rw [if_pos k14]
  rw [if_neg k14]
  by_cases k15 : a.kind = 15
  · rw [if_pos k15]
  rw [if_neg k15]
  by_cases k16 : a.kind = 16
  · rw [if_pos k16]
  rw [if_neg k16]
  by_cases k17 : a.kind = 17
  · rw [if_pos k17]
  rw [if_neg k17]
  by_cases k18 : a.kind = 18
  · rw [if_pos k18]; split
    · exact hj
    · rfl
  rw [if_neg k18]
  by_cases k19 : a.kind = 19
  · rw [if_pos k19]; exact hl
  rw [if_neg k19]
  by_cases k20 : a.kind = 20
  · rw [if_pos k20]; split <;> rfl
  rw [if_neg k20]
  by_cases k21 : a.kind = 21
  · rw [if_pos k21]; exact ho
  rw [if_neg k21]
end Go.Proofs.YtbkcmnmbcldjoaaGreatDoor
