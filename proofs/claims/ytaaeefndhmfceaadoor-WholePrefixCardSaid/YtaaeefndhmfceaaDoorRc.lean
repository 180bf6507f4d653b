/- Plain mathematics of layer 3: records, what they may be, how they are bytes, and how bytes are records. No program. -/
import Derived.Test.YtaaeefndhmfceaaDoorPkF
import Derived.Lib.Strings
namespace RC
open Go

structure It where
  score : Nat
  name : ByteArray
structure Rc where
  kind : Int
  num : Int
  low : Int
  high : Int
  real : Nat
  cap : Int
  text : ByteArray
  list : List It
abbrev I64 (n : Int) : Prop := (Lit.int .i64 n).wf = true
structure Rc.ok (r : Rc) : Prop where
  kind : I64 r.kind
  num : I64 r.num
  low : I64 r.low
  high : I64 r.high
  real : MF.W64 r.real
  cap : I64 r.cap
  list : ∀ x ∈ r.list, MF.W64 x.score
def zero : Rc := ⟨0, 0, 0, 0, 0, 0, ⟨#[]⟩, []⟩
theorem zero_ok : zero.ok := ⟨rfl, rfl, rfl, rfl, by unfold MF.W64; decide, rfl, fun x h => by cases h⟩

theorem less_eq : ∀ (x y : List UInt8), Op.bytesLess x y = decide (x < y)
  | [], [] => rfl
  | [], b :: y => rfl
  | a :: x, [] => rfl
  | a :: x, b :: y => by
    have ih := less_eq x y
    unfold Op.bytesLess
    rw [ih, Bool.eq_iff_iff]
    simp [List.cons_lt_cons_iff]

def strLt (a b : ByteArray) : Bool := Op.bytesLess a.toList b.toList
def strEq (a b : ByteArray) : Bool := a.toList == b.toList
theorem strEq_iff (a b : ByteArray) : strEq a b = true ↔ a = b := by
  unfold strEq
  rw [beq_iff_eq]
  constructor
  · intro h
    rw [Lib.toList_data, Lib.toList_data] at h
    cases a; cases b
    simpa using h
  · rintro rfl; rfl
theorem strEq_refl (a : ByteArray) : strEq a a = true := (strEq_iff a a).2 rfl
theorem strLt_iff (a b : ByteArray) : strLt a b = true ↔ a.data.toList < b.data.toList := by
  unfold strLt; rw [less_eq, Lib.toList_data, Lib.toList_data]; simp
theorem strLt_irrefl (a : ByteArray) : strLt a a = false := by
  rw [Bool.eq_false_iff]; intro h; exact List.lt_irrefl _ ((strLt_iff a a).1 h)
theorem strLt_trans {a b c : ByteArray} (h : strLt a b = true) (k : strLt b c = true) : strLt a c = true := by
  rw [strLt_iff] at *; exact List.lt_trans h k
theorem strLt_asymm {a b : ByteArray} (h : strLt a b = true) : strLt b a = false := by
  rw [Bool.eq_false_iff]; intro k
  have := strLt_trans h k
  rw [strLt_irrefl] at this; cases this

def better (a b : It) : Bool := if MF.same a.score b.score then strLt a.name b.name else MF.less b.score a.score
def sameIt (a b : It) : Bool := MF.same a.score b.score && strEq a.name b.name
def sameL : List It → List It → Bool
  | [], [] => true
  | a :: l, b :: m => sameIt a b && sameL l m
  | _, _ => false
theorem sameL_len : ∀ (l m : List It), l.length ≠ m.length → sameL l m = false
  | [], [], h => absurd rfl h
  | [], _ :: _, _ => rfl
  | _ :: _, [], _ => rfl
  | a :: l, b :: m, h => by
    show (sameIt a b && sameL l m) = false
    rw [sameL_len l m (by simpa using h), Bool.and_false]
def same (a b : Rc) : Bool := a.kind == b.kind && a.num == b.num && a.low == b.low && a.high == b.high && MF.same a.real b.real && a.cap == b.cap && strEq a.text b.text && sameL a.list b.list

/-- What a record has that its kind hasn't. -/
def rest (r : Rc) : Rc :=
  ⟨0, if 2 ≤ r.kind ∧ r.kind ≤ 4 then 0 else r.num, if r.kind = 4 then 0 else r.low, if r.kind = 4 then 0 else r.high, if 5 ≤ r.kind ∧ r.kind ≤ 7 then 0 else r.real,
    if 8 ≤ r.kind ∧ r.kind ≤ 9 then 0 else r.cap, if r.kind = 1 then ⟨#[]⟩ else r.text, if 8 ≤ r.kind ∧ r.kind ≤ 9 then [] else r.list⟩
def clean (r : Rc) : Bool := same (rest r) zero

def fits (k : Int) (s : Nat) : Bool := if k = 8 then MF.same s 0 else MF.proper s
def ahead (k : Int) (a b : It) : Bool := if k = 8 then strLt a.name b.name else better a b
def follows (k : Int) (p : Option It) (x : It) : Bool :=
  match p with
  | none => true
  | some p => ahead k p x
def itemE (k : Int) (p : Option It) (x : It) : Nat := if 16 < x.name.size then 3 else if fits k x.score && follows k p x then 0 else 4
def itemsE (k : Int) (p : Option It) : List It → Nat
  | [] => 0
  | x :: l => if itemE k p x = 0 then itemsE k (some x) l else itemE k p x
def prev (l : List It) (i : Nat) : Option It := if i = 0 then none else l[i - 1]?
def purseOk (r : Rc) : Bool := decide (-2305843009213693952 ≤ r.low ∧ r.low ≤ r.num ∧ r.num ≤ r.high ∧ r.high ≤ 2305843009213693952)
def listE (r : Rc) : Nat := if r.cap < 1 ∨ 32 < r.cap then 1 else if r.cap < r.list.length then 8 else itemsE r.kind none r.list
def fieldE (r : Rc) : Nat :=
  if r.kind = 1 then (if 64 < r.text.size then 3 else 0)
  else if r.kind = 4 then (if purseOk r then 0 else 1)
  else if 5 ≤ r.kind ∧ r.kind ≤ 7 then (if MF.proper r.real then 0 else 4)
  else if 8 ≤ r.kind then listE r
  else 0
def known (k : Int) : Bool := decide (0 < k ∧ k < 10)
/-- May a record be? The error's number. -/
def chk (r : Rc) : Nat := if known r.kind then (if clean r then fieldE r else 4) else 5

theorem prev_zero (l : List It) : prev l 0 = none := rfl
theorem prev_succ (l : List It) (i : Nat) (h : i < l.length) : prev l (i + 1) = some l[i] := by
  unfold prev; rw [if_neg (by omega)]; simp [h]
theorem itemsE_step (k : Int) (l : List It) (i : Nat) (h : i < l.length) (h0 : itemE k (prev l i) l[i] = 0) : itemsE k (prev l i) (l.drop i) = itemsE k (prev l (i + 1)) (l.drop (i + 1)) := by
  rw [List.drop_eq_getElem_cons h, prev_succ l i h]
  show (if itemE k (prev l i) l[i] = 0 then _ else _) = _
  rw [if_pos h0]
theorem itemsE_stop (k : Int) (l : List It) (i : Nat) (h : i < l.length) (h0 : itemE k (prev l i) l[i] ≠ 0) : itemsE k (prev l i) (l.drop i) = itemE k (prev l i) l[i] := by
  rw [List.drop_eq_getElem_cons h]
  show (if itemE k (prev l i) l[i] = 0 then _ else _) = _
  rw [if_neg h0]
theorem kind9 {k : Int} (h : known k = true) : k = 1 ∨ k = 2 ∨ k = 3 ∨ k = 4 ∨ k = 5 ∨ k = 6 ∨ k = 7 ∨ k = 8 ∨ k = 9 := by
  unfold known at h; simp at h; omega

/-! ### numbers that are the same -/
theorem proper_eq {x : Nat} (h : MF.proper x = true) : MF.canon x = x := by unfold MF.proper at h; exact (eq_of_beq h).symm
theorem same_proper {a b : Nat} (ha : MF.W64 a) (hb : MF.W64 b) (pa : MF.proper a = true) (pb : MF.proper b = true) (h : MF.same a b = true) : a = b := by
  unfold MF.same at h
  have h := of_decide_eq_true h
  have e1 := MF.bk_key ha
  have e2 := MF.bk_key hb
  rw [h, e2] at e1
  rw [proper_eq pa, proper_eq pb] at e1
  exact e1.symm
theorem same_refl (a : Nat) : MF.same a a = true := by unfold MF.same; simp
theorem same_comm (a b : Nat) : MF.same a b = MF.same b a := by unfold MF.same; rw [Bool.eq_iff_iff]; simp; omega
theorem zero_of_same {a : Nat} (ha : MF.W64 a) (h : MF.same a 0 = true) : a = 0 := by
  unfold MF.same at h
  have h := of_decide_eq_true h
  have e1 := MF.bk_key ha
  rw [h] at e1
  have e2 : MF.bk (MF.key 0) = 0 := by decide
  rw [e2] at e1
  by_cases hn : MF.nan a = true
  · rw [MF.canon_eq a true hn] at e1; cases e1
  · rw [MF.canon_eq a false (by simpa using hn)] at e1; exact e1.symm
theorem proper_zero : MF.proper 0 = true := by decide

theorem sameIt_refl (a : It) : sameIt a a = true := by unfold sameIt; rw [same_refl, strEq_refl]; rfl
theorem sameL_refl : ∀ l : List It, sameL l l = true
  | [] => rfl
  | a :: l => by show (sameIt a a && sameL l l) = true; rw [sameIt_refl, sameL_refl l]; rfl
theorem same_refl' (r : Rc) : same r r = true := by
  unfold same; simp [same_refl, strEq_refl, sameL_refl]
theorem strEq_comm (a b : ByteArray) : strEq a b = strEq b a := by
  rw [Bool.eq_iff_iff, strEq_iff, strEq_iff]; exact ⟨Eq.symm, Eq.symm⟩
theorem sameL_comm : ∀ l m : List It, sameL l m = sameL m l
  | [], [] => rfl
  | [], _ :: _ => rfl
  | _ :: _, [] => rfl
  | a :: l, b :: m => by
    show (sameIt a b && sameL l m) = (sameIt b a && sameL m l)
    rw [sameL_comm l m]; unfold sameIt; rw [same_comm, strEq_comm]
theorem beq_comm' (a b : Int) : (a == b) = (b == a) := by rw [Bool.eq_iff_iff]; simp; exact ⟨Eq.symm, Eq.symm⟩
theorem same_comm' (a b : Rc) : same a b = same b a := by
  unfold same
  rw [beq_comm' a.kind, beq_comm' a.num, beq_comm' a.low, beq_comm' a.high, same_comm a.real, beq_comm' a.cap, strEq_comm a.text, sameL_comm a.list]
theorem same_split {a b : Rc} (h : same a b = true) : a.kind = b.kind ∧ a.num = b.num ∧ a.low = b.low ∧ a.high = b.high ∧ MF.same a.real b.real = true ∧ a.cap = b.cap ∧ a.text = b.text ∧ sameL a.list b.list = true := by
  unfold same at h
  simp only [Bool.and_eq_true, beq_iff_eq, strEq_iff] at h
  obtain ⟨⟨⟨⟨⟨⟨⟨h1, h2⟩, h3⟩, h4⟩, h5⟩, h6⟩, h7⟩, h8⟩ := h
  exact ⟨h1, h2, h3, h4, h5, h6, h7, h8⟩

/-! ### what a record that may be is -/
theorem sameL_nil {l : List It} (h : sameL l [] = true) : l = [] := by
  cases l with
  | nil => rfl
  | cons a l => cases h
/-- The fields that a record's kind hasn't. -/
structure Only (r : Rc) : Prop where
  num : ¬ (2 ≤ r.kind ∧ r.kind ≤ 4) → r.num = 0
  low : r.kind ≠ 4 → r.low = 0
  high : r.kind ≠ 4 → r.high = 0
  real : ¬ (5 ≤ r.kind ∧ r.kind ≤ 7) → MF.same r.real 0 = true
  cap : ¬ (8 ≤ r.kind ∧ r.kind ≤ 9) → r.cap = 0
  text : r.kind ≠ 1 → r.text = ⟨#[]⟩
  list : ¬ (8 ≤ r.kind ∧ r.kind ≤ 9) → r.list = []
theorem clean_iff (r : Rc) : clean r = true ↔ Only r := by
  constructor
  · intro h
    obtain ⟨_, h2, h3, h4, h5, h6, h7, h8⟩ := same_split h
    unfold rest zero at h2 h3 h4 h5 h6 h7 h8
    simp only at h2 h3 h4 h5 h6 h7 h8
    refine ⟨fun k => ?_, fun k => ?_, fun k => ?_, fun k => ?_, fun k => ?_, fun k => ?_, fun k => ?_⟩
    · rw [if_neg k] at h2; exact h2
    · rw [if_neg k] at h3; exact h3
    · rw [if_neg k] at h4; exact h4
    · rw [if_neg k] at h5; exact h5
    · rw [if_neg k] at h6; exact h6
    · rw [if_neg k] at h7; exact h7
    · rw [if_neg k] at h8; exact sameL_nil h8
  · rintro ⟨h2, h3, h4, h5, h6, h7, h8⟩
    unfold clean same rest zero
    simp only [Bool.and_eq_true, beq_iff_eq, strEq_iff]
    refine ⟨⟨⟨⟨⟨⟨⟨trivial, ?_⟩, ?_⟩, ?_⟩, ?_⟩, ?_⟩, ?_⟩, ?_⟩
    · split
      · rfl
      · exact h2 ‹_›
    · split
      · rfl
      · exact h3 ‹_›
    · split
      · rfl
      · exact h4 ‹_›
    · split
      · exact same_refl 0
      · exact h5 ‹_›
    · split
      · rfl
      · exact h6 ‹_›
    · split
      · rfl
      · exact h7 ‹_›
    · split
      · rfl
      · rw [h8 ‹_›]; rfl
theorem chk_zero {r : Rc} (h : chk r = 0) : known r.kind = true ∧ Only r ∧ fieldE r = 0 := by
  unfold chk at h
  split at h
  · split at h
    · exact ⟨‹_›, (clean_iff r).1 ‹_›, h⟩
    · cases h
  · cases h
theorem Rc.ext' {a b : Rc} (h1 : a.kind = b.kind) (h2 : a.num = b.num) (h3 : a.low = b.low) (h4 : a.high = b.high) (h5 : a.real = b.real) (h6 : a.cap = b.cap) (h7 : a.text = b.text) (h8 : a.list = b.list) : a = b := by
  cases a; cases b; simp_all
theorem itemE_zero {k : Int} {p : Option It} {x : It} (h : itemE k p x = 0) : x.name.size ≤ 16 ∧ fits k x.score = true := by
  unfold itemE at h
  split at h
  · cases h
  · split at h
    · rename_i h1 h2
      simp only [Bool.and_eq_true] at h2
      exact ⟨by omega, h2.1⟩
    · cases h
theorem itemsE_zero {k : Int} : ∀ {l : List It} {p : Option It}, itemsE k p l = 0 → ∀ x ∈ l, x.name.size ≤ 16 ∧ fits k x.score = true
  | [], _, _, x, hx => by cases hx
  | a :: l, p, h, x, hx => by
    have h : (if itemE k p a = 0 then itemsE k (some a) l else itemE k p a) = 0 := h
    split at h
    · rcases List.mem_cons.1 hx with rfl | hx
      · exact itemE_zero ‹_›
      · exact itemsE_zero h x hx
    · exact absurd h ‹_›
theorem fits_proper {k : Int} {s : Nat} (hs : MF.W64 s) (h : fits k s = true) : MF.proper s = true ∧ (k = 8 → s = 0) := by
  unfold fits at h
  split at h
  · have := zero_of_same hs h
    subst this
    exact ⟨proper_zero, fun _ => rfl⟩
  · exact ⟨h, fun e => absurd e ‹_›⟩

/-- What a record that may be has. -/
structure May (r : Rc) : Prop where
  known : known r.kind = true
  only : Only r
  real : MF.proper r.real = true
  real0 : ¬ (5 ≤ r.kind ∧ r.kind ≤ 7) → r.real = 0
  text : r.text.size ≤ 64
  cap : 0 ≤ r.cap ∧ r.cap ≤ 32
  len : r.list.length ≤ 32
  items : ∀ x ∈ r.list, x.name.size ≤ 16 ∧ MF.proper x.score = true ∧ (r.kind = 8 → x.score = 0)
theorem chk_may {r : Rc} (hr : r.ok) (h : chk r = 0) : May r := by
  obtain ⟨hk, ho, hf⟩ := chk_zero h
  have real0 : ¬ (5 ≤ r.kind ∧ r.kind ≤ 7) → r.real = 0 := fun k => zero_of_same hr.real (ho.real k)
  refine ⟨hk, ho, ?_, real0, ?_, ?_, ?_, ?_⟩
  · by_cases k : 5 ≤ r.kind ∧ r.kind ≤ 7
    · unfold fieldE at hf
      rw [if_neg (by omega), if_neg (by omega), if_pos k] at hf
      split at hf
      · assumption
      · cases hf
    · rw [real0 k]; exact proper_zero
  · by_cases k : r.kind = 1
    · unfold fieldE at hf
      rw [if_pos k] at hf
      split at hf
      · cases hf
      · omega
    · rw [ho.text k]; exact Nat.zero_le _
  · by_cases k : 8 ≤ r.kind ∧ r.kind ≤ 9
    · unfold fieldE at hf
      rw [if_neg (by omega), if_neg (by omega), if_neg (by omega), if_pos k.1] at hf
      unfold listE at hf
      split at hf
      · cases hf
      · omega
    · rw [ho.cap k]; omega
  · by_cases k : 8 ≤ r.kind ∧ r.kind ≤ 9
    · unfold fieldE at hf
      rw [if_neg (by omega), if_neg (by omega), if_neg (by omega), if_pos k.1] at hf
      unfold listE at hf
      split at hf
      · cases hf
      · split at hf
        · cases hf
        · omega
    · rw [ho.list k]; exact Nat.zero_le _
  · intro x hx
    by_cases k : 8 ≤ r.kind ∧ r.kind ≤ 9
    · unfold fieldE at hf
      rw [if_neg (by omega), if_neg (by omega), if_neg (by omega), if_pos k.1] at hf
      unfold listE at hf
      split at hf
      · cases hf
      · split at hf
        · cases hf
        · have h1 := itemsE_zero hf x hx
          have h2 := fits_proper (hr.list x hx) h1.2
          exact ⟨h1.1, h2.1, h2.2⟩
    · rw [ho.list k] at hx; cases hx
theorem sameL_eq : ∀ {l m : List It}, (∀ x ∈ l, MF.W64 x.score ∧ MF.proper x.score = true) → (∀ x ∈ m, MF.W64 x.score ∧ MF.proper x.score = true) → sameL l m = true → l = m
  | [], [], _, _, _ => rfl
  | [], _ :: _, _, _, h => by cases h
  | _ :: _, [], _, _, h => by cases h
  | a :: l, b :: m, hl, hm, h => by
    have h : (sameIt a b && sameL l m) = true := h
    rw [Bool.and_eq_true] at h
    have h1 := h.1
    unfold sameIt at h1
    rw [Bool.and_eq_true, strEq_iff] at h1
    have ha := hl a (List.mem_cons_self ..)
    have hb := hm b (List.mem_cons_self ..)
    have e := same_proper ha.1 hb.1 ha.2 hb.2 h1.1
    rw [sameL_eq (fun x hx => hl x (List.mem_cons_of_mem _ hx)) (fun x hx => hm x (List.mem_cons_of_mem _ hx)) h.2]
    cases a; cases b; simp_all
/-- Two records that may be, and are the same, are one. -/
theorem same_may {a b : Rc} (ha : a.ok) (hb : b.ok) (ma : May a) (mb : May b) (h : same a b = true) : a = b := by
  obtain ⟨h1, h2, h3, h4, h5, h6, h7, h8⟩ := same_split h
  exact Rc.ext' h1 h2 h3 h4 (same_proper ha.real hb.real ma.real mb.real h5) h6 h7
    (sameL_eq (fun x hx => ⟨ha.list x hx, (ma.items x hx).2.1⟩) (fun x hx => ⟨hb.list x hx, (mb.items x hx).2.1⟩) h8)

/-! ### as bytes -/
def itB (k : Int) (x : It) : List UInt8 := (if k = 9 then PK.placeB (MF.key x.score) else []) ++ PK.textB x.name.data.toList
def itsB (k : Int) : List It → List UInt8
  | [] => []
  | x :: l => itB k x ++ itsB k l
theorem itsB_snoc (k : Int) : ∀ (l : List It) (x : It), itsB k (l ++ [x]) = itsB k l ++ itB k x
  | [], x => by simp [itsB]
  | a :: l, x => by simp only [List.cons_append, itsB, itsB_snoc k l x, List.append_assoc]
theorem itsB_append (k : Int) : ∀ (l m : List It), itsB k (l ++ m) = itsB k l ++ itsB k m
  | [], m => by simp [itsB]
  | a :: l, m => by simp only [List.cons_append, itsB, itsB_append k l m, List.append_assoc]
theorem itsB_take (k : Int) (l : List It) (i : Nat) (h : i < l.length) : itsB k (l.take (i + 1)) = itsB k (l.take i) ++ itB k l[i] := by
  rw [List.take_succ_eq_append_getElem h, itsB_snoc]
theorem itsB_le (k : Int) (l : List It) (i : Nat) : (itsB k (l.take i)).length ≤ (itsB k l).length := by
  have := congrArg List.length (itsB_append k (l.take i) (l.drop i))
  rw [List.take_append_drop, List.length_append] at this
  omega
def listB (r : Rc) : List UInt8 := PK.digits r.cap.toNat ++ (PK.digits r.list.length ++ itsB r.kind r.list)
def fieldB (r : Rc) : List UInt8 :=
  if r.kind = 1 then PK.textB r.text.data.toList
  else if r.kind = 2 ∨ r.kind = 3 then PK.digits (PK.zig r.num)
  else if r.kind = 4 then PK.digits (PK.zig r.low) ++ (PK.digits (PK.zig r.high) ++ PK.digits (PK.zig r.num))
  else if r.kind = 5 ∨ r.kind = 6 ∨ r.kind = 7 then PK.placeB (MF.key r.real)
  else if r.kind = 8 ∨ r.kind = 9 then listB r
  else []
/-- A record as bytes. -/
def recB (r : Rc) : List UInt8 := PK.digits r.kind.toNat ++ fieldB r
end RC
