/- Plain mathematics of layer 3: records, what they may be, how they are bytes, and how bytes are records. No program. -/
import Derived.Test.YtlpecaldodganaaGreatDoorPkM
import Derived.Lib.Strings
namespace RC
open Go

structure It where
  score : Nat
  name : ByteArray
structure Rc where
  kind : Int
  num : Int
  low : Int
  high : Int
  real : Nat
  cap : Int
  text : ByteArray
  list : List It
abbrev I64 (n : Int) : Prop := (Lit.int .i64 n).wf = true
structure Rc.ok (r : Rc) : Prop where
  kind : I64 r.kind
  num : I64 r.num
  low : I64 r.low
  high : I64 r.high
  real : MF.W64 r.real
  cap : I64 r.cap
  list : ∀ x ∈ r.list, MF.W64 x.score
def zero : Rc := ⟨0, 0, 0, 0, 0, 0, ⟨#[]⟩, []⟩
theorem zero_ok : zero.ok := ⟨rfl, rfl, rfl, rfl, by unfold MF.W64; decide, rfl, fun x h => by cases h⟩

theorem less_eq : ∀ (x y : List UInt8), Op.bytesLess x y = decide (x < y)
  | [], [] => rfl
  | [], b :: y => rfl
  | a :: x, [] => rfl
  | a :: x, b :: y => by
    have ih := less_eq x y
    unfold Op.bytesLess
    rw [ih, Bool.eq_iff_iff]
    simp [List.cons_lt_cons_iff]

def strLt (a b : ByteArray) : Bool := Op.bytesLess a.toList b.toList
def strEq (a b : ByteArray) : Bool := a.toList == b.toList
theorem strEq_iff (a b : ByteArray) : strEq a b = true ↔ a = b := by
  unfold strEq
  rw [beq_iff_eq]
  constructor
  · intro h
    rw [Lib.toList_data, Lib.toList_data] at h
    cases a; cases b
    simpa using h
  · rintro rfl; rfl
theorem strEq_refl (a : ByteArray) : strEq a a = true := (strEq_iff a a).2 rfl
theorem strLt_iff (a b : ByteArray) : strLt a b = true ↔ a.data.toList < b.data.toList := by
  unfold strLt; rw [less_eq, Lib.toList_data, Lib.toList_data]; simp
theorem strLt_irrefl (a : ByteArray) : strLt a a = false := by
  rw [Bool.eq_false_iff]; intro h; exact List.lt_irrefl _ ((strLt_iff a a).1 h)
theorem strLt_trans {a b c : ByteArray} (h : strLt a b = true) (k : strLt b c = true) : strLt a c = true := by
  rw [strLt_iff] at *; exact List.lt_trans h k
theorem strLt_asymm {a b : ByteArray} (h : strLt a b = true) : strLt b a = false := by
  rw [Bool.eq_false_iff]; intro k
  have := strLt_trans h k
  rw [strLt_irrefl] at this; cases this

def better (a b : It) : Bool := if MF.same a.score b.score then strLt a.name b.name else MF.less b.score a.score
def sameIt (a b : It) : Bool := MF.same a.score b.score && strEq a.name b.name
def sameL : List It → List It → Bool
  | [], [] => true
  | a :: l, b :: m => sameIt a b && sameL l m
  | _, _ => false
theorem sameL_len : ∀ (l m : List It), l.length ≠ m.length → sameL l m = false
  | [], [], h => absurd rfl h
  | [], _ :: _, _ => rfl
  | _ :: _, [], _ => rfl
  | a :: l, b :: m, h => by
    show (sameIt a b && sameL l m) = false
    rw [sameL_len l m (by simpa using h), Bool.and_false]
def same (a b : Rc) : Bool := a.kind == b.kind && a.num == b.num && a.low == b.low && a.high == b.high && MF.same a.real b.real && a.cap == b.cap && strEq a.text b.text && sameL a.list b.list

/-- What a record has that its kind hasn't. -/
def rest (r : Rc) : Rc :=
  ⟨0, if 2 ≤ r.kind ∧ r.kind ≤ 4 then 0 else r.num, if r.kind = 4 then 0 else r.low, if r.kind = 4 then 0 else r.high, if 5 ≤ r.kind ∧ r.kind ≤ 7 then 0 else r.real,
    if 8 ≤ r.kind ∧ r.kind ≤ 9 then 0 else r.cap, if r.kind = 1 then ⟨#[]⟩ else r.text, if 8 ≤ r.kind ∧ r.kind ≤ 9 then [] else r.list⟩
def clean (r : Rc) : Bool := same (rest r) zero

def fits (k : Int) (s : Nat) : Bool := if k = 8 then MF.same s 0 else MF.proper s
def ahead (k : Int) (a b : It) : Bool := if k = 8 then strLt a.name b.name else better a b
def follows (k : Int) (p : Option It) (x : It) : Bool :=
  match p with
  | none => true
  | some p => ahead k p x
def itemE (k : Int) (p : Option It) (x : It) : Nat := if 16 < x.name.size then 3 else if fits k x.score && follows k p x then 0 else 4
def itemsE (k : Int) (p : Option It) : List It → Nat
  | [] => 0
  | x :: l => if itemE k p x = 0 then itemsE k (some x) l else itemE k p x
def prev (l : List It) (i : Nat) : Option It := if i = 0 then none else l[i - 1]?
def purseOk (r : Rc) : Bool := decide (-2305843009213693952 ≤ r.low ∧ r.low ≤ r.num ∧ r.num ≤ r.high ∧ r.high ≤ 2305843009213693952)
def listE (r : Rc) : Nat := if r.cap < 1 ∨ 32 < r.cap then 1 else if r.cap < r.list.length then 8 else itemsE r.kind none r.list
def fieldE (r : Rc) : Nat :=
  if r.kind = 1 then (if 64 < r.text.size then 3 else 0)
  else if r.kind = 4 then (if purseOk r then 0 else 1)
  else if 5 ≤ r.kind ∧ r.kind ≤ 7 then (if MF.proper r.real then 0 else 4)
  else if 8 ≤ r.kind then listE r
  else 0
def known (k : Int) : Bool := decide (0 < k ∧ k < 10)
/-- May a record be? The error's number. -/
def chk (r : Rc) : Nat := if known r.kind then (if clean r then fieldE r else 4) else 5

theorem prev_zero (l : List It) : prev l 0 = none := rfl
theorem prev_succ (l : List It) (i : Nat) (h : i < l.length) : prev l (i + 1) = some l[i] := by
  unfold prev; rw [if_neg (by omega)]; simp [h]
theorem itemsE_step (k : Int) (l : List It) (i : Nat) (h : i < l.length) (h0 : itemE k (prev l i) l[i] = 0) : itemsE k (prev l i) (l.drop i) = itemsE k (prev l (i + 1)) (l.drop (i + 1)) := by
  rw [List.drop_eq_getElem_cons h, prev_succ l i h]
  show (if itemE k (prev l i) l[i] = 0 then _ else _) = _
  rw [if_pos h0]
theorem itemsE_stop (k : Int) (l : List It) (i : Nat) (h : i < l.length) (h0 : itemE k (prev l i) l[i] ≠ 0) : itemsE k (prev l i) (l.drop i) = itemE k (prev l i) l[i] := by
  rw [List.drop_eq_getElem_cons h]
  show (if itemE k (prev l i) l[i] = 0 then _ else _) = _
  rw [if_neg h0]
theorem kind9 {k : Int} (h : known k = true) : k = 1 ∨ k = 2 ∨ k = 3 ∨ k = 4 ∨ k = 5 ∨ k = 6 ∨ k = 7 ∨ k = 8 ∨ k = 9 := by
  unfold known at h; simp at h; omega

/-! ### numbers that are the same -/
theorem proper_eq {x : Nat} (h : MF.proper x = true) : MF.canon x = x := by unfold MF.proper at h; exact (eq_of_beq h).symm
theorem same_proper {a b : Nat} (ha : MF.W64 a) (hb : MF.W64 b) (pa : MF.proper a = true) (pb : MF.proper b = true) (h : MF.same a b = true) : a = b := by
  unfold MF.same at h
  have h := of_decide_eq_true h
  have e1 := MF.bk_key ha
  have e2 := MF.bk_key hb
  rw [h, e2] at e1
  rw [proper_eq pa, proper_eq pb] at e1
  exact e1.symm
theorem same_refl (a : Nat) : MF.same a a = true := by unfold MF.same; simp
theorem same_comm (a b : Nat) : MF.same a b = MF.same b a := by unfold MF.same; rw [Bool.eq_iff_iff]; simp; omega
theorem zero_of_same {a : Nat} (ha : MF.W64 a) (h : MF.same a 0 = true) : a = 0 := by
  unfold MF.same at h
  have h := of_decide_eq_true h
  have e1 := MF.bk_key ha
  rw [h] at e1
  have e2 : MF.bk (MF.key 0) = 0 := by decide
  rw [e2] at e1
  by_cases hn : MF.nan a = true
  · rw [MF.canon_eq a true hn] at e1; cases e1
  · rw [MF.canon_eq a false (by simpa using hn)] at e1; exact e1.symm
theorem proper_zero : MF.proper 0 = true := by decide

theorem sameIt_refl (a : It) : sameIt a a = true := by unfold sameIt; rw [same_refl, strEq_refl]; rfl
theorem sameL_refl : ∀ l : List It, sameL l l = true
  | [] => rfl
  | a :: l => by show (sameIt a a && sameL l l) = true; rw [sameIt_refl, sameL_refl l]; rfl
theorem same_refl' (r : Rc) : same r r = true := by
  unfold same; simp [same_refl, strEq_refl, sameL_refl]
theorem strEq_comm (a b : ByteArray) : strEq a b = strEq b a := by
  rw [Bool.eq_iff_iff, strEq_iff, strEq_iff]; exact ⟨Eq.symm, Eq.symm⟩
theorem sameL_comm : ∀ l m : List It, sameL l m = sameL m l
  | [], [] => rfl
  | [], _ :: _ => rfl
  | _ :: _, [] => rfl
  | a :: l, b :: m => by
    show (sameIt a b && sameL l m) = (sameIt b a && sameL m l)
    rw [sameL_comm l m]; unfold sameIt; rw [same_comm, strEq_comm]
theorem beq_comm' (a b : Int) : (a == b) = (b == a) := by rw [Bool.eq_iff_iff]; simp; exact ⟨Eq.symm, Eq.symm⟩
theorem same_comm' (a b : Rc) : same a b = same b a := by
  unfold same
  rw [beq_comm' a.kind, beq_comm' a.num, beq_comm' a.low, beq_comm' a.high, same_comm a.real, beq_comm' a.cap, strEq_comm a.text, sameL_comm a.list]
theorem same_split {a b : Rc} (h : same a b = true) : a.kind = b.kind ∧ a.num = b.num ∧ a.low = b.low ∧ a.high = b.high ∧ MF.same a.real b.real = true ∧ a.cap = b.cap ∧ a.text = b.text ∧ sameL a.list b.list = true := by
  unfold same at h
  simp only [Bool.and_eq_true, beq_iff_eq, strEq_iff] at h
  obtain ⟨⟨⟨⟨⟨⟨⟨h1, h2⟩, h3⟩, h4⟩, h5⟩, h6⟩, h7⟩, h8⟩ := h
  exact ⟨h1, h2, h3, h4, h5, h6, h7, h8⟩

/-! ### what a record that may be is -/
theorem sameL_nil {l : List It} (h : sameL l [] = true) : l = [] := by
  cases l with
  | nil => rfl
  | cons a l => cases h
/-- The fields that a record's kind hasn't. -/
structure Only (r : Rc) : Prop where
  num : ¬ (2 ≤ r.kind ∧ r.kind ≤ 4) → r.num = 0
  low : r.kind ≠ 4 → r.low = 0
  high : r.kind ≠ 4 → r.high = 0
  real : ¬ (5 ≤ r.kind ∧ r.kind ≤ 7) → MF.same r.real 0 = true
  cap : ¬ (8 ≤ r.kind ∧ r.kind ≤ 9) → r.cap = 0
  text : r.kind ≠ 1 → r.text = ⟨#[]⟩
  list : ¬ (8 ≤ r.kind ∧ r.kind ≤ 9) → r.list = []
theorem clean_iff (r : Rc) : clean r = true ↔ Only r := by
  constructor
  · intro h
    obtain ⟨_, h2, h3, h4, h5, h6, h7, h8⟩ := same_split h
    unfold rest zero at h2 h3 h4 h5 h6 h7 h8
    simp only at h2 h3 h4 h5 h6 h7 h8
    refine ⟨fun k => ?_, fun k => ?_, fun k => ?_, fun k => ?_, fun k => ?_, fun k => ?_, fun k => ?_⟩
    · rw [if_neg k] at h2; exact h2
    · rw [if_neg k] at h3; exact h3
    · rw [if_neg k] at h4; exact h4
    · rw [if_neg k] at h5; exact h5
    · rw [if_neg k] at h6; exact h6
    · rw [if_neg k] at h7; exact h7
    · rw [if_neg k] at h8; exact sameL_nil h8
  · rintro ⟨h2, h3, h4, h5, h6, h7, h8⟩
    unfold clean same rest zero
    simp only [Bool.and_eq_true, beq_iff_eq, strEq_iff]
    refine ⟨⟨⟨⟨⟨⟨⟨trivial, ?_⟩, ?_⟩, ?_⟩, ?_⟩, ?_⟩, ?_⟩, ?_⟩
    · split
      · rfl
      · exact h2 ‹_›
    · split
      · rfl
      · exact h3 ‹_›
    · split
      · rfl
      · exact h4 ‹_›
    · split
      · exact same_refl 0
      · exact h5 ‹_›
    · split
      · rfl
      · exact h6 ‹_›
    · split
      · rfl
      · exact h7 ‹_›
    · split
      · rfl
      · rw [h8 ‹_›]; rfl
theorem chk_zero {r : Rc} (h : chk r = 0) : known r.kind = true ∧ Only r ∧ fieldE r = 0 := by
  unfold chk at h
  split at h
  · split at h
    · exact ⟨‹_›, (clean_iff r).1 ‹_›, h⟩
    · cases h
  · cases h
theorem Rc.ext' {a b : Rc} (h1 : a.kind = b.kind) (h2 : a.num = b.num) (h3 : a.low = b.low) (h4 : a.high = b.high) (h5 : a.real = b.real) (h6 : a.cap = b.cap) (h7 : a.text = b.text) (h8 : a.list = b.list) : a = b := by
  cases a; cases b; simp_all
theorem itemE_zero {k : Int} {p : Option It} {x : It} (h : itemE k p x = 0) : x.name.size ≤ 16 ∧ fits k x.score = true := by
  unfold itemE at h
  split at h
  · cases h
  · split at h
    · rename_i h1 h2
      simp only [Bool.and_eq_true] at h2
      exact ⟨by omega, h2.1⟩
    · cases h
theorem itemsE_zero {k : Int} : ∀ {l : List It} {p : Option It}, itemsE k p l = 0 → ∀ x ∈ l, x.name.size ≤ 16 ∧ fits k x.score = true
  | [], _, _, x, hx => by cases hx
  | a :: l, p, h, x, hx => by
    have h : (if itemE k p a = 0 then itemsE k (some a) l else itemE k p a) = 0 := h
    split at h
    · rcases List.mem_cons.1 hx with rfl | hx
      · exact itemE_zero ‹_›
      · exact itemsE_zero h x hx
    · exact absurd h ‹_›
theorem fits_proper {k : Int} {s : Nat} (hs : MF.W64 s) (h : fits k s = true) : MF.proper s = true ∧ (k = 8 → s = 0) := by
  unfold fits at h
  split at h
  · have := zero_of_same hs h
    subst this
    exact ⟨proper_zero, fun _ => rfl⟩
  · exact ⟨h, fun e => absurd e ‹_›⟩

/-- What a record that may be has. -/
structure May (r : Rc) : Prop where
  known : known r.kind = true
  only : Only r
  real : MF.proper r.real = true
  real0 : ¬ (5 ≤ r.kind ∧ r.kind ≤ 7) → r.real = 0
  text : r.text.size ≤ 64
  cap : 0 ≤ r.cap ∧ r.cap ≤ 32
  len : r.list.length ≤ 32
  items : ∀ x ∈ r.list, x.name.size ≤ 16 ∧ MF.proper x.score = true ∧ (r.kind = 8 → x.score = 0)
theorem chk_may {r : Rc} (hr : r.ok) (h : chk r = 0) : May r := by
  obtain ⟨hk, ho, hf⟩ := chk_zero h
  have real0 : ¬ (5 ≤ r.kind ∧ r.kind ≤ 7) → r.real = 0 := fun k => zero_of_same hr.real (ho.real k)
  refine ⟨hk, ho, ?_, real0, ?_, ?_, ?_, ?_⟩
  · by_cases k : 5 ≤ r.kind ∧ r.kind ≤ 7
    · unfold fieldE at hf
      rw [if_neg (by omega), if_neg (by omega), if_pos k] at hf
      split at hf
      · assumption
      · cases hf
    · rw [real0 k]; exact proper_zero
  · by_cases k : r.kind = 1
    · unfold fieldE at hf
      rw [if_pos k] at hf
      split at hf
      · cases hf
      · omega
    · rw [ho.text k]; exact Nat.zero_le _
  · by_cases k : 8 ≤ r.kind ∧ r.kind ≤ 9
    · unfold fieldE at hf
      rw [if_neg (by omega), if_neg (by omega), if_neg (by omega), if_pos k.1] at hf
      unfold listE at hf
      split at hf
      · cases hf
      · omega
    · rw [ho.cap k]; omega
  · by_cases k : 8 ≤ r.kind ∧ r.kind ≤ 9
    · unfold fieldE at hf
      rw [if_neg (by omega), if_neg (by omega), if_neg (by omega), if_pos k.1] at hf
      unfold listE at hf
      split at hf
      · cases hf
      · split at hf
        · cases hf
        · omega
    · rw [ho.list k]; exact Nat.zero_le _
  · intro x hx
    by_cases k : 8 ≤ r.kind ∧ r.kind ≤ 9
    · unfold fieldE at hf
      rw [if_neg (by omega), if_neg (by omega), if_neg (by omega), if_pos k.1] at hf
      unfold listE at hf
      split at hf
      · cases hf
      · split at hf
        · cases hf
        · have h1 := itemsE_zero hf x hx
          have h2 := fits_proper (hr.list x hx) h1.2
          exact ⟨h1.1, h2.1, h2.2⟩
    · rw [ho.list k] at hx; cases hx
theorem sameL_eq : ∀ {l m : List It}, (∀ x ∈ l, MF.W64 x.score ∧ MF.proper x.score = true) → (∀ x ∈ m, MF.W64 x.score ∧ MF.proper x.score = true) → sameL l m = true → l = m
  | [], [], _, _, _ => rfl
  | [], _ :: _, _, _, h => by cases h
  | _ :: _, [], _, _, h => by cases h
  | a :: l, b :: m, hl, hm, h => by
    have h : (sameIt a b && sameL l m) = true := h
    rw [Bool.and_eq_true] at h
    have h1 := h.1
    unfold sameIt at h1
    rw [Bool.and_eq_true, strEq_iff] at h1
    have ha := hl a (List.mem_cons_self ..)
    have hb := hm b (List.mem_cons_self ..)
    have e := same_proper ha.1 hb.1 ha.2 hb.2 h1.1
    rw [sameL_eq (fun x hx => hl x (List.mem_cons_of_mem _ hx)) (fun x hx => hm x (List.mem_cons_of_mem _ hx)) h.2]
    cases a; cases b; simp_all
/-- Two records that may be, and are the same, are one. -/
theorem same_may {a b : Rc} (ha : a.ok) (hb : b.ok) (ma : May a) (mb : May b) (h : same a b = true) : a = b := by
  obtain ⟨h1, h2, h3, h4, h5, h6, h7, h8⟩ := same_split h
  exact Rc.ext' h1 h2 h3 h4 (same_proper ha.real hb.real ma.real mb.real h5) h6 h7
    (sameL_eq (fun x hx => ⟨ha.list x hx, (ma.items x hx).2.1⟩) (fun x hx => ⟨hb.list x hx, (mb.items x hx).2.1⟩) h8)

/-! ### as bytes -/
def itB (k : Int) (x : It) : List UInt8 := (if k = 9 then PK.placeB (MF.key x.score) else []) ++ PK.textB x.name.data.toList
def itsB (k : Int) : List It → List UInt8
  | [] => []
  | x :: l => itB k x ++ itsB k l
theorem itsB_snoc (k : Int) : ∀ (l : List It) (x : It), itsB k (l ++ [x]) = itsB k l ++ itB k x
  | [], x => by simp [itsB]
  | a :: l, x => by simp only [List.cons_append, itsB, itsB_snoc k l x, List.append_assoc]
theorem itsB_append (k : Int) : ∀ (l m : List It), itsB k (l ++ m) = itsB k l ++ itsB k m
  | [], m => by simp [itsB]
  | a :: l, m => by simp only [List.cons_append, itsB, itsB_append k l m, List.append_assoc]
theorem itsB_take (k : Int) (l : List It) (i : Nat) (h : i < l.length) : itsB k (l.take (i + 1)) = itsB k (l.take i) ++ itB k l[i] := by
  rw [List.take_succ_eq_append_getElem h, itsB_snoc]
theorem itsB_le (k : Int) (l : List It) (i : Nat) : (itsB k (l.take i)).length ≤ (itsB k l).length := by
  have := congrArg List.length (itsB_append k (l.take i) (l.drop i))
  rw [List.take_append_drop, List.length_append] at this
  omega
def listB (r : Rc) : List UInt8 := PK.digits r.cap.toNat ++ (PK.digits r.list.length ++ itsB r.kind r.list)
def fieldB (r : Rc) : List UInt8 :=
  if r.kind = 1 then PK.textB r.text.data.toList
  else if r.kind = 2 ∨ r.kind = 3 then PK.digits (PK.zig r.num)
  else if r.kind = 4 then PK.digits (PK.zig r.low) ++ (PK.digits (PK.zig r.high) ++ PK.digits (PK.zig r.num))
  else if r.kind = 5 ∨ r.kind = 6 ∨ r.kind = 7 then PK.placeB (MF.key r.real)
  else if r.kind = 8 ∨ r.kind = 9 then listB r
  else []
/-- A record as bytes. -/
def recB (r : Rc) : List UInt8 := PK.digits r.kind.toNat ++ fieldB r
end RC
/- Plain mathematics of layer 3: the record that bytes begin with. No program. -/
namespace Go.Proofs.YtlpecaldodganaaGreatDoor
open MM

section
variable {α β γ : Type}
def shiftR (n : Nat) : Res α → Res α
  | .ok y m => .ok y (n + m)
  | .bad e m => .bad e (n + m)
/-- One behind the other. -/
def andR (r : Res α) (l : List UInt8) (f : α → List UInt8 → Res β) : Res β :=
  match r with
  | .bad e n => .bad e n
  | .ok x n => shiftR n (f x (l.drop n))
theorem andR_ok {r : Res α} {l : List UInt8} {f : α → List UInt8 → Res β} {x : α} {n : Nat} (h : r = .ok x n) : andR r l f = shiftR n (f x (l.drop n)) := by subst h; rfl
theorem andR_bad {r : Res α} {l : List UInt8} {f : α → List UInt8 → Res β} {e n : Nat} (h : r = .bad e n) : andR r l f = .bad e n := by subst h; rfl
theorem shiftR_zero (r : Res α) : shiftR 0 r = r := by cases r <;> simp [shiftR]
theorem shiftR_shiftR (n m : Nat) (r : Res α) : shiftR n (shiftR m r) = shiftR (n + m) r := by cases r <;> simp [shiftR, Nat.add_assoc]
theorem andR_front {r : List UInt8 → Res α} {B rest : List UInt8} {f : α → List UInt8 → Res β} {x : α} (h : r (B ++ rest) = .ok x B.length) : andR (r (B ++ rest)) (B ++ rest) f = shiftR B.length (f x rest) := by
  rw [andR_ok h, List.drop_left]
theorem andR_inv {r : Res α} {l : List UInt8} {f : α → List UInt8 → Res β} {y : β} {n : Nat} (h : andR r l f = .ok y n) : ∃ x a b, r = .ok x a ∧ f x (l.drop a) = .ok y b ∧ n = a + b := by
  cases r with
  | bad e k => cases h
  | ok x a =>
    have h : shiftR a (f x (l.drop a)) = .ok y n := h
    cases hf : f x (l.drop a) with
    | bad e k => rw [hf] at h; cases h
    | ok z b =>
      rw [hf] at h
      injection h with h1 h2
      subst h1
      exact ⟨x, a, b, rfl, hf, h2.symm⟩
theorem map_inv {r : Res α} {f : α → β} {y : β} {n : Nat} (h : Res.map f r = .ok y n) : ∃ x, r = .ok x n ∧ y = f x := by
  cases r with
  | bad e k => cases h
  | ok x a => injection h with h1 h2; subst h1 h2; exact ⟨x, rfl, rfl⟩
end

theorem uptoR_digits (m : Int) (n : Nat) (rest : List UInt8) (h : (n : Int) ≤ m) (hn : n < 18446744073709551616) : uptoR m (PK.digits n ++ rest) = .ok n (PK.digits n).length := by
  unfold uptoR; rw [numR_digits n rest hn]; simp only; rw [tooB_no h]; rfl
theorem uptoR_one {m : Int} {l : List UInt8} {n k : Nat} (h : uptoR m l = .ok n k) : l.take k = PK.digits n ∧ k ≤ l.length ∧ n ≤ m.toNat := by
  unfold uptoR at h
  cases hr : numR l with
  | bad e j => rw [hr] at h; cases h
  | ok x j =>
    rw [hr] at h
    simp only at h
    split at h
    · cases h
    · rename_i ht
      injection h with h1 h2
      subst h1 h2
      obtain ⟨h1, h2, _⟩ := numR_one hr
      refine ⟨h1, h2, ?_⟩
      unfold tooB at ht
      simp at ht
      omega

/-- An item; so many items; a record's fields; a record. -/
def itR (k : Nat) (l : List UInt8) : Res RC.It :=
  if k = 9 then andR (floR l) l fun s l1 => Res.map (fun t => ⟨s, ⟨t.toArray⟩⟩) (txtR 16 l1)
  else Res.map (fun t => ⟨0, ⟨t.toArray⟩⟩) (txtR 16 l)
def itsR (k : Nat) : Nat → List UInt8 → Res (List RC.It)
  | 0, _ => .ok [] 0
  | n + 1, l => andR (itR k l) l fun x l1 => Res.map (fun xs => x :: xs) (itsR k n l1)
def fieldR (k : Nat) (l : List UInt8) : Res RC.Rc :=
  if k = 1 then Res.map (fun t => { RC.zero with kind := 1, text := ⟨t.toArray⟩ }) (txtR 64 l)
  else if k = 2 ∨ k = 3 then Res.map (fun n => { RC.zero with kind := k, num := PK.zag n }) (numR l)
  else if k = 4 then andR (numR l) l fun a l1 => andR (numR l1) l1 fun b l2 => Res.map (fun c => { RC.zero with kind := 4, low := PK.zag a, high := PK.zag b, num := PK.zag c }) (numR l2)
  else if k = 5 ∨ k = 6 ∨ k = 7 then Res.map (fun x => { RC.zero with kind := k, real := x }) (floR l)
  else andR (uptoR 32 l) l fun c l1 => andR (uptoR 32 l1) l1 fun n l2 => Res.map (fun xs => { RC.zero with kind := k, cap := (c : Int), list := xs }) (itsR k n l2)
def endC (r : RC.Rc) : Res RC.Rc := if RC.chk r = 0 then .ok r 0 else .bad (RC.chk r) 0
def bodyR (k : Nat) (l : List UInt8) : Res RC.Rc := if k = 0 then .bad 5 0 else andR (fieldR k l) l fun r _ => endC r
def recR (l : List UInt8) : Res RC.Rc := andR (uptoR 9 l) l fun k l1 => bodyR k l1

theorem itR9 (L : List UInt8) : itR 9 L = andR (floR L) L fun s l1 => Res.map (fun t => ⟨s, ⟨t.toArray⟩⟩) (txtR 16 l1) := rfl
theorem fieldR4 (L : List UInt8) : fieldR 4 L = andR (numR L) L fun a l1 => andR (numR l1) l1 fun b l2 => Res.map (fun c => { RC.zero with kind := 4, low := PK.zag a, high := PK.zag b, num := PK.zag c }) (numR l2) := rfl
def listK (k : Nat) (L : List UInt8) : Res RC.Rc := andR (uptoR 32 L) L fun c l1 => andR (uptoR 32 l1) l1 fun n l2 => Res.map (fun xs => { RC.zero with kind := k, cap := (c : Int), list := xs }) (itsR k n l2)
theorem fieldR89 {k : Nat} (hk : k = 8 ∨ k = 9) (L : List UInt8) : fieldR k L = listK k L := by rcases hk with rfl | rfl <;> rfl
theorem toL (t : List UInt8) : (⟨t.toArray⟩ : ByteArray).data.toList = t := by simp
theorem toA (t : ByteArray) : (⟨t.data.toList.toArray⟩ : ByteArray) = t := by cases t; simp

/-! ### what is written is read -/
theorem itR_itB (k : Nat) (x : RC.It) (rest : List UInt8) (hk : k = 8 ∨ k = 9) (hw : MF.W64 x.score) (hn : x.name.size ≤ 16) (hp : MF.proper x.score = true) (h8 : (k : Int) = 8 → x.score = 0) :
    itR k (RC.itB (k : Int) x ++ rest) = .ok x (RC.itB (k : Int) x).length := by
  obtain ⟨s, t⟩ := x
  have ht : ∀ rest, txtR 16 (PK.textB t.data.toList ++ rest) = .ok t.data.toList (PK.textB t.data.toList).length := fun rest => txtR_text _ rest 16 (by rw [sz_list]; have h : t.size ≤ 16 := hn; omega) (by rw [sz_list]; have h : t.size ≤ 16 := hn; omega)
  rcases hk with rfl | rfl
  · have h0 : s = 0 := h8 rfl
    subst h0
    show Res.map _ (txtR 16 ((([] : List UInt8) ++ PK.textB t.data.toList) ++ rest)) = .ok _ (([] : List UInt8) ++ PK.textB t.data.toList).length
    rw [List.nil_append, ht]
    simp only [Res.map, toA]
  · have hB : RC.itB ((9 : Nat) : Int) ⟨s, t⟩ = PK.placeB (MF.key s) ++ PK.textB t.data.toList := by unfold RC.itB; rw [if_pos (by rfl)]
    have hR : ∀ L, itR 9 L = andR (floR L) L fun s l1 => Res.map (fun t => ⟨s, ⟨t.toArray⟩⟩) (txtR 16 l1) := fun _ => rfl
    rw [hB, hR]
    have hf := floR_place s (PK.textB t.data.toList ++ rest) hw
    rw [RC.proper_eq hp] at hf
    rw [List.append_assoc, andR_ok hf, show (8 : Nat) = (PK.placeB (MF.key s)).length by rw [PK.placeB_length], List.drop_left, ht]
    simp only [Res.map, toA, shiftR, List.length_append]
theorem itsR_itsB (k : Nat) (hk : k = 8 ∨ k = 9) : ∀ (l : List RC.It) (rest : List UInt8), (∀ x ∈ l, MF.W64 x.score ∧ x.name.size ≤ 16 ∧ MF.proper x.score = true ∧ ((k : Int) = 8 → x.score = 0)) →
    itsR k l.length (RC.itsB (k : Int) l ++ rest) = .ok l (RC.itsB (k : Int) l).length
  | [], rest, _ => rfl
  | x :: l, rest, h => by
    have h1 := h x (List.mem_cons_self ..)
    have ih := itsR_itsB k hk l rest (fun y hy => h y (List.mem_cons_of_mem _ hy))
    show andR (itR k (RC.itB (k : Int) x ++ RC.itsB (k : Int) l ++ rest)) (RC.itB (k : Int) x ++ RC.itsB (k : Int) l ++ rest) _ = .ok (x :: l) (RC.itB (k : Int) x ++ RC.itsB (k : Int) l).length
    rw [List.append_assoc, andR_front (itR_itB k x _ hk h1.1 h1.2.1 h1.2.2.1 h1.2.2.2), ih, List.length_append]
    rfl
theorem numR_zig (i : Int) (rest : List UInt8) (h : RC.I64 i) : numR (PK.digits (PK.zig i) ++ rest) = .ok (PK.zig i) (PK.digits (PK.zig i)).length ∧ PK.zag (PK.zig i) = i := by
  have hz := PK.zag_zig i (wf_i64 h)
  exact ⟨numR_digits _ rest hz.2, hz.1⟩
theorem fieldR_list (k : Nat) (hk : k = 8 ∨ k = 9) (n l h : Int) (x : Nat) (cap : Int) (t : ByteArray) (s : List RC.It) (rest : List UInt8) (hr : RC.Rc.ok ⟨(k : Int), n, l, h, x, cap, t, s⟩) (hm : RC.May ⟨(k : Int), n, l, h, x, cap, t, s⟩) :
    fieldR k (RC.fieldB ⟨(k : Int), n, l, h, x, cap, t, s⟩ ++ rest) = .ok ⟨(k : Int), n, l, h, x, cap, t, s⟩ (RC.fieldB ⟨(k : Int), n, l, h, x, cap, t, s⟩).length := by
  have ho := hm.only
  have e1 : n = 0 := ho.num (by rcases hk with rfl | rfl <;> simp)
  have e2 : l = 0 := ho.low (by rcases hk with rfl | rfl <;> simp)
  have e3 : h = 0 := ho.high (by rcases hk with rfl | rfl <;> simp)
  have e4 : x = 0 := hm.real0 (by rcases hk with rfl | rfl <;> simp)
  have e6 : t = ⟨#[]⟩ := ho.text (by rcases hk with rfl | rfl <;> simp)
  have hc : 0 ≤ cap ∧ cap ≤ 32 := hm.cap
  have hl : s.length ≤ 32 := hm.len
  have hi : ∀ x ∈ s, MF.W64 x.score ∧ x.name.size ≤ 16 ∧ MF.proper x.score = true ∧ ((k : Int) = 8 → x.score = 0) := fun y hy => by
    have a := hm.items y hy
    exact ⟨hr.list y hy, a.1, a.2.1, a.2.2⟩
  subst e1 e2 e3 e4 e6
  have hB : RC.fieldB ⟨(k : Int), 0, 0, 0, 0, cap, ⟨#[]⟩, s⟩ = PK.digits cap.toNat ++ (PK.digits s.length ++ RC.itsB (k : Int) s) := by rcases hk with rfl | rfl <;> rfl
  have hR : ∀ L, fieldR k L = andR (uptoR 32 L) L fun c l1 => andR (uptoR 32 l1) l1 fun n l2 => Res.map (fun xs => { RC.zero with kind := k, cap := (c : Int), list := xs }) (itsR k n l2) := by intro L; rcases hk with rfl | rfl <;> rfl
  rw [hB, hR, List.append_assoc, List.append_assoc, andR_front (uptoR_digits 32 cap.toNat _ (by omega) (by omega)), andR_front (uptoR_digits 32 s.length _ (by omega) (by omega)), itsR_itsB k hk s rest hi, List.length_append, List.length_append]
  simp only [Res.map, shiftR, show ((cap.toNat : Nat) : Int) = cap by omega]
  rfl
theorem fieldR_fieldB (r : RC.Rc) (rest : List UInt8) (hr : r.ok) (hm : RC.May r) : fieldR r.kind.toNat (RC.fieldB r ++ rest) = .ok r (RC.fieldB r).length := by
  have ho := hm.only
  obtain ⟨k, n, l, h, x, cap, t, s⟩ := r
  have w := hm.known
  rcases RC.kind9 w with e | e | e | e | e | e | e | e | e <;> (replace e : k = _ := e; subst e)
  · have e1 : n = 0 := ho.num (by simp)
    have e2 : l = 0 := ho.low (by simp)
    have e3 : h = 0 := ho.high (by simp)
    have e4 : x = 0 := hm.real0 (by simp)
    have e5 : cap = 0 := ho.cap (by simp)
    have e7 : s = [] := ho.list (by simp)
    have ht : t.size ≤ 64 := hm.text
    subst e1 e2 e3 e4 e5 e7
    show Res.map _ (txtR 64 (PK.textB t.data.toList ++ rest)) = .ok _ (PK.textB t.data.toList).length
    rw [txtR_text _ rest 64 (by rw [sz_list]; omega) (by rw [sz_list]; omega)]
    simp only [Res.map, toA]; rfl
  iterate 2
    have e2 : l = 0 := ho.low (by simp)
    have e3 : h = 0 := ho.high (by simp)
    have e4 : x = 0 := hm.real0 (by simp)
    have e5 : cap = 0 := ho.cap (by simp)
    have e6 : t = ⟨#[]⟩ := ho.text (by simp)
    have e7 : s = [] := ho.list (by simp)
    subst e2 e3 e4 e5 e6 e7
    obtain ⟨h1, h2⟩ := numR_zig n rest hr.num
    show Res.map _ (numR (PK.digits (PK.zig n) ++ rest)) = .ok _ (PK.digits (PK.zig n)).length
    rw [h1]
    simp only [Res.map, h2]; rfl
  · have e4 : x = 0 := hm.real0 (by simp)
    have e5 : cap = 0 := ho.cap (by simp)
    have e6 : t = ⟨#[]⟩ := ho.text (by simp)
    have e7 : s = [] := ho.list (by simp)
    subst e4 e5 e6 e7
    obtain ⟨a1, a2⟩ := numR_zig l (PK.digits (PK.zig h) ++ (PK.digits (PK.zig n) ++ rest)) hr.low
    obtain ⟨b1, b2⟩ := numR_zig h (PK.digits (PK.zig n) ++ rest) hr.high
    obtain ⟨c1, c2⟩ := numR_zig n rest hr.num
    have hB : RC.fieldB ⟨4, n, l, h, 0, 0, ⟨#[]⟩, []⟩ = PK.digits (PK.zig l) ++ (PK.digits (PK.zig h) ++ PK.digits (PK.zig n)) := rfl
    have hR : ∀ L, fieldR 4 L = andR (numR L) L fun a l1 => andR (numR l1) l1 fun b l2 => Res.map (fun c => { RC.zero with kind := 4, low := PK.zag a, high := PK.zag b, num := PK.zag c }) (numR l2) := fun _ => rfl
    rw [hB]
    show fieldR 4 _ = _
    rw [hR]
    rw [List.append_assoc, List.append_assoc, andR_front a1, andR_front b1, c1]
    simp only [Res.map, a2, b2, c2, shiftR, List.length_append]; rfl
  iterate 3
    have e1 : n = 0 := ho.num (by simp)
    have e2 : l = 0 := ho.low (by simp)
    have e3 : h = 0 := ho.high (by simp)
    have e5 : cap = 0 := ho.cap (by simp)
    have e6 : t = ⟨#[]⟩ := ho.text (by simp)
    have e7 : s = [] := ho.list (by simp)
    subst e1 e2 e3 e5 e6 e7
    have hf := floR_place x rest hr.real
    rw [RC.proper_eq hm.real] at hf
    show Res.map _ (floR (PK.placeB (MF.key x) ++ rest)) = .ok _ (PK.placeB (MF.key x)).length
    rw [hf, PK.placeB_length]; rfl
  · exact fieldR_list 8 (.inl rfl) n l h x cap t s rest hr hm
  · exact fieldR_list 9 (.inr rfl) n l h x cap t s rest hr hm

theorem recR_recB (r : RC.Rc) (rest : List UInt8) (hr : r.ok) (h : RC.chk r = 0) : recR (RC.recB r ++ rest) = .ok r (RC.recB r).length := by
  have hm := RC.chk_may hr h
  have hk : 0 < r.kind ∧ r.kind < 10 := by have := hm.known; unfold RC.known at this; simpa using this
  unfold recR RC.recB
  rw [List.append_assoc, andR_front (uptoR_digits 9 r.kind.toNat _ (by omega) (by omega))]
  unfold bodyR
  rw [if_neg (by omega), andR_front (fieldR_fieldB r rest hr hm)]
  unfold endC
  rw [if_pos h]
  simp only [shiftR, List.length_append, Nat.add_zero]

/-! ### what is read is written -/
theorem take_two {l A B : List UInt8} {a b : Nat} (h1 : l.take a = A) (_ha : a ≤ l.length) (h2 : (l.drop a).take b = B) : l.take (a + b) = A ++ B := by
  rw [List.take_add, h1, h2]
theorem drop_len {l : List UInt8} {a b : Nat} (ha : a ≤ l.length) (h : b ≤ (l.drop a).length) : a + b ≤ l.length := by
  rw [List.length_drop] at h; omega
theorem zag_ok {n : Nat} (h : n < 18446744073709551616) : RC.I64 (PK.zag n) ∧ PK.zig (PK.zag n) = n := by
  have := PK.zig_zag n h
  exact ⟨i64_wf this.2, this.1⟩
theorem itR_one {k : Nat} {l : List UInt8} {x : RC.It} {n : Nat} (hk : k = 8 ∨ k = 9) (h : itR k l = .ok x n) : l.take n = RC.itB (k : Int) x ∧ n ≤ l.length ∧ MF.W64 x.score := by
  rcases hk with rfl | rfl
  · obtain ⟨t, ht, rfl⟩ := map_inv (show Res.map _ (txtR 16 l) = _ from h)
    obtain ⟨h1, h2⟩ := txtR_one ht
    refine ⟨?_, h2, by show 0 < _; decide⟩
    rw [h1]
    show _ = ([] : List UInt8) ++ PK.textB (⟨t.toArray⟩ : ByteArray).data.toList
    rw [toL, List.nil_append]
  · obtain ⟨s, a, b, hs, hf, rfl⟩ := andR_inv ((itR9 l).symm.trans h)
    obtain ⟨t, ht, rfl⟩ := map_inv hf
    obtain ⟨rfl, h2, h3, h4, _⟩ := floR_one hs
    obtain ⟨h5, h6⟩ := txtR_one ht
    refine ⟨?_, drop_len h2 h6, h4⟩
    rw [take_two h3 h2 h5]
    have hB : RC.itB ((9 : Nat) : Int) ⟨s, ⟨t.toArray⟩⟩ = PK.placeB (MF.key s) ++ PK.textB (⟨t.toArray⟩ : ByteArray).data.toList := by unfold RC.itB; rw [if_pos (by rfl)]
    rw [hB, toL]
theorem itsR_one {k : Nat} (hk : k = 8 ∨ k = 9) : ∀ {m : Nat} {l : List UInt8} {xs : List RC.It} {n : Nat}, itsR k m l = .ok xs n → l.take n = RC.itsB (k : Int) xs ∧ n ≤ l.length ∧ xs.length = m ∧ ∀ x ∈ xs, MF.W64 x.score
  | 0, l, xs, n, h => by
    injection h with h1 h2
    subst h1 h2
    exact ⟨rfl, Nat.zero_le _, rfl, fun x hx => by cases hx⟩
  | m + 1, l, xs, n, h => by
    obtain ⟨x, a, b, hx, hf, rfl⟩ := andR_inv (show andR (itR k l) l _ = _ from h)
    obtain ⟨ys, hy, rfl⟩ := map_inv hf
    obtain ⟨h1, h2, h3⟩ := itR_one hk hx
    obtain ⟨h4, h5, h6, h7⟩ := itsR_one hk hy
    refine ⟨take_two h1 h2 h4, drop_len h2 h5, by simp [h6], fun y hy => ?_⟩
    rcases List.mem_cons.1 hy with rfl | hy
    · exact h3
    · exact h7 y hy
theorem w0 : MF.W64 0 := by unfold MF.W64; decide
theorem fieldR_one {k : Nat} {l : List UInt8} {r : RC.Rc} {n : Nat} (hk : 0 < k ∧ k ≤ 9) (h : fieldR k l = .ok r n) : l.take n = RC.fieldB r ∧ n ≤ l.length ∧ r.ok ∧ r.kind = (k : Int) := by
  have hc : k = 1 ∨ k = 2 ∨ k = 3 ∨ k = 4 ∨ k = 5 ∨ k = 6 ∨ k = 7 ∨ k = 8 ∨ k = 9 := by omega
  have nil : ∀ x ∈ ([] : List RC.It), MF.W64 x.score := fun x hx => by cases hx
  rcases hc with rfl | rfl | rfl | rfl | rfl | rfl | rfl | rfl | rfl
  · obtain ⟨t, ht, rfl⟩ := map_inv (show Res.map _ (txtR 64 l) = _ from h)
    obtain ⟨h1, h2⟩ := txtR_one ht
    refine ⟨?_, h2, ⟨rfl, rfl, rfl, rfl, w0, rfl, nil⟩, rfl⟩
    show _ = PK.textB (⟨t.toArray⟩ : ByteArray).data.toList
    rw [h1, toL]
  iterate 2
    obtain ⟨m, hm, rfl⟩ := map_inv (show Res.map _ (numR l) = _ from h)
    obtain ⟨h1, h2, h3⟩ := numR_one hm
    have hz := zag_ok h3
    refine ⟨?_, h2, ⟨rfl, hz.1, rfl, rfl, w0, rfl, nil⟩, rfl⟩
    show _ = PK.digits (PK.zig (PK.zag m))
    rw [h1, hz.2]
  · obtain ⟨a, i, j, ha, hf, rfl⟩ := andR_inv ((fieldR4 l).symm.trans h)
    obtain ⟨b, i2, j2, hb, hf2, rfl⟩ := andR_inv hf
    obtain ⟨c, hc, rfl⟩ := map_inv hf2
    obtain ⟨a1, a2, a3⟩ := numR_one ha
    obtain ⟨b1, b2, b3⟩ := numR_one hb
    obtain ⟨c1, c2, c3⟩ := numR_one hc
    have za := zag_ok a3
    have zb := zag_ok b3
    have zc := zag_ok c3
    refine ⟨?_, drop_len a2 (drop_len b2 c2), ⟨rfl, zc.1, za.1, zb.1, w0, rfl, nil⟩, rfl⟩
    rw [take_two a1 a2 (take_two b1 b2 c1)]
    have hB : RC.fieldB { RC.zero with kind := 4, low := PK.zag a, high := PK.zag b, num := PK.zag c } = PK.digits (PK.zig (PK.zag a)) ++ (PK.digits (PK.zig (PK.zag b)) ++ PK.digits (PK.zig (PK.zag c))) := rfl
    rw [hB, za.2, zb.2, zc.2]
  iterate 3
    obtain ⟨x, hx, rfl⟩ := map_inv (show Res.map _ (floR l) = _ from h)
    obtain ⟨rfl, h2, h3, h4, _⟩ := floR_one hx
    exact ⟨h3, h2, ⟨rfl, rfl, rfl, rfl, h4, rfl, nil⟩, rfl⟩
  iterate 2
    obtain ⟨c, i, j, hc, hf, rfl⟩ := andR_inv (((fieldR89 (by first | exact .inl rfl | exact .inr rfl) l).symm.trans h : listK _ l = _))
    obtain ⟨m, i2, j2, hm, hf2, rfl⟩ := andR_inv hf
    obtain ⟨xs, hxs, rfl⟩ := map_inv hf2
    obtain ⟨c1, c2, c3⟩ := uptoR_one hc
    obtain ⟨m1, m2, _⟩ := uptoR_one hm
    obtain ⟨x1, x2, x3, x4⟩ := itsR_one (by first | exact .inl rfl | exact .inr rfl) hxs
    refine ⟨?_, drop_len c2 (drop_len m2 x2), ⟨rfl, rfl, rfl, rfl, w0, i64_wf (by simp only; have : c ≤ 32 := c3; omega), x4⟩, rfl⟩
    rw [take_two c1 c2 (take_two m1 m2 x1), ← x3]
    rfl
theorem recR_one {l : List UInt8} {r : RC.Rc} {n : Nat} (h : recR l = .ok r n) : l.take n = RC.recB r ∧ n ≤ l.length ∧ r.ok ∧ RC.chk r = 0 := by
  obtain ⟨k, a, b, hk, hf, rfl⟩ := andR_inv (show andR (uptoR 9 l) l _ = _ from h)
  obtain ⟨h1, h2, h3⟩ := uptoR_one hk
  unfold bodyR at hf
  split at hf
  · cases hf
  · rename_i hk0
    obtain ⟨x, i, j, hx, hf2, rfl⟩ := andR_inv hf
    unfold endC at hf2
    split at hf2
    · rename_i hc
      injection hf2 with e1 e2
      subst e1 e2
      have h3' : k ≤ 9 := h3
      obtain ⟨h4, h5, h6, h7⟩ := fieldR_one (by omega) hx
      refine ⟨?_, drop_len h2 h5, h6, hc⟩
      rw [Nat.add_zero, take_two h1 h2 h4]
      unfold RC.recB
      rw [h7]
      rfl
    · cases hf2

end Go.Proofs.YtlpecaldodganaaGreatDoor
/- Plain mathematics of layer 4: acts, what they may be, how they are bytes, and how bytes are acts. No program. -/
namespace AC
open Go

structure Ac where
  kind : Int
  key : ByteArray
  n : Int
  x : Nat
  s : ByteArray
  make : RC.Rc
  must : Bool
structure Ac.ok (a : Ac) : Prop where
  kind : RC.I64 a.kind
  n : RC.I64 a.n
  x : MF.W64 a.x
  make : a.make.ok
def zero : Ac := ⟨0, ⟨#[]⟩, 0, 0, ⟨#[]⟩, RC.zero, false⟩
theorem zero_ok : zero.ok := ⟨rfl, rfl, by unfold MF.W64; decide, RC.zero_ok⟩

def known (k : Int) : Bool := decide (0 < k ∧ k < 22)
def hasN (k : Int) : Bool := decide (7 ≤ k ∧ k ≤ 12)
def hasX (k : Int) : Bool := decide ((13 ≤ k ∧ k ≤ 17) ∨ k = 21)
def hasS (k : Int) : Bool := decide (k = 5 ∨ k = 6 ∨ (18 ≤ k ∧ k ≤ 21))
def hasM (k : Int) : Bool := decide (k = 1)
def most (k : Int) : Nat := if k = 5 ∨ k = 6 then 64 else if 18 ≤ k ∧ k ≤ 21 then 16 else 0

def beyond (a : Ac) : Bool := (!hasN a.kind && a.n != 0) || (!hasX a.kind && !MF.same a.x 0) || (!hasS a.kind && !RC.strEq a.s ⟨#[]⟩) || (!hasM a.kind && !RC.same a.make RC.zero)
def amount (a : Ac) : Bool := if a.kind = 10 ∨ a.kind = 11 then decide (0 ≤ a.n ∧ a.n ≤ 2305843009213693952) else true
def endE (a : Ac) : Nat := if a.kind = 1 then RC.chk a.make else 0
/-- May an act be? The error's number. -/
def chk (a : Ac) : Nat :=
  if known a.kind then
    if 1 ≤ a.key.size ∧ a.key.size ≤ 24 then
      if beyond a then 4 else if most a.kind < a.s.size then 3 else if amount a then (if MF.proper a.x then endE a else 4) else 1
    else 1
  else 5
def same (a b : Ac) : Bool := a.kind == b.kind && RC.strEq a.key b.key && a.must == b.must && a.n == b.n && MF.same a.x b.x && RC.strEq a.s b.s && RC.same a.make b.make

theorem same_refl' (a : Ac) : same a a = true := by
  unfold same; simp [RC.same_refl, RC.strEq_refl, RC.same_refl']
theorem beqB_comm (a b : Bool) : (a == b) = (b == a) := by cases a <;> cases b <;> rfl
theorem same_comm' (a b : Ac) : same a b = same b a := by
  unfold same
  rw [RC.beq_comm' a.kind, RC.strEq_comm a.key, beqB_comm a.must, RC.beq_comm' a.n, RC.same_comm a.x, RC.strEq_comm a.s, RC.same_comm' a.make]
theorem same_split {a b : Ac} (h : same a b = true) : a.kind = b.kind ∧ a.key = b.key ∧ a.must = b.must ∧ a.n = b.n ∧ MF.same a.x b.x = true ∧ a.s = b.s ∧ RC.same a.make b.make = true := by
  unfold same at h
  simp only [Bool.and_eq_true, beq_iff_eq, RC.strEq_iff] at h
  obtain ⟨⟨⟨⟨⟨⟨h1, h2⟩, h3⟩, h4⟩, h5⟩, h6⟩, h7⟩ := h
  exact ⟨h1, h2, h3, h4, h5, h6, h7⟩

/-! ### what an act that may be is -/
theorem rec_zero {r : RC.Rc} (hr : r.ok) (h : RC.same r RC.zero = true) : r = RC.zero := by
  obtain ⟨h1, h2, h3, h4, h5, h6, h7, h8⟩ := RC.same_split h
  exact RC.Rc.ext' h1 h2 h3 h4 (RC.zero_of_same hr.real h5) h6 h7 (RC.sameL_nil h8)
structure May (a : Ac) : Prop where
  known : 0 < a.kind ∧ a.kind < 22
  key : 1 ≤ a.key.size ∧ a.key.size ≤ 24
  n : hasN a.kind = false → a.n = 0
  x : hasX a.kind = false → a.x = 0
  s : hasS a.kind = false → a.s = ⟨#[]⟩
  m : hasM a.kind = false → a.make = RC.zero
  most : a.s.size ≤ most a.kind
  proper : MF.proper a.x = true
  made : hasM a.kind = true → RC.chk a.make = 0
theorem chk_may {a : Ac} (ha : a.ok) (h : chk a = 0) : May a := by
  unfold chk at h
  split at h
  · rename_i hk
    split at h
    · rename_i hkey
      split at h
      · cases h
      · rename_i hb
        split at h
        · cases h
        · rename_i hm
          split at h
          · split at h
            · rename_i hp
              unfold beyond at hb
              simp only [Bool.or_eq_true, Bool.and_eq_true, Bool.not_eq_true', not_or, not_and, bne_iff_ne, ne_eq] at hb
              obtain ⟨⟨⟨b1, b2⟩, b3⟩, b4⟩ := hb
              refine ⟨by unfold known at hk; simpa using hk, hkey, fun e => ?_, fun e => ?_, fun e => ?_, fun e => ?_, by omega, hp, fun e => ?_⟩
              · exact Decidable.not_not.1 (b1 e)
              · exact RC.zero_of_same ha.x (by simpa using b2 e)
              · exact (RC.strEq_iff _ _).1 (by simpa using b3 e)
              · exact rec_zero ha.make (by simpa using b4 e)
              · unfold endE at h
                rw [if_pos (by unfold hasM at e; simpa using e)] at h
                exact h
            · cases h
          · cases h
    · cases h
  · cases h
theorem Ac.ext' {a b : Ac} (h1 : a.kind = b.kind) (h2 : a.key = b.key) (h3 : a.n = b.n) (h4 : a.x = b.x) (h5 : a.s = b.s) (h6 : a.make = b.make) (h7 : a.must = b.must) : a = b := by
  cases a; cases b; simp_all
/-- Two acts that may be, and are the same, are one. -/
theorem same_may {a b : Ac} (ha : a.ok) (hb : b.ok) (ma : May a) (mb : May b) (h : same a b = true) : a = b := by
  obtain ⟨h1, h2, h3, h4, h5, h6, h7⟩ := same_split h
  refine Ac.ext' h1 h2 h4 (RC.same_proper ha.x hb.x ma.proper mb.proper h5) h6 ?_ h3
  cases e : hasM a.kind with
  | true => exact RC.same_may ha.make hb.make (RC.chk_may ha.make (ma.made e)) (RC.chk_may hb.make (mb.made (h1 ▸ e))) h7
  | false => rw [ma.m e, mb.m (h1 ▸ e)]

/-! ### as bytes -/
def nB (a : Ac) : List UInt8 := if hasN a.kind then PK.digits (PK.zig a.n) else []
def xB (a : Ac) : List UInt8 := if hasX a.kind then PK.placeB (MF.key a.x) else []
def sB (a : Ac) : List UInt8 := if hasS a.kind then PK.textB a.s.data.toList else []
def mB (a : Ac) : List UInt8 := if hasM a.kind then RC.recB a.make else []
def headB (a : Ac) : List UInt8 := PK.digits a.kind.toNat ++ (PK.flagB a.must ++ PK.textB a.key.data.toList)
def fieldB (a : Ac) : List UInt8 := nB a ++ (xB a ++ (sB a ++ mB a))
/-- An act as bytes. -/
def actB (a : Ac) : List UInt8 := PK.digits a.kind.toNat ++ (PK.flagB a.must ++ (PK.textB a.key.data.toList ++ fieldB a))
end AC

namespace Go.Proofs.YtlpecaldodganaaGreatDoor
open MM

section
variable {α : Type}
/-- What is read, if it is there. -/
def optR (b : Bool) (z : α) (r : List UInt8 → Res α) (l : List UInt8) : Res α := if b then r l else .ok z 0
theorem optR_yes {b : Bool} (h : b = true) (z : α) (r : List UInt8 → Res α) (l : List UInt8) : optR b z r l = r l := by unfold optR; rw [if_pos h]
theorem optR_no {b : Bool} (h : b = false) (z : α) (r : List UInt8 → Res α) (l : List UInt8) : optR b z r l = .ok z 0 := by unfold optR; rw [if_neg (by simp [h])]
theorem optR_front {b : Bool} {z x : α} {r : List UInt8 → Res α} {B rest : List UInt8} (h : b = true → r (B ++ rest) = .ok x B.length) (h0 : b = false → x = z ∧ B = []) : optR b z r (B ++ rest) = .ok x B.length := by
  cases b with
  | true => rw [optR_yes rfl]; exact h rfl
  | false =>
    obtain ⟨rfl, rfl⟩ := h0 rfl
    rw [optR_no rfl]
    rfl
theorem optR_inv {b : Bool} {z x : α} {r : List UInt8 → Res α} {l : List UInt8} {n : Nat} (h : optR b z r l = .ok x n) : (b = true ∧ r l = .ok x n) ∨ (b = false ∧ x = z ∧ n = 0) := by
  cases b with
  | true => rw [optR_yes rfl] at h; exact .inl ⟨rfl, h⟩
  | false => rw [optR_no rfl] at h; injection h with h1 h2; exact .inr ⟨rfl, h1.symm, h2.symm⟩
end

def iR (l : List UInt8) : Res Int := Res.map PK.zag (numR l)
def sR (m : Int) (l : List UInt8) : Res ByteArray := Res.map (fun t => (⟨t.toArray⟩ : ByteArray)) (txtR m l)
/-- The fields of an act behind its key; its kind; an act. -/
def actfR (k : Nat) (must : Bool) (key : ByteArray) (l : List UInt8) : Res AC.Ac :=
  andR (optR (AC.hasN k) 0 iR l) l fun n l1 => andR (optR (AC.hasX k) 0 floR l1) l1 fun x l2 => andR (optR (AC.hasS k) ⟨#[]⟩ (sR (AC.most k)) l2) l2 fun s l3 =>
    Res.map (fun m => (⟨(k : Int), key, n, x, s, m, must⟩ : AC.Ac)) (optR (AC.hasM k) RC.zero recR l3)
def kindA (l : List UInt8) : Res Nat := andR (uptoR 21 l) l fun k _ => if k = 0 then .bad 5 0 else .ok k 0
def endA (a : AC.Ac) : Res AC.Ac := if AC.chk a = 0 then .ok a 0 else .bad (AC.chk a) 0
def keyR (l : List UInt8) : Res ByteArray := sR 24 l
def actR (l : List UInt8) : Res AC.Ac :=
  andR (kindA l) l fun k l1 => andR (flagR l1) l1 fun must l2 => andR (keyR l2) l2 fun key l3 => andR (actfR k must key l3) l3 fun a _ => endA a

theorem kindA_inv {l : List UInt8} {k n : Nat} (h : kindA l = .ok k n) : uptoR 21 l = .ok k n ∧ 0 < k ∧ k ≤ 21 := by
  obtain ⟨k', a, b, hk, hf, rfl⟩ := andR_inv (show andR (uptoR 21 l) l _ = _ from h)
  split at hf
  · cases hf
  · injection hf with e1 e2
    subst e1 e2
    have := (uptoR_one hk).2.2
    have h3 : k' ≤ 21 := this
    exact ⟨hk, by omega, h3⟩
theorem kindA_digits (k : Nat) (rest : List UInt8) (h0 : 0 < k) (h1 : k ≤ 21) : kindA (PK.digits k ++ rest) = .ok k (PK.digits k).length := by
  unfold kindA
  rw [andR_front (uptoR_digits 21 k rest (by omega) (by omega)), if_neg (by omega)]
  rfl
theorem sR_text (t : ByteArray) (rest : List UInt8) (m : Int) (h : (t.size : Int) ≤ m) (hl : t.size < 18446744073709551616) : sR m (PK.textB t.data.toList ++ rest) = .ok t (PK.textB t.data.toList).length := by
  unfold sR
  rw [txtR_text _ rest m (by rw [sz_list]; exact h) (by rw [sz_list]; exact hl)]
  simp only [Res.map, toA]
theorem sR_one {l : List UInt8} {t : ByteArray} {m : Int} {k : Nat} (h : sR m l = .ok t k) : l.take k = PK.textB t.data.toList ∧ k ≤ l.length := by
  obtain ⟨s, hs, rfl⟩ := map_inv (show Res.map _ (txtR m l) = _ from h)
  obtain ⟨h1, h2⟩ := txtR_one hs
  exact ⟨by rw [h1, toL], h2⟩

/-- What is written is read. -/
theorem actfR_fieldB (k : Nat) (key : ByteArray) (n : Int) (x : Nat) (s : ByteArray) (m : RC.Rc) (must : Bool) (rest : List UInt8) (ha : AC.Ac.ok ⟨(k : Int), key, n, x, s, m, must⟩) (hm : AC.May ⟨(k : Int), key, n, x, s, m, must⟩) :
    actfR k must key (AC.fieldB ⟨(k : Int), key, n, x, s, m, must⟩ ++ rest) = .ok ⟨(k : Int), key, n, x, s, m, must⟩ (AC.fieldB ⟨(k : Int), key, n, x, s, m, must⟩).length := by
  have h1 : ∀ rest, optR (AC.hasN k) 0 iR (AC.nB ⟨(k : Int), key, n, x, s, m, must⟩ ++ rest) = .ok n (AC.nB ⟨(k : Int), key, n, x, s, m, must⟩).length := fun rest => by
    refine optR_front (fun e => ?_) (fun e => ?_)
    · obtain ⟨a1, a2⟩ := numR_zig n rest ha.n
      unfold AC.nB
      simp only [e, if_true]
      unfold iR
      rw [a1]
      simp only [Res.map, a2]
    · exact ⟨hm.n e, by unfold AC.nB; simp [e]⟩
  have h2 : ∀ rest, optR (AC.hasX k) 0 floR (AC.xB ⟨(k : Int), key, n, x, s, m, must⟩ ++ rest) = .ok x (AC.xB ⟨(k : Int), key, n, x, s, m, must⟩).length := fun rest => by
    refine optR_front (fun e => ?_) (fun e => ?_)
    · have hf := floR_place x rest ha.x
      rw [RC.proper_eq hm.proper] at hf
      unfold AC.xB
      simp only [e, if_true]
      rw [hf, PK.placeB_length]
    · exact ⟨hm.x e, by unfold AC.xB; simp [e]⟩
  have h3 : ∀ rest, optR (AC.hasS k) ⟨#[]⟩ (sR (AC.most k)) (AC.sB ⟨(k : Int), key, n, x, s, m, must⟩ ++ rest) = .ok s (AC.sB ⟨(k : Int), key, n, x, s, m, must⟩).length := fun rest => by
    refine optR_front (fun e => ?_) (fun e => ?_)
    · have hs : s.size ≤ AC.most k := hm.most
      have hb : AC.most k ≤ 64 := by unfold AC.most; split <;> (try split) <;> omega
      unfold AC.sB
      simp only [e, if_true]
      exact sR_text s rest _ (by omega) (by omega)
    · exact ⟨hm.s e, by unfold AC.sB; simp [e]⟩
  have h4 : ∀ rest, optR (AC.hasM k) RC.zero recR (AC.mB ⟨(k : Int), key, n, x, s, m, must⟩ ++ rest) = .ok m (AC.mB ⟨(k : Int), key, n, x, s, m, must⟩).length := fun rest => by
    refine optR_front (fun e => ?_) (fun e => ?_)
    · unfold AC.mB
      simp only [e, if_true]
      exact recR_recB m rest ha.make (hm.made e)
    · exact ⟨hm.m e, by unfold AC.mB; simp [e]⟩
  unfold actfR AC.fieldB
  rw [List.append_assoc, List.append_assoc, List.append_assoc, andR_front (h1 _), andR_front (h2 _), andR_front (h3 _), h4]
  simp only [Res.map, shiftR, List.length_append]
theorem actR_actB (a : AC.Ac) (rest : List UInt8) (ha : a.ok) (h : AC.chk a = 0) : actR (AC.actB a ++ rest) = .ok a (AC.actB a).length := by
  have hm := AC.chk_may ha h
  obtain ⟨k, key, n, x, s, m, must⟩ := a
  have hk : 0 < k ∧ k < 22 := hm.known
  obtain ⟨j, rfl⟩ : ∃ j : Nat, k = (j : Int) := ⟨k.toNat, by omega⟩
  have hkey : key.size ≤ 24 := hm.key.2
  unfold actR AC.actB
  rw [List.append_assoc, List.append_assoc, List.append_assoc]
  rw [show ((⟨(j : Int), key, n, x, s, m, must⟩ : AC.Ac).kind).toNat = j from rfl]
  rw [andR_front (kindA_digits j _ (by omega) (by omega))]
  have hf : flagR (PK.flagB must ++ (PK.textB key.data.toList ++ (AC.fieldB ⟨(j : Int), key, n, x, s, m, must⟩ ++ rest))) = .ok must (PK.flagB must).length := flagR_flag must _
  rw [andR_front hf]
  have hkr : keyR (PK.textB key.data.toList ++ (AC.fieldB ⟨(j : Int), key, n, x, s, m, must⟩ ++ rest)) = .ok key (PK.textB key.data.toList).length := sR_text key _ 24 (by omega) (by omega)
  rw [andR_front hkr, andR_front (actfR_fieldB j key n x s m must rest ha hm)]
  unfold endA
  rw [if_pos h]
  simp only [shiftR, List.length_append, Nat.add_zero]

/-- What is read is written. -/
theorem actfR_one {k : Nat} {must : Bool} {key : ByteArray} {l : List UInt8} {a : AC.Ac} {n : Nat} (hk : k ≤ 21) (h : actfR k must key l = .ok a n) : l.take n = AC.fieldB a ∧ n ≤ l.length ∧ a.ok ∧ a.kind = (k : Int) ∧ a.must = must ∧ a.key = key := by
  obtain ⟨v, i1, j1, hv, hf1, rfl⟩ := andR_inv (show andR (optR (AC.hasN k) 0 iR l) l _ = _ from h)
  obtain ⟨x, i2, j2, hx, hf2, rfl⟩ := andR_inv hf1
  obtain ⟨s, i3, j3, hs, hf3, rfl⟩ := andR_inv hf2
  obtain ⟨m, hm, rfl⟩ := map_inv hf3
  have e1 : l.take i1 = AC.nB ⟨(k : Int), key, v, x, s, m, must⟩ ∧ i1 ≤ l.length ∧ RC.I64 v := by
    rcases optR_inv hv with ⟨hb, hr⟩ | ⟨hb, rfl, rfl⟩
    · obtain ⟨q, hq, rfl⟩ := map_inv (show Res.map _ (numR l) = _ from hr)
      obtain ⟨a1, a2, a3⟩ := numR_one hq
      have hz := zag_ok a3
      refine ⟨?_, a2, hz.1⟩
      unfold AC.nB
      simp only [hb, if_true]
      rw [a1, hz.2]
    · exact ⟨by unfold AC.nB; simp [hb], Nat.zero_le _, rfl⟩
  have e2 : (l.drop i1).take i2 = AC.xB ⟨(k : Int), key, v, x, s, m, must⟩ ∧ i2 ≤ (l.drop i1).length ∧ MF.W64 x := by
    rcases optR_inv hx with ⟨hb, hr⟩ | ⟨hb, rfl, rfl⟩
    · obtain ⟨rfl, a2, a3, a4, _⟩ := floR_one hr
      refine ⟨?_, a2, a4⟩
      unfold AC.xB
      simp only [hb, if_true]
      exact a3
    · exact ⟨by unfold AC.xB; simp [hb], Nat.zero_le _, w0⟩
  have e3 : ((l.drop i1).drop i2).take i3 = AC.sB ⟨(k : Int), key, v, x, s, m, must⟩ ∧ i3 ≤ ((l.drop i1).drop i2).length := by
    rcases optR_inv hs with ⟨hb, hr⟩ | ⟨hb, rfl, rfl⟩
    · obtain ⟨a1, a2⟩ := sR_one hr
      refine ⟨?_, a2⟩
      unfold AC.sB
      simp only [hb, if_true]
      exact a1
    · exact ⟨by unfold AC.sB; simp [hb], Nat.zero_le _⟩
  have e4 : (((l.drop i1).drop i2).drop i3).take j3 = AC.mB ⟨(k : Int), key, v, x, s, m, must⟩ ∧ j3 ≤ (((l.drop i1).drop i2).drop i3).length ∧ m.ok := by
    rcases optR_inv hm with ⟨hb, hr⟩ | ⟨hb, rfl, rfl⟩
    · obtain ⟨a1, a2, a3, _⟩ := recR_one hr
      refine ⟨?_, a2, a3⟩
      unfold AC.mB
      simp only [hb, if_true]
      exact a1
    · exact ⟨by unfold AC.mB; simp [hb], Nat.zero_le _, RC.zero_ok⟩
  refine ⟨?_, drop_len e1.2.1 (drop_len e2.2.1 (drop_len e3.2 e4.2.1)), ⟨i64_wf (by simp only; omega), e1.2.2, e2.2.2, e4.2.2⟩, rfl, rfl, rfl⟩
  rw [take_two e1.1 e1.2.1 (take_two e2.1 e2.2.1 (take_two e3.1 e3.2 e4.1))]
  rfl
theorem actR_one {l : List UInt8} {a : AC.Ac} {n : Nat} (h : actR l = .ok a n) : l.take n = AC.actB a ∧ n ≤ l.length ∧ a.ok ∧ AC.chk a = 0 := by
  obtain ⟨k, i1, j1, hk, hf1, rfl⟩ := andR_inv (show andR (kindA l) l _ = _ from h)
  obtain ⟨must, i2, j2, hb, hf2, rfl⟩ := andR_inv hf1
  obtain ⟨key, i3, j3, hy, hf3, rfl⟩ := andR_inv hf2
  obtain ⟨x, i4, j4, hx, hf4, rfl⟩ := andR_inv hf3
  unfold endA at hf4
  split at hf4
  · rename_i hc
    injection hf4 with e1 e2
    subst e1 e2
    obtain ⟨hu, hk0, hk1⟩ := kindA_inv hk
    obtain ⟨a1, a2, _⟩ := uptoR_one hu
    obtain ⟨rfl, b2, b3⟩ := flagR_one hb
    obtain ⟨c1, c2⟩ := sR_one (show sR 24 _ = _ from hy)
    obtain ⟨d1, d2, d3, d4, d5, d6⟩ := actfR_one hk1 hx
    refine ⟨?_, drop_len a2 (drop_len b2 (drop_len c2 d2)), d3, hc⟩
    rw [Nat.add_zero, take_two a1 a2 (take_two b3 b2 (take_two c1 c2 d1))]
    unfold AC.actB
    rw [d4, d5, d6]
    rfl
  · cases hf4
/-- No act's bytes begin another one's. -/
theorem actB_front {a b : AC.Ac} {r q : List UInt8} (ha : a.ok) (hb : b.ok) (ca : AC.chk a = 0) (cb : AC.chk b = 0) (h : AC.actB a ++ r = AC.actB b ++ q) : a = b := by
  have e1 := actR_actB a r ha ca
  have e2 := actR_actB b q hb cb
  rw [h, e2] at e1
  injection e1 with e3 _
  exact e3.symm
theorem actB_inj {a b : AC.Ac} (ha : a.ok) (hb : b.ok) (ca : AC.chk a = 0) (cb : AC.chk b = 0) (h : AC.actB a = AC.actB b) : a = b :=
  actB_front (r := []) (q := []) ha hb ca cb (by rw [h])
theorem actB_same {a b : AC.Ac} (ha : a.ok) (hb : b.ok) (ca : AC.chk a = 0) (cb : AC.chk b = 0) : decide (AC.actB a = AC.actB b) = AC.same a b := by
  rw [Bool.eq_iff_iff]
  simp only [decide_eq_true_eq]
  constructor
  · intro h
    rw [actB_inj ha hb ca cb h]
    exact AC.same_refl' b
  · intro h
    rw [AC.same_may ha hb (AC.chk_may ha ca) (AC.chk_may hb cb) h]

end Go.Proofs.YtlpecaldodganaaGreatDoor
/- Plain mathematics of layer 5: what acts do to records. No program. -/
namespace RU
open Go Go.RowKit RC

/-- Numbers of 64 bits go round. -/
def w64 (n : Int) : Int := wrap64 n
structure Ans where
  code : Nat
  num : Int
  rc : Rc
def fine : Ans := ⟨0, 0, RC.zero⟩
def err (c : Nat) : Ans := ⟨c, 0, RC.zero⟩

/-- How many of a list stand ahead of an item; whether it stands behind these. -/
def find : List It → It → Nat
  | [], _ => 0
  | y :: l, x => if better y x then find l x + 1 else 0
def at_ (l : List It) (x : It) : Bool :=
  match l[find l x]? with
  | none => false
  | some y => !better x y
def lay (l : List It) (x : It) : List It := l.take (find l x) ++ x :: l.drop (find l x)
def lose (l : List It) (x : It) : List It := l.take (find l x) ++ l.drop (find l x + 1)

/-- What is there behind an act, or why it is refused: kind by kind. -/
def plusOver (r : Rc) (n : Int) : Bool := decide (w64 (r.num + n) < r.num) != decide (n < 0)
def chg (r : Rc) (a : AC.Ac) : Rc × Nat :=
  if a.kind = 1 then (a.make, 0)
  else if a.kind = 2 then (RC.zero, 0)
  else if a.kind = 5 then ({ r with text := a.s }, 0)
  else if a.kind = 7 then ({ r with num := w64 (r.num + a.n) }, 0)
  else if a.kind = 8 then (if plusOver r a.n then (r, 9) else ({ r with num := w64 (r.num + a.n) }, 0))
  else if a.kind = 10 then (if r.high < w64 (r.num + a.n) then (r, 9) else ({ r with num := w64 (r.num + a.n) }, 0))
  else if a.kind = 11 then (if w64 (r.num - a.n) < r.low then (r, 10) else ({ r with num := w64 (r.num - a.n) }, 0))
  else if a.kind = 17 then ({ r with real := a.x }, 0)
  else (r, 0)

theorem find_le : ∀ (l : List It) (x : It), find l x ≤ l.length
  | [], _ => Nat.le_refl _
  | y :: l, x => by
    unfold find
    split
    · have := find_le l x; simp; omega
    · exact Nat.zero_le _
end RU
