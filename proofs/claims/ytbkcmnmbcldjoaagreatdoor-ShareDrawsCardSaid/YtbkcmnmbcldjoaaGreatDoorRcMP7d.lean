/- Plain mathematics of layer 3: records, what they may be, how they are bytes, and how bytes are records. No program. -/
import Derived.Test.YtbkcmnmbcldjoaaGreatDoorPkMP7d
import Derived.Lib.Strings
namespace RC
open Go
structure It where
  score : Nat
  name : ByteArray
structure Rc where
  kind : Int
  num : Int
  low : Int
  high : Int
  real : Nat
  cap : Int
  text : ByteArray
  list : List It
abbrev I64 (n : Int) : Prop := (Lit.int .i64 n).wf = true
structure Rc.ok (r : Rc) : Prop where
  kind : I64 r.kind
  num : I64 r.num
  low : I64 r.low
  high : I64 r.high
  real : MF.W64 r.real
  cap : I64 r.cap
  list : ∀ x ∈ r.list, MF.W64 x.score
def zero : Rc := ⟨0, 0, 0, 0, 0, 0, ⟨#[]⟩, []⟩
theorem zero_ok : zero.ok := ⟨rfl, rfl, rfl, rfl, by unfold MF.W64; decide, rfl, fun x h => by cases h⟩
theorem less_eq : ∀ (x y : List UInt8), Op.bytesLess x y = decide (x < y)
  | [], [] => rfl
  | [], b :: y => rfl
  | a :: x, [] => rfl
  | a :: x, b :: y => by
    have ih := less_eq x y
    unfold Op.bytesLess
    rw [ih, Bool.eq_iff_iff]
    simp [List.cons_lt_cons_iff]
def strLt (a b : ByteArray) : Bool := Op.bytesLess a.toList b.toList
def strEq (a b : ByteArray) : Bool := a.toList == b.toList
theorem strEq_iff (a b : ByteArray) : strEq a b = true ↔ a = b := by
  unfold strEq
  rw [beq_iff_eq]
  constructor
  · intro h
    rw [Lib.toList_data, Lib.toList_data] at h
    cases a; cases b
    simpa using h
  · rintro rfl; rfl
theorem strEq_refl (a : ByteArray) : strEq a a = true := (strEq_iff a a).2 rfl
theorem strLt_iff (a b : ByteArray) : strLt a b = true ↔ a.data.toList < b.data.toList := by
  unfold strLt; rw [less_eq, Lib.toList_data, Lib.toList_data]; simp
theorem strLt_irrefl (a : ByteArray) : strLt a a = false := by
  rw [Bool.eq_false_iff]; intro h; exact List.lt_irrefl _ ((strLt_iff a a).1 h)
theorem strLt_trans {a b c : ByteArray} (h : strLt a b = true) (k : strLt b c = true) : strLt a c = true := by
  rw [strLt_iff] at *; exact List.lt_trans h k
def better (a b : It) : Bool := if MF.same a.score b.score then strLt a.name b.name else MF.less b.score a.score
def sameIt (a b : It) : Bool := MF.same a.score b.score && strEq a.name b.name
def sameL : List It → List It → Bool
  | [], [] => true
  | a :: l, b :: m => sameIt a b && sameL l m
  | _, _ => false
theorem sameL_len : ∀ (l m : List It), l.length ≠ m.length → sameL l m = false
  | [], [], h => absurd rfl h
  | [], _ :: _, _ => rfl
  | _ :: _, [], _ => rfl
  | a :: l, b :: m, h => by
    show (sameIt a b && sameL l m) = false
    rw [sameL_len l m (by simpa using h), Bool.and_false]
def same (a b : Rc) : Bool := a.kind == b.kind && a.num == b.num && a.low == b.low && a.high == b.high && MF.same a.real b.real && a.cap == b.cap && strEq a.text b.text && sameL a.list b.list
/-- What a record has that its kind hasn't. -/
def rest (r : Rc) : Rc :=
  ⟨0, if 2 ≤ r.kind ∧ r.kind ≤ 4 then 0 else r.num, if r.kind = 4 then 0 else r.low, if r.kind = 4 then 0 else r.high, if 5 ≤ r.kind ∧ r.kind ≤ 7 then 0 else r.real,
    if 8 ≤ r.kind ∧ r.kind ≤ 9 then 0 else r.cap, if r.kind = 1 then ⟨#[]⟩ else r.text, if 8 ≤ r.kind ∧ r.kind ≤ 9 then [] else r.list⟩
def clean (r : Rc) : Bool := same (rest r) zero
def fits (k : Int) (s : Nat) : Bool := if k = 8 then MF.same s 0 else MF.proper s
def ahead (k : Int) (a b : It) : Bool := if k = 8 then strLt a.name b.name else better a b
def follows (k : Int) (p : Option It) (x : It) : Bool :=
  match p with
  | none => true
  | some p => ahead k p x
def itemE (k : Int) (p : Option It) (x : It) : Nat := if 16 < x.name.size then 3 else if fits k x.score && follows k p x then 0 else 4
def itemsE (k : Int) (p : Option It) : List It → Nat
  | [] => 0
  | x :: l => if itemE k p x = 0 then itemsE k (some x) l else itemE k p x
def prev (l : List It) (i : Nat) : Option It := if i = 0 then none else l[i - 1]?
def purseOk (r : Rc) : Bool := decide (-2305843009213693952 ≤ r.low ∧ r.low ≤ r.num ∧ r.num ≤ r.high ∧ r.high ≤ 2305843009213693952)
def listE (r : Rc) : Nat := if r.cap < 1 ∨ 32 < r.cap then 1 else if r.cap < r.list.length then 8 else itemsE r.kind none r.list
def fieldE (r : Rc) : Nat :=
  if r.kind = 1 then (if 64 < r.text.size then 3 else 0)
  else if r.kind = 4 then (if purseOk r then 0 else 1)
  else if 5 ≤ r.kind ∧ r.kind ≤ 7 then (if MF.proper r.real then 0 else 4)
  else if 8 ≤ r.kind then listE r
  else 0
def known (k : Int) : Bool := decide (0 < k ∧ k < 10)
/-- May a record be? The error's number. -/
def chk (r : Rc) : Nat := if known r.kind then (if clean r then fieldE r else 4) else 5
theorem prev_succ (l : List It) (i : Nat) (h : i < l.length) : prev l (i + 1) = some l[i] := by
  unfold prev; rw [if_neg (by omega)]; simp [h]
theorem itemsE_step (k : Int) (l : List It) (i : Nat) (h : i < l.length) (h0 : itemE k (prev l i) l[i] = 0) : itemsE k (prev l i) (l.drop i) = itemsE k (prev l (i + 1)) (l.drop (i + 1)) := by
  rw [List.drop_eq_getElem_cons h, prev_succ l i h]
  show (if itemE k (prev l i) l[i] = 0 then _ else _) = _
  rw [if_pos h0]
theorem itemsE_stop (k : Int) (l : List It) (i : Nat) (h : i < l.length) (h0 : itemE k (prev l i) l[i] ≠ 0) : itemsE k (prev l i) (l.drop i) = itemE k (prev l i) l[i] := by
  rw [List.drop_eq_getElem_cons h]
  show (if itemE k (prev l i) l[i] = 0 then _ else _) = _
  rw [if_neg h0]
theorem kind9 {k : Int} (h : known k = true) : k = 1 ∨ k = 2 ∨ k = 3 ∨ k = 4 ∨ k = 5 ∨ k = 6 ∨ k = 7 ∨ k = 8 ∨ k = 9 := by
  unfold known at h; simp at h; omega
theorem proper_eq {x : Nat} (h : MF.proper x = true) : MF.canon x = x := by unfold MF.proper at h; exact (eq_of_beq h).symm
theorem same_proper {a b : Nat} (ha : MF.W64 a) (hb : MF.W64 b) (pa : MF.proper a = true) (pb : MF.proper b = true) (h : MF.same a b = true) : a = b := by
  unfold MF.same at h
  have h := of_decide_eq_true h
  have e1 := MF.bk_key ha
  have e2 := MF.bk_key hb
  rw [h, e2] at e1
  rw [proper_eq pa, proper_eq pb] at e1
  exact e1.symm
theorem same_refl (a : Nat) : MF.same a a = true := by unfold MF.same; simp
theorem same_comm (a b : Nat) : MF.same a b = MF.same b a := by unfold MF.same; rw [Bool.eq_iff_iff]; simp; omega
theorem zero_of_same {a : Nat} (ha : MF.W64 a) (h : MF.same a 0 = true) : a = 0 := by
  unfold MF.same at h
  have h := of_decide_eq_true h
  have e1 := MF.bk_key ha
  rw [h] at e1
  have e2 : MF.bk (MF.key 0) = 0 := by decide
  rw [e2] at e1
  by_cases hn : MF.nan a = true
  · rw [MF.canon_eq a true hn] at e1; cases e1
  · rw [MF.canon_eq a false (by simpa using hn)] at e1; exact e1.symm
theorem proper_zero : MF.proper 0 = true := by decide
theorem strEq_comm (a b : ByteArray) : strEq a b = strEq b a := by
  rw [Bool.eq_iff_iff, strEq_iff, strEq_iff]; exact ⟨Eq.symm, Eq.symm⟩
theorem same_split {a b : Rc} (h : same a b = true) : a.kind = b.kind ∧ a.num = b.num ∧ a.low = b.low ∧ a.high = b.high ∧ MF.same a.real b.real = true ∧ a.cap = b.cap ∧ a.text = b.text ∧ sameL a.list b.list = true := by
  unfold same at h
  simp only [Bool.and_eq_true, beq_iff_eq, strEq_iff] at h
  obtain ⟨⟨⟨⟨⟨⟨⟨h1, h2⟩, h3⟩, h4⟩, h5⟩, h6⟩, h7⟩, h8⟩ := h
  exact ⟨h1, h2, h3, h4, h5, h6, h7, h8⟩
theorem sameL_nil {l : List It} (h : sameL l [] = true) : l = [] := by
  cases l with
  | nil => rfl
  | cons a l => cases h
/-- The fields that a record's kind hasn't. -/
structure Only (r : Rc) : Prop where
  num : ¬ (2 ≤ r.kind ∧ r.kind ≤ 4) → r.num = 0
  low : r.kind ≠ 4 → r.low = 0
  high : r.kind ≠ 4 → r.high = 0
  real : ¬ (5 ≤ r.kind ∧ r.kind ≤ 7) → MF.same r.real 0 = true
  cap : ¬ (8 ≤ r.kind ∧ r.kind ≤ 9) → r.cap = 0
  text : r.kind ≠ 1 → r.text = ⟨#[]⟩
  list : ¬ (8 ≤ r.kind ∧ r.kind ≤ 9) → r.list = []
theorem clean_iff (r : Rc) : clean r = true ↔ Only r := by
  constructor
  · intro h
    obtain ⟨_, h2, h3, h4, h5, h6, h7, h8⟩ := same_split h
    unfold rest zero at h2 h3 h4 h5 h6 h7 h8
    simp only at h2 h3 h4 h5 h6 h7 h8
    refine ⟨fun k => ?_, fun k => ?_, fun k => ?_, fun k => ?_, fun k => ?_, fun k => ?_, fun k => ?_⟩
    · rw [if_neg k] at h2; exact h2
    · rw [if_neg k] at h3; exact h3
    · rw [if_neg k] at h4; exact h4
    · rw [if_neg k] at h5; exact h5
    · rw [if_neg k] at h6; exact h6
    · rw [if_neg k] at h7; exact h7
    · rw [if_neg k] at h8; exact sameL_nil h8
  · rintro ⟨h2, h3, h4, h5, h6, h7, h8⟩
    unfold clean same rest zero
    simp only [Bool.and_eq_true, beq_iff_eq, strEq_iff]
    refine ⟨⟨⟨⟨⟨⟨⟨trivial, ?_⟩, ?_⟩, ?_⟩, ?_⟩, ?_⟩, ?_⟩, ?_⟩
    · split
      · rfl
      · exact h2 ‹_›
    · split
      · rfl
      · exact h3 ‹_›
    · split
      · rfl
      · exact h4 ‹_›
    · split
      · exact same_refl 0
      · exact h5 ‹_›
    · split
      · rfl
      · exact h6 ‹_›
    · split
      · rfl
      · exact h7 ‹_›
    · split
      · rfl
      · rw [h8 ‹_›]; rfl
theorem chk_zero {r : Rc} (h : chk r = 0) : known r.kind = true ∧ Only r ∧ fieldE r = 0 := by
  unfold chk at h
  split at h
  · split at h
    · exact ⟨‹_›, (clean_iff r).1 ‹_›, h⟩
    · cases h
  · cases h
theorem Rc.ext' {a b : Rc} (h1 : a.kind = b.kind) (h2 : a.num = b.num) (h3 : a.low = b.low) (h4 : a.high = b.high) (h5 : a.real = b.real) (h6 : a.cap = b.cap) (h7 : a.text = b.text) (h8 : a.list = b.list) : a = b := by
  cases a; cases b; simp_all
theorem itemE_zero {k : Int} {p : Option It} {x : It} (h : itemE k p x = 0) : x.name.size ≤ 16 ∧ fits k x.score = true := by
  unfold itemE at h
  split at h
  · cases h
  · split at h
    · rename_i h1 h2
      simp only [Bool.and_eq_true] at h2
      exact ⟨by omega, h2.1⟩
    · cases h
theorem itemsE_zero {k : Int} : ∀ {l : List It} {p : Option It}, itemsE k p l = 0 → ∀ x ∈ l, x.name.size ≤ 16 ∧ fits k x.score = true
  | [], _, _, x, hx => by cases hx
  | a :: l, p, h, x, hx => by
    have h : (if itemE k p a = 0 then itemsE k (some a) l else itemE k p a) = 0 := h
    split at h
    · rcases List.mem_cons.1 hx with rfl | hx
      · exact itemE_zero ‹_›
      · exact itemsE_zero h x hx
    · exact absurd h ‹_›
theorem fits_proper {k : Int} {s : Nat} (hs : MF.W64 s) (h : fits k s = true) : MF.proper s = true ∧ (k = 8 → s = 0) := by
  unfold fits at h
  split at h
  · have := zero_of_same hs h
    subst this
    exact ⟨proper_zero, fun _ => rfl⟩
  · exact ⟨h, fun e => absurd e ‹_›⟩
/-- What a record that may be has. -/
structure May (r : Rc) : Prop where
  known : known r.kind = true
  only : Only r
  real : MF.proper r.real = true
  real0 : ¬ (5 ≤ r.kind ∧ r.kind ≤ 7) → r.real = 0
  text : r.text.size ≤ 64
  cap : 0 ≤ r.cap ∧ r.cap ≤ 32
  len : r.list.length ≤ 32
  items : ∀ x ∈ r.list, x.name.size ≤ 16 ∧ MF.proper x.score = true ∧ (r.kind = 8 → x.score = 0)
theorem chk_may {r : Rc} (hr : r.ok) (h : chk r = 0) : May r := by
  obtain ⟨hk, ho, hf⟩ := chk_zero h
  have real0 : ¬ (5 ≤ r.kind ∧ r.kind ≤ 7) → r.real = 0 := fun k => zero_of_same hr.real (ho.real k)
  refine ⟨hk, ho, ?_, real0, ?_, ?_, ?_, ?_⟩
  · by_cases k : 5 ≤ r.kind ∧ r.kind ≤ 7
    · unfold fieldE at hf
      rw [if_neg (by omega), if_neg (by omega), if_pos k] at hf
      split at hf
      · assumption
      · cases hf
    · rw [real0 k]; exact proper_zero
  · by_cases k : r.kind = 1
    · unfold fieldE at hf
      rw [if_pos k] at hf
      split at hf
      · cases hf
      · omega
    · rw [ho.text k]; exact Nat.zero_le _
  · by_cases k : 8 ≤ r.kind ∧ r.kind ≤ 9
    · unfold fieldE at hf
      rw [if_neg (by omega), if_neg (by omega), if_neg (by omega), if_pos k.1] at hf
      unfold listE at hf
      split at hf
      · cases hf
      · omega
    · rw [ho.cap k]; omega
  · by_cases k : 8 ≤ r.kind ∧ r.kind ≤ 9
    · unfold fieldE at hf
      rw [if_neg (by omega), if_neg (by omega), if_neg (by omega), if_pos k.1] at hf
      unfold listE at hf
      split at hf
      · cases hf
      · split at hf
        · cases hf
        · omega
    · rw [ho.list k]; exact Nat.zero_le _
  · intro x hx
    by_cases k : 8 ≤ r.kind ∧ r.kind ≤ 9
    · unfold fieldE at hf
      rw [if_neg (by omega), if_neg (by omega), if_neg (by omega), if_pos k.1] at hf
      unfold listE at hf
      split at hf
      · cases hf
      · split at hf
        · cases hf
        · have h1 := itemsE_zero hf x hx
          have h2 := fits_proper (hr.list x hx) h1.2
          exact ⟨h1.1, h2.1, h2.2⟩
    · rw [ho.list k] at hx; cases hx
def itB (k : Int) (x : It) : List UInt8 := (if k = 9 then PK.placeB (MF.key x.score) else []) ++ PK.textB x.name.data.toList
def itsB (k : Int) : List It → List UInt8
  | [] => []
  | x :: l => itB k x ++ itsB k l
def listB (r : Rc) : List UInt8 := PK.digits r.cap.toNat ++ (PK.digits r.list.length ++ itsB r.kind r.list)
def fieldB (r : Rc) : List UInt8 :=
  if r.kind = 1 then PK.textB r.text.data.toList
  else if r.kind = 2 ∨ r.kind = 3 then PK.digits (PK.zig r.num)
  else if r.kind = 4 then PK.digits (PK.zig r.low) ++ (PK.digits (PK.zig r.high) ++ PK.digits (PK.zig r.num))
  else if r.kind = 5 ∨ r.kind = 6 ∨ r.kind = 7 then PK.placeB (MF.key r.real)
  else if r.kind = 8 ∨ r.kind = 9 then listB r
  else []
/-- A record as bytes. -/
def recB (r : Rc) : List UInt8 := PK.digits r.kind.toNat ++ fieldB r
end RC
namespace Go.Proofs.YtbkcmnmbcldjoaaGreatDoor
open MM
section
variable {α β γ : Type}
def shiftR (n : Nat) : Res α → Res α
  | .ok y m => .ok y (n + m)
  | .bad e m => .bad e (n + m)
/-- One behind the other. -/
def andR (r : Res α) (l : List UInt8) (f : α → List UInt8 → Res β) : Res β :=
  match r with
  | .bad e n => .bad e n
  | .ok x n => shiftR n (f x (l.drop n))
theorem andR_ok {r : Res α} {l : List UInt8} {f : α → List UInt8 → Res β} {x : α} {n : Nat} (h : r = .ok x n) : andR r l f = shiftR n (f x (l.drop n)) := by subst h; rfl
end
/-- An item; so many items; a record's fields; a record. -/
def itR (k : Nat) (l : List UInt8) : Res RC.It :=
  if k = 9 then andR (floR l) l fun s l1 => Res.map (fun t => ⟨s, ⟨t.toArray⟩⟩) (txtR 16 l1)
  else Res.map (fun t => ⟨0, ⟨t.toArray⟩⟩) (txtR 16 l)
def itsR (k : Nat) : Nat → List UInt8 → Res (List RC.It)
  | 0, _ => .ok [] 0
  | n + 1, l => andR (itR k l) l fun x l1 => Res.map (fun xs => x :: xs) (itsR k n l1)
theorem w0 : MF.W64 0 := by unfold MF.W64; decide
end Go.Proofs.YtbkcmnmbcldjoaaGreatDoor
namespace AC
open Go
structure Ac where
  kind : Int
  key : ByteArray
  n : Int
  x : Nat
  s : ByteArray
  make : RC.Rc
  must : Bool
structure Ac.ok (a : Ac) : Prop where
  kind : RC.I64 a.kind
  n : RC.I64 a.n
  x : MF.W64 a.x
  make : a.make.ok
def zero : Ac := ⟨0, ⟨#[]⟩, 0, 0, ⟨#[]⟩, RC.zero, false⟩
theorem zero_ok : zero.ok := ⟨rfl, rfl, by unfold MF.W64; decide, RC.zero_ok⟩
def known (k : Int) : Bool := decide (0 < k ∧ k < 22)
def hasN (k : Int) : Bool := decide (7 ≤ k ∧ k ≤ 12)
def hasX (k : Int) : Bool := decide ((13 ≤ k ∧ k ≤ 17) ∨ k = 21)
def hasS (k : Int) : Bool := decide (k = 5 ∨ k = 6 ∨ (18 ≤ k ∧ k ≤ 21))
def hasM (k : Int) : Bool := decide (k = 1)
def most (k : Int) : Nat := if k = 5 ∨ k = 6 then 64 else if 18 ≤ k ∧ k ≤ 21 then 16 else 0
def beyond (a : Ac) : Bool := (!hasN a.kind && a.n != 0) || (!hasX a.kind && !MF.same a.x 0) || (!hasS a.kind && !RC.strEq a.s ⟨#[]⟩) || (!hasM a.kind && !RC.same a.make RC.zero)
def amount (a : Ac) : Bool := if a.kind = 10 ∨ a.kind = 11 then decide (0 ≤ a.n ∧ a.n ≤ 2305843009213693952) else true
def endE (a : Ac) : Nat := if a.kind = 1 then RC.chk a.make else 0
/-- May an act be? The error's number. -/
def chk (a : Ac) : Nat :=
  if known a.kind then
    if 1 ≤ a.key.size ∧ a.key.size ≤ 24 then
      if beyond a then 4 else if most a.kind < a.s.size then 3 else if amount a then (if MF.proper a.x then endE a else 4) else 1
    else 1
  else 5
def same (a b : Ac) : Bool := a.kind == b.kind && RC.strEq a.key b.key && a.must == b.must && a.n == b.n && MF.same a.x b.x && RC.strEq a.s b.s && RC.same a.make b.make
theorem same_split {a b : Ac} (h : same a b = true) : a.kind = b.kind ∧ a.key = b.key ∧ a.must = b.must ∧ a.n = b.n ∧ MF.same a.x b.x = true ∧ a.s = b.s ∧ RC.same a.make b.make = true := by
  unfold same at h
  simp only [Bool.and_eq_true, beq_iff_eq, RC.strEq_iff] at h
  obtain ⟨⟨⟨⟨⟨⟨h1, h2⟩, h3⟩, h4⟩, h5⟩, h6⟩, h7⟩ := h
  exact ⟨h1, h2, h3, h4, h5, h6, h7⟩
theorem rec_zero {r : RC.Rc} (hr : r.ok) (h : RC.same r RC.zero = true) : r = RC.zero := by
  obtain ⟨h1, h2, h3, h4, h5, h6, h7, h8⟩ := RC.same_split h
  exact RC.Rc.ext' h1 h2 h3 h4 (RC.zero_of_same hr.real h5) h6 h7 (RC.sameL_nil h8)
structure May (a : Ac) : Prop where
  known : 0 < a.kind ∧ a.kind < 22
  key : 1 ≤ a.key.size ∧ a.key.size ≤ 24
  n : hasN a.kind = false → a.n = 0
  x : hasX a.kind = false → a.x = 0
  s : hasS a.kind = false → a.s = ⟨#[]⟩
  m : hasM a.kind = false → a.make = RC.zero
  most : a.s.size ≤ most a.kind
  proper : MF.proper a.x = true
  made : hasM a.kind = true → RC.chk a.make = 0
theorem chk_may {a : Ac} (ha : a.ok) (h : chk a = 0) : May a := by
  unfold chk at h
  split at h
  · rename_i hk
    split at h
    · rename_i hkey
      split at h
      · cases h
      · rename_i hb
        split at h
        · cases h
        · rename_i hm
          split at h
          · split at h
            · rename_i hp
              unfold beyond at hb
              simp only [Bool.or_eq_true, Bool.and_eq_true, Bool.not_eq_true', not_or, not_and, bne_iff_ne, ne_eq] at hb
              obtain ⟨⟨⟨b1, b2⟩, b3⟩, b4⟩ := hb
              refine ⟨by unfold known at hk; simpa using hk, hkey, fun e => ?_, fun e => ?_, fun e => ?_, fun e => ?_, by omega, hp, fun e => ?_⟩
              · exact Decidable.not_not.1 (b1 e)
              · exact RC.zero_of_same ha.x (by simpa using b2 e)
              · exact (RC.strEq_iff _ _).1 (by simpa using b3 e)
              · exact rec_zero ha.make (by simpa using b4 e)
              · unfold endE at h
                rw [if_pos (by unfold hasM at e; simpa using e)] at h
                exact h
            · cases h
          · cases h
    · cases h
  · cases h
theorem Ac.ext' {a b : Ac} (h1 : a.kind = b.kind) (h2 : a.key = b.key) (h3 : a.n = b.n) (h4 : a.x = b.x) (h5 : a.s = b.s) (h6 : a.make = b.make) (h7 : a.must = b.must) : a = b := by
  cases a; cases b; simp_all
def nB (a : Ac) : List UInt8 := if hasN a.kind then PK.digits (PK.zig a.n) else []
def xB (a : Ac) : List UInt8 := if hasX a.kind then PK.placeB (MF.key a.x) else []
def sB (a : Ac) : List UInt8 := if hasS a.kind then PK.textB a.s.data.toList else []
def mB (a : Ac) : List UInt8 := if hasM a.kind then RC.recB a.make else []
def fieldB (a : Ac) : List UInt8 := nB a ++ (xB a ++ (sB a ++ mB a))
end AC
namespace Go.Proofs.YtbkcmnmbcldjoaaGreatDoor
open MM
section
variable {α : Type}
end
end Go.Proofs.YtbkcmnmbcldjoaaGreatDoor
namespace RU
open Go Go.RowKit RC
/-- Numbers of 64 bits go round. -/
def w64 (n : Int) : Int := wrap64 n
structure Ans where
  code : Nat
  num : Int
  rc : Rc
def err (c : Nat) : Ans := ⟨c, 0, RC.zero⟩
/-- How many of a list stand ahead of an item; whether it stands behind these. -/
def find : List It → It → Nat
  | [], _ => 0
  | y :: l, x => if better y x then find l x + 1 else 0
def at_ (l : List It) (x : It) : Bool :=
  match l[find l x]? with
  | none => false
  | some y => !better x y
def lay (l : List It) (x : It) : List It := l.take (find l x) ++ x :: l.drop (find l x)
def lose (l : List It) (x : It) : List It := l.take (find l x) ++ l.drop (find l x + 1)
/-- What is there behind an act, or why it is refused: kind by kind. -/
def plusOver (r : Rc) (n : Int) : Bool := decide (w64 (r.num + n) < r.num) != decide (n < 0)
theorem find_le : ∀ (l : List It) (x : It), find l x ≤ l.length
  | [], _ => Nat.le_refl _
  | y :: l, x => by
    unfold find
    split
    · have := find_le l x; simp; omega
    · exact Nat.zero_le _
end RU
