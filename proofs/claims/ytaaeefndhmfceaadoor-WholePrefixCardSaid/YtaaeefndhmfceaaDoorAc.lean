/- Plain mathematics of layer 4: acts, what they may be, how they are bytes, and how bytes are acts. No program. -/
import Derived.Test.YtaaeefndhmfceaaDoorRcR
namespace AC
open Go

structure Ac where
  kind : Int
  key : ByteArray
  n : Int
  x : Nat
  s : ByteArray
  make : RC.Rc
  must : Bool
structure Ac.ok (a : Ac) : Prop where
  kind : RC.I64 a.kind
  n : RC.I64 a.n
  x : MF.W64 a.x
  make : a.make.ok
def zero : Ac := ⟨0, ⟨#[]⟩, 0, 0, ⟨#[]⟩, RC.zero, false⟩
theorem zero_ok : zero.ok := ⟨rfl, rfl, by unfold MF.W64; decide, RC.zero_ok⟩

def known (k : Int) : Bool := decide (0 < k ∧ k < 22)
def hasN (k : Int) : Bool := decide (7 ≤ k ∧ k ≤ 12)
def hasX (k : Int) : Bool := decide ((13 ≤ k ∧ k ≤ 17) ∨ k = 21)
def hasS (k : Int) : Bool := decide (k = 5 ∨ k = 6 ∨ (18 ≤ k ∧ k ≤ 21))
def hasM (k : Int) : Bool := decide (k = 1)
def most (k : Int) : Nat := if k = 5 ∨ k = 6 then 64 else if 18 ≤ k ∧ k ≤ 21 then 16 else 0

def beyond (a : Ac) : Bool := (!hasN a.kind && a.n != 0) || (!hasX a.kind && !MF.same a.x 0) || (!hasS a.kind && !RC.strEq a.s ⟨#[]⟩) || (!hasM a.kind && !RC.same a.make RC.zero)
def amount (a : Ac) : Bool := if a.kind = 10 ∨ a.kind = 11 then decide (0 ≤ a.n ∧ a.n ≤ 2305843009213693952) else true
def endE (a : Ac) : Nat := if a.kind = 1 then RC.chk a.make else 0
/-- May an act be? The error's number. -/
def chk (a : Ac) : Nat :=
  if known a.kind then
    if 1 ≤ a.key.size ∧ a.key.size ≤ 24 then
      if beyond a then 4 else if most a.kind < a.s.size then 3 else if amount a then (if MF.proper a.x then endE a else 4) else 1
    else 1
  else 5
def same (a b : Ac) : Bool := a.kind == b.kind && RC.strEq a.key b.key && a.must == b.must && a.n == b.n && MF.same a.x b.x && RC.strEq a.s b.s && RC.same a.make b.make

theorem same_refl' (a : Ac) : same a a = true := by
  unfold same; simp [RC.same_refl, RC.strEq_refl, RC.same_refl']
theorem beqB_comm (a b : Bool) : (a == b) = (b == a) := by cases a <;> cases b <;> rfl
theorem same_comm' (a b : Ac) : same a b = same b a := by
  unfold same
  rw [RC.beq_comm' a.kind, RC.strEq_comm a.key, beqB_comm a.must, RC.beq_comm' a.n, RC.same_comm a.x, RC.strEq_comm a.s, RC.same_comm' a.make]
theorem same_split {a b : Ac} (h : same a b = true) : a.kind = b.kind ∧ a.key = b.key ∧ a.must = b.must ∧ a.n = b.n ∧ MF.same a.x b.x = true ∧ a.s = b.s ∧ RC.same a.make b.make = true := by
  unfold same at h
  simp only [Bool.and_eq_true, beq_iff_eq, RC.strEq_iff] at h
  obtain ⟨⟨⟨⟨⟨⟨h1, h2⟩, h3⟩, h4⟩, h5⟩, h6⟩, h7⟩ := h
  exact ⟨h1, h2, h3, h4, h5, h6, h7⟩

/-! ### what an act that may be is -/
theorem rec_zero {r : RC.Rc} (hr : r.ok) (h : RC.same r RC.zero = true) : r = RC.zero := by
  obtain ⟨h1, h2, h3, h4, h5, h6, h7, h8⟩ := RC.same_split h
  exact RC.Rc.ext' h1 h2 h3 h4 (RC.zero_of_same hr.real h5) h6 h7 (RC.sameL_nil h8)
structure May (a : Ac) : Prop where
  known : 0 < a.kind ∧ a.kind < 22
  key : 1 ≤ a.key.size ∧ a.key.size ≤ 24
  n : hasN a.kind = false → a.n = 0
  x : hasX a.kind = false → a.x = 0
  s : hasS a.kind = false → a.s = ⟨#[]⟩
  m : hasM a.kind = false → a.make = RC.zero
  most : a.s.size ≤ most a.kind
  proper : MF.proper a.x = true
  made : hasM a.kind = true → RC.chk a.make = 0
theorem chk_may {a : Ac} (ha : a.ok) (h : chk a = 0) : May a := by
  unfold chk at h
  split at h
  · rename_i hk
    split at h
    · rename_i hkey
      split at h
      · cases h
      · rename_i hb
        split at h
        · cases h
        · rename_i hm
          split at h
          · split at h
            · rename_i hp
              unfold beyond at hb
              simp only [Bool.or_eq_true, Bool.and_eq_true, Bool.not_eq_true', not_or, not_and, bne_iff_ne, ne_eq] at hb
              obtain ⟨⟨⟨b1, b2⟩, b3⟩, b4⟩ := hb
              refine ⟨by unfold known at hk; simpa using hk, hkey, fun e => ?_, fun e => ?_, fun e => ?_, fun e => ?_, by omega, hp, fun e => ?_⟩
              · exact Decidable.not_not.1 (b1 e)
              · exact RC.zero_of_same ha.x (by simpa using b2 e)
              · exact (RC.strEq_iff _ _).1 (by simpa using b3 e)
              · exact rec_zero ha.make (by simpa using b4 e)
              · unfold endE at h
                rw [if_pos (by unfold hasM at e; simpa using e)] at h
                exact h
            · cases h
          · cases h
    · cases h
  · cases h
theorem Ac.ext' {a b : Ac} (h1 : a.kind = b.kind) (h2 : a.key = b.key) (h3 : a.n = b.n) (h4 : a.x = b.x) (h5 : a.s = b.s) (h6 : a.make = b.make) (h7 : a.must = b.must) : a = b := by
  cases a; cases b; simp_all
/-- Two acts that may be, and are the same, are one. -/
theorem same_may {a b : Ac} (ha : a.ok) (hb : b.ok) (ma : May a) (mb : May b) (h : same a b = true) : a = b := by
  obtain ⟨h1, h2, h3, h4, h5, h6, h7⟩ := same_split h
  refine Ac.ext' h1 h2 h4 (RC.same_proper ha.x hb.x ma.proper mb.proper h5) h6 ?_ h3
  cases e : hasM a.kind with
  | true => exact RC.same_may ha.make hb.make (RC.chk_may ha.make (ma.made e)) (RC.chk_may hb.make (mb.made (h1 ▸ e))) h7
  | false => rw [ma.m e, mb.m (h1 ▸ e)]

/-! ### as bytes -/
def nB (a : Ac) : List UInt8 := if hasN a.kind then PK.digits (PK.zig a.n) else []
def xB (a : Ac) : List UInt8 := if hasX a.kind then PK.placeB (MF.key a.x) else []
def sB (a : Ac) : List UInt8 := if hasS a.kind then PK.textB a.s.data.toList else []
def mB (a : Ac) : List UInt8 := if hasM a.kind then RC.recB a.make else []
def headB (a : Ac) : List UInt8 := PK.digits a.kind.toNat ++ (PK.flagB a.must ++ PK.textB a.key.data.toList)
def fieldB (a : Ac) : List UInt8 := nB a ++ (xB a ++ (sB a ++ mB a))
/-- An act as bytes. -/
def actB (a : Ac) : List UInt8 := PK.digits a.kind.toNat ++ (PK.flagB a.must ++ (PK.textB a.key.data.toList ++ fieldB a))
end AC

namespace Go.Proofs.YtaaeefndhmfceaaDoor
open MM

section
variable {α : Type}
/-- What is read, if it is there. -/
def optR (b : Bool) (z : α) (r : List UInt8 → Res α) (l : List UInt8) : Res α := if b then r l else .ok z 0
theorem optR_yes {b : Bool} (h : b = true) (z : α) (r : List UInt8 → Res α) (l : List UInt8) : optR b z r l = r l := by unfold optR; rw [if_pos h]
theorem optR_no {b : Bool} (h : b = false) (z : α) (r : List UInt8 → Res α) (l : List UInt8) : optR b z r l = .ok z 0 := by unfold optR; rw [if_neg (by simp [h])]
theorem optR_front {b : Bool} {z x : α} {r : List UInt8 → Res α} {B rest : List UInt8} (h : b = true → r (B ++ rest) = .ok x B.length) (h0 : b = false → x = z ∧ B = []) : optR b z r (B ++ rest) = .ok x B.length := by
  cases b with
  | true => rw [optR_yes rfl]; exact h rfl
  | false =>
    obtain ⟨rfl, rfl⟩ := h0 rfl
    rw [optR_no rfl]
    rfl
theorem optR_inv {b : Bool} {z x : α} {r : List UInt8 → Res α} {l : List UInt8} {n : Nat} (h : optR b z r l = .ok x n) : (b = true ∧ r l = .ok x n) ∨ (b = false ∧ x = z ∧ n = 0) := by
  cases b with
  | true => rw [optR_yes rfl] at h; exact .inl ⟨rfl, h⟩
  | false => rw [optR_no rfl] at h; injection h with h1 h2; exact .inr ⟨rfl, h1.symm, h2.symm⟩
end

def iR (l : List UInt8) : Res Int := Res.map PK.zag (numR l)
def sR (m : Int) (l : List UInt8) : Res ByteArray := Res.map (fun t => (⟨t.toArray⟩ : ByteArray)) (txtR m l)
/-- The fields of an act behind its key; its kind; an act. -/
def actfR (k : Nat) (must : Bool) (key : ByteArray) (l : List UInt8) : Res AC.Ac :=
  andR (optR (AC.hasN k) 0 iR l) l fun n l1 => andR (optR (AC.hasX k) 0 floR l1) l1 fun x l2 => andR (optR (AC.hasS k) ⟨#[]⟩ (sR (AC.most k)) l2) l2 fun s l3 =>
    Res.map (fun m => (⟨(k : Int), key, n, x, s, m, must⟩ : AC.Ac)) (optR (AC.hasM k) RC.zero recR l3)
def kindA (l : List UInt8) : Res Nat := andR (uptoR 21 l) l fun k _ => if k = 0 then .bad 5 0 else .ok k 0
def endA (a : AC.Ac) : Res AC.Ac := if AC.chk a = 0 then .ok a 0 else .bad (AC.chk a) 0
def keyR (l : List UInt8) : Res ByteArray := sR 24 l
def actR (l : List UInt8) : Res AC.Ac :=
  andR (kindA l) l fun k l1 => andR (flagR l1) l1 fun must l2 => andR (keyR l2) l2 fun key l3 => andR (actfR k must key l3) l3 fun a _ => endA a

theorem kindA_inv {l : List UInt8} {k n : Nat} (h : kindA l = .ok k n) : uptoR 21 l = .ok k n ∧ 0 < k ∧ k ≤ 21 := by
  obtain ⟨k', a, b, hk, hf, rfl⟩ := andR_inv (show andR (uptoR 21 l) l _ = _ from h)
  split at hf
  · cases hf
  · injection hf with e1 e2
    subst e1 e2
    have := (uptoR_one hk).2.2
    have h3 : k' ≤ 21 := this
    exact ⟨hk, by omega, h3⟩
theorem kindA_digits (k : Nat) (rest : List UInt8) (h0 : 0 < k) (h1 : k ≤ 21) : kindA (PK.digits k ++ rest) = .ok k (PK.digits k).length := by
  unfold kindA
  rw [andR_front (uptoR_digits 21 k rest (by omega) (by omega)), if_neg (by omega)]
  rfl
theorem sR_text (t : ByteArray) (rest : List UInt8) (m : Int) (h : (t.size : Int) ≤ m) (hl : t.size < 18446744073709551616) : sR m (PK.textB t.data.toList ++ rest) = .ok t (PK.textB t.data.toList).length := by
  unfold sR
  rw [txtR_text _ rest m (by rw [sz_list]; exact h) (by rw [sz_list]; exact hl)]
  simp only [Res.map, toA]
theorem sR_one {l : List UInt8} {t : ByteArray} {m : Int} {k : Nat} (h : sR m l = .ok t k) : l.take k = PK.textB t.data.toList ∧ k ≤ l.length := by
  obtain ⟨s, hs, rfl⟩ := map_inv (show Res.map _ (txtR m l) = _ from h)
  obtain ⟨h1, h2⟩ := txtR_one hs
  exact ⟨by rw [h1, toL], h2⟩

/-- What is written is read. -/
theorem actfR_fieldB (k : Nat) (key : ByteArray) (n : Int) (x : Nat) (s : ByteArray) (m : RC.Rc) (must : Bool) (rest : List UInt8) (ha : AC.Ac.ok ⟨(k : Int), key, n, x, s, m, must⟩) (hm : AC.May ⟨(k : Int), key, n, x, s, m, must⟩) :
    actfR k must key (AC.fieldB ⟨(k : Int), key, n, x, s, m, must⟩ ++ rest) = .ok ⟨(k : Int), key, n, x, s, m, must⟩ (AC.fieldB ⟨(k : Int), key, n, x, s, m, must⟩).length := by
  have h1 : ∀ rest, optR (AC.hasN k) 0 iR (AC.nB ⟨(k : Int), key, n, x, s, m, must⟩ ++ rest) = .ok n (AC.nB ⟨(k : Int), key, n, x, s, m, must⟩).length := fun rest => by
    refine optR_front (fun e => ?_) (fun e => ?_)
    · obtain ⟨a1, a2⟩ := numR_zig n rest ha.n
      unfold AC.nB
      simp only [e, if_true]
      unfold iR
      rw [a1]
      simp only [Res.map, a2]
    · exact ⟨hm.n e, by unfold AC.nB; simp [e]⟩
  have h2 : ∀ rest, optR (AC.hasX k) 0 floR (AC.xB ⟨(k : Int), key, n, x, s, m, must⟩ ++ rest) = .ok x (AC.xB ⟨(k : Int), key, n, x, s, m, must⟩).length := fun rest => by
    refine optR_front (fun e => ?_) (fun e => ?_)
    · have hf := floR_place x rest ha.x
      rw [RC.proper_eq hm.proper] at hf
      unfold AC.xB
      simp only [e, if_true]
      rw [hf, PK.placeB_length]
    · exact ⟨hm.x e, by unfold AC.xB; simp [e]⟩
  have h3 : ∀ rest, optR (AC.hasS k) ⟨#[]⟩ (sR (AC.most k)) (AC.sB ⟨(k : Int), key, n, x, s, m, must⟩ ++ rest) = .ok s (AC.sB ⟨(k : Int), key, n, x, s, m, must⟩).length := fun rest => by
    refine optR_front (fun e => ?_) (fun e => ?_)
    · have hs : s.size ≤ AC.most k := hm.most
      have hb : AC.most k ≤ 64 := by unfold AC.most; split <;> (try split) <;> omega
      unfold AC.sB
      simp only [e, if_true]
      exact sR_text s rest _ (by omega) (by omega)
    · exact ⟨hm.s e, by unfold AC.sB; simp [e]⟩
  have h4 : ∀ rest, optR (AC.hasM k) RC.zero recR (AC.mB ⟨(k : Int), key, n, x, s, m, must⟩ ++ rest) = .ok m (AC.mB ⟨(k : Int), key, n, x, s, m, must⟩).length := fun rest => by
    refine optR_front (fun e => ?_) (fun e => ?_)
    · unfold AC.mB
      simp only [e, if_true]
      exact recR_recB m rest ha.make (hm.made e)
    · exact ⟨hm.m e, by unfold AC.mB; simp [e]⟩
  unfold actfR AC.fieldB
  rw [List.append_assoc, List.append_assoc, List.append_assoc, andR_front (h1 _), andR_front (h2 _), andR_front (h3 _), h4]
  simp only [Res.map, shiftR, List.length_append]
theorem actR_actB (a : AC.Ac) (rest : List UInt8) (ha : a.ok) (h : AC.chk a = 0) : actR (AC.actB a ++ rest) = .ok a (AC.actB a).length := by
  have hm := AC.chk_may ha h
  obtain ⟨k, key, n, x, s, m, must⟩ := a
  have hk : 0 < k ∧ k < 22 := hm.known
  obtain ⟨j, rfl⟩ : ∃ j : Nat, k = (j : Int) := ⟨k.toNat, by omega⟩
  have hkey : key.size ≤ 24 := hm.key.2
  unfold actR AC.actB
  rw [List.append_assoc, List.append_assoc, List.append_assoc]
  rw [show ((⟨(j : Int), key, n, x, s, m, must⟩ : AC.Ac).kind).toNat = j from rfl]
  rw [andR_front (kindA_digits j _ (by omega) (by omega))]
  have hf : flagR (PK.flagB must ++ (PK.textB key.data.toList ++ (AC.fieldB ⟨(j : Int), key, n, x, s, m, must⟩ ++ rest))) = .ok must (PK.flagB must).length := flagR_flag must _
  rw [andR_front hf]
  have hkr : keyR (PK.textB key.data.toList ++ (AC.fieldB ⟨(j : Int), key, n, x, s, m, must⟩ ++ rest)) = .ok key (PK.textB key.data.toList).length := sR_text key _ 24 (by omega) (by omega)
  rw [andR_front hkr, andR_front (actfR_fieldB j key n x s m must rest ha hm)]
  unfold endA
  rw [if_pos h]
  simp only [shiftR, List.length_append, Nat.add_zero]

/-- What is read is written. -/
theorem actfR_one {k : Nat} {must : Bool} {key : ByteArray} {l : List UInt8} {a : AC.Ac} {n : Nat} (hk : k ≤ 21) (h : actfR k must key l = .ok a n) : l.take n = AC.fieldB a ∧ n ≤ l.length ∧ a.ok ∧ a.kind = (k : Int) ∧ a.must = must ∧ a.key = key := by
  obtain ⟨v, i1, j1, hv, hf1, rfl⟩ := andR_inv (show andR (optR (AC.hasN k) 0 iR l) l _ = _ from h)
  obtain ⟨x, i2, j2, hx, hf2, rfl⟩ := andR_inv hf1
  obtain ⟨s, i3, j3, hs, hf3, rfl⟩ := andR_inv hf2
  obtain ⟨m, hm, rfl⟩ := map_inv hf3
  have e1 : l.take i1 = AC.nB ⟨(k : Int), key, v, x, s, m, must⟩ ∧ i1 ≤ l.length ∧ RC.I64 v := by
    rcases optR_inv hv with ⟨hb, hr⟩ | ⟨hb, rfl, rfl⟩
    · obtain ⟨q, hq, rfl⟩ := map_inv (show Res.map _ (numR l) = _ from hr)
      obtain ⟨a1, a2, a3⟩ := numR_one hq
      have hz := zag_ok a3
      refine ⟨?_, a2, hz.1⟩
      unfold AC.nB
      simp only [hb, if_true]
      rw [a1, hz.2]
    · exact ⟨by unfold AC.nB; simp [hb], Nat.zero_le _, rfl⟩
  have e2 : (l.drop i1).take i2 = AC.xB ⟨(k : Int), key, v, x, s, m, must⟩ ∧ i2 ≤ (l.drop i1).length ∧ MF.W64 x := by
    rcases optR_inv hx with ⟨hb, hr⟩ | ⟨hb, rfl, rfl⟩
    · obtain ⟨rfl, a2, a3, a4, _⟩ := floR_one hr
      refine ⟨?_, a2, a4⟩
      unfold AC.xB
      simp only [hb, if_true]
      exact a3
    · exact ⟨by unfold AC.xB; simp [hb], Nat.zero_le _, w0⟩
  have e3 : ((l.drop i1).drop i2).take i3 = AC.sB ⟨(k : Int), key, v, x, s, m, must⟩ ∧ i3 ≤ ((l.drop i1).drop i2).length := by
    rcases optR_inv hs with ⟨hb, hr⟩ | ⟨hb, rfl, rfl⟩
    · obtain ⟨a1, a2⟩ := sR_one hr
      refine ⟨?_, a2⟩
      unfold AC.sB
      simp only [hb, if_true]
      exact a1
    · exact ⟨by unfold AC.sB; simp [hb], Nat.zero_le _⟩
  have e4 : (((l.drop i1).drop i2).drop i3).take j3 = AC.mB ⟨(k : Int), key, v, x, s, m, must⟩ ∧ j3 ≤ (((l.drop i1).drop i2).drop i3).length ∧ m.ok := by
    rcases optR_inv hm with ⟨hb, hr⟩ | ⟨hb, rfl, rfl⟩
    · obtain ⟨a1, a2, a3, _⟩ := recR_one hr
      refine ⟨?_, a2, a3⟩
      unfold AC.mB
      simp only [hb, if_true]
      exact a1
    · exact ⟨by unfold AC.mB; simp [hb], Nat.zero_le _, RC.zero_ok⟩
  refine ⟨?_, drop_len e1.2.1 (drop_len e2.2.1 (drop_len e3.2 e4.2.1)), ⟨i64_wf (by simp only; omega), e1.2.2, e2.2.2, e4.2.2⟩, rfl, rfl, rfl⟩
  rw [take_two e1.1 e1.2.1 (take_two e2.1 e2.2.1 (take_two e3.1 e3.2 e4.1))]
  rfl
theorem actR_one {l : List UInt8} {a : AC.Ac} {n : Nat} (h : actR l = .ok a n) : l.take n = AC.actB a ∧ n ≤ l.length ∧ a.ok ∧ AC.chk a = 0 := by
  obtain ⟨k, i1, j1, hk, hf1, rfl⟩ := andR_inv (show andR (kindA l) l _ = _ from h)
  obtain ⟨must, i2, j2, hb, hf2, rfl⟩ := andR_inv hf1
  obtain ⟨key, i3, j3, hy, hf3, rfl⟩ := andR_inv hf2
  obtain ⟨x, i4, j4, hx, hf4, rfl⟩ := andR_inv hf3
  unfold endA at hf4
  split at hf4
  · rename_i hc
    injection hf4 with e1 e2
    subst e1 e2
    obtain ⟨hu, hk0, hk1⟩ := kindA_inv hk
    obtain ⟨a1, a2, _⟩ := uptoR_one hu
    obtain ⟨rfl, b2, b3⟩ := flagR_one hb
    obtain ⟨c1, c2⟩ := sR_one (show sR 24 _ = _ from hy)
    obtain ⟨d1, d2, d3, d4, d5, d6⟩ := actfR_one hk1 hx
    refine ⟨?_, drop_len a2 (drop_len b2 (drop_len c2 d2)), d3, hc⟩
    rw [Nat.add_zero, take_two a1 a2 (take_two b3 b2 (take_two c1 c2 d1))]
    unfold AC.actB
    rw [d4, d5, d6]
    rfl
  · cases hf4
/-- No act's bytes begin another one's. -/
theorem actB_front {a b : AC.Ac} {r q : List UInt8} (ha : a.ok) (hb : b.ok) (ca : AC.chk a = 0) (cb : AC.chk b = 0) (h : AC.actB a ++ r = AC.actB b ++ q) : a = b := by
  have e1 := actR_actB a r ha ca
  have e2 := actR_actB b q hb cb
  rw [h, e2] at e1
  injection e1 with e3 _
  exact e3.symm
theorem actB_inj {a b : AC.Ac} (ha : a.ok) (hb : b.ok) (ca : AC.chk a = 0) (cb : AC.chk b = 0) (h : AC.actB a = AC.actB b) : a = b :=
  actB_front (r := []) (q := []) ha hb ca cb (by rw [h])
theorem actB_same {a b : AC.Ac} (ha : a.ok) (hb : b.ok) (ca : AC.chk a = 0) (cb : AC.chk b = 0) : decide (AC.actB a = AC.actB b) = AC.same a b := by
  rw [Bool.eq_iff_iff]
  simp only [decide_eq_true_eq]
  constructor
  · intro h
    rw [actB_inj ha hb ca cb h]
    exact AC.same_refl' b
  · intro h
    rw [AC.same_may ha hb (AC.chk_may ha ca) (AC.chk_may hb cb) h]

end Go.Proofs.YtaaeefndhmfceaaDoor
