/- Layer 3's statements' own head: a few records there and back. -/
import Derived.Test.YtlpecaldodganaaDoorRecN
import Derived.Test.YtlpecaldodganaaDoorRecM
import Derived.Deep.RegionHeld3
namespace Go.Proofs.YtlpecaldodganaaDoor
open Go.RowKit MM

theorem dsm (n : Nat) (h : n < 128) : PK.digits n = [n.toUInt8] := PK.digits_small h

def sp3 : RC.Rc := ⟨8, 0, 0, 0, 0, 2, ⟨#[]⟩, [⟨0, ⟨#[97]⟩⟩]⟩
def sp3b : RC.Rc := ⟨3, 3, 0, 0, 0, 0, ⟨#[]⟩, []⟩
theorem sp3_ok : sp3.ok := ⟨rfl, rfl, rfl, rfl, w0, rfl, fun x h => by
  have : x = ⟨0, ⟨#[97]⟩⟩ := by simpa [sp3] using h
  subst this; exact w0⟩
theorem sp3b_ok : sp3b.ok := ⟨rfl, rfl, rfl, rfl, w0, rfl, fun x h => by cases h⟩
theorem sp3_chk : RC.chk sp3 = 0 := by decide +kernel
theorem sp3_bytes : bytesOf sp3 = [8, 2, 1, 1, 97] := by
  unfold bytesOf
  rw [if_pos sp3_chk]
  show PK.digits 8 ++ (PK.digits 2 ++ (PK.digits 1 ++ ((([] : List UInt8) ++ (PK.digits 1 ++ [97])) ++ []))) = _
  rw [dsm 8 (by omega), dsm 2 (by omega), dsm 1 (by omega)]
  rfl
theorem sp3b_bytes : bytesOf sp3b = [3, 6] := by
  unfold bytesOf
  rw [if_pos (by decide +kernel)]
  show PK.digits 3 ++ PK.digits 6 = _
  rw [dsm 3 (by omega), dsm 6 (by omega)]
  rfl
theorem sp3_read : wholeR recR [8, 2, 1, 1, 97] = .ok sp3 5 := by
  have h := recR_recB sp3 [] sp3_ok sp3_chk
  have e : RC.recB sp3 = [8, 2, 1, 1, 97] := by have := sp3_bytes; unfold bytesOf at this; rw [if_pos sp3_chk] at this; exact this
  rw [List.append_nil, e] at h
  exact wholeR_ok h rfl

end Go.Proofs.YtlpecaldodganaaDoor
/- Contracts of the document's own answers for layer 3: items in order. -/
namespace RC
theorem less_same {a b : Nat} (h : MF.same a b = true) : MF.less a b = false := by
  unfold MF.same at h; unfold MF.less
  have h := of_decide_eq_true h
  simp; omega
theorem better_eq (a b : It) : better a b = (MF.less b.score a.score || (MF.same a.score b.score && strLt a.name b.name)) := by
  unfold better
  cases hs : MF.same a.score b.score
  · simp
  · rw [less_same (by rw [same_comm]; exact hs)]; simp
theorem better_irrefl (a : It) : better a a = false := by
  unfold better; rw [if_pos (same_refl _), strLt_irrefl]
theorem better_iff (a b : It) : better a b = true ↔ (MF.key b.score < MF.key a.score ∨ (MF.key a.score = MF.key b.score ∧ strLt a.name b.name = true)) := by
  rw [better_eq]; unfold MF.less MF.same; simp
theorem better_asymm {a b : It} (h : better a b = true) : better b a = false := by
  rw [Bool.eq_false_iff]; intro k
  rw [better_iff] at h k
  rcases h with h | ⟨h, h'⟩ <;> rcases k with k | ⟨k, k'⟩
  · omega
  · omega
  · omega
  · rw [strLt_asymm h'] at k'; cases k'
theorem better_trans {a b c : It} (h : better a b = true) (k : better b c = true) : better a c = true := by
  rw [better_iff] at *
  rcases h with h | ⟨h, h'⟩ <;> rcases k with k | ⟨k, k'⟩
  · exact .inl (by omega)
  · exact .inl (by omega)
  · exact .inl (by omega)
  · exact .inr ⟨by omega, strLt_trans h' k'⟩
end RC
namespace Go.Proofs.YtlpecaldodganaaDoor
open Go.RowKit MM

theorem below_a (w : World) : Below w.heap.size w w.drew := below_drew (Below.refl _ _)

end Go.Proofs.YtlpecaldodganaaDoor
/- Contracts of the document's own answers for layer 3: may a record be? -/
namespace RC
/-- Has a record no other fields than those? -/
def onlyB (t n b r l : Bool) (q : Rc) : Bool :=
  (t || (q.text.toList == (⟨#[]⟩ : ByteArray).toList)) && ((n || q.num == 0) && ((b || q.low == 0) && ((b || q.high == 0) && ((r || MF.same q.real 0) && (l || (q.cap == 0 && ((q.list.length : Int) == 0)))))))
end RC
namespace Go.Proofs.YtlpecaldodganaaDoor
open Go.RowKit MM

theorem proper_none (x : Nat) : MF.proper x = (!MF.nan x || x == 9221120237041090561) := by
  unfold MF.proper
  cases h : MF.nan x
  · rw [MF.canon_eq x false h]; simp
  · rw [MF.canon_eq x true h]; rfl

end Go.Proofs.YtlpecaldodganaaDoor
/- Contracts of the document's own answers for layer 3: has a record no other fields than those? -/
namespace Go.Proofs.YtlpecaldodganaaDoor
open Go.RowKit MM

def OPost (v : Bool) (w : World) (e : Ending) (w' : World) : Prop := e = .returned (.bool v) ∧ Below w.heap.size w w'
theorem OPost.mk {v b : Bool} {w w' : World} (h : v = b) (hb : Below w.heap.size w w') : OPost v w (.returned (.bool b)) w' := by subst h; exact ⟨rfl, hb⟩

end Go.Proofs.YtlpecaldodganaaDoor
/- Contracts of the document's own answers for layer 3: may a record be? -/
namespace RC
theorem empty_iff (t : ByteArray) : t.toList = (⟨#[]⟩ : ByteArray).toList ↔ t = ⟨#[]⟩ := by
  rw [← beq_iff_eq]; exact strEq_iff t ⟨#[]⟩
theorem nil_iff (l : List It) : (l.length : Int) = 0 ↔ l = [] := by
  cases l with
  | nil => simp
  | cons a l => simp; omega
theorem only_iff (t n b r l : Bool) (q : Rc) (ht : t = decide (q.kind = 1)) (hn : n = decide (2 ≤ q.kind ∧ q.kind ≤ 4)) (hb : b = decide (q.kind = 4)) (hr : r = decide (5 ≤ q.kind ∧ q.kind ≤ 7)) (hl : l = decide (8 ≤ q.kind ∧ q.kind ≤ 9)) : onlyB t n b r l q = clean q := by
  rw [Bool.eq_iff_iff, clean_iff]
  unfold onlyB
  simp only [Bool.and_eq_true, Bool.or_eq_true, beq_iff_eq]
  rw [empty_iff, nil_iff]
  subst ht hn hb hr hl
  simp only [decide_eq_true_eq]
  constructor
  · rintro ⟨h1, h2, h3, h4, h5, h6⟩
    exact ⟨fun k => h2.resolve_left k, fun k => h3.resolve_left k, fun k => h4.resolve_left k, fun k => h5.resolve_left k, fun k => (h6.resolve_left k).1, fun k => h1.resolve_left k, fun k => (h6.resolve_left k).2⟩
  · rintro ⟨h2, h3, h4, h5, h6, h1, h7⟩
    refine ⟨?_, ?_, ?_, ?_, ?_, ?_⟩
    · by_cases k : q.kind = 1
      · exact .inl k
      · exact .inr (h1 k)
    · by_cases k : 2 ≤ q.kind ∧ q.kind ≤ 4
      · exact .inl k
      · exact .inr (h2 k)
    · by_cases k : q.kind = 4
      · exact .inl k
      · exact .inr (h3 k)
    · by_cases k : q.kind = 4
      · exact .inl k
      · exact .inr (h4 k)
    · by_cases k : 5 ≤ q.kind ∧ q.kind ≤ 7
      · exact .inl k
      · exact .inr (h5 k)
    · by_cases k : 8 ≤ q.kind ∧ q.kind ≤ 9
      · exact .inl k
      · exact .inr ⟨h6 k, h7 k⟩
end RC
namespace Go.Proofs.YtlpecaldodganaaDoor
open Go.RowKit MM

def fieldsOf (k : Int) : ByteArray :=
  if k = 1 then ⟨#[116]⟩ else if k = 2 ∨ k = 3 then ⟨#[110]⟩ else if k = 4 then ⟨#[110, 98]⟩ else if k = 5 ∨ k = 6 ∨ k = 7 then ⟨#[114]⟩ else if k = 8 ∨ k = 9 then ⟨#[108]⟩ else ⟨#[]⟩

theorem zero_proper {s : Nat} (hs : MF.W64 s) (h : MF.same s 0 = true) : MF.proper s = true := by
  have := RC.zero_of_same hs h
  subst this
  exact RC.proper_zero

end Go.Proofs.YtlpecaldodganaaDoor
/- Contracts of the document's own answers for layer 3: may a record be? -/
namespace Go.Proofs.YtlpecaldodganaaDoor
open Go.RowKit MM

end Go.Proofs.YtlpecaldodganaaDoor
/- Contracts of the document's own answers for layer 3: Check. -/
namespace RC
theorem purse_yes {r : Rc} (h1 : -2305843009213693952 ≤ r.low) (h2 : r.low ≤ r.num) (h3 : r.num ≤ r.high) (h4 : r.high ≤ 2305843009213693952) : purseOk r = true := by
  unfold purseOk; exact decide_eq_true ⟨h1, h2, h3, h4⟩
theorem clean_proper {r : Rc} (hr : r.ok) (hc : clean r = true) (hk : ¬ (5 ≤ r.kind ∧ r.kind ≤ 7)) : MF.proper r.real = true := by
  have h := ((clean_iff r).1 hc).real hk
  rw [zero_of_same hr.real h]; exact proper_zero
end RC
namespace Go.Proofs.YtlpecaldodganaaDoor
open Go.RowKit MM

theorem lim_max {n : Nat} (h : Lim n) : n ≤ maxLen := by unfold Lim at h; unfold maxLen; omega

end Go.Proofs.YtlpecaldodganaaDoor
/- Contracts of layer 3's statements' own: how great a record is. -/
namespace RC
/-- More than is looked at. -/
def big (r : Rc) : Bool := decide (100 < r.list.length) || (decide (1000 < r.text.size) || r.list.any fun x => decide (100 < x.name.size))
theorem any_step {l : List It} {i : Nat} (hi : i < l.length) (h : l.any (fun x => decide (100 < x.name.size)) = (l.drop i).any fun x => decide (100 < x.name.size)) (hx : ¬ 100 < l[i].name.size) :
    l.any (fun x => decide (100 < x.name.size)) = (l.drop (i + 1)).any fun x => decide (100 < x.name.size) := by
  rw [h, List.drop_eq_getElem_cons hi, List.any_cons, decide_eq_false hx, Bool.false_or]
theorem any_stop {l : List It} {i : Nat} (hi : i < l.length) (hx : 100 < l[i].name.size) : l.any (fun x => decide (100 < x.name.size)) = true :=
  List.any_eq_true.2 ⟨l[i], List.getElem_mem hi, decide_eq_true hx⟩
end RC
namespace Go.Proofs.YtlpecaldodganaaDoor
open Go.RowKit MM

/-- What Big answers. -/
def GPost (b : Bool) (w : World) (e : Ending) (w' : World) : Prop := e = .returned (.int .i64 (if b then 1 else 0)) ∧ Below w.heap.size w w'
theorem GPost.yes {b : Bool} {w w' : World} (h : b = true) (hb : Below w.heap.size w w') : GPost b w (.returned (.int .i64 1)) w' := by subst h; exact ⟨rfl, hb⟩
theorem GPost.no {b : Bool} {w w' : World} (h : b = false) (hb : Below w.heap.size w w') : GPost b w (.returned (.int .i64 0)) w' := by subst h; exact ⟨rfl, hb⟩

theorem big_not {r : RC.Rc} (h : RC.big r = false) : r.list.length ≤ 100 ∧ r.text.size ≤ 1000 ∧ ∀ x ∈ r.list, x.name.size ≤ 100 := by
  unfold RC.big at h
  simp only [Bool.or_eq_false_iff, decide_eq_false_iff_not, List.any_eq_false, decide_eq_true_eq] at h
  exact ⟨by omega, by omega, fun x hx => by have := h.2.2 x hx; omega⟩

end Go.Proofs.YtlpecaldodganaaDoor
