/- Plain mathematics of layer 3: the record that bytes begin with. No program. -/
import Derived.Test.YtaaeefndhmfceaaDoorRc
namespace Go.Proofs.YtaaeefndhmfceaaDoor
open MM

section
variable {α β γ : Type}
def shiftR (n : Nat) : Res α → Res α
  | .ok y m => .ok y (n + m)
  | .bad e m => .bad e (n + m)
/-- One behind the other. -/
def andR (r : Res α) (l : List UInt8) (f : α → List UInt8 → Res β) : Res β :=
  match r with
  | .bad e n => .bad e n
  | .ok x n => shiftR n (f x (l.drop n))
theorem andR_ok {r : Res α} {l : List UInt8} {f : α → List UInt8 → Res β} {x : α} {n : Nat} (h : r = .ok x n) : andR r l f = shiftR n (f x (l.drop n)) := by subst h; rfl
theorem andR_bad {r : Res α} {l : List UInt8} {f : α → List UInt8 → Res β} {e n : Nat} (h : r = .bad e n) : andR r l f = .bad e n := by subst h; rfl
theorem shiftR_zero (r : Res α) : shiftR 0 r = r := by cases r <;> simp [shiftR]
theorem shiftR_shiftR (n m : Nat) (r : Res α) : shiftR n (shiftR m r) = shiftR (n + m) r := by cases r <;> simp [shiftR, Nat.add_assoc]
theorem andR_front {r : List UInt8 → Res α} {B rest : List UInt8} {f : α → List UInt8 → Res β} {x : α} (h : r (B ++ rest) = .ok x B.length) : andR (r (B ++ rest)) (B ++ rest) f = shiftR B.length (f x rest) := by
  rw [andR_ok h, List.drop_left]
theorem andR_inv {r : Res α} {l : List UInt8} {f : α → List UInt8 → Res β} {y : β} {n : Nat} (h : andR r l f = .ok y n) : ∃ x a b, r = .ok x a ∧ f x (l.drop a) = .ok y b ∧ n = a + b := by
  cases r with
  | bad e k => cases h
  | ok x a =>
    have h : shiftR a (f x (l.drop a)) = .ok y n := h
    cases hf : f x (l.drop a) with
    | bad e k => rw [hf] at h; cases h
    | ok z b =>
      rw [hf] at h
      injection h with h1 h2
      subst h1
      exact ⟨x, a, b, rfl, hf, h2.symm⟩
theorem map_inv {r : Res α} {f : α → β} {y : β} {n : Nat} (h : Res.map f r = .ok y n) : ∃ x, r = .ok x n ∧ y = f x := by
  cases r with
  | bad e k => cases h
  | ok x a => injection h with h1 h2; subst h1 h2; exact ⟨x, rfl, rfl⟩
end

theorem uptoR_digits (m : Int) (n : Nat) (rest : List UInt8) (h : (n : Int) ≤ m) (hn : n < 18446744073709551616) : uptoR m (PK.digits n ++ rest) = .ok n (PK.digits n).length := by
  unfold uptoR; rw [numR_digits n rest hn]; simp only; rw [tooB_no h]; rfl
theorem uptoR_one {m : Int} {l : List UInt8} {n k : Nat} (h : uptoR m l = .ok n k) : l.take k = PK.digits n ∧ k ≤ l.length ∧ n ≤ m.toNat := by
  unfold uptoR at h
  cases hr : numR l with
  | bad e j => rw [hr] at h; cases h
  | ok x j =>
    rw [hr] at h
    simp only at h
    split at h
    · cases h
    · rename_i ht
      injection h with h1 h2
      subst h1 h2
      obtain ⟨h1, h2, _⟩ := numR_one hr
      refine ⟨h1, h2, ?_⟩
      unfold tooB at ht
      simp at ht
      omega

/-- An item; so many items; a record's fields; a record. -/
def itR (k : Nat) (l : List UInt8) : Res RC.It :=
  if k = 9 then andR (floR l) l fun s l1 => Res.map (fun t => ⟨s, ⟨t.toArray⟩⟩) (txtR 16 l1)
  else Res.map (fun t => ⟨0, ⟨t.toArray⟩⟩) (txtR 16 l)
def itsR (k : Nat) : Nat → List UInt8 → Res (List RC.It)
  | 0, _ => .ok [] 0
  | n + 1, l => andR (itR k l) l fun x l1 => Res.map (fun xs => x :: xs) (itsR k n l1)
def fieldR (k : Nat) (l : List UInt8) : Res RC.Rc :=
  if k = 1 then Res.map (fun t => { RC.zero with kind := 1, text := ⟨t.toArray⟩ }) (txtR 64 l)
  else if k = 2 ∨ k = 3 then Res.map (fun n => { RC.zero with kind := k, num := PK.zag n }) (numR l)
  else if k = 4 then andR (numR l) l fun a l1 => andR (numR l1) l1 fun b l2 => Res.map (fun c => { RC.zero with kind := 4, low := PK.zag a, high := PK.zag b, num := PK.zag c }) (numR l2)
  else if k = 5 ∨ k = 6 ∨ k = 7 then Res.map (fun x => { RC.zero with kind := k, real := x }) (floR l)
  else andR (uptoR 32 l) l fun c l1 => andR (uptoR 32 l1) l1 fun n l2 => Res.map (fun xs => { RC.zero with kind := k, cap := (c : Int), list := xs }) (itsR k n l2)
def endC (r : RC.Rc) : Res RC.Rc := if RC.chk r = 0 then .ok r 0 else .bad (RC.chk r) 0
def bodyR (k : Nat) (l : List UInt8) : Res RC.Rc := if k = 0 then .bad 5 0 else andR (fieldR k l) l fun r _ => endC r
def recR (l : List UInt8) : Res RC.Rc := andR (uptoR 9 l) l fun k l1 => bodyR k l1

theorem itR9 (L : List UInt8) : itR 9 L = andR (floR L) L fun s l1 => Res.map (fun t => ⟨s, ⟨t.toArray⟩⟩) (txtR 16 l1) := rfl
theorem fieldR4 (L : List UInt8) : fieldR 4 L = andR (numR L) L fun a l1 => andR (numR l1) l1 fun b l2 => Res.map (fun c => { RC.zero with kind := 4, low := PK.zag a, high := PK.zag b, num := PK.zag c }) (numR l2) := rfl
def listK (k : Nat) (L : List UInt8) : Res RC.Rc := andR (uptoR 32 L) L fun c l1 => andR (uptoR 32 l1) l1 fun n l2 => Res.map (fun xs => { RC.zero with kind := k, cap := (c : Int), list := xs }) (itsR k n l2)
theorem fieldR89 {k : Nat} (hk : k = 8 ∨ k = 9) (L : List UInt8) : fieldR k L = listK k L := by rcases hk with rfl | rfl <;> rfl
theorem toL (t : List UInt8) : (⟨t.toArray⟩ : ByteArray).data.toList = t := by simp
theorem toA (t : ByteArray) : (⟨t.data.toList.toArray⟩ : ByteArray) = t := by cases t; simp

/-! ### what is written is read -/
theorem itR_itB (k : Nat) (x : RC.It) (rest : List UInt8) (hk : k = 8 ∨ k = 9) (hw : MF.W64 x.score) (hn : x.name.size ≤ 16) (hp : MF.proper x.score = true) (h8 : (k : Int) = 8 → x.score = 0) :
    itR k (RC.itB (k : Int) x ++ rest) = .ok x (RC.itB (k : Int) x).length := by
  obtain ⟨s, t⟩ := x
  have ht : ∀ rest, txtR 16 (PK.textB t.data.toList ++ rest) = .ok t.data.toList (PK.textB t.data.toList).length := fun rest => txtR_text _ rest 16 (by rw [sz_list]; have h : t.size ≤ 16 := hn; omega) (by rw [sz_list]; have h : t.size ≤ 16 := hn; omega)
  rcases hk with rfl | rfl
  · have h0 : s = 0 := h8 rfl
    subst h0
    show Res.map _ (txtR 16 ((([] : List UInt8) ++ PK.textB t.data.toList) ++ rest)) = .ok _ (([] : List UInt8) ++ PK.textB t.data.toList).length
    rw [List.nil_append, ht]
    simp only [Res.map, toA]
  · have hB : RC.itB ((9 : Nat) : Int) ⟨s, t⟩ = PK.placeB (MF.key s) ++ PK.textB t.data.toList := by unfold RC.itB; rw [if_pos (by rfl)]
    have hR : ∀ L, itR 9 L = andR (floR L) L fun s l1 => Res.map (fun t => ⟨s, ⟨t.toArray⟩⟩) (txtR 16 l1) := fun _ => rfl
    rw [hB, hR]
    have hf := floR_place s (PK.textB t.data.toList ++ rest) hw
    rw [RC.proper_eq hp] at hf
    rw [List.append_assoc, andR_ok hf, show (8 : Nat) = (PK.placeB (MF.key s)).length by rw [PK.placeB_length], List.drop_left, ht]
    simp only [Res.map, toA, shiftR, List.length_append]
theorem itsR_itsB (k : Nat) (hk : k = 8 ∨ k = 9) : ∀ (l : List RC.It) (rest : List UInt8), (∀ x ∈ l, MF.W64 x.score ∧ x.name.size ≤ 16 ∧ MF.proper x.score = true ∧ ((k : Int) = 8 → x.score = 0)) →
    itsR k l.length (RC.itsB (k : Int) l ++ rest) = .ok l (RC.itsB (k : Int) l).length
  | [], rest, _ => rfl
  | x :: l, rest, h => by
    have h1 := h x (List.mem_cons_self ..)
    have ih := itsR_itsB k hk l rest (fun y hy => h y (List.mem_cons_of_mem _ hy))
    show andR (itR k (RC.itB (k : Int) x ++ RC.itsB (k : Int) l ++ rest)) (RC.itB (k : Int) x ++ RC.itsB (k : Int) l ++ rest) _ = .ok (x :: l) (RC.itB (k : Int) x ++ RC.itsB (k : Int) l).length
    rw [List.append_assoc, andR_front (itR_itB k x _ hk h1.1 h1.2.1 h1.2.2.1 h1.2.2.2), ih, List.length_append]
    rfl
theorem numR_zig (i : Int) (rest : List UInt8) (h : RC.I64 i) : numR (PK.digits (PK.zig i) ++ rest) = .ok (PK.zig i) (PK.digits (PK.zig i)).length ∧ PK.zag (PK.zig i) = i := by
  have hz := PK.zag_zig i (wf_i64 h)
  exact ⟨numR_digits _ rest hz.2, hz.1⟩
theorem fieldR_list (k : Nat) (hk : k = 8 ∨ k = 9) (n l h : Int) (x : Nat) (cap : Int) (t : ByteArray) (s : List RC.It) (rest : List UInt8) (hr : RC.Rc.ok ⟨(k : Int), n, l, h, x, cap, t, s⟩) (hm : RC.May ⟨(k : Int), n, l, h, x, cap, t, s⟩) :
    fieldR k (RC.fieldB ⟨(k : Int), n, l, h, x, cap, t, s⟩ ++ rest) = .ok ⟨(k : Int), n, l, h, x, cap, t, s⟩ (RC.fieldB ⟨(k : Int), n, l, h, x, cap, t, s⟩).length := by
  have ho := hm.only
  have e1 : n = 0 := ho.num (by rcases hk with rfl | rfl <;> simp)
  have e2 : l = 0 := ho.low (by rcases hk with rfl | rfl <;> simp)
  have e3 : h = 0 := ho.high (by rcases hk with rfl | rfl <;> simp)
  have e4 : x = 0 := hm.real0 (by rcases hk with rfl | rfl <;> simp)
  have e6 : t = ⟨#[]⟩ := ho.text (by rcases hk with rfl | rfl <;> simp)
  have hc : 0 ≤ cap ∧ cap ≤ 32 := hm.cap
  have hl : s.length ≤ 32 := hm.len
  have hi : ∀ x ∈ s, MF.W64 x.score ∧ x.name.size ≤ 16 ∧ MF.proper x.score = true ∧ ((k : Int) = 8 → x.score = 0) := fun y hy => by
    have a := hm.items y hy
    exact ⟨hr.list y hy, a.1, a.2.1, a.2.2⟩
  subst e1 e2 e3 e4 e6
  have hB : RC.fieldB ⟨(k : Int), 0, 0, 0, 0, cap, ⟨#[]⟩, s⟩ = PK.digits cap.toNat ++ (PK.digits s.length ++ RC.itsB (k : Int) s) := by rcases hk with rfl | rfl <;> rfl
  have hR : ∀ L, fieldR k L = andR (uptoR 32 L) L fun c l1 => andR (uptoR 32 l1) l1 fun n l2 => Res.map (fun xs => { RC.zero with kind := k, cap := (c : Int), list := xs }) (itsR k n l2) := by intro L; rcases hk with rfl | rfl <;> rfl
  rw [hB, hR, List.append_assoc, List.append_assoc, andR_front (uptoR_digits 32 cap.toNat _ (by omega) (by omega)), andR_front (uptoR_digits 32 s.length _ (by omega) (by omega)), itsR_itsB k hk s rest hi, List.length_append, List.length_append]
  simp only [Res.map, shiftR, show ((cap.toNat : Nat) : Int) = cap by omega]
  rfl
theorem fieldR_fieldB (r : RC.Rc) (rest : List UInt8) (hr : r.ok) (hm : RC.May r) : fieldR r.kind.toNat (RC.fieldB r ++ rest) = .ok r (RC.fieldB r).length := by
  have ho := hm.only
  obtain ⟨k, n, l, h, x, cap, t, s⟩ := r
  have w := hm.known
  rcases RC.kind9 w with e | e | e | e | e | e | e | e | e <;> (replace e : k = _ := e; subst e)
  · have e1 : n = 0 := ho.num (by simp)
    have e2 : l = 0 := ho.low (by simp)
    have e3 : h = 0 := ho.high (by simp)
    have e4 : x = 0 := hm.real0 (by simp)
    have e5 : cap = 0 := ho.cap (by simp)
    have e7 : s = [] := ho.list (by simp)
    have ht : t.size ≤ 64 := hm.text
    subst e1 e2 e3 e4 e5 e7
    show Res.map _ (txtR 64 (PK.textB t.data.toList ++ rest)) = .ok _ (PK.textB t.data.toList).length
    rw [txtR_text _ rest 64 (by rw [sz_list]; omega) (by rw [sz_list]; omega)]
    simp only [Res.map, toA]; rfl
  iterate 2
    have e2 : l = 0 := ho.low (by simp)
    have e3 : h = 0 := ho.high (by simp)
    have e4 : x = 0 := hm.real0 (by simp)
    have e5 : cap = 0 := ho.cap (by simp)
    have e6 : t = ⟨#[]⟩ := ho.text (by simp)
    have e7 : s = [] := ho.list (by simp)
    subst e2 e3 e4 e5 e6 e7
    obtain ⟨h1, h2⟩ := numR_zig n rest hr.num
    show Res.map _ (numR (PK.digits (PK.zig n) ++ rest)) = .ok _ (PK.digits (PK.zig n)).length
    rw [h1]
    simp only [Res.map, h2]; rfl
  · have e4 : x = 0 := hm.real0 (by simp)
    have e5 : cap = 0 := ho.cap (by simp)
    have e6 : t = ⟨#[]⟩ := ho.text (by simp)
    have e7 : s = [] := ho.list (by simp)
    subst e4 e5 e6 e7
    obtain ⟨a1, a2⟩ := numR_zig l (PK.digits (PK.zig h) ++ (PK.digits (PK.zig n) ++ rest)) hr.low
    obtain ⟨b1, b2⟩ := numR_zig h (PK.digits (PK.zig n) ++ rest) hr.high
    obtain ⟨c1, c2⟩ := numR_zig n rest hr.num
    have hB : RC.fieldB ⟨4, n, l, h, 0, 0, ⟨#[]⟩, []⟩ = PK.digits (PK.zig l) ++ (PK.digits (PK.zig h) ++ PK.digits (PK.zig n)) := rfl
    have hR : ∀ L, fieldR 4 L = andR (numR L) L fun a l1 => andR (numR l1) l1 fun b l2 => Res.map (fun c => { RC.zero with kind := 4, low := PK.zag a, high := PK.zag b, num := PK.zag c }) (numR l2) := fun _ => rfl
    rw [hB]
    show fieldR 4 _ = _
    rw [hR]
    rw [List.append_assoc, List.append_assoc, andR_front a1, andR_front b1, c1]
    simp only [Res.map, a2, b2, c2, shiftR, List.length_append]; rfl
  iterate 3
    have e1 : n = 0 := ho.num (by simp)
    have e2 : l = 0 := ho.low (by simp)
    have e3 : h = 0 := ho.high (by simp)
    have e5 : cap = 0 := ho.cap (by simp)
    have e6 : t = ⟨#[]⟩ := ho.text (by simp)
    have e7 : s = [] := ho.list (by simp)
    subst e1 e2 e3 e5 e6 e7
    have hf := floR_place x rest hr.real
    rw [RC.proper_eq hm.real] at hf
    show Res.map _ (floR (PK.placeB (MF.key x) ++ rest)) = .ok _ (PK.placeB (MF.key x)).length
    rw [hf, PK.placeB_length]; rfl
  · exact fieldR_list 8 (.inl rfl) n l h x cap t s rest hr hm
  · exact fieldR_list 9 (.inr rfl) n l h x cap t s rest hr hm

theorem recR_recB (r : RC.Rc) (rest : List UInt8) (hr : r.ok) (h : RC.chk r = 0) : recR (RC.recB r ++ rest) = .ok r (RC.recB r).length := by
  have hm := RC.chk_may hr h
  have hk : 0 < r.kind ∧ r.kind < 10 := by have := hm.known; unfold RC.known at this; simpa using this
  unfold recR RC.recB
  rw [List.append_assoc, andR_front (uptoR_digits 9 r.kind.toNat _ (by omega) (by omega))]
  unfold bodyR
  rw [if_neg (by omega), andR_front (fieldR_fieldB r rest hr hm)]
  unfold endC
  rw [if_pos h]
  simp only [shiftR, List.length_append, Nat.add_zero]

/-! ### what is read is written -/
theorem take_two {l A B : List UInt8} {a b : Nat} (h1 : l.take a = A) (_ha : a ≤ l.length) (h2 : (l.drop a).take b = B) : l.take (a + b) = A ++ B := by
  rw [List.take_add, h1, h2]
theorem drop_len {l : List UInt8} {a b : Nat} (ha : a ≤ l.length) (h : b ≤ (l.drop a).length) : a + b ≤ l.length := by
  rw [List.length_drop] at h; omega
theorem zag_ok {n : Nat} (h : n < 18446744073709551616) : RC.I64 (PK.zag n) ∧ PK.zig (PK.zag n) = n := by
  have := PK.zig_zag n h
  exact ⟨i64_wf this.2, this.1⟩
theorem itR_one {k : Nat} {l : List UInt8} {x : RC.It} {n : Nat} (hk : k = 8 ∨ k = 9) (h : itR k l = .ok x n) : l.take n = RC.itB (k : Int) x ∧ n ≤ l.length ∧ MF.W64 x.score := by
  rcases hk with rfl | rfl
  · obtain ⟨t, ht, rfl⟩ := map_inv (show Res.map _ (txtR 16 l) = _ from h)
    obtain ⟨h1, h2⟩ := txtR_one ht
    refine ⟨?_, h2, by show 0 < _; decide⟩
    rw [h1]
    show _ = ([] : List UInt8) ++ PK.textB (⟨t.toArray⟩ : ByteArray).data.toList
    rw [toL, List.nil_append]
  · obtain ⟨s, a, b, hs, hf, rfl⟩ := andR_inv ((itR9 l).symm.trans h)
    obtain ⟨t, ht, rfl⟩ := map_inv hf
    obtain ⟨rfl, h2, h3, h4, _⟩ := floR_one hs
    obtain ⟨h5, h6⟩ := txtR_one ht
    refine ⟨?_, drop_len h2 h6, h4⟩
    rw [take_two h3 h2 h5]
    have hB : RC.itB ((9 : Nat) : Int) ⟨s, ⟨t.toArray⟩⟩ = PK.placeB (MF.key s) ++ PK.textB (⟨t.toArray⟩ : ByteArray).data.toList := by unfold RC.itB; rw [if_pos (by rfl)]
    rw [hB, toL]
theorem itsR_one {k : Nat} (hk : k = 8 ∨ k = 9) : ∀ {m : Nat} {l : List UInt8} {xs : List RC.It} {n : Nat}, itsR k m l = .ok xs n → l.take n = RC.itsB (k : Int) xs ∧ n ≤ l.length ∧ xs.length = m ∧ ∀ x ∈ xs, MF.W64 x.score
  | 0, l, xs, n, h => by
    injection h with h1 h2
    subst h1 h2
    exact ⟨rfl, Nat.zero_le _, rfl, fun x hx => by cases hx⟩
  | m + 1, l, xs, n, h => by
    obtain ⟨x, a, b, hx, hf, rfl⟩ := andR_inv (show andR (itR k l) l _ = _ from h)
    obtain ⟨ys, hy, rfl⟩ := map_inv hf
    obtain ⟨h1, h2, h3⟩ := itR_one hk hx
    obtain ⟨h4, h5, h6, h7⟩ := itsR_one hk hy
    refine ⟨take_two h1 h2 h4, drop_len h2 h5, by simp [h6], fun y hy => ?_⟩
    rcases List.mem_cons.1 hy with rfl | hy
    · exact h3
    · exact h7 y hy
theorem w0 : MF.W64 0 := by unfold MF.W64; decide
theorem fieldR_one {k : Nat} {l : List UInt8} {r : RC.Rc} {n : Nat} (hk : 0 < k ∧ k ≤ 9) (h : fieldR k l = .ok r n) : l.take n = RC.fieldB r ∧ n ≤ l.length ∧ r.ok ∧ r.kind = (k : Int) := by
  have hc : k = 1 ∨ k = 2 ∨ k = 3 ∨ k = 4 ∨ k = 5 ∨ k = 6 ∨ k = 7 ∨ k = 8 ∨ k = 9 := by omega
  have nil : ∀ x ∈ ([] : List RC.It), MF.W64 x.score := fun x hx => by cases hx
  rcases hc with rfl | rfl | rfl | rfl | rfl | rfl | rfl | rfl | rfl
  · obtain ⟨t, ht, rfl⟩ := map_inv (show Res.map _ (txtR 64 l) = _ from h)
    obtain ⟨h1, h2⟩ := txtR_one ht
    refine ⟨?_, h2, ⟨rfl, rfl, rfl, rfl, w0, rfl, nil⟩, rfl⟩
    show _ = PK.textB (⟨t.toArray⟩ : ByteArray).data.toList
    rw [h1, toL]
  iterate 2
    obtain ⟨m, hm, rfl⟩ := map_inv (show Res.map _ (numR l) = _ from h)
    obtain ⟨h1, h2, h3⟩ := numR_one hm
    have hz := zag_ok h3
    refine ⟨?_, h2, ⟨rfl, hz.1, rfl, rfl, w0, rfl, nil⟩, rfl⟩
    show _ = PK.digits (PK.zig (PK.zag m))
    rw [h1, hz.2]
  · obtain ⟨a, i, j, ha, hf, rfl⟩ := andR_inv ((fieldR4 l).symm.trans h)
    obtain ⟨b, i2, j2, hb, hf2, rfl⟩ := andR_inv hf
    obtain ⟨c, hc, rfl⟩ := map_inv hf2
    obtain ⟨a1, a2, a3⟩ := numR_one ha
    obtain ⟨b1, b2, b3⟩ := numR_one hb
    obtain ⟨c1, c2, c3⟩ := numR_one hc
    have za := zag_ok a3
    have zb := zag_ok b3
    have zc := zag_ok c3
    refine ⟨?_, drop_len a2 (drop_len b2 c2), ⟨rfl, zc.1, za.1, zb.1, w0, rfl, nil⟩, rfl⟩
    rw [take_two a1 a2 (take_two b1 b2 c1)]
    have hB : RC.fieldB { RC.zero with kind := 4, low := PK.zag a, high := PK.zag b, num := PK.zag c } = PK.digits (PK.zig (PK.zag a)) ++ (PK.digits (PK.zig (PK.zag b)) ++ PK.digits (PK.zig (PK.zag c))) := rfl
    rw [hB, za.2, zb.2, zc.2]
  iterate 3
    obtain ⟨x, hx, rfl⟩ := map_inv (show Res.map _ (floR l) = _ from h)
    obtain ⟨rfl, h2, h3, h4, _⟩ := floR_one hx
    exact ⟨h3, h2, ⟨rfl, rfl, rfl, rfl, h4, rfl, nil⟩, rfl⟩
  iterate 2
    obtain ⟨c, i, j, hc, hf, rfl⟩ := andR_inv (((fieldR89 (by first | exact .inl rfl | exact .inr rfl) l).symm.trans h : listK _ l = _))
    obtain ⟨m, i2, j2, hm, hf2, rfl⟩ := andR_inv hf
    obtain ⟨xs, hxs, rfl⟩ := map_inv hf2
    obtain ⟨c1, c2, c3⟩ := uptoR_one hc
    obtain ⟨m1, m2, _⟩ := uptoR_one hm
    obtain ⟨x1, x2, x3, x4⟩ := itsR_one (by first | exact .inl rfl | exact .inr rfl) hxs
    refine ⟨?_, drop_len c2 (drop_len m2 x2), ⟨rfl, rfl, rfl, rfl, w0, i64_wf (by simp only; have : c ≤ 32 := c3; omega), x4⟩, rfl⟩
    rw [take_two c1 c2 (take_two m1 m2 x1), ← x3]
    rfl
theorem recR_one {l : List UInt8} {r : RC.Rc} {n : Nat} (h : recR l = .ok r n) : l.take n = RC.recB r ∧ n ≤ l.length ∧ r.ok ∧ RC.chk r = 0 := by
  obtain ⟨k, a, b, hk, hf, rfl⟩ := andR_inv (show andR (uptoR 9 l) l _ = _ from h)
  obtain ⟨h1, h2, h3⟩ := uptoR_one hk
  unfold bodyR at hf
  split at hf
  · cases hf
  · rename_i hk0
    obtain ⟨x, i, j, hx, hf2, rfl⟩ := andR_inv hf
    unfold endC at hf2
    split at hf2
    · rename_i hc
      injection hf2 with e1 e2
      subst e1 e2
      have h3' : k ≤ 9 := h3
      obtain ⟨h4, h5, h6, h7⟩ := fieldR_one (by omega) hx
      refine ⟨?_, drop_len h2 h5, h6, hc⟩
      rw [Nat.add_zero, take_two h1 h2 h4]
      unfold RC.recB
      rw [h7]
      rfl
    · cases hf2

end Go.Proofs.YtaaeefndhmfceaaDoor
