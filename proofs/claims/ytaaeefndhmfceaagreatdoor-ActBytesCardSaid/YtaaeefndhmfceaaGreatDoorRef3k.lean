/- Contracts of the document's own answers for layer 3: a record as bytes. -/
import Derived.Test.YtaaeefndhmfceaaGreatDoorRef3j
namespace Go.Proofs.YtaaeefndhmfceaaGreatDoor
open Go.RowKit MM

theorem rparts_any (r : RC.Rc) (A : Option Addr) (c : Nat) (w : World) (hr : r.ok) (hm : RC.May r) (hA : Its w A r.list) :
    Calls Tryz.prog 84 #[recV r A c] w (FreshR (recP r) w) := by
  obtain ⟨k, n, l, h, x, cap, t, s⟩ := r
  have hk := RC.kind9 hm.known
  obtain ⟨C, hC⟩ : ∃ C : Nat, cap = (C : Int) := ⟨cap.toNat, by have h1 : 0 ≤ cap := hm.cap.1; omega⟩
  have hC2 : C ≤ 32 := by have h1 : cap ≤ 32 := hm.cap.2; omega
  have hl : s.length ≤ 32 := hm.len
  replace hk : k = 1 ∨ k = 2 ∨ k = 3 ∨ k = 4 ∨ k = 5 ∨ k = 6 ∨ k = 7 ∨ k = 8 ∨ k = 9 := hk
  rcases hk with rfl | rfl | rfl | rfl | rfl | rfl | rfl | rfl | rfl
  · exact rparts_1 n l h x cap t s A c w
  · exact rparts_2 n l h x cap t s A c w
  · exact rparts_3 n l h x cap t s A c w
  · exact rparts_4 n l h x cap t s A c w
  · exact rparts_5 n l h x cap t s A c w hr.real
  · exact rparts_6 n l h x cap t s A c w hr.real
  · exact rparts_7 n l h x cap t s A c w hr.real
  · subst hC; exact rparts_8 n l h x C t s A c w hC2 hl hA hr.list
  · subst hC; exact rparts_9 n l h x C t s A c w hC2 hl hA hr.list

theorem refB_U (n : Nat) : PK.refB (pU n) = PK.digits n := rfl
theorem refB_I (i : Int) : PK.refB (pI i) = PK.digits (PK.zig i) := rfl
theorem refB_F (x : Nat) : PK.refB (pF x) = PK.placeB (MF.key x) := rfl
theorem refB_S (s : ByteArray) : PK.refB (pS s) = PK.textB s.data.toList := rfl
theorem refsB_its (k : Int) (hk : k = 8 ∨ k = 9) : ∀ l : List RC.It, PK.refsB (itsP k l) = RC.itsB k l
  | [] => rfl
  | x :: l => by
    have e : itsP k (x :: l) = itP k x ++ itsP k l := by simp [itsP]
    rw [e, PK.refsB_append, refsB_its k hk l]
    show _ = RC.itB k x ++ RC.itsB k l
    congr 1
    rcases hk with rfl | rfl
    · show PK.refB (pS x.name) ++ [] = _
      rw [List.append_nil, refB_S]; rfl
    · show PK.refB (pF x.score) ++ (PK.refB (pS x.name) ++ []) = _
      rw [List.append_nil, refB_S, refB_F]
      unfold RC.itB; rw [if_pos rfl]
theorem refsB_rec (r : RC.Rc) (hk : RC.known r.kind = true) : PK.refsB (recP r) = RC.recB r := by
  obtain ⟨k, n, l, h, x, cap, t, s⟩ := r
  have hk := RC.kind9 hk
  replace hk : k = 1 ∨ k = 2 ∨ k = 3 ∨ k = 4 ∨ k = 5 ∨ k = 6 ∨ k = 7 ∨ k = 8 ∨ k = 9 := hk
  have one : ∀ q, PK.refsB [q] = PK.refB q := fun q => by show PK.refB q ++ [] = _; simp
  rcases hk with rfl | rfl | rfl | rfl | rfl | rfl | rfl | rfl | rfl
  · show PK.refB (pU 1) ++ PK.refsB [pS t] = PK.digits 1 ++ PK.textB t.data.toList; rw [one]; rfl
  · show PK.refB (pU 2) ++ PK.refsB [pI n] = PK.digits 2 ++ PK.digits (PK.zig n); rw [one]; rfl
  · show PK.refB (pU 3) ++ PK.refsB [pI n] = PK.digits 3 ++ PK.digits (PK.zig n); rw [one]; rfl
  · show PK.refB (pU 4) ++ (PK.refB (pI l) ++ (PK.refB (pI h) ++ PK.refsB [pI n])) = PK.digits 4 ++ (PK.digits (PK.zig l) ++ (PK.digits (PK.zig h) ++ PK.digits (PK.zig n))); rw [one]; rfl
  · show PK.refB (pU 5) ++ PK.refsB [pF x] = PK.digits 5 ++ PK.placeB (MF.key x); rw [one]; rfl
  · show PK.refB (pU 6) ++ PK.refsB [pF x] = PK.digits 6 ++ PK.placeB (MF.key x); rw [one]; rfl
  · show PK.refB (pU 7) ++ PK.refsB [pF x] = PK.digits 7 ++ PK.placeB (MF.key x); rw [one]; rfl
  · show PK.refB (pU 8) ++ (PK.refB (pU cap.toNat) ++ (PK.refB (pU s.length) ++ PK.refsB (itsP 8 s))) = PK.digits 8 ++ (PK.digits cap.toNat ++ (PK.digits s.length ++ RC.itsB 8 s)); rw [refsB_its 8 (.inl rfl)]; rfl
  · show PK.refB (pU 9) ++ (PK.refB (pU cap.toNat) ++ (PK.refB (pU s.length) ++ PK.refsB (itsP 9 s))) = PK.digits 9 ++ (PK.digits cap.toNat ++ (PK.digits s.length ++ RC.itsB 9 s)); rw [refsB_its 9 (.inr rfl)]; rfl
theorem pU_ok (n : Nat) (h : n ≤ 1000) : (pU n).ok := ⟨by show (117 : Nat) < 256; omega, by show n < _; omega, rfl, w0⟩
theorem pI_ok (i : Int) (h : RC.I64 i) : (pI i).ok := ⟨by show (105 : Nat) < 256; omega, w0, h, w0⟩
theorem pF_ok (x : Nat) (h : MF.W64 x) : (pF x).ok := ⟨by show (102 : Nat) < 256; omega, w0, rfl, MF.w_key h⟩
theorem pS_ok (s : ByteArray) : (pS s).ok := ⟨by show (115 : Nat) < 256; omega, w0, rfl, w0⟩
theorem itsP_ok (k : Int) (l : List RC.It) (hl : ∀ x ∈ l, MF.W64 x.score) : ∀ q ∈ itsP k l, q.ok := by
  intro q hq
  simp only [itsP, List.mem_flatMap] at hq
  obtain ⟨x, hx, hq⟩ := hq
  unfold itP at hq
  split at hq
  · simp at hq
    rcases hq with rfl | rfl
    · exact pF_ok _ (hl x hx)
    · exact pS_ok _
  · simp at hq
    subst hq
    exact pS_ok _
theorem recP_ok (r : RC.Rc) (hr : r.ok) (hm : RC.May r) : ∀ q ∈ recP r, q.ok := by
  have hc := hm.cap
  have hl := hm.len
  have hk : 1 ≤ r.kind ∧ r.kind ≤ 9 := by have := RC.kind9 hm.known; omega
  intro q hq
  rcases List.mem_cons.1 hq with rfl | hq
  · exact pU_ok _ (by omega)
  unfold fieldP at hq
  split at hq
  · simp at hq; subst hq; exact pS_ok _
  · split at hq
    · simp at hq; subst hq; exact pI_ok _ hr.num
    · split at hq
      · simp at hq
        rcases hq with rfl | rfl | rfl
        · exact pI_ok _ hr.low
        · exact pI_ok _ hr.high
        · exact pI_ok _ hr.num
      · split at hq
        · simp at hq; subst hq; exact pF_ok _ hr.real
        · rcases List.mem_append.1 hq with hq | hq
          · simp at hq
            rcases hq with rfl | rfl
            · exact pU_ok _ (by omega)
            · exact pU_ok _ (by omega)
          · exact itsP_ok _ _ hr.list q hq
theorem recP_len (r : RC.Rc) (hm : RC.May r) : (recP r).length ≤ 100 := by
  have hl := hm.len
  have h2 := itsP_len r.kind r.list
  unfold recP fieldP
  rw [List.length_cons]
  split
  · simp
  · split
    · simp
    · split
      · simp
      · split
        · simp
        · rw [List.length_append]; simp only [List.length_cons, List.length_nil]; omega
theorem rpCells_get : ∀ (ps : List PK.Rp) (i : Nat) (q : PK.Rp) (j : Nat) (v : Value), ps[i]? = some q → q.cells[j]? = some v → (rpCells ps)[i * 6 + j]? = some v
  | [], i, q, j, v, h, _ => by simp at h
  | p :: l, i, q, j, v, h, hj => by
    have e : rpCells (p :: l) = p.cells.toList ++ rpCells l := by simp [rpCells]
    have hl : p.cells.toList.length = 6 := by simp [PK.Rp.cells]
    rw [e]
    cases i with
    | zero =>
      simp only [List.getElem?_cons_zero, Option.some.injEq] at h
      subst h
      have hj6 : j < 6 := by
        have := (Array.getElem?_eq_some_iff.1 hj).1
        simpa [PK.Rp.cells] using this
      rw [List.getElem?_append_left (by omega)]
      simpa using hj
    | succ i =>
      rw [List.getElem?_append_right (by omega), hl]
      rw [show (i + 1) * 6 + j - 6 = i * 6 + j by omega]
      exact rpCells_get l i q j v (by simpa using h) hj
theorem Rps.own {w : World} {A : Option Addr} {c : Nat} {ps : List PK.Rp} {E : TypeId} (h : w.ownsRow 0 E 6 (.slice A ps.length c) ps.length (rpCells ps)) : Rps w A ps := by
  rcases h.2 with ⟨hv, h0⟩ | ⟨g, cap, cur, hv, _⟩
  · exact .inl (List.eq_nil_of_length_eq_zero h0)
  · injection hv with hA _ hc
    subst hA hc
    refine .inr ⟨g, 0, rfl, own_inside h _ rfl, fun i q hq j v hj => ?_⟩
    have := h.cells (g := g) rfl (i * 6 + j) v (rpCells_get ps i q j v hq hj)
    rw [MM.add_plain] at this
    rw [← Nat.add_assoc] at this
    exact this

end Go.Proofs.YtaaeefndhmfceaaGreatDoor
