/- Layer 7, plain: the document's Merge comes to the program's. -/
import Derived.Test.YtbkcmnmbcldjoaaGreatDoorSh5P7b
namespace Go.Proofs.YtbkcmnmbcldjoaaGreatDoor
open Go.RowKit MM
set_option linter.unusedVariables false
set_option linter.unusedSimpArgs false
def SH.sK : ByteArray := ⟨#[107]⟩
/-- The act by which the document gives a list an item. -/
def SH.regK (kind : Int) (x : RC.It) : AC.Ac := if kind = 9 then ⟨21, SH.sK, 0, x.score, x.name, RC.zero, false⟩ else ⟨18, SH.sK, 0, 0, x.name, RC.zero, false⟩
def SH.inn (kind : Int) (q : RC.Rc) (l : List RC.It) : RC.Rc := l.foldl (fun q x => (RU.apply q true (SH.regK kind x)).1) q
/-- What a slice's number does to its record's, by the document. -/
def SH.rput (kind : Int) (q p : RC.Rc) : RC.Rc :=
  if kind = 2 ∨ kind = 3 ∨ kind = 4 then { q with num := RU.w64 (q.num + p.num) }
  else if kind = 5 then { q with real := MF.rmx q.real p.real }
  else if kind = 6 then { q with real := MF.rmn q.real p.real }
  else q
def SH.rstep (kind : Int) (q p : RC.Rc) : RC.Rc := if 8 ≤ kind then SH.inn kind (SH.rput kind q p) p.list else SH.rput kind q p
def SH.rmerge (r : RC.Rc) (parts : List RC.Rc) : RC.Rc := parts.foldl (SH.rstep r.kind) r
theorem regK_ok (kind : Int) {x : RC.It} (hx : MF.W64 x.score) : (SH.regK kind x).ok := by
  unfold SH.regK
  split
  · exact ⟨rfl, rfl, hx, RC.zero_ok⟩
  · exact ⟨rfl, rfl, show MF.W64 0 by unfold MF.W64; decide, RC.zero_ok⟩
theorem regK_8 (x : RC.It) : SH.regK 8 x = ⟨18, SH.sK, 0, 0, x.name, RC.zero, false⟩ := rfl
theorem regK_9 (x : RC.It) : SH.regK 9 x = ⟨21, SH.sK, 0, x.score, x.name, RC.zero, false⟩ := rfl
theorem regK_no {kind : Int} (h : kind ≠ 9) (x : RC.It) : SH.regK kind x = ⟨18, SH.sK, 0, 0, x.name, RC.zero, false⟩ := if_neg h
/-- An act's key doesn't matter but for its length. -/
theorem apply_key (q : RC.Rc) (t : Bool) (k n : Int) (x : Nat) (s : ByteArray) (m : RC.Rc) (must : Bool) : RU.apply q t ⟨k, SH.sK, n, x, s, m, must⟩ = RU.apply q t ⟨k, SH.sA, n, x, s, m, must⟩ := by
  have hc : AC.chk ⟨k, SH.sK, n, x, s, m, must⟩ = AC.chk ⟨k, SH.sA, n, x, s, m, must⟩ := rfl
  have hr : ∀ q t, refE q t ⟨k, SH.sK, n, x, s, m, must⟩ = refE q t ⟨k, SH.sA, n, x, s, m, must⟩ := fun q t => by unfold refE; rw [hc]
  unfold RU.apply
  rw [hr]
  rfl
theorem apply_K {kind : Int} (hk : kind = 8 ∨ kind = 9) (q : RC.Rc) (x : RC.It) : RU.apply q true (SH.regK kind x) = RU.apply q true (SH.regain kind x) := by
  rcases hk with rfl | rfl
  · exact apply_key q true 18 0 0 x.name RC.zero false
  · exact apply_key q true 21 0 x.score x.name RC.zero false
theorem doR_18 (q : RC.Rc) (y : ByteArray) (n : Int) (x : Nat) (s : ByteArray) (m : RC.Rc) (must : Bool) : RU.doR q ⟨18, y, n, x, s, m, must⟩ = if RU.at_ q.list ⟨0, s⟩ = true ∨ (q.list.length : Int) < q.cap then (RU.joined q ⟨18, y, n, x, s, m, must⟩, RU.err 0) else (q, RU.err 8) := by
  unfold RU.doR
  rw [if_neg (show ¬ (18 : Int) = 1 by decide), if_neg (show ¬ (18 : Int) = 2 by decide), if_neg (show ¬ (18 : Int) = 3 by decide), if_neg (show ¬ (18 : Int) = 4 by decide), if_neg (show ¬ (18 : Int) = 5 by decide), if_neg (show ¬ (18 : Int) = 6 by decide), if_neg (show ¬ (18 : Int) = 7 by decide), if_neg (show ¬ (18 : Int) = 8 by decide), if_neg (show ¬ (18 : Int) = 9 by decide), if_neg (show ¬ (18 : Int) = 10 by decide), if_neg (show ¬ (18 : Int) = 11 by decide), if_neg (show ¬ (18 : Int) = 12 by decide), if_neg (show ¬ (18 : Int) = 13 by decide), if_neg (show ¬ (18 : Int) = 14 by decide), if_neg (show ¬ (18 : Int) = 15 by decide), if_neg (show ¬ (18 : Int) = 16 by decide), if_neg (show ¬ (18 : Int) = 17 by decide), if_pos (show (18 : Int) = 18 from rfl)]
theorem doR_21 (q : RC.Rc) (y : ByteArray) (n : Int) (x : Nat) (s : ByteArray) (m : RC.Rc) (must : Bool) : RU.doR q ⟨21, y, n, x, s, m, must⟩ = (RU.offered q ⟨21, y, n, x, s, m, must⟩, RU.err 0) := by
  unfold RU.doR
  rw [if_neg (show ¬ (21 : Int) = 1 by decide), if_neg (show ¬ (21 : Int) = 2 by decide), if_neg (show ¬ (21 : Int) = 3 by decide), if_neg (show ¬ (21 : Int) = 4 by decide), if_neg (show ¬ (21 : Int) = 5 by decide), if_neg (show ¬ (21 : Int) = 6 by decide), if_neg (show ¬ (21 : Int) = 7 by decide), if_neg (show ¬ (21 : Int) = 8 by decide), if_neg (show ¬ (21 : Int) = 9 by decide), if_neg (show ¬ (21 : Int) = 10 by decide), if_neg (show ¬ (21 : Int) = 11 by decide), if_neg (show ¬ (21 : Int) = 12 by decide), if_neg (show ¬ (21 : Int) = 13 by decide), if_neg (show ¬ (21 : Int) = 14 by decide), if_neg (show ¬ (21 : Int) = 15 by decide), if_neg (show ¬ (21 : Int) = 16 by decide), if_neg (show ¬ (21 : Int) = 17 by decide), if_neg (show ¬ (21 : Int) = 18 by decide), if_neg (show ¬ (21 : Int) = 19 by decide), if_neg (show ¬ (21 : Int) = 20 by decide), if_pos (show (21 : Int) = 21 from rfl)]
theorem joined_kind (q : RC.Rc) (a : AC.Ac) : (RU.joined q a).kind = q.kind := by unfold RU.joined; split <;> rfl
theorem offered_kind (q : RC.Rc) (a : AC.Ac) : (RU.offered q a).kind = q.kind := by
  unfold RU.offered
  split
  · rfl
  · split <;> rfl
theorem regK_kind {kind : Int} {q : RC.Rc} (hq : q.kind = kind) (h8 : 8 ≤ kind) (x : RC.It) : (RU.apply q true (SH.regK kind x)).1.kind = kind ∧ (RU.apply q true (SH.regK kind x)).2.1 = true := by
  have hne : (kind != 0) = true := bne_iff_ne.2 (by omega)
  unfold RU.apply
  split
  · by_cases h9 : kind = 9
    · subst h9
      rw [regK_9, doR_21]
      show (RU.offered q _).kind = 9 ∧ ((RU.offered q _).kind != 0) = true
      rw [offered_kind, hq]
      exact ⟨rfl, rfl⟩
    · rw [regK_no h9, doR_18]
      show (if _ then _ else _ : RC.Rc × RU.Ans).1.kind = kind ∧ ((if _ then _ else _ : RC.Rc × RU.Ans).1.kind != 0) = true
      split
      · show (RU.joined q _).kind = kind ∧ ((RU.joined q _).kind != 0) = true
        rw [joined_kind, hq]
        exact ⟨rfl, hne⟩
      · show q.kind = kind ∧ (q.kind != 0) = true
        rw [hq]
        exact ⟨rfl, hne⟩
  · exact ⟨hq, rfl⟩
theorem sput8 {kind : Int} (h : 8 ≤ kind) (q p : RC.Rc) : SH.put kind q p = q := by
  unfold SH.put
  rw [if_neg (by omega), if_neg (by omega), if_neg (by omega)]
theorem rput8 {kind : Int} (h : 8 ≤ kind) (q p : RC.Rc) : SH.rput kind q p = q := by
  unfold SH.rput
  rw [if_neg (by omega), if_neg (by omega), if_neg (by omega)]
theorem rput_kind (kind : Int) (q p : RC.Rc) : (SH.rput kind q p).kind = q.kind := by
  unfold SH.rput
  split
  · rfl
  · split
    · rfl
    · split <;> rfl
theorem SH.rput_list (kind : Int) (q p : RC.Rc) : (SH.rput kind q p).list = q.list := by
  unfold SH.rput
  split
  · rfl
  · split
    · rfl
    · split <;> rfl
theorem SH.rput_ok {kind : Int} {q p : RC.Rc} (hq : q.ok) (hp : p.ok) : (SH.rput kind q p).ok := by
  unfold SH.rput
  split
  · exact num_ok hq _
  · split
    · exact ⟨hq.kind, hq.num, hq.low, hq.high, MF.w_rmx hq.real hp.real, hq.cap, hq.list⟩
    · split
      · exact ⟨hq.kind, hq.num, hq.low, hq.high, MF.w_rmn hq.real hp.real, hq.cap, hq.list⟩
      · exact hq
theorem inn_go {kind : Int} (hk : kind = 8 ∨ kind = 9) : ∀ (l : List RC.It) (q : RC.Rc), q.kind = kind → SH.inn kind q l = (RU.go q true (l.map (SH.regain kind))).1 ∧ (RU.go q true (l.map (SH.regain kind))).2.1 = true ∧ (SH.inn kind q l).kind = kind
  | [], q, hq => ⟨rfl, rfl, hq⟩
  | x :: l, q, hq => by
    have hx := regK_kind hq (by omega) x
    obtain ⟨h1, h2, h3⟩ := inn_go hk l (RU.apply q true (SH.regK kind x)).1 hx.1
    show SH.inn kind (RU.apply q true (SH.regK kind x)).1 l = (RU.go (RU.apply q true (SH.regain kind x)).1 (RU.apply q true (SH.regain kind x)).2.1 (l.map (SH.regain kind))).1 ∧ (RU.go (RU.apply q true (SH.regain kind x)).1 (RU.apply q true (SH.regain kind x)).2.1 (l.map (SH.regain kind))).2.1 = true ∧ (SH.inn kind (RU.apply q true (SH.regK kind x)).1 l).kind = kind
    rw [← apply_K hk, hx.2]
    exact ⟨h1, h2, h3⟩
theorem rmerge_go {kind : Int} (hk : kind = 8 ∨ kind = 9) : ∀ (ps : List RC.Rc) (q : RC.Rc), q.kind = kind → ps.foldl (SH.rstep kind) q = (RU.go q true (ps.flatMap fun p => p.list.map (SH.regain kind))).1
  | [], q, hq => rfl
  | p :: ps, q, hq => by
    have h8 : 8 ≤ kind := by omega
    have hs : SH.rstep kind q p = SH.inn kind q p.list := by unfold SH.rstep; rw [if_pos h8, rput8 h8]
    obtain ⟨h1, h2, h3⟩ := inn_go hk p.list q hq
    show ps.foldl (SH.rstep kind) (SH.rstep kind q p) = (RU.go q true (p.list.map (SH.regain kind) ++ ps.flatMap fun p => p.list.map (SH.regain kind))).1
    rw [hs, rmerge_go hk ps _ h3, RU.go_append, h1, h2]
theorem foldl_same {α β : Type} (f : α → β → α) (q : α) (h : ∀ b, f q b = q) : ∀ l : List β, l.foldl f q = q
  | [] => rfl
  | b :: l => by
    show l.foldl f (f q b) = q
    rw [h b]
    exact foldl_same f q h l
theorem refused_10 {kind : Int} {q : RC.Rc} (hq : q.kind = kind) (h : 10 ≤ kind) (a : AC.Ac) : (RU.apply q true a).1 = q := by
  have hc : RC.chk q ≠ 0 := by
    unfold RC.chk
    rw [show RC.known q.kind = false from by unfold RC.known; rw [hq]; simp; omega]
    simp
  have hr : refE (ownR q true) true a ≠ 0 := by
    show refE q true a ≠ 0
    unfold refE
    split
    · assumption
    · simp [hc]
  unfold RU.apply
  rw [if_neg hr]
  rfl
theorem rmerge_eq (r : RC.Rc) (parts : List RC.Rc) (h56 : ¬ (r.kind = 5 ∨ r.kind = 6)) : SH.rmerge r parts = SH.merge r parts := by
  unfold SH.rmerge SH.merge
  by_cases hk : r.kind = 8 ∨ r.kind = 9
  · have h8 : 8 ≤ r.kind := by omega
    rw [rmerge_go hk parts r rfl]
    unfold SH.regains
    rw [if_pos hk]
    exact (foldl_same _ _ (fun b => sput8 h8 _ b) parts).symm
  · have hn : SH.regains r.kind parts = [] := by unfold SH.regains; rw [if_neg hk]
    rw [hn]
    show parts.foldl (SH.rstep r.kind) r = parts.foldl (SH.put r.kind) r
    by_cases h8 : 8 ≤ r.kind
    · have h10 : 10 ≤ r.kind := by omega
      have e1 : ∀ p, SH.rstep r.kind r p = r := fun p => by
        unfold SH.rstep SH.inn
        rw [if_pos h8, rput8 h8]
        exact foldl_same _ r (fun x => refused_10 rfl h10 _) p.list
      rw [foldl_same _ r e1 parts, foldl_same _ r (fun p => sput8 h8 r p) parts]
    · have e1 : SH.rstep r.kind = SH.put r.kind := by
        funext q p
        unfold SH.rstep SH.rput SH.put
        rw [if_neg h8]
        by_cases h2 : r.kind = 2 ∨ r.kind = 3 ∨ r.kind = 4
        · rw [if_pos h2, if_pos h2]
        · rw [if_neg h2, if_neg h2, if_neg (fun h => h56 (.inl h)), if_neg (fun h => h56 (.inr h)), if_neg (fun h => h56 (.inl h)), if_neg (fun h => h56 (.inr h))]
      rw [e1]
theorem real_same {q : RC.Rc} {x : Nat} (h : MF.key q.real = MF.key x) : RC.same q { q with real := x } = true := by
  have h1 := RC.same_refl' q
  unfold RC.same at h1 ⊢
  simp only [Bool.and_eq_true] at h1 ⊢
  exact ⟨⟨⟨⟨⟨⟨⟨h1.1.1.1.1.1.1.1, h1.1.1.1.1.1.1.2⟩, h1.1.1.1.1.1.2⟩, h1.1.1.1.1.2⟩, MF.same_of h⟩, h1.1.1.2⟩, h1.1.2⟩, h1.2⟩
theorem put_rel {kind : Int} (hk : kind = 5 ∨ kind = 6) : ∀ (ps : List RC.Rc) (q : RC.Rc) (x : Nat), MF.key q.real = MF.key x → ∃ y, ps.foldl (SH.rstep kind) { q with real := x } = { (ps.foldl (SH.put kind) q) with real := y } ∧ MF.key (ps.foldl (SH.put kind) q).real = MF.key y
  | [], q, x, h => ⟨x, rfl, h⟩
  | p :: ps, q, x, h => by
    have hs : SH.rstep kind { q with real := x } p = { (SH.put kind q p) with real := (SH.rput kind { q with real := x } p).real } ∧ MF.key (SH.put kind q p).real = MF.key (SH.rput kind { q with real := x } p).real := by
      unfold SH.rstep
      rw [if_neg (by omega)]
      rcases hk with rfl | rfl
      · refine ⟨rfl, ?_⟩
        show MF.key (MF.mx q.real p.real) = MF.key (MF.rmx x p.real)
        rw [MF.key_mx, MF.key_rmx, h]
      · refine ⟨rfl, ?_⟩
        show MF.key (MF.mn q.real p.real) = MF.key (MF.rmn x p.real)
        rw [MF.key_mn, MF.key_rmn, h]
    show ∃ y, ps.foldl (SH.rstep kind) (SH.rstep kind { q with real := x } p) = { (ps.foldl (SH.put kind) (SH.put kind q p)) with real := y } ∧ _
    rw [hs.1]
    exact put_rel hk ps _ _ hs.2
/-- The document's Merge is the same as the program's. -/
theorem rmerge_same (r : RC.Rc) (parts : List RC.Rc) : RC.same (SH.merge r parts) (SH.rmerge r parts) = true := by
  by_cases h56 : r.kind = 5 ∨ r.kind = 6
  · have hn : SH.regains r.kind parts = [] := by unfold SH.regains; rw [if_neg (by omega)]
    unfold SH.merge SH.rmerge
    rw [hn]
    obtain ⟨y, h1, h2⟩ := put_rel h56 parts r r.real rfl
    show RC.same (parts.foldl (SH.put r.kind) r) (parts.foldl (SH.rstep r.kind) r) = true
    rw [show parts.foldl (SH.rstep r.kind) r = _ from h1]
    exact real_same h2
  · rw [rmerge_eq r parts h56]
    exact RC.same_refl' _
theorem inn_ok {kind : Int} : ∀ (l : List RC.It) {q : RC.Rc}, q.ok → q.kind = kind → Lim q.list.length → 8 ≤ kind → (∀ x ∈ l, MF.W64 x.score) → (SH.inn kind q l).ok ∧ (SH.inn kind q l).kind = kind ∧ Lim (SH.inn kind q l).list.length
  | [], q, hq, hk, hn, _, _ => ⟨hq, hk, hn⟩
  | x :: l, q, hq, hk, hn, h8, hx => inn_ok l (apply_ok (there := true) hq (regK_ok kind (hx x (List.mem_cons_self ..)))).1 (regK_kind hk h8 x).1 (apply_lim (there := true) hq (regK_ok kind (hx x (List.mem_cons_self ..))) hn).1 h8 (fun y hy => hx y (List.mem_cons_of_mem _ hy))
theorem go_ok : ∀ (l : List AC.Ac) {q : RC.Rc} {t : Bool}, q.ok → Lim q.list.length → (∀ a ∈ l, a.ok) → (RU.go q t l).1.ok ∧ Lim (RU.go q t l).1.list.length
  | [], q, t, h, n, _ => ⟨h, n⟩
  | a :: l, q, t, h, n, ha => go_ok l (apply_ok (there := t) h (ha a (List.mem_cons_self ..))).1 (apply_lim (there := t) h (ha a (List.mem_cons_self ..)) n).1 (fun b hb => ha b (List.mem_cons_of_mem _ hb))
theorem regain_ok (kind : Int) {x : RC.It} (hx : MF.W64 x.score) : (SH.regain kind x).ok := by
  unfold SH.regain
  split
  · exact ⟨rfl, rfl, show MF.W64 0 by unfold MF.W64; decide, RC.zero_ok⟩
  · exact ⟨rfl, rfl, hx, RC.zero_ok⟩
theorem regains_ok {kind : Int} {l : List RC.Rc} (h : ∀ p ∈ l, p.ok) : ∀ a ∈ SH.regains kind l, a.ok := by
  intro a ha
  unfold SH.regains at ha
  split at ha
  · obtain ⟨p, hp, ha⟩ := List.mem_flatMap.1 ha
    obtain ⟨y, hy, rfl⟩ := List.mem_map.1 ha
    exact regain_ok kind ((h p hp).list y hy)
  · cases ha
theorem putall_ok {kind : Int} : ∀ (l : List RC.Rc) {q : RC.Rc}, q.ok → Lim q.list.length → (∀ p ∈ l, p.ok) → (l.foldl (SH.put kind) q).ok ∧ Lim (l.foldl (SH.put kind) q).list.length
  | [], q, h, n, _ => ⟨h, n⟩
  | p :: l, q, h, n, hp => putall_ok l (SH.put_ok h (hp p (List.mem_cons_self ..))) (by rw [SH.put_list]; exact n) (fun b hb => hp b (List.mem_cons_of_mem _ hb))
theorem merge_ok {r : RC.Rc} {l : List RC.Rc} (hr : r.ok) (n : Lim r.list.length) (h : ∀ p ∈ l, p.ok) : (SH.merge r l).ok ∧ Lim (SH.merge r l).list.length := by
  have h1 := go_ok (t := true) (SH.regains r.kind l) hr n (regains_ok h)
  exact putall_ok l h1.1 h1.2 h
theorem rstep_ok {kind : Int} {q p : RC.Rc} (hq : q.ok) (hk : q.kind = kind) (n : Lim q.list.length) (hp : p.ok) : (SH.rstep kind q p).ok ∧ (SH.rstep kind q p).kind = kind ∧ Lim (SH.rstep kind q p).list.length := by
  unfold SH.rstep
  split
  · rename_i h8
    exact inn_ok p.list (SH.rput_ok hq hp) (by rw [rput_kind]; exact hk) (by rw [SH.rput_list]; exact n) h8 hp.list
  · exact ⟨SH.rput_ok hq hp, by rw [rput_kind]; exact hk, by rw [SH.rput_list]; exact n⟩
theorem rfold_ok {kind : Int} : ∀ (l : List RC.Rc) {q : RC.Rc}, q.ok → q.kind = kind → Lim q.list.length → (∀ p ∈ l, p.ok) → (l.foldl (SH.rstep kind) q).ok ∧ Lim (l.foldl (SH.rstep kind) q).list.length
  | [], q, h, _, n, _ => ⟨h, n⟩
  | p :: l, q, h, hk, n, hp => by
    obtain ⟨h1, h2, h3⟩ := rstep_ok h hk n (hp p (List.mem_cons_self ..))
    exact rfold_ok l h1 h2 h3 (fun b hb => hp b (List.mem_cons_of_mem _ hb))
theorem rmerge_ok {r : RC.Rc} {l : List RC.Rc} (hr : r.ok) (n : Lim r.list.length) (h : ∀ p ∈ l, p.ok) : (SH.rmerge r l).ok ∧ Lim (SH.rmerge r l).list.length := rfold_ok l hr rfl n h
theorem flat_len {α β : Type} (f : α → List β) (n : Nat) : ∀ l : List α, (∀ a ∈ l, (f a).length ≤ n) → (l.flatMap f).length ≤ n * l.length
  | [], _ => Nat.zero_le _
  | a :: l, h => by
    rw [List.flatMap_cons, List.length_append, List.length_cons, Nat.mul_add, Nat.mul_one]
    have h1 := h a (List.mem_cons_self ..)
    have h2 := flat_len f n l (fun b hb => h b (List.mem_cons_of_mem _ hb))
    omega
theorem regains_len {kind : Int} {l : List RC.Rc} {n : Nat} (h : ∀ p ∈ l, p.list.length ≤ n) : (SH.regains kind l).length ≤ n * l.length := by
  unfold SH.regains
  split
  · exact flat_len _ n l (fun p hp => by rw [List.length_map]; exact h p hp)
  · exact Nat.zero_le _
theorem regains_lim {kind : Int} {l : List RC.Rc} (h : ∀ p ∈ l, ∀ x ∈ p.list, Lim x.name.size) : ∀ a ∈ SH.regains kind l, Lim a.make.list.length ∧ Lim a.key.size ∧ Lim a.s.size := by
  intro a ha
  unfold SH.regains at ha
  split at ha
  · obtain ⟨p, hp, ha⟩ := List.mem_flatMap.1 ha
    obtain ⟨y, hy, rfl⟩ := List.mem_map.1 ha
    unfold SH.regain
    split
    · exact ⟨by show Lim 0; unfold Lim; decide, by show Lim 1; unfold Lim; decide, h p hp y hy⟩
    · exact ⟨by show Lim 0; unfold Lim; decide, by show Lim 1; unfold Lim; decide, h p hp y hy⟩
  · cases ha
end Go.Proofs.YtbkcmnmbcldjoaaGreatDoor
