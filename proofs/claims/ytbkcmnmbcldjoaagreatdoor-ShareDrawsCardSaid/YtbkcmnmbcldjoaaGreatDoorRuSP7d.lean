/- Contracts of package rule: Apply. -/
import Derived.Test.YtbkcmnmbcldjoaaGreatDoorRuPP7d
import Derived.Test.YtbkcmnmbcldjoaaGreatDoorRule11mP7d
import Derived.Test.YtbkcmnmbcldjoaaGreatDoorRuQP7d
import Derived.Test.YtbkcmnmbcldjoaaGreatDoorRuNP7d
import Derived.Test.YtbkcmnmbcldjoaaGreatDoorRule3mP7d
namespace Go.Proofs.YtbkcmnmbcldjoaaGreatDoor
open Go.RowKit MM
/-- What Apply answers: the record and the answer's record are lists of their own. -/
def ApPost (q : RC.Rc) (th : Bool) (x : RU.Ans) (w : World) (e : Ending) (w' : World) : Prop :=
  ∃ A' c' B cb, e = .returned (.tuple #[recV q A' c', .bool th, ansV x.code x.num x.rc B cb]) ∧ w'.ownsRow 0 91 2 (.slice A' q.list.length c') q.list.length (itCells q.list) ∧ w'.ownsRow 0 91 2 (.slice B x.rc.list.length cb) x.rc.list.length (itCells x.rc.list) ∧ (∀ k, ob A' = some k → w.heap.size ≤ k) ∧ (∀ k, ob B = some k → w.heap.size ≤ k ∧ ob A' ≠ some k) ∧ Below w.heap.size w w'
set_option maxHeartbeats 2000000 in
set_option maxRecDepth 100000 in
theorem apply_refused (r : RC.Rc) (there : Bool) (a : AC.Ac) (A L : Option Addr) (c cl : Nat) (w : World) (hr : (ownR r there).ok) (ha : a.ok) (hR : RowsAt w) (hA : Its w A r.list) (hL : Its w L a.make.list) (n1 : Lim r.list.length) (n1' : Lim (ownR r there).list.length) (n2 : Lim a.make.list.length) (n3 : Lim a.key.size) (n4 : Lim a.s.size) (h : refE (ownR r there) there a ≠ 0) :
    Calls Tryz.prog 48 #[recV r A c, .bool there, actV a L cl] w (ApPost (ownR r there) there (RU.err (refE (ownR r there) there a)) w) := by
  have HO := Lib.hid (fun u (b : Below w.heap.size w u) => ruleOwn_any r there A c u (hA.below b) n1)
  have HF := Lib.hid (fun u A' c' (b : Below w.heap.size w u) hA' => refusal_any (ownR r there) there a A' L c' cl u hr ha (hR.below b) hA' (hL.below b) n1' n2 n3 n4)
  clear hr ha hR hA hL n1 n1' n2 n3 n4
  generalize refE (ownR r there) there a = E at *
  generalize ownR r there = q at *
  have hE : ((E : Int) != 0) = true := by simp; omega
  go_enter Tryz.func48, Tryz.ntmps48
  go_wp2_with fail
  refine (HO.out _ (below4 w _ _ _ _)).mono ?_
  rintro e w1 ⟨A', c', rfl, ho, hn, hb⟩
  have hs1 := hb.size
  simp only [World.size_alloc] at hs1 hn
  have e1 := (hb.block (w.heap.size + 1) (by simp only [World.size_alloc]; omega)).trans ((heap_alloc_old _ _ (by simp only [World.size_alloc]; omega)).trans ((heap_alloc_old _ _ (by simp only [World.size_alloc]; omega)).trans (heap_new _ _ _ (by simp))))
  have e2 := (hb.block (w.heap.size + 1 + 1) (by simp only [World.size_alloc]; omega)).trans ((heap_alloc_old _ _ (by simp only [World.size_alloc]; omega)).trans (heap_new _ _ _ (by simp)))
  have e3 := (hb.block (w.heap.size + 1 + 1 + 1) (by simp only [World.size_alloc]; omega)).trans (heap_new _ _ _ (by simp))
  have HB1 := Lib.hid (show Below w.heap.size w w1 from (below4 w _ _ _ _).trans (hb.mono (by simp only [World.size_alloc]; omega)))
  have c1 := fun o => cell_of_row w1 _ o _ _ (0, 0) e1
  have z1 : w.heap.size + 1 < w1.heap.size := by omega
  have z2 : w.heap.size + 1 + 1 < w1.heap.size := by omega
  have z3 : w.heap.size + 1 + 1 + 1 < w1.heap.size := by omega
  have R1 := Lib.hid e1
  have R2 := Lib.hid e2
  have R3 := Lib.hid e3
  have HW := Lib.hid ho
  have HN := Lib.hid hn
  clear hb e1 e2 e3 ho hn
  go_wp2_with fail
  have hB1w : Below w.heap.size w (w1.alloc (.cells (recC q.kind q.num q.low q.high q.real q.cap q.text (.slice A' q.list.length c')) 25)) := HB1.out.trans ((below1 w1 _).mono (by omega))
  refine (HF.out _ A' c' hB1w (Its.own (own_below HW.out (below1 w1 _)))).mono ?_
  rintro e w2 ⟨rfl, hb2⟩
  have hs2 := hb2.size
  simp only [World.size_alloc] at hs2
  have e2 := (hb2.block (w.heap.size + 1 + 1) (by simp only [World.size_alloc]; omega)).trans ((heap_alloc_old _ _ (by omega)).trans R2.out)
  have e3 := (hb2.block (w.heap.size + 1 + 1 + 1) (by simp only [World.size_alloc]; omega)).trans ((heap_alloc_old _ _ (by omega)).trans R3.out)
  have e5 := (hb2.block w1.heap.size (by simp only [World.size_alloc]; omega)).trans (heap_alloc_new w1 _)
  have HB2 := Lib.hid (hB1w.trans (hb2.mono (by simp only [World.size_alloc]; omega)))
  have HW2 := Lib.hid (own_below (own_below HW.out (below1 w1 _)) hb2)
  have c2 := fun o => cell_of_row w2 _ o _ _ (0, 0) e2
  have c3 := fun o => cell_of_row w2 _ o _ _ (0, 0) e3
  have c5 := fun o => cell_of_row w2 _ o _ _ (0, 0) e5
  have f2 : ∀ o, w2.frozen? ⟨w.heap.size + 1 + 1, o, none⟩ = false := fun o => frozen_of_row _ _ o _ _ e2
  have f3 : ∀ o, w2.frozen? ⟨w.heap.size + 1 + 1 + 1, o, none⟩ = false := fun o => frozen_of_row _ _ o _ _ e3
  have S2 := Lib.hid e2
  have S3 := Lib.hid e3
  have y2 : w.heap.size + 1 + 1 < w2.heap.size := by omega
  have y3 : w.heap.size + 1 + 1 + 1 < w2.heap.size := by omega
  have y5 : w1.heap.size < w2.heap.size := by omega
  clear hb2 e2 e3 e5 hB1w c1 R1 R2 R3 HW HF HO
  go_wp2_with fail
  generalize hwf : World.setCell _ _ _ = wf
  have X2 : wf.heap[w.heap.size + 1 + 1]? = some (.cells (recC q.kind q.num q.low q.high q.real q.cap q.text (.slice A' q.list.length c')) 25 (0, 0)) := by
    rw [← hwf]
    exact (ans_other (by omega)).trans (rec_stores S2.out)
  have X3 : wf.heap[w.heap.size + 1 + 1 + 1]? = some (.cells (ansC E 0 RC.zero none 0) 82 (0, 0)) := by
    rw [← hwf]
    exact ans_all ((rec_stores_other (by omega)).trans S3.out)
  have hk : Kp (fun k => k = w.heap.size + 1 + 1 ∨ k = w.heap.size + 1 + 1 + 1) w2 wf := by
    rw [← hwf]
    exact kp10 (kp8g (Kp.refl _ w2) (Or.inl (Or.inl rfl))) (Or.inl (Or.inr rfl))
  have HOf := Lib.hid (hk.own HW2.out (fun k e x => by
    rw [ownBlock_slice] at e
    have := HN.out k e
    rcases x with x | x <;> omega))
  have HNf := Lib.hid (show ∀ k, ob A' = some k → w.heap.size ≤ k from fun k e => by have := HN.out k e; omega)
  have HBf := Lib.hid (show Below w.heap.size w wf from HB2.out.trans (hk.below (by omega) (fun i hi x => by rcases x with x | x <;> omega)))
  have k2 := fun o => cell_of_row wf _ o _ _ (0, 0) X2
  have k3 := fun o => cell_of_row wf _ o _ _ (0, 0) X3
  clear hwf X2 X3 c2 c3 c5 f2 f3 hk
  exact bodyPost_ret (v := .tuple #[recV q A' c', .bool there, ansV E 0 RC.zero none 0]) (by simp [results, Tryz.results48, go_sem, k2, k3]) rfl ⟨A', c', none, 0, rfl, HOf.out, World.ownsRow_nil _ _ _ _, HNf.out, (fun k e => by cases e), HBf.out⟩
end Go.Proofs.YtbkcmnmbcldjoaaGreatDoor
namespace Go.Proofs.YtbkcmnmbcldjoaaGreatDoor
open Go.RowKit MM
/-- What a doing answers: the record, in the list that it was handed or in a new one; the answer, with a list of its own. -/
def DPost (p : RC.Rc) (x : RU.Ans) (A : Option Addr) (w : World) (e : Ending) (w' : World) : Prop :=
  ∃ A' c' B cb, e = .returned (.tuple #[recV p A' c', ansV x.code x.num x.rc B cb]) ∧ w'.ownsRow 0 91 2 (.slice A' p.list.length c') p.list.length (itCells p.list) ∧ w'.ownsRow 0 91 2 (.slice B x.rc.list.length cb) x.rc.list.length (itCells x.rc.list) ∧ (∀ k, ob A' = some k → ob A = some k ∨ w.heap.size ≤ k) ∧ (∀ k, ob B = some k → w.heap.size ≤ k ∧ ob A' ≠ some k) ∧ Kp (fun k => ob A = some k) w w'
/-- What an act does that isn't refused. -/
def RU.doR (r : RC.Rc) (a : AC.Ac) : RC.Rc × RU.Ans :=
  if a.kind = 1 then (a.make, RU.err 0)
  else if a.kind = 2 then (RC.zero, RU.err 0)
  else if a.kind = 3 then (r, ⟨0, r.kind, RC.zero⟩)
  else if a.kind = 4 then (r, ⟨0, 0, r⟩)
  else if a.kind = 5 then ({ r with text := a.s }, RU.err 0)
  else if a.kind = 6 then ({ r with text := a.s }, ⟨0, 0, r⟩)
  else if a.kind = 7 then ({ r with num := RU.w64 (r.num + a.n) }, RU.err 0)
  else if a.kind = 8 then (if RU.plusOver r a.n = true then (r, RU.err 9) else ({ r with num := RU.w64 (r.num + a.n) }, RU.err 0))
  else if a.kind = 9 then (if a.n ≤ r.num then (r, RU.err 0) else (r, RU.err 11))
  else if a.kind = 10 then (if r.high < RU.w64 (r.num + a.n) then (r, RU.err 9) else ({ r with num := RU.w64 (r.num + a.n) }, RU.err 0))
  else if a.kind = 11 then (if RU.w64 (r.num - a.n) < r.low then (r, RU.err 10) else ({ r with num := RU.w64 (r.num - a.n) }, RU.err 0))
  else if a.kind = 12 then (if a.n ≤ r.num then (r, RU.err 0) else (r, RU.err 11))
  else if a.kind = 13 then ({ r with real := MF.mx r.real a.x }, RU.err 0)
  else if a.kind = 14 then ({ r with real := MF.mn r.real a.x }, RU.err 0)
  else if a.kind = 15 then ({ r with real := MF.plus r.real a.x }, RU.err 0)
  else if a.kind = 16 then ({ r with real := MF.times r.real a.x }, RU.err 0)
  else if a.kind = 17 then ({ r with real := a.x }, RU.err 0)
  else if a.kind = 18 then (if RU.at_ r.list ⟨0, a.s⟩ = true ∨ (r.list.length : Int) < r.cap then (RU.joined r a, RU.err 0) else (r, RU.err 8))
  else if a.kind = 19 then (RU.left r a, RU.err 0)
  else if a.kind = 20 then (if RU.at_ r.list ⟨0, a.s⟩ = true then (r, RU.err 0) else (r, RU.err 11))
  else if a.kind = 21 then (RU.offered r a, RU.err 0)
  else (r, RU.err 0)
section
variable {p q : RC.Rc} {A : Option Addr} {c code : Nat} {w w' : World} {e : Ending}
theorem DPost.of_do (h : DoPost p A c code w e w') (ho : w.ownsRow 0 91 2 (.slice A p.list.length c) p.list.length (itCells p.list)) : DPost p (RU.err code) A w e w' := by
  obtain ⟨rfl, hb⟩ := h
  exact ⟨A, c, none, 0, rfl, own_below ho hb, World.ownsRow_nil _ _ _ _, fun k e => .inl e, fun k e => (by cases e), Kp.of_below hb _⟩
theorem DPost.of_none (h : DoPost RC.zero none 0 code w e w') : DPost RC.zero (RU.err code) A w e w' := by
  obtain ⟨rfl, hb⟩ := h
  exact ⟨none, 0, none, 0, rfl, World.ownsRow_nil _ _ _ _, World.ownsRow_nil _ _ _ _, fun k e => (by cases e), fun k e => (by cases e), Kp.of_below hb _⟩
theorem DPost.of_gd (h : GdPost p code w e w') : DPost p (RU.err code) A w e w' := by
  obtain ⟨A', c', rfl, ho, hn, hb⟩ := h
  exact ⟨A', c', none, 0, rfl, ho, World.ownsRow_nil _ _ _ _, fun k e => .inr (hn k e), fun k e => (by cases e), Kp.of_below hb _⟩
theorem DPost.of_dw (h : DwPost p code A w e w') : DPost p (RU.err code) A w e w' := by
  obtain ⟨A', c', rfl, ho, hn, hb⟩ := h
  exact ⟨A', c', none, 0, rfl, ho, World.ownsRow_nil _ _ _ _, hn, fun k e => (by cases e), hb⟩
theorem DPost.of_lk (h : LkPost p q A c w e w') (ho : w.ownsRow 0 91 2 (.slice A p.list.length c) p.list.length (itCells p.list)) : DPost p ⟨0, 0, q⟩ A w e w' := by
  obtain ⟨A', c', rfl, ho', hn, hb⟩ := h
  refine ⟨A, c, A', c', rfl, own_below ho hb, ho', fun k e => .inl e, fun k e => ⟨hn k e, fun x => ?_⟩, Kp.of_below hb _⟩
  have h1 := hn k e
  have h2 := in_of_own ho k x
  omega
theorem DPost.of_kind {z : Int} (h : e = .returned (.tuple #[recV p A c, ansV 0 z RC.zero none 0]) ∧ Below w.heap.size w w') (ho : w.ownsRow 0 91 2 (.slice A p.list.length c) p.list.length (itCells p.list)) : DPost p ⟨0, z, RC.zero⟩ A w e w' := by
  obtain ⟨rfl, hb⟩ := h
  exact ⟨A, c, none, 0, rfl, own_below ho hb, World.ownsRow_nil _ _ _ _, fun k e => .inl e, fun k e => (by cases e), Kp.of_below hb _⟩
end
theorem Doings.next {b : DB} {u v v' : World} (h : Doings b u v) (hb : Below v.heap.size v v') : Doings b u v' :=
  ⟨below_keep hb h.c1, below_keep hb h.c2, below_keep hb h.c3, below_keep hb h.c4, below_keep hb h.c5, below_keep hb h.c6, below_keep hb h.c7, below_keep hb h.c8, below_keep hb h.c9, below_keep hb h.c10, below_keep hb h.c11, below_keep hb h.c12, below_keep hb h.c13, below_keep hb h.c14, below_keep hb h.c15, below_keep hb h.c16, below_keep hb h.c17, below_keep hb h.c18, below_keep hb h.c19, below_keep hb h.c20, below_keep hb h.c21, below_keep hb h.c22, below_keep hb h.c23, h.below.trans (hb.mono h.below.size)⟩
theorem cap_of_own {w : World} {A : Option Addr} {n c : Nat} {cs : List Value} (ho : w.ownsRow 0 91 2 (.slice A n c) n cs) : n ≤ c := by
  rcases ho.2 with ⟨h1, h2⟩ | ⟨g, cap, cur, h1, _, _, h2, _⟩
  · omega
  · injection h1 with _ _ h3
    omega
/-- What is known of a record that an act may be done to, and of the act. -/
structure Can (q : RC.Rc) (a : AC.Ac) : Prop where
  rok : q.ok
  aok : a.ok
  len : q.list.length ≤ 32
  cap : 0 ≤ q.cap
  made : a.make.list.length ≤ 1000
theorem doing_1 (q : RC.Rc) (a : AC.Ac) (L : Option Addr) (cl : Nat) (h : Can q a) (hk : a.kind = 1) (b : DB) (u v : World) (A : Option Addr) (c : Nat) (hD : Doings b u v) (ho : v.ownsRow 0 91 2 (.slice A q.list.length c) q.list.length (itCells q.list)) (hL : Its v L a.make.list) :
    Calls Tryz.prog 147 #[recV q A c, actV a L cl, .pointer (some ⟨b.b1, 0, none⟩)] v (DPost (RU.doR q a).1 (RU.doR q a).2 A v) := by
  have _x := And.intro h (And.intro hD (And.intro ho hL))
  have hd : RU.doR q a = (a.make, RU.err 0) := by unfold RU.doR; simp [hk]
  rw [hd]
  exact (changeCreate_any b.b1 q a A L c cl v hD.c1 hL (by have := h.made; unfold Lim; omega)).mono fun e w' x => DPost.of_gd x
theorem doing_2 (q : RC.Rc) (a : AC.Ac) (L : Option Addr) (cl : Nat) (h : Can q a) (hk : a.kind = 2) (b : DB) (u v : World) (A : Option Addr) (c : Nat) (hD : Doings b u v) (ho : v.ownsRow 0 91 2 (.slice A q.list.length c) q.list.length (itCells q.list)) (hL : Its v L a.make.list) :
    Calls Tryz.prog 147 #[recV q A c, actV a L cl, .pointer (some ⟨b.b2, 0, none⟩)] v (DPost (RU.doR q a).1 (RU.doR q a).2 A v) := by
  have _x := And.intro h (And.intro hD (And.intro ho hL))
  have hd : RU.doR q a = (RC.zero, RU.err 0) := by unfold RU.doR; simp [hk]
  rw [hd]
  exact (changeDrop_any b.b2 q a A L c cl v hD.c2).mono fun e w' x => DPost.of_none x
theorem doing_3 (q : RC.Rc) (a : AC.Ac) (L : Option Addr) (cl : Nat) (h : Can q a) (hk : a.kind = 3) (b : DB) (u v : World) (A : Option Addr) (c : Nat) (hD : Doings b u v) (ho : v.ownsRow 0 91 2 (.slice A q.list.length c) q.list.length (itCells q.list)) (hL : Its v L a.make.list) :
    Calls Tryz.prog 118 #[recV q A c, actV a L cl] v (DPost (RU.doR q a).1 (RU.doR q a).2 A v) := by
  have _x := And.intro h (And.intro hD (And.intro ho hL))
  have hd : RU.doR q a = (q, ⟨0, q.kind, RC.zero⟩) := by unfold RU.doR; simp [hk]
  rw [hd]
  exact (tellKind_any q a A L c cl v).mono fun e w' x => DPost.of_kind x ho
theorem doing_4 (q : RC.Rc) (a : AC.Ac) (L : Option Addr) (cl : Nat) (h : Can q a) (hk : a.kind = 4) (b : DB) (u v : World) (A : Option Addr) (c : Nat) (hD : Doings b u v) (ho : v.ownsRow 0 91 2 (.slice A q.list.length c) q.list.length (itCells q.list)) (hL : Its v L a.make.list) :
    Calls Tryz.prog 119 #[recV q A c, actV a L cl] v (DPost (RU.doR q a).1 (RU.doR q a).2 A v) := by
  have _x := And.intro h (And.intro hD (And.intro ho hL))
  have hd : RU.doR q a = (q, ⟨0, 0, q⟩) := by unfold RU.doR; simp [hk]
  rw [hd]
  exact (look_any q a A L c cl v (Its.own ho) (by have := h.len; unfold Lim; omega)).mono fun e w' x => DPost.of_lk x ho
theorem doing_5 (q : RC.Rc) (a : AC.Ac) (L : Option Addr) (cl : Nat) (h : Can q a) (hk : a.kind = 5) (b : DB) (u v : World) (A : Option Addr) (c : Nat) (hD : Doings b u v) (ho : v.ownsRow 0 91 2 (.slice A q.list.length c) q.list.length (itCells q.list)) (hL : Its v L a.make.list) :
    Calls Tryz.prog 147 #[recV q A c, actV a L cl, .pointer (some ⟨b.b3, 0, none⟩)] v (DPost (RU.doR q a).1 (RU.doR q a).2 A v) := by
  have _x := And.intro h (And.intro hD (And.intro ho hL))
  have hd : RU.doR q a = ({ q with text := a.s }, RU.err 0) := by unfold RU.doR; simp [hk]
  rw [hd]
  exact (changePut_any b.b3 q a A L c cl v hD.c3).mono fun e w' x => DPost.of_do x ho
theorem doing_6 (q : RC.Rc) (a : AC.Ac) (L : Option Addr) (cl : Nat) (h : Can q a) (hk : a.kind = 6) (b : DB) (u v : World) (A : Option Addr) (c : Nat) (hD : Doings b u v) (ho : v.ownsRow 0 91 2 (.slice A q.list.length c) q.list.length (itCells q.list)) (hL : Its v L a.make.list) :
    Calls Tryz.prog 121 #[recV q A c, actV a L cl] v (DPost (RU.doR q a).1 (RU.doR q a).2 A v) := by
  have _x := And.intro h (And.intro hD (And.intro ho hL))
  have hd : RU.doR q a = ({ q with text := a.s }, ⟨0, 0, q⟩) := by unfold RU.doR; simp [hk]
  rw [hd]
  exact (swap_any q a A L c cl v (Its.own ho) (by have := h.len; unfold Lim; omega)).mono fun e w' x => DPost.of_lk x ho
theorem doing_7 (q : RC.Rc) (a : AC.Ac) (L : Option Addr) (cl : Nat) (h : Can q a) (hk : a.kind = 7) (b : DB) (u v : World) (A : Option Addr) (c : Nat) (hD : Doings b u v) (ho : v.ownsRow 0 91 2 (.slice A q.list.length c) q.list.length (itCells q.list)) (hL : Its v L a.make.list) :
    Calls Tryz.prog 147 #[recV q A c, actV a L cl, .pointer (some ⟨b.b4, 0, none⟩)] v (DPost (RU.doR q a).1 (RU.doR q a).2 A v) := by
  have _x := And.intro h (And.intro hD (And.intro ho hL))
  have hd : RU.doR q a = ({ q with num := RU.w64 (q.num + a.n) }, RU.err 0) := by unfold RU.doR; simp [hk]
  rw [hd]
  exact (changeAdd_any b.b4 q a A L c cl v hD.c4).mono fun e w' x => DPost.of_do x ho
theorem doing_8 (q : RC.Rc) (a : AC.Ac) (L : Option Addr) (cl : Nat) (h : Can q a) (hk : a.kind = 8) (b : DB) (u v : World) (A : Option Addr) (c : Nat) (hD : Doings b u v) (ho : v.ownsRow 0 91 2 (.slice A q.list.length c) q.list.length (itCells q.list)) (hL : Its v L a.make.list) :
    Calls Tryz.prog 147 #[recV q A c, actV a L cl, .pointer (some ⟨b.b5, 0, none⟩)] v (DPost (RU.doR q a).1 (RU.doR q a).2 A v) := by
  have _x := And.intro h (And.intro hD (And.intro ho hL))
  have hd : RU.doR q a = if RU.plusOver q a.n = true then (q, RU.err 9) else ({ q with num := RU.w64 (q.num + a.n) }, RU.err 0) := by unfold RU.doR; simp [hk]
  rw [hd]
  by_cases hc : RU.plusOver q a.n = true
  · rw [if_pos hc]
    exact (changePlus_over b.b5 q a A L c cl v hD.c5 hc).mono fun e w' x => DPost.of_do x ho
  · rw [if_neg hc]
    exact (changePlus_fits b.b5 q a A L c cl v hD.c5 (by simpa using hc)).mono fun e w' x => DPost.of_do x ho
theorem doing_9 (q : RC.Rc) (a : AC.Ac) (L : Option Addr) (cl : Nat) (h : Can q a) (hk : a.kind = 9) (b : DB) (u v : World) (A : Option Addr) (c : Nat) (hD : Doings b u v) (ho : v.ownsRow 0 91 2 (.slice A q.list.length c) q.list.length (itCells q.list)) (hL : Its v L a.make.list) :
    Calls Tryz.prog 148 #[recV q A c, actV a L cl, .pointer (some ⟨b.b6, 0, none⟩)] v (DPost (RU.doR q a).1 (RU.doR q a).2 A v) := by
  have _x := And.intro h (And.intro hD (And.intro ho hL))
  have hd : RU.doR q a = if a.n ≤ q.num then (q, RU.err 0) else (q, RU.err 11) := by unfold RU.doR; simp [hk]
  rw [hd]
  by_cases hc : a.n ≤ q.num
  · rw [if_pos hc]
    exact (testReach_yes b.b6 q a A L c cl v hD.c6 hc).mono fun e w' x => DPost.of_do x ho
  · rw [if_neg hc]
    exact (testReach_no b.b6 q a A L c cl v hD.c6 hc).mono fun e w' x => DPost.of_do x ho
theorem doing_10 (q : RC.Rc) (a : AC.Ac) (L : Option Addr) (cl : Nat) (h : Can q a) (hk : a.kind = 10) (b : DB) (u v : World) (A : Option Addr) (c : Nat) (hD : Doings b u v) (ho : v.ownsRow 0 91 2 (.slice A q.list.length c) q.list.length (itCells q.list)) (hL : Its v L a.make.list) :
    Calls Tryz.prog 147 #[recV q A c, actV a L cl, .pointer (some ⟨b.b7, 0, none⟩)] v (DPost (RU.doR q a).1 (RU.doR q a).2 A v) := by
  have _x := And.intro h (And.intro hD (And.intro ho hL))
  have hd : RU.doR q a = if q.high < RU.w64 (q.num + a.n) then (q, RU.err 9) else ({ q with num := RU.w64 (q.num + a.n) }, RU.err 0) := by unfold RU.doR; simp [hk]
  rw [hd]
  by_cases hc : q.high < RU.w64 (q.num + a.n)
  · rw [if_pos hc]
    exact (changeIn_over b.b7 q a A L c cl v hD.c7 hc).mono fun e w' x => DPost.of_do x ho
  · rw [if_neg hc]
    exact (changeIn_fits b.b7 q a A L c cl v hD.c7 hc).mono fun e w' x => DPost.of_do x ho
theorem doing_11 (q : RC.Rc) (a : AC.Ac) (L : Option Addr) (cl : Nat) (h : Can q a) (hk : a.kind = 11) (b : DB) (u v : World) (A : Option Addr) (c : Nat) (hD : Doings b u v) (ho : v.ownsRow 0 91 2 (.slice A q.list.length c) q.list.length (itCells q.list)) (hL : Its v L a.make.list) :
    Calls Tryz.prog 147 #[recV q A c, actV a L cl, .pointer (some ⟨b.b8, 0, none⟩)] v (DPost (RU.doR q a).1 (RU.doR q a).2 A v) := by
  have _x := And.intro h (And.intro hD (And.intro ho hL))
  have hd : RU.doR q a = if RU.w64 (q.num - a.n) < q.low then (q, RU.err 10) else ({ q with num := RU.w64 (q.num - a.n) }, RU.err 0) := by unfold RU.doR; simp [hk]
  rw [hd]
  by_cases hc : RU.w64 (q.num - a.n) < q.low
  · rw [if_pos hc]
    exact (changeOut_over b.b8 q a A L c cl v hD.c8 hc).mono fun e w' x => DPost.of_do x ho
  · rw [if_neg hc]
    exact (changeOut_fits b.b8 q a A L c cl v hD.c8 hc).mono fun e w' x => DPost.of_do x ho
theorem doing_12 (q : RC.Rc) (a : AC.Ac) (L : Option Addr) (cl : Nat) (h : Can q a) (hk : a.kind = 12) (b : DB) (u v : World) (A : Option Addr) (c : Nat) (hD : Doings b u v) (ho : v.ownsRow 0 91 2 (.slice A q.list.length c) q.list.length (itCells q.list)) (hL : Its v L a.make.list) :
    Calls Tryz.prog 148 #[recV q A c, actV a L cl, .pointer (some ⟨b.b9, 0, none⟩)] v (DPost (RU.doR q a).1 (RU.doR q a).2 A v) := by
  have _x := And.intro h (And.intro hD (And.intro ho hL))
  have hd : RU.doR q a = if a.n ≤ q.num then (q, RU.err 0) else (q, RU.err 11) := by unfold RU.doR; simp [hk]
  rw [hd]
  by_cases hc : a.n ≤ q.num
  · rw [if_pos hc]
    exact (testReach_yes b.b9 q a A L c cl v hD.c9 hc).mono fun e w' x => DPost.of_do x ho
  · rw [if_neg hc]
    exact (testReach_no b.b9 q a A L c cl v hD.c9 hc).mono fun e w' x => DPost.of_do x ho
theorem doing_13 (q : RC.Rc) (a : AC.Ac) (L : Option Addr) (cl : Nat) (h : Can q a) (hk : a.kind = 13) (b : DB) (u v : World) (A : Option Addr) (c : Nat) (hD : Doings b u v) (ho : v.ownsRow 0 91 2 (.slice A q.list.length c) q.list.length (itCells q.list)) (hL : Its v L a.make.list) :
    Calls Tryz.prog 147 #[recV q A c, actV a L cl, .pointer (some ⟨b.b11, 0, none⟩)] v (DPost (RU.doR q a).1 (RU.doR q a).2 A v) := by
  have _x := And.intro h (And.intro hD (And.intro ho hL))
  have hd : RU.doR q a = ({ q with real := MF.mx q.real a.x }, RU.err 0) := by unfold RU.doR; simp [hk]
  rw [hd]
  exact (changeRealMax_any b.b11 b.b10 q a A L c cl v hD.c11 hD.c10 h.rok.real h.aok.x).mono fun e w' x => DPost.of_do x ho
theorem doing_14 (q : RC.Rc) (a : AC.Ac) (L : Option Addr) (cl : Nat) (h : Can q a) (hk : a.kind = 14) (b : DB) (u v : World) (A : Option Addr) (c : Nat) (hD : Doings b u v) (ho : v.ownsRow 0 91 2 (.slice A q.list.length c) q.list.length (itCells q.list)) (hL : Its v L a.make.list) :
    Calls Tryz.prog 147 #[recV q A c, actV a L cl, .pointer (some ⟨b.b13, 0, none⟩)] v (DPost (RU.doR q a).1 (RU.doR q a).2 A v) := by
  have _x := And.intro h (And.intro hD (And.intro ho hL))
  have hd : RU.doR q a = ({ q with real := MF.mn q.real a.x }, RU.err 0) := by unfold RU.doR; simp [hk]
  rw [hd]
  exact (changeRealMin_any b.b13 b.b12 q a A L c cl v hD.c13 hD.c12 h.rok.real h.aok.x).mono fun e w' x => DPost.of_do x ho
theorem doing_15 (q : RC.Rc) (a : AC.Ac) (L : Option Addr) (cl : Nat) (h : Can q a) (hk : a.kind = 15) (b : DB) (u v : World) (A : Option Addr) (c : Nat) (hD : Doings b u v) (ho : v.ownsRow 0 91 2 (.slice A q.list.length c) q.list.length (itCells q.list)) (hL : Its v L a.make.list) :
    Calls Tryz.prog 147 #[recV q A c, actV a L cl, .pointer (some ⟨b.b15, 0, none⟩)] v (DPost (RU.doR q a).1 (RU.doR q a).2 A v) := by
  have _x := And.intro h (And.intro hD (And.intro ho hL))
  have hd : RU.doR q a = ({ q with real := MF.plus q.real a.x }, RU.err 0) := by unfold RU.doR; simp [hk]
  rw [hd]
  exact (changeRealPlus_any b.b15 b.b14 q a A L c cl v hD.c15 hD.c14).mono fun e w' x => DPost.of_do x ho
theorem doing_16 (q : RC.Rc) (a : AC.Ac) (L : Option Addr) (cl : Nat) (h : Can q a) (hk : a.kind = 16) (b : DB) (u v : World) (A : Option Addr) (c : Nat) (hD : Doings b u v) (ho : v.ownsRow 0 91 2 (.slice A q.list.length c) q.list.length (itCells q.list)) (hL : Its v L a.make.list) :
    Calls Tryz.prog 147 #[recV q A c, actV a L cl, .pointer (some ⟨b.b17, 0, none⟩)] v (DPost (RU.doR q a).1 (RU.doR q a).2 A v) := by
  have _x := And.intro h (And.intro hD (And.intro ho hL))
  have hd : RU.doR q a = ({ q with real := MF.times q.real a.x }, RU.err 0) := by unfold RU.doR; simp [hk]
  rw [hd]
  exact (changeRealTimes_any b.b17 b.b16 q a A L c cl v hD.c17 hD.c16).mono fun e w' x => DPost.of_do x ho
theorem doing_17 (q : RC.Rc) (a : AC.Ac) (L : Option Addr) (cl : Nat) (h : Can q a) (hk : a.kind = 17) (b : DB) (u v : World) (A : Option Addr) (c : Nat) (hD : Doings b u v) (ho : v.ownsRow 0 91 2 (.slice A q.list.length c) q.list.length (itCells q.list)) (hL : Its v L a.make.list) :
    Calls Tryz.prog 147 #[recV q A c, actV a L cl, .pointer (some ⟨b.b19, 0, none⟩)] v (DPost (RU.doR q a).1 (RU.doR q a).2 A v) := by
  have _x := And.intro h (And.intro hD (And.intro ho hL))
  have hd : RU.doR q a = ({ q with real := a.x }, RU.err 0) := by unfold RU.doR; simp [hk]
  rw [hd]
  exact (changeRealFix_any b.b19 b.b18 q a A L c cl v hD.c19 hD.c18).mono fun e w' x => DPost.of_do x ho
theorem doing_18 (q : RC.Rc) (a : AC.Ac) (L : Option Addr) (cl : Nat) (h : Can q a) (hk : a.kind = 18) (b : DB) (u v : World) (A : Option Addr) (c : Nat) (hD : Doings b u v) (ho : v.ownsRow 0 91 2 (.slice A q.list.length c) q.list.length (itCells q.list)) (hL : Its v L a.make.list) :
    Calls Tryz.prog 147 #[recV q A c, actV a L cl, .pointer (some ⟨b.b20, 0, none⟩)] v (DPost (RU.doR q a).1 (RU.doR q a).2 A v) := by
  have _x := And.intro h (And.intro hD (And.intro ho hL))
  have hd : RU.doR q a = if RU.at_ q.list ⟨0, a.s⟩ = true ∨ (q.list.length : Int) < q.cap then (RU.joined q a, RU.err 0) else (q, RU.err 8) := by unfold RU.doR; simp [hk]
  rw [hd]
  by_cases hc : RU.at_ q.list ⟨0, a.s⟩ = true ∨ (q.list.length : Int) < q.cap
  · rw [if_pos hc]
    exact (changeJoin_fits b.b20 q a A L c cl v hD.c20 ho (cap_of_own ho) (by have := h.len; omega) (by have := h.len; unfold Lim; omega) h.rok.list hc).mono fun e w' x => DPost.of_dw x
  · rw [if_neg hc]
    exact (changeJoin_full b.b20 q a A L c cl v hD.c20 ho (by have := h.len; unfold Lim; omega) h.rok.list (by cases hx : RU.at_ q.list ⟨0, a.s⟩ with | true => exact absurd (Or.inl hx) hc | false => rfl) (by have := fun x => hc (Or.inr x); omega)).mono fun e w' x => DPost.of_do x ho
theorem doing_19 (q : RC.Rc) (a : AC.Ac) (L : Option Addr) (cl : Nat) (h : Can q a) (hk : a.kind = 19) (b : DB) (u v : World) (A : Option Addr) (c : Nat) (hD : Doings b u v) (ho : v.ownsRow 0 91 2 (.slice A q.list.length c) q.list.length (itCells q.list)) (hL : Its v L a.make.list) :
    Calls Tryz.prog 147 #[recV q A c, actV a L cl, .pointer (some ⟨b.b21, 0, none⟩)] v (DPost (RU.doR q a).1 (RU.doR q a).2 A v) := by
  have _x := And.intro h (And.intro hD (And.intro ho hL))
  have hd : RU.doR q a = (RU.left q a, RU.err 0) := by unfold RU.doR; simp [hk]
  rw [hd]
  exact (changeLeave_any b.b21 q a A L c cl v hD.c21 ho (by have := h.len; unfold Lim; omega) h.rok.list).mono fun e w' x => DPost.of_dw x
theorem doing_20 (q : RC.Rc) (a : AC.Ac) (L : Option Addr) (cl : Nat) (h : Can q a) (hk : a.kind = 20) (b : DB) (u v : World) (A : Option Addr) (c : Nat) (hD : Doings b u v) (ho : v.ownsRow 0 91 2 (.slice A q.list.length c) q.list.length (itCells q.list)) (hL : Its v L a.make.list) :
    Calls Tryz.prog 148 #[recV q A c, actV a L cl, .pointer (some ⟨b.b22, 0, none⟩)] v (DPost (RU.doR q a).1 (RU.doR q a).2 A v) := by
  have _x := And.intro h (And.intro hD (And.intro ho hL))
  have hd : RU.doR q a = if RU.at_ q.list ⟨0, a.s⟩ = true then (q, RU.err 0) else (q, RU.err 11) := by unfold RU.doR; simp [hk]
  rw [hd]
  by_cases hc : RU.at_ q.list ⟨0, a.s⟩ = true
  · rw [if_pos hc]
    exact (testHas_yes b.b22 q a A L c cl v hD.c22 (Its.own ho) (by have := h.len; unfold Lim; omega) h.rok.list hc).mono fun e w' x => DPost.of_do x ho
  · rw [if_neg hc]
    exact (testHas_no b.b22 q a A L c cl v hD.c22 (Its.own ho) (by have := h.len; unfold Lim; omega) h.rok.list (by simpa using hc)).mono fun e w' x => DPost.of_do x ho
theorem doing_21 (q : RC.Rc) (a : AC.Ac) (L : Option Addr) (cl : Nat) (h : Can q a) (hk : a.kind = 21) (b : DB) (u v : World) (A : Option Addr) (c : Nat) (hD : Doings b u v) (ho : v.ownsRow 0 91 2 (.slice A q.list.length c) q.list.length (itCells q.list)) (hL : Its v L a.make.list) :
    Calls Tryz.prog 147 #[recV q A c, actV a L cl, .pointer (some ⟨b.b23, 0, none⟩)] v (DPost (RU.doR q a).1 (RU.doR q a).2 A v) := by
  have _x := And.intro h (And.intro hD (And.intro ho hL))
  have hd : RU.doR q a = (RU.offered q a, RU.err 0) := by unfold RU.doR; simp [hk]
  rw [hd]
  exact (changeOffer_any b.b23 q a A L c cl v hD.c23 ho (cap_of_own ho) (by have := h.len; omega) (by have := h.len; unfold Lim; omega) h.rok.list h.aok.x h.cap).mono fun e w' x => DPost.of_dw x
end Go.Proofs.YtbkcmnmbcldjoaaGreatDoor
namespace Go.Proofs.YtbkcmnmbcldjoaaGreatDoor
open Go.RowKit MM
/-- Boxes that were made behind w2; of what was there nothing turned. -/
structure Bx (A : Option Addr) (w2 W : World) (gs : List (Nat × Obj)) : Prop where
  bel : Below w2.heap.size w2 W
  inn : ∀ k, ob A = some k → k < w2.heap.size
  row : ∀ x ∈ gs, w2.heap.size ≤ x.1 ∧ W.heap[x.1]? = some x.2
  apart : gs.Pairwise fun x y => x.1 ≠ y.1
theorem Bx.start {A : Option Addr} {w2 : World} (h : ∀ k, ob A = some k → k < w2.heap.size) : Bx A w2 w2.drew [] :=
  ⟨below_drew (Below.refl _ _), h, fun _ h => (by cases h), List.Pairwise.nil⟩
theorem Bx.base {A : Option Addr} {w2 : World} (h : ∀ k, ob A = some k → k < w2.heap.size) : Bx A w2 w2 [] :=
  ⟨Below.refl _ _, h, fun _ h => (by cases h), List.Pairwise.nil⟩
theorem Bx.drew {A : Option Addr} {w2 W : World} {gs : List (Nat × Obj)} (h : Bx A w2 W gs) : Bx A w2 W.drew gs :=
  ⟨below_drew h.bel, h.inn, h.row, h.apart⟩
theorem Bx.alloc {A : Option Addr} {w2 W : World} {gs : List (Nat × Obj)} {o : Obj} (h : Bx A w2 W gs) : Bx A w2 (W.alloc o) ((W.heap.size, o) :: gs) := by
  refine ⟨h.bel.alloc h.bel.size _, h.inn, fun x hx => ?_, List.Pairwise.cons (fun y hy => ?_) h.apart⟩
  · rcases List.mem_cons.1 hx with rfl | hx
    · exact ⟨h.bel.size, heap_alloc_new W o⟩
    · have := h.row x hx
      exact ⟨this.1, (heap_alloc_old W o (lt_of_heap this.2)).trans this.2⟩
  · have := lt_of_heap (h.row y hy).2
    show W.heap.size ≠ y.1
    omega
theorem Bx.kp {A : Option Addr} {w2 W : World} {gs : List (Nat × Obj)} (h : Bx A w2 W gs) : Kp (fun k => ob A = some k) w2 W := Kp.of_below h.bel _
theorem Bx.below {A : Option Addr} {w2 W v : World} {gs : List (Nat × Obj)} (h : Bx A w2 W gs) (hb : Below W.heap.size W v) : Bx A w2 v gs :=
  ⟨h.bel.trans (hb.mono h.bel.size), h.inn, fun x hx => ⟨(h.row x hx).1, (hb.block _ (lt_of_heap (h.row x hx).2)).trans (h.row x hx).2⟩, h.apart⟩
/-- The same behind what the act did: the lists of what it answered. -/
structure Bz (p : RC.Rc) (x : RU.Ans) (A : Option Addr) (w2 : World) (A1 : Option Addr) (c1 : Nat) (B : Option Addr) (cb : Nat) (W : World) (gs : List (Nat × Obj)) : Prop where
  kp : Kp (fun k => ob A = some k) w2 W
  inn : ∀ k, ob A = some k → k < w2.heap.size
  row : ∀ x ∈ gs, w2.heap.size ≤ x.1 ∧ W.heap[x.1]? = some x.2
  apart : gs.Pairwise fun x y => x.1 ≠ y.1
  own1 : W.ownsRow 0 91 2 (.slice A1 p.list.length c1) p.list.length (itCells p.list)
  own2 : W.ownsRow 0 91 2 (.slice B x.rc.list.length cb) x.rc.list.length (itCells x.rc.list)
  new1 : ∀ k, ob A1 = some k → (ob A = some k ∨ w2.heap.size ≤ k) ∧ ∀ y ∈ gs, y.1 ≠ k
  new2 : ∀ k, ob B = some k → w2.heap.size ≤ k ∧ ob A1 ≠ some k ∧ ∀ y ∈ gs, y.1 ≠ k
section
variable {p : RC.Rc} {x : RU.Ans} {A : Option Addr} {w2 : World} {A1 : Option Addr} {c1 : Nat} {B : Option Addr} {cb : Nat} {W : World} {gs : List (Nat × Obj)}
theorem in_own1 (h : Bz p x A w2 A1 c1 B cb W gs) : ∀ k, ob A1 = some k → k < W.heap.size := in_of_own h.own1
theorem in_own2 (h : Bz p x A w2 A1 c1 B cb W gs) : ∀ k, ob B = some k → k < W.heap.size := in_of_own h.own2
theorem Bz.alloc {o : Obj} (h : Bz p x A w2 A1 c1 B cb W gs) : Bz p x A w2 A1 c1 B cb (W.alloc o) ((W.heap.size, o) :: gs) := by
  refine ⟨h.kp.alloc o, h.inn, fun x hx => ?_, List.Pairwise.cons (fun y hy => ?_) h.apart, own_below h.own1 (below1 W o), own_below h.own2 (below1 W o), fun k e => ⟨(h.new1 k e).1, fun y hy => ?_⟩, fun k e => ⟨(h.new2 k e).1, (h.new2 k e).2.1, fun y hy => ?_⟩⟩
  · rcases List.mem_cons.1 hx with rfl | hx
    · exact ⟨h.kp.size, heap_alloc_new W o⟩
    · have := h.row x hx
      exact ⟨this.1, (heap_alloc_old W o (lt_of_heap this.2)).trans this.2⟩
  · have := lt_of_heap (h.row y hy).2
    show W.heap.size ≠ y.1
    omega
  · rcases List.mem_cons.1 hy with rfl | hy
    · have := in_own1 h k e
      show W.heap.size ≠ k
      omega
    · exact (h.new1 k e).2 y hy
  · rcases List.mem_cons.1 hy with rfl | hy
    · have := in_own2 h k e
      show W.heap.size ≠ k
      omega
    · exact (h.new2 k e).2.2 y hy
theorem Bz.allocG {o : Obj} {g : Nat} (h : Bz p x A w2 A1 c1 B cb W gs) (hg : W.heap.size = g) : Bz p x A w2 A1 c1 B cb (W.alloc o) ((g, o) :: gs) := by subst hg; exact h.alloc
theorem Bz.ne {g g' : Nat} {o o' : Obj} (h : Bz p x A w2 A1 c1 B cb W ((g, o) :: (g', o') :: gs)) : g ≠ g' := (List.pairwise_cons.1 h.apart).1 (g', o') (List.mem_cons_self ..)
theorem Bz.swap {y z : Nat × Obj} (h : Bz p x A w2 A1 c1 B cb W [y, z]) : Bz p x A w2 A1 c1 B cb W [z, y] := by
  have hm : ∀ u, u ∈ [z, y] → u ∈ [y, z] := fun u hu => by
    rcases List.mem_cons.1 hu with rfl | hu
    · simp
    · simp at hu; subst hu; simp
  refine ⟨h.kp, h.inn, fun u hu => h.row u (hm u hu), ?_, h.own1, h.own2, fun k e => ⟨(h.new1 k e).1, fun u hu => (h.new1 k e).2 u (hm u hu)⟩, fun k e => ⟨(h.new2 k e).1, (h.new2 k e).2.1, fun u hu => (h.new2 k e).2.2 u (hm u hu)⟩⟩
  have := h.apart
  simp at this ⊢
  exact fun e => this e.symm
/-- A box is written: W' is W but for that box. -/
theorem Bz.wrote {W' : World} {g : Nat} {o o' : Obj} (h : Bz p x A w2 A1 c1 B cb W ((g, o) :: gs)) (hk : Kp (fun k => k = g) W W') (hg : W'.heap[g]? = some o') : Bz p x A w2 A1 c1 B cb W' ((g, o') :: gs) := by
  have hg2 := (h.row (g, o) (List.mem_cons_self ..)).1
  refine ⟨h.kp.trans (hk.mono (S' := fun k => w2.heap.size ≤ k) fun i _ e => by subst e; exact hg2) (fun i hi x => by omega), h.inn, fun u hu => ?_, ?_, hk.own h.own1 (fun k e x => ?_), hk.own h.own2 (fun k e x => ?_), fun k e => ⟨(h.new1 k e).1, fun u hu => ?_⟩, fun k e => ⟨(h.new2 k e).1, (h.new2 k e).2.1, fun u hu => ?_⟩⟩
  · rcases List.mem_cons.1 hu with rfl | hu
    · exact ⟨hg2, hg⟩
    · have h1 := h.row u (List.mem_cons_of_mem _ hu)
      have h2 := (List.pairwise_cons.1 h.apart).1 u hu
      exact ⟨h1.1, (hk.block _ (lt_of_heap h1.2) (fun e => h2 e.symm)).trans h1.2⟩
  · have h2 := List.pairwise_cons.1 h.apart
    exact List.pairwise_cons.2 ⟨fun u hu => h2.1 u hu, h2.2⟩
  · rw [ownBlock_slice] at e
    exact (h.new1 k e).2 _ (List.mem_cons_self ..) x.symm
  · rw [ownBlock_slice] at e
    exact (h.new2 k e).2.2 _ (List.mem_cons_self ..) x.symm
  · rcases List.mem_cons.1 hu with rfl | hu
    · exact (h.new1 k e).2 (g, o) (List.mem_cons_self ..)
    · exact (h.new1 k e).2 u (List.mem_cons_of_mem _ hu)
  · rcases List.mem_cons.1 hu with rfl | hu
    · exact (h.new2 k e).2.2 (g, o) (List.mem_cons_self ..)
    · exact (h.new2 k e).2.2 u (List.mem_cons_of_mem _ hu)
theorem Bz.cells {g : Nat} {cs : Array Value} {t : TypeId} (h : Bz p x A w2 A1 c1 B cb W ((g, .cells cs t (0, 0)) :: gs)) : ∀ o, W.cell? ⟨g, o, none⟩ = cs[o]? :=
  fun o => cell_of_row W _ o _ _ (0, 0) (h.row _ (List.mem_cons_self ..)).2
theorem Bz.froz {g : Nat} {cs : Array Value} {t : TypeId} (h : Bz p x A w2 A1 c1 B cb W ((g, .cells cs t (0, 0)) :: gs)) : ∀ o, W.frozen? ⟨g, o, none⟩ = false :=
  fun o => frozen_of_row _ _ o _ _ (h.row _ (List.mem_cons_self ..)).2
theorem Bz.low {g : Nat} {o : Obj} (h : Bz p x A w2 A1 c1 B cb W ((g, o) :: gs)) : w2.heap.size ≤ g := (h.row (g, o) (List.mem_cons_self ..)).1
theorem Bz.lt {g : Nat} {o : Obj} (h : Bz p x A w2 A1 c1 B cb W ((g, o) :: gs)) : g < W.heap.size := lt_of_heap (h.row (g, o) (List.mem_cons_self ..)).2
end
section
variable {p : RC.Rc} {x : RU.Ans} {A : Option Addr} {w2 : World} {A1 : Option Addr} {n1 : Nat} {B : Option Addr} {cb : Nat} {W : World} {gs : List (Nat × Obj)} {g : Nat} {t : TypeId} {y : Nat × Obj}
theorem Bz.recA {x0 x1 x2 x3 x4 x5 x6 x7 c0 c1 c2 c3 c4 c5 c6 c7 : Value} (h : Bz p x A w2 A1 n1 B cb W ((g, .cells #[x0, x1, x2, x3, x4, x5, x6, x7] t (0, 0)) :: gs)) : Bz p x A w2 A1 n1 B cb ((((((((W.setCell ⟨g, 0, none⟩ c0).setCell ⟨g, 1, none⟩ c1).setCell ⟨g, 2, none⟩ c2).setCell ⟨g, 3, none⟩ c3).setCell ⟨g, 4, none⟩ c4).setCell ⟨g, 5, none⟩ c5).setCell ⟨g, 6, none⟩ c6).setCell ⟨g, 7, none⟩ c7) ((g, .cells #[c0, c1, c2, c3, c4, c5, c6, c7] t (0, 0)) :: gs) :=
  h.wrote (kp8g (Kp.refl _ _) (.inl rfl)) (rec_stores (h.row _ (List.mem_cons_self ..)).2)
theorem Bz.recB {x0 x1 x2 x3 x4 x5 x6 x7 c0 c1 c2 c3 c4 c5 c6 c7 : Value} (h : Bz p x A w2 A1 n1 B cb W [y, (g, .cells #[x0, x1, x2, x3, x4, x5, x6, x7] t (0, 0))]) : Bz p x A w2 A1 n1 B cb ((((((((W.setCell ⟨g, 0, none⟩ c0).setCell ⟨g, 1, none⟩ c1).setCell ⟨g, 2, none⟩ c2).setCell ⟨g, 3, none⟩ c3).setCell ⟨g, 4, none⟩ c4).setCell ⟨g, 5, none⟩ c5).setCell ⟨g, 6, none⟩ c6).setCell ⟨g, 7, none⟩ c7) [y, (g, .cells #[c0, c1, c2, c3, c4, c5, c6, c7] t (0, 0))] :=
  h.swap.recA.swap
theorem Bz.ansA {x0 x1 x2 x3 x4 x5 x6 x7 x8 x9 c0 c1 c2 c3 c4 c5 c6 c7 c8 c9 : Value} (h : Bz p x A w2 A1 n1 B cb W ((g, .cells #[x0, x1, x2, x3, x4, x5, x6, x7, x8, x9] t (0, 0)) :: gs)) : Bz p x A w2 A1 n1 B cb ((((((((((W.setCell ⟨g, 0, none⟩ c0).setCell ⟨g, 1, none⟩ c1).setCell ⟨g, 2, none⟩ c2).setCell ⟨g, 3, none⟩ c3).setCell ⟨g, 4, none⟩ c4).setCell ⟨g, 5, none⟩ c5).setCell ⟨g, 6, none⟩ c6).setCell ⟨g, 7, none⟩ c7).setCell ⟨g, 8, none⟩ c8).setCell ⟨g, 9, none⟩ c9) ((g, .cells #[c0, c1, c2, c3, c4, c5, c6, c7, c8, c9] t (0, 0)) :: gs) :=
  h.wrote (kp10 (Kp.refl _ _) (.inl rfl)) (ans_all (h.row _ (List.mem_cons_self ..)).2)
theorem Bz.ansB {x0 x1 x2 x3 x4 x5 x6 x7 x8 x9 c0 c1 c2 c3 c4 c5 c6 c7 c8 c9 : Value} (h : Bz p x A w2 A1 n1 B cb W [y, (g, .cells #[x0, x1, x2, x3, x4, x5, x6, x7, x8, x9] t (0, 0))]) : Bz p x A w2 A1 n1 B cb ((((((((((W.setCell ⟨g, 0, none⟩ c0).setCell ⟨g, 1, none⟩ c1).setCell ⟨g, 2, none⟩ c2).setCell ⟨g, 3, none⟩ c3).setCell ⟨g, 4, none⟩ c4).setCell ⟨g, 5, none⟩ c5).setCell ⟨g, 6, none⟩ c6).setCell ⟨g, 7, none⟩ c7).setCell ⟨g, 8, none⟩ c8).setCell ⟨g, 9, none⟩ c9) [y, (g, .cells #[c0, c1, c2, c3, c4, c5, c6, c7, c8, c9] t (0, 0))] :=
  h.swap.ansA.swap
end
theorem doings_bx {A : Option Addr} {w2 W : World} {gs : List (Nat × Obj)} (h : Bx A w2 W gs) :
    Calls Tryz.prog 85 #[] W fun e v => ∃ b, e = .returned (.agg (doingsV b)) ∧ Doings b w2 v ∧ Bx A w2 v gs :=
  (doings_any W).mono fun _ _ ⟨b, he, hD⟩ => ⟨b, he, ⟨hD.c1, hD.c2, hD.c3, hD.c4, hD.c5, hD.c6, hD.c7, hD.c8, hD.c9, hD.c10, hD.c11, hD.c12, hD.c13, hD.c14, hD.c15, hD.c16, hD.c17, hD.c18, hD.c19, hD.c20, hD.c21, hD.c22, hD.c23, (h.below hD.below).bel⟩, h.below hD.below⟩
/-- What the act did, behind boxes. -/
theorem bz_of_call {p : RC.Rc} {x : RU.Ans} {A : Option Addr} {w2 V w' : World} {gs : List (Nat × Obj)} {e : Ending} (h : Bx A w2 V gs) (hp : DPost p x A V e w') :
    ∃ A1 c1 B cb, e = .returned (.tuple #[recV p A1 c1, ansV x.code x.num x.rc B cb]) ∧ Bz p x A w2 A1 c1 B cb w' gs := by
  obtain ⟨A1, c1, B, cb, rfl, o1, o2, n1, n2, hk⟩ := hp
  have hs := h.bel.size
  have hlt : ∀ y ∈ gs, y.1 < V.heap.size := fun y hy => lt_of_heap (h.row y hy).2
  refine ⟨A1, c1, B, cb, rfl, ⟨(Kp.of_below h.bel _).same hk, h.inn, fun y hy => ⟨(h.row y hy).1, (hk.block _ (hlt y hy) (fun e => ?_)).trans (h.row y hy).2⟩, h.apart, o1, o2, fun k e => ⟨?_, fun y hy x => ?_⟩, fun k e => ⟨?_, (n2 k e).2, fun y hy x => ?_⟩⟩⟩
  · have h1 := h.inn _ e
    have h2 := (h.row y hy).1
    omega
  · rcases n1 k e with h1 | h1
    · exact .inl h1
    · exact .inr (by omega)
  · have h1 := hlt y hy
    have h2 := (h.row y hy).1
    rcases n1 k e with h3 | h3
    · have := h.inn _ h3; omega
    · omega
  · have := (n2 k e).1; omega
  · have h1 := hlt y hy
    have := (n2 k e).1; omega
end Go.Proofs.YtbkcmnmbcldjoaaGreatDoor
