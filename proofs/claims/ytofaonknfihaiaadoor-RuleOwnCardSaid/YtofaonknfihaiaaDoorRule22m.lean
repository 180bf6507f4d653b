/- Contracts of package rule: what each kind of acts does, in one form. -/
import Derived.Test.YtofaonknfihaiaaDoorRule21m
namespace Go.Proofs.YtofaonknfihaiaaDoor
open Go.RowKit MM

/-- What a doing answers: the record, in the list that it was handed or in a new one; the answer, with a list of its own. -/
def DPost (p : RC.Rc) (x : RU.Ans) (A : Option Addr) (w : World) (e : Ending) (w' : World) : Prop :=
  ∃ A' c' B cb, e = .returned (.tuple #[recV p A' c', ansV x.code x.num x.rc B cb]) ∧ w'.ownsRow 0 49 2 (.slice A' p.list.length c') p.list.length (itCells p.list) ∧ w'.ownsRow 0 49 2 (.slice B x.rc.list.length cb) x.rc.list.length (itCells x.rc.list) ∧ (∀ k, ob A' = some k → ob A = some k ∨ w.heap.size ≤ k) ∧ (∀ k, ob B = some k → w.heap.size ≤ k ∧ ob A' ≠ some k) ∧ Kp (fun k => ob A = some k) w w'

/-- What an act does that isn't refused. -/
def RU.doR (r : RC.Rc) (a : AC.Ac) : RC.Rc × RU.Ans :=
  if a.kind = 1 then (a.make, RU.err 0)
  else if a.kind = 2 then (RC.zero, RU.err 0)
  else if a.kind = 3 then (r, ⟨0, r.kind, RC.zero⟩)
  else if a.kind = 4 then (r, ⟨0, 0, r⟩)
  else if a.kind = 5 then ({ r with text := a.s }, RU.err 0)
  else if a.kind = 6 then ({ r with text := a.s }, ⟨0, 0, r⟩)
  else if a.kind = 7 then ({ r with num := RU.w64 (r.num + a.n) }, RU.err 0)
  else if a.kind = 8 then (if RU.plusOver r a.n = true then (r, RU.err 9) else ({ r with num := RU.w64 (r.num + a.n) }, RU.err 0))
  else if a.kind = 9 then (if a.n ≤ r.num then (r, RU.err 0) else (r, RU.err 11))
  else if a.kind = 10 then (if r.high < RU.w64 (r.num + a.n) then (r, RU.err 9) else ({ r with num := RU.w64 (r.num + a.n) }, RU.err 0))
  else if a.kind = 11 then (if RU.w64 (r.num - a.n) < r.low then (r, RU.err 10) else ({ r with num := RU.w64 (r.num - a.n) }, RU.err 0))
  else if a.kind = 12 then (if a.n ≤ r.num then (r, RU.err 0) else (r, RU.err 11))
  else if a.kind = 13 then ({ r with real := MF.mx r.real a.x }, RU.err 0)
  else if a.kind = 14 then ({ r with real := MF.mn r.real a.x }, RU.err 0)
  else if a.kind = 15 then ({ r with real := MF.plus r.real a.x }, RU.err 0)
  else if a.kind = 16 then ({ r with real := MF.times r.real a.x }, RU.err 0)
  else if a.kind = 17 then ({ r with real := a.x }, RU.err 0)
  else if a.kind = 18 then (if RU.at_ r.list ⟨0, a.s⟩ = true ∨ (r.list.length : Int) < r.cap then (RU.joined r a, RU.err 0) else (r, RU.err 8))
  else if a.kind = 19 then (RU.left r a, RU.err 0)
  else if a.kind = 20 then (if RU.at_ r.list ⟨0, a.s⟩ = true then (r, RU.err 0) else (r, RU.err 11))
  else if a.kind = 21 then (RU.offered r a, RU.err 0)
  else (r, RU.err 0)

section
variable {p q : RC.Rc} {A : Option Addr} {c code : Nat} {w w' : World} {e : Ending}
theorem DPost.of_do (h : DoPost p A c code w e w') (ho : w.ownsRow 0 49 2 (.slice A p.list.length c) p.list.length (itCells p.list)) : DPost p (RU.err code) A w e w' := by
  obtain ⟨rfl, hb⟩ := h
  exact ⟨A, c, none, 0, rfl, own_below ho hb, World.ownsRow_nil _ _ _ _, fun k e => .inl e, fun k e => (by cases e), Kp.of_below hb _⟩
theorem DPost.of_none (h : DoPost RC.zero none 0 code w e w') : DPost RC.zero (RU.err code) A w e w' := by
  obtain ⟨rfl, hb⟩ := h
  exact ⟨none, 0, none, 0, rfl, World.ownsRow_nil _ _ _ _, World.ownsRow_nil _ _ _ _, fun k e => (by cases e), fun k e => (by cases e), Kp.of_below hb _⟩
theorem DPost.of_gd (h : GdPost p code w e w') : DPost p (RU.err code) A w e w' := by
  obtain ⟨A', c', rfl, ho, hn, hb⟩ := h
  exact ⟨A', c', none, 0, rfl, ho, World.ownsRow_nil _ _ _ _, fun k e => .inr (hn k e), fun k e => (by cases e), Kp.of_below hb _⟩
theorem DPost.of_dw (h : DwPost p code A w e w') : DPost p (RU.err code) A w e w' := by
  obtain ⟨A', c', rfl, ho, hn, hb⟩ := h
  exact ⟨A', c', none, 0, rfl, ho, World.ownsRow_nil _ _ _ _, hn, fun k e => (by cases e), hb⟩
theorem DPost.of_lk (h : LkPost p q A c w e w') (ho : w.ownsRow 0 49 2 (.slice A p.list.length c) p.list.length (itCells p.list)) : DPost p ⟨0, 0, q⟩ A w e w' := by
  obtain ⟨A', c', rfl, ho', hn, hb⟩ := h
  refine ⟨A, c, A', c', rfl, own_below ho hb, ho', fun k e => .inl e, fun k e => ⟨hn k e, fun x => ?_⟩, Kp.of_below hb _⟩
  have h1 := hn k e
  have h2 := in_of_own ho k x
  omega
theorem DPost.of_kind {z : Int} (h : e = .returned (.tuple #[recV p A c, ansV 0 z RC.zero none 0]) ∧ Below w.heap.size w w') (ho : w.ownsRow 0 49 2 (.slice A p.list.length c) p.list.length (itCells p.list)) : DPost p ⟨0, z, RC.zero⟩ A w e w' := by
  obtain ⟨rfl, hb⟩ := h
  exact ⟨A, c, none, 0, rfl, own_below ho hb, World.ownsRow_nil _ _ _ _, fun k e => .inl e, fun k e => (by cases e), Kp.of_below hb _⟩
end

theorem Doings.next {b : DB} {u v v' : World} (h : Doings b u v) (hb : Below v.heap.size v v') : Doings b u v' :=
  ⟨below_keep hb h.c1, below_keep hb h.c2, below_keep hb h.c3, below_keep hb h.c4, below_keep hb h.c5, below_keep hb h.c6, below_keep hb h.c7, below_keep hb h.c8, below_keep hb h.c9, below_keep hb h.c10, below_keep hb h.c11, below_keep hb h.c12, below_keep hb h.c13, below_keep hb h.c14, below_keep hb h.c15, below_keep hb h.c16, below_keep hb h.c17, below_keep hb h.c18, below_keep hb h.c19, below_keep hb h.c20, below_keep hb h.c21, below_keep hb h.c22, below_keep hb h.c23, h.below.trans (hb.mono h.below.size)⟩

theorem cap_of_own {w : World} {A : Option Addr} {n c : Nat} {cs : List Value} (ho : w.ownsRow 0 49 2 (.slice A n c) n cs) : n ≤ c := by
  rcases ho.2 with ⟨h1, h2⟩ | ⟨g, cap, cur, h1, _, _, h2, _⟩
  · omega
  · injection h1 with _ _ h3
    omega

/-- What is known of a record that an act may be done to, and of the act. -/
structure Can (q : RC.Rc) (a : AC.Ac) : Prop where
  rok : q.ok
  aok : a.ok
  len : q.list.length ≤ 32
  cap : 0 ≤ q.cap
  made : a.make.list.length ≤ 1000

theorem doing_1 (q : RC.Rc) (a : AC.Ac) (L : Option Addr) (cl : Nat) (h : Can q a) (hk : a.kind = 1) (b : DB) (u v : World) (A : Option Addr) (c : Nat) (hD : Doings b u v) (ho : v.ownsRow 0 49 2 (.slice A q.list.length c) q.list.length (itCells q.list)) (hL : Its v L a.make.list) :
    Calls Tryd.prog 84 #[recV q A c, actV a L cl, .pointer (some ⟨b.b1, 0, none⟩)] v (DPost (RU.doR q a).1 (RU.doR q a).2 A v) := by
  have _x := And.intro h (And.intro hD (And.intro ho hL))
  have hd : RU.doR q a = (a.make, RU.err 0) := by unfold RU.doR; simp [hk]
  rw [hd]
  exact (changeCreate_any b.b1 q a A L c cl v hD.c1 hL (by have := h.made; unfold Lim; omega)).mono fun e w' x => DPost.of_gd x

theorem doing_2 (q : RC.Rc) (a : AC.Ac) (L : Option Addr) (cl : Nat) (h : Can q a) (hk : a.kind = 2) (b : DB) (u v : World) (A : Option Addr) (c : Nat) (hD : Doings b u v) (ho : v.ownsRow 0 49 2 (.slice A q.list.length c) q.list.length (itCells q.list)) (hL : Its v L a.make.list) :
    Calls Tryd.prog 84 #[recV q A c, actV a L cl, .pointer (some ⟨b.b2, 0, none⟩)] v (DPost (RU.doR q a).1 (RU.doR q a).2 A v) := by
  have _x := And.intro h (And.intro hD (And.intro ho hL))
  have hd : RU.doR q a = (RC.zero, RU.err 0) := by unfold RU.doR; simp [hk]
  rw [hd]
  exact (changeDrop_any b.b2 q a A L c cl v hD.c2).mono fun e w' x => DPost.of_none x

theorem doing_3 (q : RC.Rc) (a : AC.Ac) (L : Option Addr) (cl : Nat) (h : Can q a) (hk : a.kind = 3) (b : DB) (u v : World) (A : Option Addr) (c : Nat) (hD : Doings b u v) (ho : v.ownsRow 0 49 2 (.slice A q.list.length c) q.list.length (itCells q.list)) (hL : Its v L a.make.list) :
    Calls Tryd.prog 52 #[recV q A c, actV a L cl] v (DPost (RU.doR q a).1 (RU.doR q a).2 A v) := by
  have _x := And.intro h (And.intro hD (And.intro ho hL))
  have hd : RU.doR q a = (q, ⟨0, q.kind, RC.zero⟩) := by unfold RU.doR; simp [hk]
  rw [hd]
  exact (tellKind_any q a A L c cl v).mono fun e w' x => DPost.of_kind x ho

theorem doing_4 (q : RC.Rc) (a : AC.Ac) (L : Option Addr) (cl : Nat) (h : Can q a) (hk : a.kind = 4) (b : DB) (u v : World) (A : Option Addr) (c : Nat) (hD : Doings b u v) (ho : v.ownsRow 0 49 2 (.slice A q.list.length c) q.list.length (itCells q.list)) (hL : Its v L a.make.list) :
    Calls Tryd.prog 53 #[recV q A c, actV a L cl] v (DPost (RU.doR q a).1 (RU.doR q a).2 A v) := by
  have _x := And.intro h (And.intro hD (And.intro ho hL))
  have hd : RU.doR q a = (q, ⟨0, 0, q⟩) := by unfold RU.doR; simp [hk]
  rw [hd]
  exact (look_any q a A L c cl v (Its.own ho) (by have := h.len; unfold Lim; omega)).mono fun e w' x => DPost.of_lk x ho

theorem doing_5 (q : RC.Rc) (a : AC.Ac) (L : Option Addr) (cl : Nat) (h : Can q a) (hk : a.kind = 5) (b : DB) (u v : World) (A : Option Addr) (c : Nat) (hD : Doings b u v) (ho : v.ownsRow 0 49 2 (.slice A q.list.length c) q.list.length (itCells q.list)) (hL : Its v L a.make.list) :
    Calls Tryd.prog 84 #[recV q A c, actV a L cl, .pointer (some ⟨b.b3, 0, none⟩)] v (DPost (RU.doR q a).1 (RU.doR q a).2 A v) := by
  have _x := And.intro h (And.intro hD (And.intro ho hL))
  have hd : RU.doR q a = ({ q with text := a.s }, RU.err 0) := by unfold RU.doR; simp [hk]
  rw [hd]
  exact (changePut_any b.b3 q a A L c cl v hD.c3).mono fun e w' x => DPost.of_do x ho

theorem doing_6 (q : RC.Rc) (a : AC.Ac) (L : Option Addr) (cl : Nat) (h : Can q a) (hk : a.kind = 6) (b : DB) (u v : World) (A : Option Addr) (c : Nat) (hD : Doings b u v) (ho : v.ownsRow 0 49 2 (.slice A q.list.length c) q.list.length (itCells q.list)) (hL : Its v L a.make.list) :
    Calls Tryd.prog 55 #[recV q A c, actV a L cl] v (DPost (RU.doR q a).1 (RU.doR q a).2 A v) := by
  have _x := And.intro h (And.intro hD (And.intro ho hL))
  have hd : RU.doR q a = ({ q with text := a.s }, ⟨0, 0, q⟩) := by unfold RU.doR; simp [hk]
  rw [hd]
  exact (swap_any q a A L c cl v (Its.own ho) (by have := h.len; unfold Lim; omega)).mono fun e w' x => DPost.of_lk x ho

theorem doing_7 (q : RC.Rc) (a : AC.Ac) (L : Option Addr) (cl : Nat) (h : Can q a) (hk : a.kind = 7) (b : DB) (u v : World) (A : Option Addr) (c : Nat) (hD : Doings b u v) (ho : v.ownsRow 0 49 2 (.slice A q.list.length c) q.list.length (itCells q.list)) (hL : Its v L a.make.list) :
    Calls Tryd.prog 84 #[recV q A c, actV a L cl, .pointer (some ⟨b.b4, 0, none⟩)] v (DPost (RU.doR q a).1 (RU.doR q a).2 A v) := by
  have _x := And.intro h (And.intro hD (And.intro ho hL))
  have hd : RU.doR q a = ({ q with num := RU.w64 (q.num + a.n) }, RU.err 0) := by unfold RU.doR; simp [hk]
  rw [hd]
  exact (changeAdd_any b.b4 q a A L c cl v hD.c4).mono fun e w' x => DPost.of_do x ho

theorem doing_8 (q : RC.Rc) (a : AC.Ac) (L : Option Addr) (cl : Nat) (h : Can q a) (hk : a.kind = 8) (b : DB) (u v : World) (A : Option Addr) (c : Nat) (hD : Doings b u v) (ho : v.ownsRow 0 49 2 (.slice A q.list.length c) q.list.length (itCells q.list)) (hL : Its v L a.make.list) :
    Calls Tryd.prog 84 #[recV q A c, actV a L cl, .pointer (some ⟨b.b5, 0, none⟩)] v (DPost (RU.doR q a).1 (RU.doR q a).2 A v) := by
  have _x := And.intro h (And.intro hD (And.intro ho hL))
  have hd : RU.doR q a = if RU.plusOver q a.n = true then (q, RU.err 9) else ({ q with num := RU.w64 (q.num + a.n) }, RU.err 0) := by unfold RU.doR; simp [hk]
  rw [hd]
  by_cases hc : RU.plusOver q a.n = true
  · rw [if_pos hc]
    exact (changePlus_over b.b5 q a A L c cl v hD.c5 hc).mono fun e w' x => DPost.of_do x ho
  · rw [if_neg hc]
    exact (changePlus_fits b.b5 q a A L c cl v hD.c5 (by simpa using hc)).mono fun e w' x => DPost.of_do x ho

theorem doing_9 (q : RC.Rc) (a : AC.Ac) (L : Option Addr) (cl : Nat) (h : Can q a) (hk : a.kind = 9) (b : DB) (u v : World) (A : Option Addr) (c : Nat) (hD : Doings b u v) (ho : v.ownsRow 0 49 2 (.slice A q.list.length c) q.list.length (itCells q.list)) (hL : Its v L a.make.list) :
    Calls Tryd.prog 85 #[recV q A c, actV a L cl, .pointer (some ⟨b.b6, 0, none⟩)] v (DPost (RU.doR q a).1 (RU.doR q a).2 A v) := by
  have _x := And.intro h (And.intro hD (And.intro ho hL))
  have hd : RU.doR q a = if a.n ≤ q.num then (q, RU.err 0) else (q, RU.err 11) := by unfold RU.doR; simp [hk]
  rw [hd]
  by_cases hc : a.n ≤ q.num
  · rw [if_pos hc]
    exact (testReach_yes b.b6 q a A L c cl v hD.c6 hc).mono fun e w' x => DPost.of_do x ho
  · rw [if_neg hc]
    exact (testReach_no b.b6 q a A L c cl v hD.c6 hc).mono fun e w' x => DPost.of_do x ho

theorem doing_10 (q : RC.Rc) (a : AC.Ac) (L : Option Addr) (cl : Nat) (h : Can q a) (hk : a.kind = 10) (b : DB) (u v : World) (A : Option Addr) (c : Nat) (hD : Doings b u v) (ho : v.ownsRow 0 49 2 (.slice A q.list.length c) q.list.length (itCells q.list)) (hL : Its v L a.make.list) :
    Calls Tryd.prog 84 #[recV q A c, actV a L cl, .pointer (some ⟨b.b7, 0, none⟩)] v (DPost (RU.doR q a).1 (RU.doR q a).2 A v) := by
  have _x := And.intro h (And.intro hD (And.intro ho hL))
  have hd : RU.doR q a = if q.high < RU.w64 (q.num + a.n) then (q, RU.err 9) else ({ q with num := RU.w64 (q.num + a.n) }, RU.err 0) := by unfold RU.doR; simp [hk]
  rw [hd]
  by_cases hc : q.high < RU.w64 (q.num + a.n)
  · rw [if_pos hc]
    exact (changeIn_over b.b7 q a A L c cl v hD.c7 hc).mono fun e w' x => DPost.of_do x ho
  · rw [if_neg hc]
    exact (changeIn_fits b.b7 q a A L c cl v hD.c7 hc).mono fun e w' x => DPost.of_do x ho

theorem doing_11 (q : RC.Rc) (a : AC.Ac) (L : Option Addr) (cl : Nat) (h : Can q a) (hk : a.kind = 11) (b : DB) (u v : World) (A : Option Addr) (c : Nat) (hD : Doings b u v) (ho : v.ownsRow 0 49 2 (.slice A q.list.length c) q.list.length (itCells q.list)) (hL : Its v L a.make.list) :
    Calls Tryd.prog 84 #[recV q A c, actV a L cl, .pointer (some ⟨b.b8, 0, none⟩)] v (DPost (RU.doR q a).1 (RU.doR q a).2 A v) := by
  have _x := And.intro h (And.intro hD (And.intro ho hL))
  have hd : RU.doR q a = if RU.w64 (q.num - a.n) < q.low then (q, RU.err 10) else ({ q with num := RU.w64 (q.num - a.n) }, RU.err 0) := by unfold RU.doR; simp [hk]
  rw [hd]
  by_cases hc : RU.w64 (q.num - a.n) < q.low
  · rw [if_pos hc]
    exact (changeOut_over b.b8 q a A L c cl v hD.c8 hc).mono fun e w' x => DPost.of_do x ho
  · rw [if_neg hc]
    exact (changeOut_fits b.b8 q a A L c cl v hD.c8 hc).mono fun e w' x => DPost.of_do x ho

theorem doing_12 (q : RC.Rc) (a : AC.Ac) (L : Option Addr) (cl : Nat) (h : Can q a) (hk : a.kind = 12) (b : DB) (u v : World) (A : Option Addr) (c : Nat) (hD : Doings b u v) (ho : v.ownsRow 0 49 2 (.slice A q.list.length c) q.list.length (itCells q.list)) (hL : Its v L a.make.list) :
    Calls Tryd.prog 85 #[recV q A c, actV a L cl, .pointer (some ⟨b.b9, 0, none⟩)] v (DPost (RU.doR q a).1 (RU.doR q a).2 A v) := by
  have _x := And.intro h (And.intro hD (And.intro ho hL))
  have hd : RU.doR q a = if a.n ≤ q.num then (q, RU.err 0) else (q, RU.err 11) := by unfold RU.doR; simp [hk]
  rw [hd]
  by_cases hc : a.n ≤ q.num
  · rw [if_pos hc]
    exact (testReach_yes b.b9 q a A L c cl v hD.c9 hc).mono fun e w' x => DPost.of_do x ho
  · rw [if_neg hc]
    exact (testReach_no b.b9 q a A L c cl v hD.c9 hc).mono fun e w' x => DPost.of_do x ho

theorem doing_13 (q : RC.Rc) (a : AC.Ac) (L : Option Addr) (cl : Nat) (h : Can q a) (hk : a.kind = 13) (b : DB) (u v : World) (A : Option Addr) (c : Nat) (hD : Doings b u v) (ho : v.ownsRow 0 49 2 (.slice A q.list.length c) q.list.length (itCells q.list)) (hL : Its v L a.make.list) :
    Calls Tryd.prog 84 #[recV q A c, actV a L cl, .pointer (some ⟨b.b11, 0, none⟩)] v (DPost (RU.doR q a).1 (RU.doR q a).2 A v) := by
  have _x := And.intro h (And.intro hD (And.intro ho hL))
  have hd : RU.doR q a = ({ q with real := MF.mx q.real a.x }, RU.err 0) := by unfold RU.doR; simp [hk]
  rw [hd]
  exact (changeRealMax_any b.b11 b.b10 q a A L c cl v hD.c11 hD.c10 h.rok.real h.aok.x).mono fun e w' x => DPost.of_do x ho

theorem doing_14 (q : RC.Rc) (a : AC.Ac) (L : Option Addr) (cl : Nat) (h : Can q a) (hk : a.kind = 14) (b : DB) (u v : World) (A : Option Addr) (c : Nat) (hD : Doings b u v) (ho : v.ownsRow 0 49 2 (.slice A q.list.length c) q.list.length (itCells q.list)) (hL : Its v L a.make.list) :
    Calls Tryd.prog 84 #[recV q A c, actV a L cl, .pointer (some ⟨b.b13, 0, none⟩)] v (DPost (RU.doR q a).1 (RU.doR q a).2 A v) := by
  have _x := And.intro h (And.intro hD (And.intro ho hL))
  have hd : RU.doR q a = ({ q with real := MF.mn q.real a.x }, RU.err 0) := by unfold RU.doR; simp [hk]
  rw [hd]
  exact (changeRealMin_any b.b13 b.b12 q a A L c cl v hD.c13 hD.c12 h.rok.real h.aok.x).mono fun e w' x => DPost.of_do x ho

theorem doing_15 (q : RC.Rc) (a : AC.Ac) (L : Option Addr) (cl : Nat) (h : Can q a) (hk : a.kind = 15) (b : DB) (u v : World) (A : Option Addr) (c : Nat) (hD : Doings b u v) (ho : v.ownsRow 0 49 2 (.slice A q.list.length c) q.list.length (itCells q.list)) (hL : Its v L a.make.list) :
    Calls Tryd.prog 84 #[recV q A c, actV a L cl, .pointer (some ⟨b.b15, 0, none⟩)] v (DPost (RU.doR q a).1 (RU.doR q a).2 A v) := by
  have _x := And.intro h (And.intro hD (And.intro ho hL))
  have hd : RU.doR q a = ({ q with real := MF.plus q.real a.x }, RU.err 0) := by unfold RU.doR; simp [hk]
  rw [hd]
  exact (changeRealPlus_any b.b15 b.b14 q a A L c cl v hD.c15 hD.c14).mono fun e w' x => DPost.of_do x ho

theorem doing_16 (q : RC.Rc) (a : AC.Ac) (L : Option Addr) (cl : Nat) (h : Can q a) (hk : a.kind = 16) (b : DB) (u v : World) (A : Option Addr) (c : Nat) (hD : Doings b u v) (ho : v.ownsRow 0 49 2 (.slice A q.list.length c) q.list.length (itCells q.list)) (hL : Its v L a.make.list) :
    Calls Tryd.prog 84 #[recV q A c, actV a L cl, .pointer (some ⟨b.b17, 0, none⟩)] v (DPost (RU.doR q a).1 (RU.doR q a).2 A v) := by
  have _x := And.intro h (And.intro hD (And.intro ho hL))
  have hd : RU.doR q a = ({ q with real := MF.times q.real a.x }, RU.err 0) := by unfold RU.doR; simp [hk]
  rw [hd]
  exact (changeRealTimes_any b.b17 b.b16 q a A L c cl v hD.c17 hD.c16).mono fun e w' x => DPost.of_do x ho

theorem doing_17 (q : RC.Rc) (a : AC.Ac) (L : Option Addr) (cl : Nat) (h : Can q a) (hk : a.kind = 17) (b : DB) (u v : World) (A : Option Addr) (c : Nat) (hD : Doings b u v) (ho : v.ownsRow 0 49 2 (.slice A q.list.length c) q.list.length (itCells q.list)) (hL : Its v L a.make.list) :
    Calls Tryd.prog 84 #[recV q A c, actV a L cl, .pointer (some ⟨b.b19, 0, none⟩)] v (DPost (RU.doR q a).1 (RU.doR q a).2 A v) := by
  have _x := And.intro h (And.intro hD (And.intro ho hL))
  have hd : RU.doR q a = ({ q with real := a.x }, RU.err 0) := by unfold RU.doR; simp [hk]
  rw [hd]
  exact (changeRealFix_any b.b19 b.b18 q a A L c cl v hD.c19 hD.c18).mono fun e w' x => DPost.of_do x ho

theorem doing_18 (q : RC.Rc) (a : AC.Ac) (L : Option Addr) (cl : Nat) (h : Can q a) (hk : a.kind = 18) (b : DB) (u v : World) (A : Option Addr) (c : Nat) (hD : Doings b u v) (ho : v.ownsRow 0 49 2 (.slice A q.list.length c) q.list.length (itCells q.list)) (hL : Its v L a.make.list) :
    Calls Tryd.prog 84 #[recV q A c, actV a L cl, .pointer (some ⟨b.b20, 0, none⟩)] v (DPost (RU.doR q a).1 (RU.doR q a).2 A v) := by
  have _x := And.intro h (And.intro hD (And.intro ho hL))
  have hd : RU.doR q a = if RU.at_ q.list ⟨0, a.s⟩ = true ∨ (q.list.length : Int) < q.cap then (RU.joined q a, RU.err 0) else (q, RU.err 8) := by unfold RU.doR; simp [hk]
  rw [hd]
  by_cases hc : RU.at_ q.list ⟨0, a.s⟩ = true ∨ (q.list.length : Int) < q.cap
  · rw [if_pos hc]
    exact (changeJoin_fits b.b20 q a A L c cl v hD.c20 ho (cap_of_own ho) (by have := h.len; omega) (by have := h.len; unfold Lim; omega) h.rok.list hc).mono fun e w' x => DPost.of_dw x
  · rw [if_neg hc]
    exact (changeJoin_full b.b20 q a A L c cl v hD.c20 ho (by have := h.len; unfold Lim; omega) h.rok.list (by cases hx : RU.at_ q.list ⟨0, a.s⟩ with | true => exact absurd (Or.inl hx) hc | false => rfl) (by have := fun x => hc (Or.inr x); omega)).mono fun e w' x => DPost.of_do x ho

theorem doing_19 (q : RC.Rc) (a : AC.Ac) (L : Option Addr) (cl : Nat) (h : Can q a) (hk : a.kind = 19) (b : DB) (u v : World) (A : Option Addr) (c : Nat) (hD : Doings b u v) (ho : v.ownsRow 0 49 2 (.slice A q.list.length c) q.list.length (itCells q.list)) (hL : Its v L a.make.list) :
    Calls Tryd.prog 84 #[recV q A c, actV a L cl, .pointer (some ⟨b.b21, 0, none⟩)] v (DPost (RU.doR q a).1 (RU.doR q a).2 A v) := by
  have _x := And.intro h (And.intro hD (And.intro ho hL))
  have hd : RU.doR q a = (RU.left q a, RU.err 0) := by unfold RU.doR; simp [hk]
  rw [hd]
  exact (changeLeave_any b.b21 q a A L c cl v hD.c21 ho (by have := h.len; unfold Lim; omega) h.rok.list).mono fun e w' x => DPost.of_dw x

theorem doing_20 (q : RC.Rc) (a : AC.Ac) (L : Option Addr) (cl : Nat) (h : Can q a) (hk : a.kind = 20) (b : DB) (u v : World) (A : Option Addr) (c : Nat) (hD : Doings b u v) (ho : v.ownsRow 0 49 2 (.slice A q.list.length c) q.list.length (itCells q.list)) (hL : Its v L a.make.list) :
    Calls Tryd.prog 85 #[recV q A c, actV a L cl, .pointer (some ⟨b.b22, 0, none⟩)] v (DPost (RU.doR q a).1 (RU.doR q a).2 A v) := by
  have _x := And.intro h (And.intro hD (And.intro ho hL))
  have hd : RU.doR q a = if RU.at_ q.list ⟨0, a.s⟩ = true then (q, RU.err 0) else (q, RU.err 11) := by unfold RU.doR; simp [hk]
  rw [hd]
  by_cases hc : RU.at_ q.list ⟨0, a.s⟩ = true
  · rw [if_pos hc]
    exact (testHas_yes b.b22 q a A L c cl v hD.c22 (Its.own ho) (by have := h.len; unfold Lim; omega) h.rok.list hc).mono fun e w' x => DPost.of_do x ho
  · rw [if_neg hc]
    exact (testHas_no b.b22 q a A L c cl v hD.c22 (Its.own ho) (by have := h.len; unfold Lim; omega) h.rok.list (by simpa using hc)).mono fun e w' x => DPost.of_do x ho

theorem doing_21 (q : RC.Rc) (a : AC.Ac) (L : Option Addr) (cl : Nat) (h : Can q a) (hk : a.kind = 21) (b : DB) (u v : World) (A : Option Addr) (c : Nat) (hD : Doings b u v) (ho : v.ownsRow 0 49 2 (.slice A q.list.length c) q.list.length (itCells q.list)) (hL : Its v L a.make.list) :
    Calls Tryd.prog 84 #[recV q A c, actV a L cl, .pointer (some ⟨b.b23, 0, none⟩)] v (DPost (RU.doR q a).1 (RU.doR q a).2 A v) := by
  have _x := And.intro h (And.intro hD (And.intro ho hL))
  have hd : RU.doR q a = (RU.offered q a, RU.err 0) := by unfold RU.doR; simp [hk]
  rw [hd]
  exact (changeOffer_any b.b23 q a A L c cl v hD.c23 ho (cap_of_own ho) (by have := h.len; omega) (by have := h.len; unfold Lim; omega) h.rok.list h.aok.x h.cap).mono fun e w' x => DPost.of_dw x

end Go.Proofs.YtofaonknfihaiaaDoor
