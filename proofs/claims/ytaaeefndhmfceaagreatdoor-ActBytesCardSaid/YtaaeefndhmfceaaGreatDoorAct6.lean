/- Contracts of package act: an act's fields are read. -/
import Derived.Test.YtaaeefndhmfceaaGreatDoorAct5
import Derived.Test.YtaaeefndhmfceaaGreatDoorRec8
namespace Go.Proofs.YtaaeefndhmfceaaGreatDoor
open Go.RowKit MM

set_option maxHeartbeats 1000000 in
set_option maxRecDepth 100000 in
theorem actKind_any (p : Nat) (A : Option Addr) (c : Nat) (bs : List UInt8) (at_ : Nat) (w : World) (hr : Rd 5 w p A c bs at_) :
    Calls Tryz.prog 76 #[.pointer (some ⟨p, 0, none⟩)] w (RPost 5 34 p A c bs at_ (fun n : Nat => .int .i64 n) (kindA (bs.drop at_)) w) := by
  have hx := rupto_any p A c bs at_ 21 w rfl hr
  unfold kindA
  cases hU : uptoR 21 (bs.drop at_) with
  | bad e n =>
    rw [hU] at hx
    have Hx := Lib.hid hx
    clear hx hU
    go_enter Tryz.func76, Tryz.ntmps76
    go_wp2_with fail
    refine Hx.out.mono ?_
    rintro e w1 ⟨rfl, hr2, hk2⟩
    go_wp2
    exact ⟨rfl, RPost.mkBad (n := n) rfl rfl (by omega) rfl hr2 hk2⟩
  | ok k n =>
    rw [hU] at hx
    have Hx := Lib.hid hx
    rw [andR_ok rfl]
    clear hx hU
    by_cases hk : k = 0
    · subst hk
      go_enter Tryz.func76, Tryz.ntmps76
      go_wp2_with fail
      refine Hx.out.mono ?_
      rintro e w1 ⟨rfl, hr2, hk2⟩
      go_wp2_with fail
      refine (fail_any p A c bs (at_ + n) 5 _ hr2).mono ?_
      rintro e w2 ⟨rfl, rfl⟩
      go_wp2
      exact ⟨rfl, RPost.mkBad (n := n) rfl rfl (by omega) rfl hr2 hk2⟩
    · rw [if_neg hk]
      have hk' : ((k : Int) == 0) = false := by simp; omega
      clear hk
      go_enter Tryz.func76, Tryz.ntmps76
      go_wp2_with fail
      refine Hx.out.mono ?_
      rintro e w1 ⟨rfl, hr2, hk2⟩
      go_wp2
      go_ret
      exact RPost.mkOk (x := k) (n := n) rfl rfl rfl hr2 hk2

/-! ### the fields of each kind -/
section
variable {k : Nat} {must : Bool} {key : ByteArray} {l : List UInt8}
theorem actfR_0 (gN : AC.hasN k = false) (gX : AC.hasX k = false) (gS : AC.hasS k = false) (gM : AC.hasM k = false) : actfR k must key l = .ok ⟨(k : Int), key, 0, 0, ⟨#[]⟩, RC.zero, must⟩ 0 := by
  unfold actfR; rw [optR_no gN, andR_ok rfl, optR_no gX, andR_ok rfl, optR_no gS, andR_ok rfl, optR_no gM]; rfl
theorem actfR_n (gN : AC.hasN k = true) (gX : AC.hasX k = false) (gS : AC.hasS k = false) (gM : AC.hasM k = false) : actfR k must key l = Res.map (fun v => (⟨(k : Int), key, PK.zag v, 0, ⟨#[]⟩, RC.zero, must⟩ : AC.Ac)) (numR l) := by
  unfold actfR; rw [optR_yes gN]
  unfold iR
  cases numR l with
  | bad e n => rfl
  | ok v n => simp only [Res.map]; rw [andR_ok rfl, optR_no gX, andR_ok rfl, optR_no gS, andR_ok rfl, optR_no gM]; rfl
theorem actfR_x (gN : AC.hasN k = false) (gX : AC.hasX k = true) (gS : AC.hasS k = false) (gM : AC.hasM k = false) : actfR k must key l = Res.map (fun v => (⟨(k : Int), key, 0, v, ⟨#[]⟩, RC.zero, must⟩ : AC.Ac)) (floR l) := by
  unfold actfR; rw [optR_no gN, andR_ok rfl, List.drop_zero, shiftR_zero, optR_yes gX]
  cases floR l with
  | bad e n => rfl
  | ok v n => rw [andR_ok rfl, optR_no gS, andR_ok rfl, optR_no gM]; rfl
theorem actfR_s (gN : AC.hasN k = false) (gX : AC.hasX k = false) (gS : AC.hasS k = true) (gM : AC.hasM k = false) : actfR k must key l = Res.map (fun v => (⟨(k : Int), key, 0, 0, ⟨v.toArray⟩, RC.zero, must⟩ : AC.Ac)) (txtR (AC.most k) l) := by
  unfold actfR; rw [optR_no gN, andR_ok rfl, List.drop_zero, shiftR_zero, optR_no gX, andR_ok rfl, List.drop_zero, shiftR_zero, optR_yes gS]
  unfold sR
  cases txtR (AC.most k) l with
  | bad e n => rfl
  | ok v n => simp only [Res.map]; rw [andR_ok rfl, optR_no gM]; rfl
theorem actfR_xs (gN : AC.hasN k = false) (gX : AC.hasX k = true) (gS : AC.hasS k = true) (gM : AC.hasM k = false) : actfR k must key l = andR (floR l) l fun x l2 => Res.map (fun v => (⟨(k : Int), key, 0, x, ⟨v.toArray⟩, RC.zero, must⟩ : AC.Ac)) (txtR (AC.most k) l2) := by
  unfold actfR; rw [optR_no gN, andR_ok rfl, List.drop_zero, shiftR_zero, optR_yes gX]
  cases floR l with
  | bad e n => rfl
  | ok x n =>
    rw [andR_ok rfl, andR_ok rfl, optR_yes gS]
    unfold sR
    cases txtR (AC.most k) (l.drop n) with
    | bad e n => rfl
    | ok v n => simp only [Res.map]; rw [andR_ok rfl, optR_no gM]; rfl
theorem actfR_m (gN : AC.hasN k = false) (gX : AC.hasX k = false) (gS : AC.hasS k = false) (gM : AC.hasM k = true) : actfR k must key l = Res.map (fun v => (⟨(k : Int), key, 0, 0, ⟨#[]⟩, v, must⟩ : AC.Ac)) (recR l) := by
  unfold actfR; rw [optR_no gN, andR_ok rfl, List.drop_zero, shiftR_zero, optR_no gX, andR_ok rfl, List.drop_zero, shiftR_zero, optR_no gS, andR_ok rfl, List.drop_zero, shiftR_zero, optR_yes gM]
end

/-- How things stand while the fields of an act at the block g are read. -/
structure TAt (w : World) (p : Nat) (A : Option Addr) (c : Nat) (bs : List UInt8) (g : Nat) (m : Nat) (cs : Array Value) (u : World) : Prop where
  rd : Rd 5 u p A c bs m
  row : u.heap[g]? = some (.cells cs 27 (0, 0))
  kp : Kp (fun k => k = p ∨ k = g) w u
  rows : RowsAt u
/-- The blocks lie apart. -/
structure Apt (p : Nat) (A : Option Addr) (g : Nat) : Prop where
  pg : p ≠ g
  ag : ob A ≠ some g
  pr : p ≠ 0
  gr : g ≠ 0
section
variable {w : World} {p : Nat} {A : Option Addr} {c : Nat} {bs : List UInt8} {g m m' : Nat} {cs : Array Value} {u u' : World}
theorem TAt.read (h : TAt w p A c bs g m cs u) (ha : Apt p A g) (hr : Rd 5 u' p A c bs m') (hk : Kp (fun k => k = p) u u') : TAt w p A c bs g m' cs u' :=
  ⟨hr, (hk.block _ (lt_of_heap h.row) (fun x => ha.pg (Eq.symm x))).trans h.row, h.kp.trans hk (fun _ _ x => .inl x), h.rows.kp hk (fun x => ha.pr (Eq.symm x))⟩
theorem TAt.look (h : TAt w p A c bs g m cs u) (hb : Below u.heap.size u u') : TAt w p A c bs g m cs u' :=
  ⟨h.rd.keep (Kp.of_below hb (fun _ => False)) (fun x => x) (fun _ _ x => x), (hb.block _ (lt_of_heap h.row)).trans h.row, h.kp.same (Kp.of_below hb _), h.rows.below hb⟩
theorem TAt.sets (h : TAt w p A c bs g m cs u) (ha : Apt p A g) {ds : Array Value} (hk : Kp (fun k => k = g) u u') (hr : u'.heap[g]? = some (.cells ds 27 (0, 0))) : TAt w p A c bs g m ds u' :=
  ⟨h.rd.keep hk (fun x => ha.pg x) (fun k e x => by have x' : k = g := x; subst x'; exact ha.ag e), hr, h.kp.trans hk (fun _ _ x => .inr x), h.rows.kp hk (fun x => ha.gr (Eq.symm x))⟩
theorem TAt.set (h : TAt w p A c bs g m cs u) (ha : Apt p A g) (j : Nat) (v : Value) : TAt w p A c bs g m (cs.setIfInBounds j v) (u.setCell ⟨g, j, none⟩ v) :=
  h.sets ha (Kp.setCell (S := fun k => k = g) (Kp.refl _ u) (Or.inl rfl) _) (heap_setCell_same _ _ _ _ _ _ h.row)
end

/-- What takeFields does. -/
def FPA (p : Nat) (A : Option Addr) (c : Nat) (bs : List UInt8) (g at_ : Nat) (r : Res AC.Ac) (w : World) (e : Ending) (w' : World) : Prop :=
  match r with
  | .ok a n => e = .returned (.tuple #[]) ∧ ∃ A' c', TAt w p A c bs g (at_ + n) (actC a A' c') w' ∧ w'.ownsRow 0 88 2 (.slice A' a.make.list.length c') a.make.list.length (itCells a.make.list) ∧ (∀ k, ob A' = some k → w.heap.size ≤ k)
  | .bad code n => e = thr 34 code (at_ + n) ∧ Rd 5 w' p A c bs (at_ + n) ∧ Kp (fun k => k = p ∨ k = g) w w'
section
variable {p : Nat} {A : Option Addr} {c : Nat} {bs : List UInt8} {g at_ m n code : Nat} {r : Res AC.Ac} {w w' : World} {z y : Int} {x : AC.Ac}
theorem FPA.mkBad (h : r = .bad code n) (hy : y = (code : Int)) (hz : z = ((at_ + n : Nat) : Int)) (hm : m = at_ + n) (hr : Rd 5 w' p A c bs m) (hk : Kp (fun k => k = p ∨ k = g) w w') :
    FPA p A c bs g at_ r w (.panicked [{ v := .iface 34 (.agg #[.int .i64 y, .int .i64 z]), recovered := false }]) w' := by
  subst h hy hz hm
  exact ⟨rfl, hr, hk⟩
theorem FPA.mkOk {A' : Option Addr} {c' : Nat} (h : r = .ok x n) (hm : m = at_ + n) (ht : TAt w p A c bs g m (actC x A' c') w') (ho : w'.ownsRow 0 88 2 (.slice A' x.make.list.length c') x.make.list.length (itCells x.make.list)) (hn : ∀ k, ob A' = some k → w.heap.size ≤ k) :
    FPA p A c bs g at_ r w (.returned (.tuple #[])) w' := by
  subst h hm
  exact ⟨rfl, A', c', ht, ho, hn⟩
end

/-- A record is laid into an act. -/
theorem kpAt8 {w0 w : World} {g : Nat} {d0 d1 d2 d3 d4 d5 d6 d7 : Value} (h : Kp (fun k => k = g) w0 w) : Kp (fun k => k = g) w0 ((((((((w.setCell ⟨g, 5, none⟩ d0).setCell ⟨g, 6, none⟩ d1).setCell ⟨g, 7, none⟩ d2).setCell ⟨g, 8, none⟩ d3).setCell ⟨g, 9, none⟩ d4).setCell ⟨g, 10, none⟩ d5).setCell ⟨g, 11, none⟩ d6).setCell ⟨g, 12, none⟩ d7) := by
  iterate 8 refine Kp.setCell ?_ (Or.inl (by exact rfl)) _
  exact h
theorem act_stores {w : World} {g : Nat} {x0 x1 x2 x3 x4 x5 x6 x7 x8 x9 x10 x11 x12 x13 d0 d1 d2 d3 d4 d5 d6 d7 : Value} {t : TypeId} (hq : w.heap[g]? = some (.cells #[x0, x1, x2, x3, x4, x5, x6, x7, x8, x9, x10, x11, x12, x13] t (0, 0))) :
    ((((((((w.setCell ⟨g, 5, none⟩ d0).setCell ⟨g, 6, none⟩ d1).setCell ⟨g, 7, none⟩ d2).setCell ⟨g, 8, none⟩ d3).setCell ⟨g, 9, none⟩ d4).setCell ⟨g, 10, none⟩ d5).setCell ⟨g, 11, none⟩ d6).setCell ⟨g, 12, none⟩ d7).heap[g]? = some (.cells #[x0, x1, x2, x3, x4, d0, d1, d2, d3, d4, d5, d6, d7, x13] t (0, 0)) := by
  have h0 : (w.setCell ⟨g, 5, none⟩ d0).heap[g]? = some (.cells #[x0, x1, x2, x3, x4, d0, x6, x7, x8, x9, x10, x11, x12, x13] t (0, 0)) := heap_setCell_same _ _ _ _ _ _ hq
  have h1 : ((w.setCell ⟨g, 5, none⟩ d0).setCell ⟨g, 6, none⟩ d1).heap[g]? = some (.cells #[x0, x1, x2, x3, x4, d0, d1, x7, x8, x9, x10, x11, x12, x13] t (0, 0)) := heap_setCell_same _ _ _ _ _ _ h0
  have h2 : (((w.setCell ⟨g, 5, none⟩ d0).setCell ⟨g, 6, none⟩ d1).setCell ⟨g, 7, none⟩ d2).heap[g]? = some (.cells #[x0, x1, x2, x3, x4, d0, d1, d2, x8, x9, x10, x11, x12, x13] t (0, 0)) := heap_setCell_same _ _ _ _ _ _ h1
  have h3 : ((((w.setCell ⟨g, 5, none⟩ d0).setCell ⟨g, 6, none⟩ d1).setCell ⟨g, 7, none⟩ d2).setCell ⟨g, 8, none⟩ d3).heap[g]? = some (.cells #[x0, x1, x2, x3, x4, d0, d1, d2, d3, x9, x10, x11, x12, x13] t (0, 0)) := heap_setCell_same _ _ _ _ _ _ h2
  have h4 : (((((w.setCell ⟨g, 5, none⟩ d0).setCell ⟨g, 6, none⟩ d1).setCell ⟨g, 7, none⟩ d2).setCell ⟨g, 8, none⟩ d3).setCell ⟨g, 9, none⟩ d4).heap[g]? = some (.cells #[x0, x1, x2, x3, x4, d0, d1, d2, d3, d4, x10, x11, x12, x13] t (0, 0)) := heap_setCell_same _ _ _ _ _ _ h3
  have h5 : ((((((w.setCell ⟨g, 5, none⟩ d0).setCell ⟨g, 6, none⟩ d1).setCell ⟨g, 7, none⟩ d2).setCell ⟨g, 8, none⟩ d3).setCell ⟨g, 9, none⟩ d4).setCell ⟨g, 10, none⟩ d5).heap[g]? = some (.cells #[x0, x1, x2, x3, x4, d0, d1, d2, d3, d4, d5, x11, x12, x13] t (0, 0)) := heap_setCell_same _ _ _ _ _ _ h4
  have h6 : (((((((w.setCell ⟨g, 5, none⟩ d0).setCell ⟨g, 6, none⟩ d1).setCell ⟨g, 7, none⟩ d2).setCell ⟨g, 8, none⟩ d3).setCell ⟨g, 9, none⟩ d4).setCell ⟨g, 10, none⟩ d5).setCell ⟨g, 11, none⟩ d6).heap[g]? = some (.cells #[x0, x1, x2, x3, x4, d0, d1, d2, d3, d4, d5, d6, x12, x13] t (0, 0)) := heap_setCell_same _ _ _ _ _ _ h5
  have h7 : ((((((((w.setCell ⟨g, 5, none⟩ d0).setCell ⟨g, 6, none⟩ d1).setCell ⟨g, 7, none⟩ d2).setCell ⟨g, 8, none⟩ d3).setCell ⟨g, 9, none⟩ d4).setCell ⟨g, 10, none⟩ d5).setCell ⟨g, 11, none⟩ d6).setCell ⟨g, 12, none⟩ d7).heap[g]? = some (.cells #[x0, x1, x2, x3, x4, d0, d1, d2, d3, d4, d5, d6, d7, x13] t (0, 0)) := heap_setCell_same _ _ _ _ _ _ h6
  exact h7

set_option maxHeartbeats 8000000 in
set_option maxRecDepth 100000 in
theorem takeFields_any (j : Nat) (must : Bool) (key : ByteArray) (p : Nat) (A : Option Addr) (c : Nat) (bs : List UInt8) (g at_ : Nat) (w : World) (hj : 0 < j ∧ j ≤ 21) (ht : TAt w p A c bs g at_ (actC ⟨(j : Int), key, 0, 0, ⟨#[]⟩, RC.zero, must⟩ none 0) w) (ha : Apt p A g) :
    Calls Tryz.prog 79 #[.pointer (some ⟨p, 0, none⟩), .pointer (some ⟨g, 0, none⟩)] w (FPA p A c bs g at_ (actfR j must key (bs.drop at_)) w) := by
  have HS0 := Lib.hid ht
  have HP := Lib.hid ha
  have hg := lt_of_heap ht.row
  clear ht ha
  rcases AC.kinds6 (k := (j : Int)) (by omega) with ⟨gN, gX, gS, gM⟩ | ⟨gN, gX, gS, gM⟩ | ⟨gN, gX, gS, gM⟩ | ⟨gN, gX, gS, gM⟩ | ⟨gN, gX, gS, gM⟩ | ⟨gN, gX, gS, gM⟩
  · skip
    have HF := Lib.hid (fun l => actfR_0 (must := must) (key := key) (l := l) gN gX gS gM)
    have GN := Lib.hid gN
    have GX := Lib.hid gX
    have GS := Lib.hid gS
    have GM := Lib.hid gM
    clear gN gX gS gM
    have c0 := fun o => cell_of_row w _ o _ _ (0, 0) HS0.out.row
    have f0 : ∀ o, w.frozen? ⟨g, o, none⟩ = false := fun o => frozen_of_row _ _ o _ _ HS0.out.row
    go_enter Tryz.func79, Tryz.ntmps79
    go_wp2_with fail
    refine (field_is (j : Int) 110 false _ HS0.out.rows (by rw [show (110 : Nat).toUInt8 = 110 from rfl, fld_n]; exact GN.out)).mono ?_
    rintro e u1 ⟨rfl, hb⟩
    have S := HS0.out.look hb
    have HS1 := Lib.hid S
    clear S
    clear hb c0 f0
    have c0 := fun o => cell_of_row u1 _ o _ _ (0, 0) HS1.out.row
    have f0 : ∀ o, u1.frozen? ⟨g, o, none⟩ = false := fun o => frozen_of_row _ _ o _ _ HS1.out.row
    go_wp2_with fail
    refine (field_is (j : Int) 120 false _ HS1.out.rows (by rw [show (120 : Nat).toUInt8 = 120 from rfl, fld_x]; exact GX.out)).mono ?_
    rintro e u2 ⟨rfl, hb⟩
    have S := HS1.out.look hb
    have HS2 := Lib.hid S
    clear S
    clear hb c0 f0
    have c0 := fun o => cell_of_row u2 _ o _ _ (0, 0) HS2.out.row
    have f0 : ∀ o, u2.frozen? ⟨g, o, none⟩ = false := fun o => frozen_of_row _ _ o _ _ HS2.out.row
    go_wp2_with fail
    refine (field_is (j : Int) 115 false _ HS2.out.rows (by rw [show (115 : Nat).toUInt8 = 115 from rfl, fld_s]; exact GS.out)).mono ?_
    rintro e u3 ⟨rfl, hb⟩
    have S := HS2.out.look hb
    have HS3 := Lib.hid S
    clear S
    clear hb c0 f0
    have c0 := fun o => cell_of_row u3 _ o _ _ (0, 0) HS3.out.row
    have f0 : ∀ o, u3.frozen? ⟨g, o, none⟩ = false := fun o => frozen_of_row _ _ o _ _ HS3.out.row
    go_wp2_with fail
    refine (field_is (j : Int) 109 false _ HS3.out.rows (by rw [show (109 : Nat).toUInt8 = 109 from rfl, fld_m]; exact GM.out)).mono ?_
    rintro e u4 ⟨rfl, hb⟩
    have S := HS3.out.look hb
    have HS4 := Lib.hid S
    clear S
    clear hb c0 f0
    have c0 := fun o => cell_of_row u4 _ o _ _ (0, 0) HS4.out.row
    have f0 : ∀ o, u4.frozen? ⟨g, o, none⟩ = false := fun o => frozen_of_row _ _ o _ _ HS4.out.row
    go_wp2_with fail
    go_end0
    exact FPA.mkOk (n := 0) (x := ⟨(j : Int), key, 0, 0, ⟨#[]⟩, RC.zero, must⟩) (by rw [HF.out]) (by omega) HS4.out (World.ownsRow_nil _ _ _ _) (fun k e => by cases e)
  · skip
    have HF := Lib.hid (fun l => actfR_n (must := must) (key := key) (l := l) gN gX gS gM)
    have GN := Lib.hid gN
    have GX := Lib.hid gX
    have GS := Lib.hid gS
    have GM := Lib.hid gM
    clear gN gX gS gM
    have c0 := fun o => cell_of_row w _ o _ _ (0, 0) HS0.out.row
    have f0 : ∀ o, w.frozen? ⟨g, o, none⟩ = false := fun o => frozen_of_row _ _ o _ _ HS0.out.row
    go_enter Tryz.func79, Tryz.ntmps79
    go_wp2_with fail
    refine (field_is (j : Int) 110 true _ HS0.out.rows (by rw [show (110 : Nat).toUInt8 = 110 from rfl, fld_n]; exact GN.out)).mono ?_
    rintro e u1 ⟨rfl, hb⟩
    have S := HS0.out.look hb
    have HS1 := Lib.hid S
    clear S
    clear hb c0 f0
    have c0 := fun o => cell_of_row u1 _ o _ _ (0, 0) HS1.out.row
    have f0 : ∀ o, u1.frozen? ⟨g, o, none⟩ = false := fun o => frozen_of_row _ _ o _ _ HS1.out.row
    go_wp2_with fail
    refine (ri_any p A c bs (at_) _ HS1.out.rd).mono ?_
    cases hR2 : numR (bs.drop (at_)) with
    | bad e nb =>
      have H2 := Lib.hid hR2
      clear hR2
      rintro e u2 ⟨rfl, hr2, hk2⟩
      go_wp2
      exact ⟨rfl, FPA.mkBad (n := nb) (by rw [HF.out, show numR (bs.drop (at_)) = .bad e nb from H2.out]; rfl) rfl (by omega) (by omega) hr2 (HS1.out.kp.trans hk2 (fun _ _ x => .inl x))⟩
    | ok v2 n2 =>
      have H2 := Lib.hid hR2
      clear hR2
      rintro e u2 ⟨rfl, hr2, hk2⟩
      have S := HS1.out.read HP.out hr2 hk2
      have HS2 := Lib.hid S
      clear S
      clear hr2 hk2 c0 f0
      have c0 := fun o => cell_of_row u2 _ o _ _ (0, 0) HS2.out.row
      have f0 : ∀ o, u2.frozen? ⟨g, o, none⟩ = false := fun o => frozen_of_row _ _ o _ _ HS2.out.row
      go_wp2_with fail
      generalize hv : World.setCell _ _ _ = u3
      have S : TAt w p A c bs g (at_ + n2) (actC ⟨(j : Int), key, PK.zag v2, 0, ⟨#[]⟩, RC.zero, must⟩ none 0) u3 := by rw [← hv]; exact HS2.out.set HP.out 2 (.int .i64 (PK.zag v2))
      have HS3 := Lib.hid S
      clear S hv c0 f0
      have c0 := fun o => cell_of_row u3 _ o _ _ (0, 0) HS3.out.row
      have f0 : ∀ o, u3.frozen? ⟨g, o, none⟩ = false := fun o => frozen_of_row _ _ o _ _ HS3.out.row
      go_wp2_with fail
      refine (field_is (j : Int) 120 false _ HS3.out.rows (by rw [show (120 : Nat).toUInt8 = 120 from rfl, fld_x]; exact GX.out)).mono ?_
      rintro e u4 ⟨rfl, hb⟩
      have S := HS3.out.look hb
      have HS4 := Lib.hid S
      clear S
      clear hb c0 f0
      have c0 := fun o => cell_of_row u4 _ o _ _ (0, 0) HS4.out.row
      have f0 : ∀ o, u4.frozen? ⟨g, o, none⟩ = false := fun o => frozen_of_row _ _ o _ _ HS4.out.row
      go_wp2_with fail
      refine (field_is (j : Int) 115 false _ HS4.out.rows (by rw [show (115 : Nat).toUInt8 = 115 from rfl, fld_s]; exact GS.out)).mono ?_
      rintro e u5 ⟨rfl, hb⟩
      have S := HS4.out.look hb
      have HS5 := Lib.hid S
      clear S
      clear hb c0 f0
      have c0 := fun o => cell_of_row u5 _ o _ _ (0, 0) HS5.out.row
      have f0 : ∀ o, u5.frozen? ⟨g, o, none⟩ = false := fun o => frozen_of_row _ _ o _ _ HS5.out.row
      go_wp2_with fail
      refine (field_is (j : Int) 109 false _ HS5.out.rows (by rw [show (109 : Nat).toUInt8 = 109 from rfl, fld_m]; exact GM.out)).mono ?_
      rintro e u6 ⟨rfl, hb⟩
      have S := HS5.out.look hb
      have HS6 := Lib.hid S
      clear S
      clear hb c0 f0
      have c0 := fun o => cell_of_row u6 _ o _ _ (0, 0) HS6.out.row
      have f0 : ∀ o, u6.frozen? ⟨g, o, none⟩ = false := fun o => frozen_of_row _ _ o _ _ HS6.out.row
      go_wp2_with fail
      go_end0
      exact FPA.mkOk (n := n2) (x := ⟨(j : Int), key, PK.zag v2, 0, ⟨#[]⟩, RC.zero, must⟩) (by rw [HF.out, H2.out]; rfl) (by omega) HS6.out (World.ownsRow_nil _ _ _ _) (fun k e => by cases e)
  · skip
    have HF := Lib.hid (fun l => actfR_x (must := must) (key := key) (l := l) gN gX gS gM)
    have GN := Lib.hid gN
    have GX := Lib.hid gX
    have GS := Lib.hid gS
    have GM := Lib.hid gM
    clear gN gX gS gM
    have c0 := fun o => cell_of_row w _ o _ _ (0, 0) HS0.out.row
    have f0 : ∀ o, w.frozen? ⟨g, o, none⟩ = false := fun o => frozen_of_row _ _ o _ _ HS0.out.row
    go_enter Tryz.func79, Tryz.ntmps79
    go_wp2_with fail
    refine (field_is (j : Int) 110 false _ HS0.out.rows (by rw [show (110 : Nat).toUInt8 = 110 from rfl, fld_n]; exact GN.out)).mono ?_
    rintro e u1 ⟨rfl, hb⟩
    have S := HS0.out.look hb
    have HS1 := Lib.hid S
    clear S
    clear hb c0 f0
    have c0 := fun o => cell_of_row u1 _ o _ _ (0, 0) HS1.out.row
    have f0 : ∀ o, u1.frozen? ⟨g, o, none⟩ = false := fun o => frozen_of_row _ _ o _ _ HS1.out.row
    go_wp2_with fail
    refine (field_is (j : Int) 120 true _ HS1.out.rows (by rw [show (120 : Nat).toUInt8 = 120 from rfl, fld_x]; exact GX.out)).mono ?_
    rintro e u2 ⟨rfl, hb⟩
    have S := HS1.out.look hb
    have HS2 := Lib.hid S
    clear S
    clear hb c0 f0
    have c0 := fun o => cell_of_row u2 _ o _ _ (0, 0) HS2.out.row
    have f0 : ∀ o, u2.frozen? ⟨g, o, none⟩ = false := fun o => frozen_of_row _ _ o _ _ HS2.out.row
    go_wp2_with fail
    refine (rf_any p A c bs (at_) _ HS2.out.rd).mono ?_
    cases hR3 : floR (bs.drop (at_)) with
    | bad e nb =>
      have H3 := Lib.hid hR3
      clear hR3
      rintro e u3 ⟨rfl, hr2, hk2⟩
      go_wp2
      exact ⟨rfl, FPA.mkBad (n := nb) (by rw [HF.out, show floR (bs.drop (at_)) = .bad e nb from H3.out]; rfl) rfl (by omega) (by omega) hr2 (HS2.out.kp.trans hk2 (fun _ _ x => .inl x))⟩
    | ok v3 n3 =>
      have H3 := Lib.hid hR3
      clear hR3
      rintro e u3 ⟨rfl, hr2, hk2⟩
      have S := HS2.out.read HP.out hr2 hk2
      have HS3 := Lib.hid S
      clear S
      clear hr2 hk2 c0 f0
      have c0 := fun o => cell_of_row u3 _ o _ _ (0, 0) HS3.out.row
      have f0 : ∀ o, u3.frozen? ⟨g, o, none⟩ = false := fun o => frozen_of_row _ _ o _ _ HS3.out.row
      go_wp2_with fail
      generalize hv : World.setCell _ _ _ = u4
      have S : TAt w p A c bs g (at_ + n3) (actC ⟨(j : Int), key, 0, v3, ⟨#[]⟩, RC.zero, must⟩ none 0) u4 := by rw [← hv]; exact HS3.out.set HP.out 3 (.float .f64 v3)
      have HS4 := Lib.hid S
      clear S hv c0 f0
      have c0 := fun o => cell_of_row u4 _ o _ _ (0, 0) HS4.out.row
      have f0 : ∀ o, u4.frozen? ⟨g, o, none⟩ = false := fun o => frozen_of_row _ _ o _ _ HS4.out.row
      go_wp2_with fail
      refine (field_is (j : Int) 115 false _ HS4.out.rows (by rw [show (115 : Nat).toUInt8 = 115 from rfl, fld_s]; exact GS.out)).mono ?_
      rintro e u5 ⟨rfl, hb⟩
      have S := HS4.out.look hb
      have HS5 := Lib.hid S
      clear S
      clear hb c0 f0
      have c0 := fun o => cell_of_row u5 _ o _ _ (0, 0) HS5.out.row
      have f0 : ∀ o, u5.frozen? ⟨g, o, none⟩ = false := fun o => frozen_of_row _ _ o _ _ HS5.out.row
      go_wp2_with fail
      refine (field_is (j : Int) 109 false _ HS5.out.rows (by rw [show (109 : Nat).toUInt8 = 109 from rfl, fld_m]; exact GM.out)).mono ?_
      rintro e u6 ⟨rfl, hb⟩
      have S := HS5.out.look hb
      have HS6 := Lib.hid S
      clear S
      clear hb c0 f0
      have c0 := fun o => cell_of_row u6 _ o _ _ (0, 0) HS6.out.row
      have f0 : ∀ o, u6.frozen? ⟨g, o, none⟩ = false := fun o => frozen_of_row _ _ o _ _ HS6.out.row
      go_wp2_with fail
      go_end0
      exact FPA.mkOk (n := n3) (x := ⟨(j : Int), key, 0, v3, ⟨#[]⟩, RC.zero, must⟩) (by rw [HF.out, H3.out]; rfl) (by omega) HS6.out (World.ownsRow_nil _ _ _ _) (fun k e => by cases e)
  · skip
    have HF := Lib.hid (fun l => actfR_s (must := must) (key := key) (l := l) gN gX gS gM)
    have GN := Lib.hid gN
    have GX := Lib.hid gX
    have GS := Lib.hid gS
    have GM := Lib.hid gM
    clear gN gX gS gM
    have c0 := fun o => cell_of_row w _ o _ _ (0, 0) HS0.out.row
    have f0 : ∀ o, w.frozen? ⟨g, o, none⟩ = false := fun o => frozen_of_row _ _ o _ _ HS0.out.row
    go_enter Tryz.func79, Tryz.ntmps79
    go_wp2_with fail
    refine (field_is (j : Int) 110 false _ HS0.out.rows (by rw [show (110 : Nat).toUInt8 = 110 from rfl, fld_n]; exact GN.out)).mono ?_
    rintro e u1 ⟨rfl, hb⟩
    have S := HS0.out.look hb
    have HS1 := Lib.hid S
    clear S
    clear hb c0 f0
    have c0 := fun o => cell_of_row u1 _ o _ _ (0, 0) HS1.out.row
    have f0 : ∀ o, u1.frozen? ⟨g, o, none⟩ = false := fun o => frozen_of_row _ _ o _ _ HS1.out.row
    go_wp2_with fail
    refine (field_is (j : Int) 120 false _ HS1.out.rows (by rw [show (120 : Nat).toUInt8 = 120 from rfl, fld_x]; exact GX.out)).mono ?_
    rintro e u2 ⟨rfl, hb⟩
    have S := HS1.out.look hb
    have HS2 := Lib.hid S
    clear S
    clear hb c0 f0
    have c0 := fun o => cell_of_row u2 _ o _ _ (0, 0) HS2.out.row
    have f0 : ∀ o, u2.frozen? ⟨g, o, none⟩ = false := fun o => frozen_of_row _ _ o _ _ HS2.out.row
    go_wp2_with fail
    refine (field_is (j : Int) 115 true _ HS2.out.rows (by rw [show (115 : Nat).toUInt8 = 115 from rfl, fld_s]; exact GS.out)).mono ?_
    rintro e u3 ⟨rfl, hb⟩
    have S := HS2.out.look hb
    have HS3 := Lib.hid S
    clear S
    clear hb c0 f0
    have c0 := fun o => cell_of_row u3 _ o _ _ (0, 0) HS3.out.row
    have f0 : ∀ o, u3.frozen? ⟨g, o, none⟩ = false := fun o => frozen_of_row _ _ o _ _ HS3.out.row
    go_wp2_with fail
    refine (mostOfS_any (j : Int) _ HS3.out.rows).mono ?_
    rintro e u4 ⟨rfl, hb⟩
    have S := HS3.out.look hb
    have HS4 := Lib.hid S
    clear S
    clear hb c0 f0
    have c0 := fun o => cell_of_row u4 _ o _ _ (0, 0) HS4.out.row
    have f0 : ∀ o, u4.frozen? ⟨g, o, none⟩ = false := fun o => frozen_of_row _ _ o _ _ HS4.out.row
    have hm64 : AC.most (j : Int) ≤ 64 := by unfold AC.most; split <;> (try split) <;> omega
    go_wp2_with fail
    refine (rs_any p A c bs (at_) (AC.most (j : Int) : Int) _ (i64_wf (by omega)) HS4.out.rd).mono ?_
    cases hR5 : txtR (AC.most (j : Int)) (bs.drop (at_)) with
    | bad e nb =>
      have H5 := Lib.hid hR5
      clear hR5
      rintro e u5 ⟨rfl, hr2, hk2⟩
      go_wp2
      exact ⟨rfl, FPA.mkBad (n := nb) (by rw [HF.out, show txtR (AC.most (j : Int)) (bs.drop (at_)) = .bad e nb from H5.out]; rfl) rfl (by omega) (by omega) hr2 (HS4.out.kp.trans hk2 (fun _ _ x => .inl x))⟩
    | ok v5 n5 =>
      have H5 := Lib.hid hR5
      clear hR5
      rintro e u5 ⟨rfl, hr2, hk2⟩
      have S := HS4.out.read HP.out hr2 hk2
      have HS5 := Lib.hid S
      clear S
      clear hr2 hk2 c0 f0
      have c0 := fun o => cell_of_row u5 _ o _ _ (0, 0) HS5.out.row
      have f0 : ∀ o, u5.frozen? ⟨g, o, none⟩ = false := fun o => frozen_of_row _ _ o _ _ HS5.out.row
      go_wp2_with fail
      generalize hv : World.setCell _ _ _ = u6
      have S : TAt w p A c bs g (at_ + n5) (actC ⟨(j : Int), key, 0, 0, ⟨v5.toArray⟩, RC.zero, must⟩ none 0) u6 := by rw [← hv]; exact HS5.out.set HP.out 4 (.string ⟨v5.toArray⟩)
      have HS6 := Lib.hid S
      clear S hv c0 f0
      have c0 := fun o => cell_of_row u6 _ o _ _ (0, 0) HS6.out.row
      have f0 : ∀ o, u6.frozen? ⟨g, o, none⟩ = false := fun o => frozen_of_row _ _ o _ _ HS6.out.row
      go_wp2_with fail
      refine (field_is (j : Int) 109 false _ HS6.out.rows (by rw [show (109 : Nat).toUInt8 = 109 from rfl, fld_m]; exact GM.out)).mono ?_
      rintro e u7 ⟨rfl, hb⟩
      have S := HS6.out.look hb
      have HS7 := Lib.hid S
      clear S
      clear hb c0 f0
      have c0 := fun o => cell_of_row u7 _ o _ _ (0, 0) HS7.out.row
      have f0 : ∀ o, u7.frozen? ⟨g, o, none⟩ = false := fun o => frozen_of_row _ _ o _ _ HS7.out.row
      go_wp2_with fail
      go_end0
      exact FPA.mkOk (n := n5) (x := ⟨(j : Int), key, 0, 0, ⟨v5.toArray⟩, RC.zero, must⟩) (by rw [HF.out, H5.out]; rfl) (by omega) HS7.out (World.ownsRow_nil _ _ _ _) (fun k e => by cases e)
  · skip
    have HF := Lib.hid (fun l => actfR_xs (must := must) (key := key) (l := l) gN gX gS gM)
    have GN := Lib.hid gN
    have GX := Lib.hid gX
    have GS := Lib.hid gS
    have GM := Lib.hid gM
    clear gN gX gS gM
    have c0 := fun o => cell_of_row w _ o _ _ (0, 0) HS0.out.row
    have f0 : ∀ o, w.frozen? ⟨g, o, none⟩ = false := fun o => frozen_of_row _ _ o _ _ HS0.out.row
    go_enter Tryz.func79, Tryz.ntmps79
    go_wp2_with fail
    refine (field_is (j : Int) 110 false _ HS0.out.rows (by rw [show (110 : Nat).toUInt8 = 110 from rfl, fld_n]; exact GN.out)).mono ?_
    rintro e u1 ⟨rfl, hb⟩
    have S := HS0.out.look hb
    have HS1 := Lib.hid S
    clear S
    clear hb c0 f0
    have c0 := fun o => cell_of_row u1 _ o _ _ (0, 0) HS1.out.row
    have f0 : ∀ o, u1.frozen? ⟨g, o, none⟩ = false := fun o => frozen_of_row _ _ o _ _ HS1.out.row
    go_wp2_with fail
    refine (field_is (j : Int) 120 true _ HS1.out.rows (by rw [show (120 : Nat).toUInt8 = 120 from rfl, fld_x]; exact GX.out)).mono ?_
    rintro e u2 ⟨rfl, hb⟩
    have S := HS1.out.look hb
    have HS2 := Lib.hid S
    clear S
    clear hb c0 f0
    have c0 := fun o => cell_of_row u2 _ o _ _ (0, 0) HS2.out.row
    have f0 : ∀ o, u2.frozen? ⟨g, o, none⟩ = false := fun o => frozen_of_row _ _ o _ _ HS2.out.row
    go_wp2_with fail
    refine (rf_any p A c bs (at_) _ HS2.out.rd).mono ?_
    cases hR3 : floR (bs.drop (at_)) with
    | bad e nb =>
      have H3 := Lib.hid hR3
      clear hR3
      rintro e u3 ⟨rfl, hr2, hk2⟩
      go_wp2
      exact ⟨rfl, FPA.mkBad (n := nb) (by rw [HF.out, andR_bad H3.out]) rfl (by omega) (by omega) hr2 (HS2.out.kp.trans hk2 (fun _ _ x => .inl x))⟩
    | ok v3 n3 =>
      have H3 := Lib.hid hR3
      clear hR3
      rintro e u3 ⟨rfl, hr2, hk2⟩
      have S := HS2.out.read HP.out hr2 hk2
      have HS3 := Lib.hid S
      clear S
      clear hr2 hk2 c0 f0
      have c0 := fun o => cell_of_row u3 _ o _ _ (0, 0) HS3.out.row
      have f0 : ∀ o, u3.frozen? ⟨g, o, none⟩ = false := fun o => frozen_of_row _ _ o _ _ HS3.out.row
      go_wp2_with fail
      generalize hv : World.setCell _ _ _ = u4
      have S : TAt w p A c bs g (at_ + n3) (actC ⟨(j : Int), key, 0, v3, ⟨#[]⟩, RC.zero, must⟩ none 0) u4 := by rw [← hv]; exact HS3.out.set HP.out 3 (.float .f64 v3)
      have HS4 := Lib.hid S
      clear S hv c0 f0
      have c0 := fun o => cell_of_row u4 _ o _ _ (0, 0) HS4.out.row
      have f0 : ∀ o, u4.frozen? ⟨g, o, none⟩ = false := fun o => frozen_of_row _ _ o _ _ HS4.out.row
      go_wp2_with fail
      refine (field_is (j : Int) 115 true _ HS4.out.rows (by rw [show (115 : Nat).toUInt8 = 115 from rfl, fld_s]; exact GS.out)).mono ?_
      rintro e u5 ⟨rfl, hb⟩
      have S := HS4.out.look hb
      have HS5 := Lib.hid S
      clear S
      clear hb c0 f0
      have c0 := fun o => cell_of_row u5 _ o _ _ (0, 0) HS5.out.row
      have f0 : ∀ o, u5.frozen? ⟨g, o, none⟩ = false := fun o => frozen_of_row _ _ o _ _ HS5.out.row
      go_wp2_with fail
      refine (mostOfS_any (j : Int) _ HS5.out.rows).mono ?_
      rintro e u6 ⟨rfl, hb⟩
      have S := HS5.out.look hb
      have HS6 := Lib.hid S
      clear S
      clear hb c0 f0
      have c0 := fun o => cell_of_row u6 _ o _ _ (0, 0) HS6.out.row
      have f0 : ∀ o, u6.frozen? ⟨g, o, none⟩ = false := fun o => frozen_of_row _ _ o _ _ HS6.out.row
      have hm64 : AC.most (j : Int) ≤ 64 := by unfold AC.most; split <;> (try split) <;> omega
      go_wp2_with fail
      refine (rs_any p A c bs (at_ + n3) (AC.most (j : Int) : Int) _ (i64_wf (by omega)) HS6.out.rd).mono ?_
      cases hR7 : txtR (AC.most (j : Int)) (bs.drop (at_ + n3)) with
      | bad e nb =>
        have H7 := Lib.hid hR7
        clear hR7
        rintro e u7 ⟨rfl, hr2, hk2⟩
        go_wp2
        exact ⟨rfl, FPA.mkBad (n := n3 + nb) (by rw [HF.out, andR_ok H3.out, List.drop_drop, H7.out]; rfl) rfl (by omega) (by omega) hr2 (HS6.out.kp.trans hk2 (fun _ _ x => .inl x))⟩
      | ok v7 n7 =>
        have H7 := Lib.hid hR7
        clear hR7
        rintro e u7 ⟨rfl, hr2, hk2⟩
        have S := HS6.out.read HP.out hr2 hk2
        have HS7 := Lib.hid S
        clear S
        clear hr2 hk2 c0 f0
        have c0 := fun o => cell_of_row u7 _ o _ _ (0, 0) HS7.out.row
        have f0 : ∀ o, u7.frozen? ⟨g, o, none⟩ = false := fun o => frozen_of_row _ _ o _ _ HS7.out.row
        go_wp2_with fail
        generalize hv : World.setCell _ _ _ = u8
        have S : TAt w p A c bs g (at_ + n3 + n7) (actC ⟨(j : Int), key, 0, v3, ⟨v7.toArray⟩, RC.zero, must⟩ none 0) u8 := by rw [← hv]; exact HS7.out.set HP.out 4 (.string ⟨v7.toArray⟩)
        have HS8 := Lib.hid S
        clear S hv c0 f0
        have c0 := fun o => cell_of_row u8 _ o _ _ (0, 0) HS8.out.row
        have f0 : ∀ o, u8.frozen? ⟨g, o, none⟩ = false := fun o => frozen_of_row _ _ o _ _ HS8.out.row
        go_wp2_with fail
        refine (field_is (j : Int) 109 false _ HS8.out.rows (by rw [show (109 : Nat).toUInt8 = 109 from rfl, fld_m]; exact GM.out)).mono ?_
        rintro e u9 ⟨rfl, hb⟩
        have S := HS8.out.look hb
        have HS9 := Lib.hid S
        clear S
        clear hb c0 f0
        have c0 := fun o => cell_of_row u9 _ o _ _ (0, 0) HS9.out.row
        have f0 : ∀ o, u9.frozen? ⟨g, o, none⟩ = false := fun o => frozen_of_row _ _ o _ _ HS9.out.row
        go_wp2_with fail
        go_end0
        exact FPA.mkOk (n := n3 + n7) (x := ⟨(j : Int), key, 0, v3, ⟨v7.toArray⟩, RC.zero, must⟩) (by rw [HF.out, andR_ok H3.out, List.drop_drop, H7.out]; rfl) (by omega) HS9.out (World.ownsRow_nil _ _ _ _) (fun k e => by cases e)
  · skip
    have HF := Lib.hid (fun l => actfR_m (must := must) (key := key) (l := l) gN gX gS gM)
    have GN := Lib.hid gN
    have GX := Lib.hid gX
    have GS := Lib.hid gS
    have GM := Lib.hid gM
    clear gN gX gS gM
    have c0 := fun o => cell_of_row w _ o _ _ (0, 0) HS0.out.row
    have f0 : ∀ o, w.frozen? ⟨g, o, none⟩ = false := fun o => frozen_of_row _ _ o _ _ HS0.out.row
    go_enter Tryz.func79, Tryz.ntmps79
    go_wp2_with fail
    refine (field_is (j : Int) 110 false _ HS0.out.rows (by rw [show (110 : Nat).toUInt8 = 110 from rfl, fld_n]; exact GN.out)).mono ?_
    rintro e u1 ⟨rfl, hb⟩
    have S := HS0.out.look hb
    have HS1 := Lib.hid S
    clear S
    clear hb c0 f0
    have c0 := fun o => cell_of_row u1 _ o _ _ (0, 0) HS1.out.row
    have f0 : ∀ o, u1.frozen? ⟨g, o, none⟩ = false := fun o => frozen_of_row _ _ o _ _ HS1.out.row
    go_wp2_with fail
    refine (field_is (j : Int) 120 false _ HS1.out.rows (by rw [show (120 : Nat).toUInt8 = 120 from rfl, fld_x]; exact GX.out)).mono ?_
    rintro e u2 ⟨rfl, hb⟩
    have S := HS1.out.look hb
    have HS2 := Lib.hid S
    clear S
    clear hb c0 f0
    have c0 := fun o => cell_of_row u2 _ o _ _ (0, 0) HS2.out.row
    have f0 : ∀ o, u2.frozen? ⟨g, o, none⟩ = false := fun o => frozen_of_row _ _ o _ _ HS2.out.row
    go_wp2_with fail
    refine (field_is (j : Int) 115 false _ HS2.out.rows (by rw [show (115 : Nat).toUInt8 = 115 from rfl, fld_s]; exact GS.out)).mono ?_
    rintro e u3 ⟨rfl, hb⟩
    have S := HS2.out.look hb
    have HS3 := Lib.hid S
    clear S
    clear hb c0 f0
    have c0 := fun o => cell_of_row u3 _ o _ _ (0, 0) HS3.out.row
    have f0 : ∀ o, u3.frozen? ⟨g, o, none⟩ = false := fun o => frozen_of_row _ _ o _ _ HS3.out.row
    go_wp2_with fail
    refine (field_is (j : Int) 109 true _ HS3.out.rows (by rw [show (109 : Nat).toUInt8 = 109 from rfl, fld_m]; exact GM.out)).mono ?_
    rintro e u4 ⟨rfl, hb⟩
    have S := HS3.out.look hb
    have HS4 := Lib.hid S
    clear S
    clear hb c0 f0
    have c0 := fun o => cell_of_row u4 _ o _ _ (0, 0) HS4.out.row
    have f0 : ∀ o, u4.frozen? ⟨g, o, none⟩ = false := fun o => frozen_of_row _ _ o _ _ HS4.out.row
    go_wp2_with fail
    refine (recTake_any p A c bs (at_) _ HS4.out.rd).mono ?_
    cases hR5 : recR (bs.drop (at_)) with
    | bad e nb =>
      have H5 := Lib.hid hR5
      clear hR5
      rintro e u5 ⟨rfl, hr2, hk2⟩
      go_wp2
      exact ⟨rfl, FPA.mkBad (n := nb) (by rw [HF.out, show recR (bs.drop (at_)) = .bad e nb from H5.out]; rfl) rfl (by omega) (by omega) hr2 (HS4.out.kp.trans hk2 (fun _ _ x => .inl x))⟩
    | ok v5 n5 =>
      have H5 := Lib.hid hR5
      clear hR5
      rintro e u5 ⟨A9, c9, rfl, ho9, hn9, hr2, hk2⟩
      have HO9 := Lib.hid ho9
      have HNw := Lib.hid (fun k e => Nat.le_trans HS4.out.kp.size (hn9 k e))
      have hn9g : ob A9 ≠ some g := fun e => by have := hn9 g e; have := HS4.out.kp.size; omega
      have S := HS4.out.read HP.out hr2 hk2
      have HS5 := Lib.hid S
      clear S
      clear hr2 hk2 c0 f0 ho9 hn9
      have c0 := fun o => cell_of_row u5 _ o _ _ (0, 0) HS5.out.row
      have f0 : ∀ o, u5.frozen? ⟨g, o, none⟩ = false := fun o => frozen_of_row _ _ o _ _ HS5.out.row
      go_wp2_with fail
      generalize hv : World.setCell _ _ _ = u6
      have KV : Kp (fun k => k = g) u5 u6 := by rw [← hv]; exact kpAt8 (Kp.refl _ _)
      have RV : u6.heap[g]? = some (.cells (actC ⟨(j : Int), key, 0, 0, ⟨#[]⟩, v5, must⟩ A9 c9) 27 (0, 0)) := by rw [← hv]; exact act_stores HS5.out.row
      have S := HS5.out.sets HP.out KV RV
      have HO := Lib.hid (KV.own HO9.out (fun k e x => by rw [ownBlock_slice] at e; have x' : k = g := x; subst x'; exact hn9g e))
      have HS6 := Lib.hid S
      clear S hv c0 f0 KV RV
      have c0 := fun o => cell_of_row u6 _ o _ _ (0, 0) HS6.out.row
      have f0 : ∀ o, u6.frozen? ⟨g, o, none⟩ = false := fun o => frozen_of_row _ _ o _ _ HS6.out.row
      go_wp2_with fail
      go_end0
      exact FPA.mkOk (n := n5) (x := ⟨(j : Int), key, 0, 0, ⟨#[]⟩, v5, must⟩) (by rw [HF.out, H5.out]; rfl) (by omega) HS6.out (HO.out) HNw.out

end Go.Proofs.YtaaeefndhmfceaaGreatDoor
