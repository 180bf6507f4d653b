/- Contracts of package act: an act's fields are read. -/
import Derived.Test.YtaaeefndhmfceaaGreatDoorAct5
import Derived.Test.YtaaeefndhmfceaaGreatDoorRec8
import Derived.Test.YtaaeefndhmfceaaGreatDoorRec9
namespace Go.Proofs.YtaaeefndhmfceaaGreatDoor
open Go.RowKit MM

set_option maxHeartbeats 1000000 in
set_option maxRecDepth 100000 in
theorem actKind_any (p : Nat) (A : Option Addr) (c : Nat) (bs : List UInt8) (at_ : Nat) (w : World) (hr : Rd 5 w p A c bs at_) :
    Calls Tryz.prog 76 #[.pointer (some ⟨p, 0, none⟩)] w (RPost 5 34 p A c bs at_ (fun n : Nat => .int .i64 n) (kindA (bs.drop at_)) w) := by
  have hx := rupto_any p A c bs at_ 21 w rfl hr
  unfold kindA
  cases hU : uptoR 21 (bs.drop at_) with
  | bad e n =>
    rw [hU] at hx
    have Hx := Lib.hid hx
    clear hx hU
    go_enter Tryz.func76, Tryz.ntmps76
    go_wp2_with fail
    refine Hx.out.mono ?_
    rintro e w1 ⟨rfl, hr2, hk2⟩
    go_wp2
    exact ⟨rfl, RPost.mkBad (n := n) rfl rfl (by omega) rfl hr2 hk2⟩
  | ok k n =>
    rw [hU] at hx
    have Hx := Lib.hid hx
    rw [andR_ok rfl]
    clear hx hU
    by_cases hk : k = 0
    · subst hk
      go_enter Tryz.func76, Tryz.ntmps76
      go_wp2_with fail
      refine Hx.out.mono ?_
      rintro e w1 ⟨rfl, hr2, hk2⟩
      go_wp2_with fail
      refine (fail_any p A c bs (at_ + n) 5 _ hr2).mono ?_
      rintro e w2 ⟨rfl, rfl⟩
      go_wp2
      exact ⟨rfl, RPost.mkBad (n := n) rfl rfl (by omega) rfl hr2 hk2⟩
    · rw [if_neg hk]
      have hk' : ((k : Int) == 0) = false := by simp; omega
      clear hk
      go_enter Tryz.func76, Tryz.ntmps76
      go_wp2_with fail
      refine Hx.out.mono ?_
      rintro e w1 ⟨rfl, hr2, hk2⟩
      go_wp2
      go_ret
      exact RPost.mkOk (x := k) (n := n) rfl rfl rfl hr2 hk2

/-! ### the fields of each kind -/
section
variable {k : Nat} {must : Bool} {key : ByteArray} {l : List UInt8}
theorem actfR_0 (gN : AC.hasN k = false) (gX : AC.hasX k = false) (gS : AC.hasS k = false) (gM : AC.hasM k = false) : actfR k must key l = .ok ⟨(k : Int), key, 0, 0, ⟨#[]⟩, RC.zero, must⟩ 0 := by
  unfold actfR; rw [optR_no gN, andR_ok rfl, optR_no gX, andR_ok rfl, optR_no gS, andR_ok rfl, optR_no gM]; rfl
theorem actfR_n (gN : AC.hasN k = true) (gX : AC.hasX k = false) (gS : AC.hasS k = false) (gM : AC.hasM k = false) : actfR k must key l = Res.map (fun v => (⟨(k : Int), key, PK.zag v, 0, ⟨#[]⟩, RC.zero, must⟩ : AC.Ac)) (numR l) := by
  unfold actfR; rw [optR_yes gN]
  unfold iR
  cases numR l with
  | bad e n => rfl
  | ok v n => simp only [Res.map]; rw [andR_ok rfl, optR_no gX, andR_ok rfl, optR_no gS, andR_ok rfl, optR_no gM]; rfl
theorem actfR_x (gN : AC.hasN k = false) (gX : AC.hasX k = true) (gS : AC.hasS k = false) (gM : AC.hasM k = false) : actfR k must key l = Res.map (fun v => (⟨(k : Int), key, 0, v, ⟨#[]⟩, RC.zero, must⟩ : AC.Ac)) (floR l) := by
  unfold actfR; rw [optR_no gN, andR_ok rfl, List.drop_zero, shiftR_zero, optR_yes gX]
  cases floR l with
  | bad e n => rfl
  | ok v n => rw [andR_ok rfl, optR_no gS, andR_ok rfl, optR_no gM]; rfl
theorem actfR_s (gN : AC.hasN k = false) (gX : AC.hasX k = false) (gS : AC.hasS k = true) (gM : AC.hasM k = false) : actfR k must key l = Res.map (fun v => (⟨(k : Int), key, 0, 0, ⟨v.toArray⟩, RC.zero, must⟩ : AC.Ac)) (txtR (AC.most k) l) := by
  unfold actfR; rw [optR_no gN, andR_ok rfl, List.drop_zero, shiftR_zero, optR_no gX, andR_ok rfl, List.drop_zero, shiftR_zero, optR_yes gS]
  unfold sR
  cases txtR (AC.most k) l with
  | bad e n => rfl
  | ok v n => simp only [Res.map]; rw [andR_ok rfl, optR_no gM]; rfl
theorem actfR_xs (gN : AC.hasN k = false) (gX : AC.hasX k = true) (gS : AC.hasS k = true) (gM : AC.hasM k = false) : actfR k must key l = andR (floR l) l fun x l2 => Res.map (fun v => (⟨(k : Int), key, 0, x, ⟨v.toArray⟩, RC.zero, must⟩ : AC.Ac)) (txtR (AC.most k) l2) := by
  unfold actfR; rw [optR_no gN, andR_ok rfl, List.drop_zero, shiftR_zero, optR_yes gX]
  cases floR l with
  | bad e n => rfl
  | ok x n =>
    rw [andR_ok rfl, andR_ok rfl, optR_yes gS]
    unfold sR
    cases txtR (AC.most k) (l.drop n) with
    | bad e n => rfl
    | ok v n => simp only [Res.map]; rw [andR_ok rfl, optR_no gM]; rfl
theorem actfR_m (gN : AC.hasN k = false) (gX : AC.hasX k = false) (gS : AC.hasS k = false) (gM : AC.hasM k = true) : actfR k must key l = Res.map (fun v => (⟨(k : Int), key, 0, 0, ⟨#[]⟩, v, must⟩ : AC.Ac)) (recR l) := by
  unfold actfR; rw [optR_no gN, andR_ok rfl, List.drop_zero, shiftR_zero, optR_no gX, andR_ok rfl, List.drop_zero, shiftR_zero, optR_no gS, andR_ok rfl, List.drop_zero, shiftR_zero, optR_yes gM]
end

/-- How things stand while the fields of an act at the block g are read. -/
structure TAt (w : World) (p : Nat) (A : Option Addr) (c : Nat) (bs : List UInt8) (g : Nat) (m : Nat) (cs : Array Value) (u : World) : Prop where
  rd : Rd 5 u p A c bs m
  row : u.heap[g]? = some (.cells cs 27 (0, 0))
  kp : Kp (fun k => k = p ∨ k = g) w u
  rows : RowsAt u
/-- The blocks lie apart. -/
structure Apt (p : Nat) (A : Option Addr) (g : Nat) : Prop where
  pg : p ≠ g
  ag : ob A ≠ some g
  pr : p ≠ 0
  gr : g ≠ 0
section
variable {w : World} {p : Nat} {A : Option Addr} {c : Nat} {bs : List UInt8} {g m m' : Nat} {cs : Array Value} {u u' : World}
theorem TAt.read (h : TAt w p A c bs g m cs u) (ha : Apt p A g) (hr : Rd 5 u' p A c bs m') (hk : Kp (fun k => k = p) u u') : TAt w p A c bs g m' cs u' :=
  ⟨hr, (hk.block _ (lt_of_heap h.row) (fun x => ha.pg (Eq.symm x))).trans h.row, h.kp.trans hk (fun _ _ x => .inl x), h.rows.kp hk (fun x => ha.pr (Eq.symm x))⟩
theorem TAt.look (h : TAt w p A c bs g m cs u) (hb : Below u.heap.size u u') : TAt w p A c bs g m cs u' :=
  ⟨h.rd.keep (Kp.of_below hb (fun _ => False)) (fun x => x) (fun _ _ x => x), (hb.block _ (lt_of_heap h.row)).trans h.row, h.kp.same (Kp.of_below hb _), h.rows.below hb⟩
theorem TAt.sets (h : TAt w p A c bs g m cs u) (ha : Apt p A g) {ds : Array Value} (hk : Kp (fun k => k = g) u u') (hr : u'.heap[g]? = some (.cells ds 27 (0, 0))) : TAt w p A c bs g m ds u' :=
  ⟨h.rd.keep hk (fun x => ha.pg x) (fun k e x => by have x' : k = g := x; subst x'; exact ha.ag e), hr, h.kp.trans hk (fun _ _ x => .inr x), h.rows.kp hk (fun x => ha.gr (Eq.symm x))⟩
theorem TAt.set (h : TAt w p A c bs g m cs u) (ha : Apt p A g) (j : Nat) (v : Value) : TAt w p A c bs g m (cs.setIfInBounds j v) (u.setCell ⟨g, j, none⟩ v) :=
  h.sets ha (Kp.setCell (S := fun k => k = g) (Kp.refl _ u) (Or.inl rfl) _) (heap_setCell_same _ _ _ _ _ _ h.row)
end

/-- What takeFields does. -/
def FPA (p : Nat) (A : Option Addr) (c : Nat) (bs : List UInt8) (g at_ : Nat) (r : Res AC.Ac) (w : World) (e : Ending) (w' : World) : Prop :=
  match r with
  | .ok a n => e = .returned (.tuple #[]) ∧ ∃ A' c', TAt w p A c bs g (at_ + n) (actC a A' c') w' ∧ w'.ownsRow 0 88 2 (.slice A' a.make.list.length c') a.make.list.length (itCells a.make.list) ∧ (∀ k, ob A' = some k → w.heap.size ≤ k)
  | .bad code n => e = thr 34 code (at_ + n) ∧ Rd 5 w' p A c bs (at_ + n) ∧ Kp (fun k => k = p ∨ k = g) w w'
section
variable {p : Nat} {A : Option Addr} {c : Nat} {bs : List UInt8} {g at_ m n code : Nat} {r : Res AC.Ac} {w w' : World} {z y : Int} {x : AC.Ac}
theorem FPA.mkBad (h : r = .bad code n) (hy : y = (code : Int)) (hz : z = ((at_ + n : Nat) : Int)) (hm : m = at_ + n) (hr : Rd 5 w' p A c bs m) (hk : Kp (fun k => k = p ∨ k = g) w w') :
    FPA p A c bs g at_ r w (.panicked [{ v := .iface 34 (.agg #[.int .i64 y, .int .i64 z]), recovered := false }]) w' := by
  subst h hy hz hm
  exact ⟨rfl, hr, hk⟩
theorem FPA.mkOk {A' : Option Addr} {c' : Nat} (h : r = .ok x n) (hm : m = at_ + n) (ht : TAt w p A c bs g m (actC x A' c') w') (ho : w'.ownsRow 0 88 2 (.slice A' x.make.list.length c') x.make.list.length (itCells x.make.list)) (hn : ∀ k, ob A' = some k → w.heap.size ≤ k) :
    FPA p A c bs g at_ r w (.returned (.tuple #[])) w' := by
  subst h hm
  exact ⟨rfl, A', c', ht, ho, hn⟩
end

/-- A record is laid into an act. -/
theorem kpAt8 {w0 w : World} {g : Nat} {d0 d1 d2 d3 d4 d5 d6 d7 : Value} (h : Kp (fun k => k = g) w0 w) : Kp (fun k => k = g) w0 ((((((((w.setCell ⟨g, 5, none⟩ d0).setCell ⟨g, 6, none⟩ d1).setCell ⟨g, 7, none⟩ d2).setCell ⟨g, 8, none⟩ d3).setCell ⟨g, 9, none⟩ d4).setCell ⟨g, 10, none⟩ d5).setCell ⟨g, 11, none⟩ d6).setCell ⟨g, 12, none⟩ d7) := by
  iterate 8 refine Kp.setCell ?_ (Or.inl (by exact rfl)) _
  exact h
theorem act_stores {w : World} {g : Nat} {x0 x1 x2 x3 x4 x5 x6 x7 x8 x9 x10 x11 x12 x13 d0 d1 d2 d3 d4 d5 d6 d7 : Value} {t : TypeId} (hq : w.heap[g]? = some (.cells #[x0, x1, x2, x3, x4, x5, x6, x7, x8, x9, x10, x11, x12, x13] t (0, 0))) :
    ((((((((w.setCell ⟨g, 5, none⟩ d0).setCell ⟨g, 6, none⟩ d1).setCell ⟨g, 7, none⟩ d2).setCell ⟨g, 8, none⟩ d3).setCell ⟨g, 9, none⟩ d4).setCell ⟨g, 10, none⟩ d5).setCell ⟨g, 11, none⟩ d6).setCell ⟨g, 12, none⟩ d7).heap[g]? = some (.cells #[x0, x1, x2, x3, x4, d0, d1, d2, d3, d4, d5, d6, d7, x13] t (0, 0)) := by
  have h0 : (w.setCell ⟨g, 5, none⟩ d0).heap[g]? = some (.cells #[x0, x1, x2, x3, x4, d0, x6, x7, x8, x9, x10, x11, x12, x13] t (0, 0)) := heap_setCell_same _ _ _ _ _ _ hq
  have h1 : ((w.setCell ⟨g, 5, none⟩ d0).setCell ⟨g, 6, none⟩ d1).heap[g]? = some (.cells #[x0, x1, x2, x3, x4, d0, d1, x7, x8, x9, x10, x11, x12, x13] t (0, 0)) := heap_setCell_same _ _ _ _ _ _ h0
  have h2 : (((w.setCell ⟨g, 5, none⟩ d0).setCell ⟨g, 6, none⟩ d1).setCell ⟨g, 7, none⟩ d2).heap[g]? = some (.cells #[x0, x1, x2, x3, x4, d0, d1, d2, x8, x9, x10, x11, x12, x13] t (0, 0)) := heap_setCell_same _ _ _ _ _ _ h1
  have h3 : ((((w.setCell ⟨g, 5, none⟩ d0).setCell ⟨g, 6, none⟩ d1).setCell ⟨g, 7, none⟩ d2).setCell ⟨g, 8, none⟩ d3).heap[g]? = some (.cells #[x0, x1, x2, x3, x4, d0, d1, d2, d3, x9, x10, x11, x12, x13] t (0, 0)) := heap_setCell_same _ _ _ _ _ _ h2
  have h4 : (((((w.setCell ⟨g, 5, none⟩ d0).setCell ⟨g, 6, none⟩ d1).setCell ⟨g, 7, none⟩ d2).setCell ⟨g, 8, none⟩ d3).setCell ⟨g, 9, none⟩ d4).heap[g]? = some (.cells #[x0, x1, x2, x3, x4, d0, d1, d2, d3, d4, x10, x11, x12, x13] t (0, 0)) := heap_setCell_same _ _ _ _ _ _ h3
  have h5 : ((((((w.setCell ⟨g, 5, none⟩ d0).setCell ⟨g, 6, none⟩ d1).setCell ⟨g, 7, none⟩ d2).setCell ⟨g, 8, none⟩ d3).setCell ⟨g, 9, none⟩ d4).setCell ⟨g, 10, none⟩ d5).heap[g]? = some (.cells #[x0, x1, x2, x3, x4, d0, d1, d2, d3, d4, d5, x11, x12, x13] t (0, 0)) := heap_setCell_same _ _ _ _ _ _ h4
  have h6 : (((((((w.setCell ⟨g, 5, none⟩ d0).setCell ⟨g, 6, none⟩ d1).setCell ⟨g, 7, none⟩ d2).setCell ⟨g, 8, none⟩ d3).setCell ⟨g, 9, none⟩ d4).setCell ⟨g, 10, none⟩ d5).setCell ⟨g, 11, none⟩ d6).heap[g]? = some (.cells #[x0, x1, x2, x3, x4, d0, d1, d2, d3, d4, d5, d6, x12, x13] t (0, 0)) := heap_setCell_same _ _ _ _ _ _ h5
  have h7 : ((((((((w.setCell ⟨g, 5, none⟩ d0).setCell ⟨g, 6, none⟩ d1).setCell ⟨g, 7, none⟩ d2).setCell ⟨g, 8, none⟩ d3).setCell ⟨g, 9, none⟩ d4).setCell ⟨g, 10, none⟩ d5).setCell ⟨g, 11, none⟩ d6).setCell ⟨g, 12, none⟩ d7).heap[g]? = some (.cells #[x0, x1, x2, x3, x4, d0, d1, d2, d3, d4, d5, d6, d7, x13] t (0, 0)) := heap_setCell_same _ _ _ _ _ _ h6
  exact h7

set_option maxHeartbeats 8000000 in
set_option maxRecDepth 100000 in
theorem takeFields_any (j : Nat) (must : Bool) (key : ByteArray) (p : Nat) (A : Option Addr) (c : Nat) (bs : List UInt8) (g at_ : Nat) (w : World) (hj : 0 < j ∧ j ≤ 21) (ht : TAt w p A c bs g at_ (actC ⟨(j : Int), key, 0, 0, ⟨#[]⟩, RC.zero, must⟩ none 0) w) (ha : Apt p A g) :
    Calls Tryz.prog 79 #[.pointer (some ⟨p, 0, none⟩), .pointer (some ⟨g, 0, none⟩)] w (FPA p A c bs g at_ (actfR j must key (bs.drop at_)) w) := by
  have HS0 := Lib.hid ht
  have HP := Lib.hid ha
  have hg := lt_of_heap ht.row
  clear ht ha
  rcases AC.kinds6 (k := (j : Int)) (by omega) with ⟨gN, gX, gS, gM⟩ | ⟨gN, gX, gS, gM⟩ | ⟨gN, gX, gS, gM⟩ | ⟨gN, gX, gS, gM⟩ | ⟨gN, gX, gS, gM⟩ | ⟨gN, gX, gS, gM⟩
  · skip
    have HF := Lib.hid (fun l => actfR_0 (must := must) (key := key) (l := l) gN gX gS gM)
    have GN := Lib.hid gN
    have GX := Lib.hid gX
    have GS := Lib.hid gS
    have GM := Lib.hid gM
    clear gN gX gS gM
    have c0 := fun o => cell_of_row w _ o _ _ (0, 0) HS0.out.row
    have f0 : ∀ o, w.frozen? ⟨g, o, none⟩ = false := fun o => frozen_of_row _ _ o _ _ HS0.out.row
    go_enter Tryz.func79, Tryz.ntmps79
    go_wp2_with fail
    refine (field_is (j : Int) 110 false _ HS0.out.rows (by rw [show (110 : Nat).toUInt8 = 110 from rfl, fld_n]; exact GN.out)).mono ?_
    rintro e u1 ⟨rfl, hb⟩
    have S := HS0.out.look hb
    have HS1 := Lib.hid S
    clear S
    clear hb c0 f0
    have c0 := fun o => cell_of_row u1 _ o _ _ (0, 0) HS1.out.row
    have f0 : ∀ o, u1.frozen? ⟨g, o, none⟩ = false := fun o => frozen_of_row _ _ o _ _ HS1.out.row
    go_wp2_with fail
    refine (field_is (j : Int) 120 false _ HS1.out.rows (by rw [show (120 : Nat).toUInt8 = 120 from rfl, fld_x]; exact GX.out)).mono ?_
    rintro e u2 ⟨rfl, hb⟩
    have S := HS1.out.look hb
    have HS2 := Lib.hid S
    clear S
    clear hb c0 f0
    have c0 := fun o => cell_of_row u2 _ o _ _ (0, 0) HS2.out.row
    have f0 : ∀ o, u2.frozen? ⟨g, o, none⟩ = false := fun o => frozen_of_row _ _ o _ _ HS2.out.row
    go_wp2_with fail
    refine (field_is (j : Int) 115 false _ HS2.out.rows (by rw [show (115 : Nat).toUInt8 = 115 from rfl, fld_s]; exact GS.out)).mono ?_
    rintro e u3 ⟨rfl, hb⟩
    have S := HS2.out.look hb
    have HS3 := Lib.hid S
    clear S
    clear hb c0 f0
    have c0 := fun o => cell_of_row u3 _ o _ _ (0, 0) HS3.out.row
    have f0 : ∀ o, u3.frozen? ⟨g, o, none⟩ = false := fun o => frozen_of_row _ _ o _ _ HS3.out.row
    go_wp2_with fail
    refine (field_is (j : Int) 109 false _ HS3.out.rows (by rw [show (109 : Nat).toUInt8 = 109 from rfl, fld_m]; exact GM.out)).mono ?_
    rintro e u4 ⟨rfl, hb⟩
    have S := HS3.out.look hb
    have HS4 := Lib.hid S
    clear S
    clear hb c0 f0
    have c0 := fun o => cell_of_row u4 _ o _ _ (0, 0) HS4.out.row
    have f0 : ∀ o, u4.frozen? ⟨g, o, none⟩ = false := fun o => frozen_of_row _ _ o _ _ HS4.out.row
    go_wp2_with fail
    go_end0
    exact FPA.mkOk (n := 0) (x := ⟨(j : Int), key, 0, 0, ⟨#[]⟩, RC.zero, must⟩) (by rw [HF.out]) (by omega) HS4.out (World.ownsRow_nil _ _ _ _) (fun k e => by cases e)
  · skip
    have HF := Lib.hid (fun l => actfR_n (must := must) (key := key) (l := l) gN gX gS gM)
    have GN := Lib.hid gN
    have GX := Lib.hid gX
    have GS := Lib.hid gS
    have GM := Lib.hid gM
    clear gN gX gS gM
    have c0 := fun o => cell_of_row w _ o _ _ (0, 0) HS0.out.row
    have f0 : ∀ o, w.frozen? ⟨g, o, none⟩ = false := fun o => frozen_of_row _ _ o _ _ HS0.out.row
    go_enter Tryz.func79, Tryz.ntmps79
    go_wp2_with fail
    refine (field_is (j : Int) 110 true _ HS0.out.rows (by rw [show (110 : Nat).toUInt8 = 110 from rfl, fld_n]; exact GN.out)).mono ?_
    rintro e u1 ⟨rfl, hb⟩
    have S := HS0.out.look hb
    have HS1 := Lib.hid S
    clear S
    clear hb c0 f0
    have c0 := fun o => cell_of_row u1 _ o _ _ (0, 0) HS1.out.row
    have f0 : ∀ o, u1.frozen? ⟨g, o, none⟩ = false := fun o => frozen_of_row _ _ o _ _ HS1.out.row
    go_wp2_with fail
    refine (ri_any p A c bs (at_) _ HS1.out.rd).mono ?_
    cases hR2 : numR (bs.drop (at_)) with
    | bad e nb =>
      have H2 := Lib.hid hR2
      clear hR2
      rintro e u2 ⟨rfl, hr2, hk2⟩
      go_wp2
      exact ⟨rfl, FPA.mkBad (n := nb) (by rw [HF.out, show numR (bs.drop (at_)) = .bad e nb from H2.out]; rfl) rfl (by omega) (by omega) hr2 (HS1.out.kp.trans hk2 (fun _ _ x => .inl x))⟩
    | ok v2 n2 =>
      have H2 := Lib.hid hR2
      clear hR2
      rintro e u2 ⟨rfl, hr2, hk2⟩
      have S := HS1.out.read HP.out hr2 hk2
      have HS2 := Lib.hid S
      clear S
      clear hr2 hk2 c0 f0
      have c0 := fun o => cell_of_row u2 _ o _ _ (0, 0) HS2.out.row
      have f0 : ∀ o, u2.frozen? ⟨g, o, none⟩ = false := fun o => frozen_of_row _ _ o _ _ HS2.out.row
      go_wp2_with fail
      generalize hv : World.setCell _ _ _ = u3
      have S : TAt w p A c bs g (at_ + n2) (actC ⟨(j : Int), key, PK.zag v2, 0, ⟨#[]⟩, RC.zero, must⟩ none 0) u3 := by rw [← hv]; exact HS2.out.set HP.out 2 (.int .i64 (PK.zag v2))
      have HS3 := Lib.hid S
      clear S hv c0 f0
      have c0 := fun o => cell_of_row u3 _ o _ _ (0, 0) HS3.out.row
      have f0 : ∀ o, u3.frozen? ⟨g, o, none⟩ = false := fun o => frozen_of_row _ _ o _ _ HS3.out.row
      go_wp2_with fail
      refine (field_is (j : Int) 120 false _ HS3.out.rows (by rw [show (120 : Nat).toUInt8 = 120 from rfl, fld_x]; exact GX.out)).mono ?_
      rintro e u4 ⟨rfl, hb⟩
      have S := HS3.out.look hb
      have HS4 := Lib.hid S
      clear S
      clear hb c0 f0
      have c0 := fun o => cell_of_row u4 _ o _ _ (0, 0) HS4.out.row
      have f0 : ∀ o, u4.frozen? ⟨g, o, none⟩ = false := fun o => frozen_of_row _ _ o _ _ HS4.out.row
      go_wp2_with fail
      refine (field_is (j : Int) 115 false _ HS4.out.rows (by rw [show (115 : Nat).toUInt8 = 115 from rfl, fld_s]; exact GS.out)).mono ?_
      rintro e u5 ⟨rfl, hb⟩
      have S := HS4.out.look hb
      have HS5 := Lib.hid S
      clear S
      clear hb c0 f0
      have c0 := fun o => cell_of_row u5 _ o _ _ (0, 0) HS5.out.row
      have f0 : ∀ o, u5.frozen? ⟨g, o, none⟩ = false := fun o => frozen_of_row _ _ o _ _ HS5.out.row
      go_wp2_with fail
      refine (field_is (j : Int) 109 false _ HS5.out.rows (by rw [show (109 : Nat).toUInt8 = 109 from rfl, fld_m]; exact GM.out)).mono ?_
      rintro e u6 ⟨rfl, hb⟩
      have S := HS5.out.look hb
      have HS6 := Lib.hid S
      clear S
      clear hb c0 f0
      have c0 := fun o => cell_of_row u6 _ o _ _ (0, 0) HS6.out.row
      have f0 : ∀ o, u6.frozen? ⟨g, o, none⟩ = false := fun o => frozen_of_row _ _ o _ _ HS6.out.row
      go_wp2_with fail
      go_end0
      exact FPA.mkOk (n := n2) (x := ⟨(j : Int), key, PK.zag v2, 0, ⟨#[]⟩, RC.zero, must⟩) (by rw [HF.out, H2.out]; rfl) (by omega) HS6.out (World.ownsRow_nil _ _ _ _) (fun k e => by cases e)
  · skip
    have HF := Lib.hid (fun l => actfR_x (must := must) (key := key) (l := l) gN gX gS gM)
    have GN := Lib.hid gN
    have GX := Lib.hid gX
    have GS := Lib.hid gS
    have GM := Lib.hid gM
    clear gN gX gS gM
    have c0 := fun o => cell_of_row w _ o _ _ (0, 0) HS0.out.row
    have f0 : ∀ o, w.frozen? ⟨g, o, none⟩ = false := fun o => frozen_of_row _ _ o _ _ HS0.out.row
    go_enter Tryz.func79, Tryz.ntmps79
    go_wp2_with fail
    refine (field_is (j : Int) 110 false _ HS0.out.rows (by rw [show (110 : Nat).toUInt8 = 110 from rfl, fld_n]; exact GN.out)).mono ?_
    rintro e u1 ⟨rfl, hb⟩
    have S := HS0.out.look hb
    have HS1 := Lib.hid S
    clear S
    clear hb c0 f0
    have c0 := fun o => cell_of_row u1 _ o _ _ (0, 0) HS1.out.row
    have f0 : ∀ o, u1.frozen? ⟨g, o, none⟩ = false := fun o => frozen_of_row _ _ o _ _ HS1.out.row
    go_wp2_with fail
    refine (field_is (j : Int) 120 true _ HS1.out.rows (by rw [show (120 : Nat).toUInt8 = 120 from rfl, fld_x]; exact GX.out)).mono ?_
    rintro e u2 ⟨rfl, hb⟩
    have S := HS1.out.look hb
    have HS2 := Lib.hid S
    clear S
    clear hb c0 f0
    have c0 := fun o => cell_of_row u2 _ o _ _ (0, 0) HS2.out.row
    have f0 : ∀ o, u2.frozen? ⟨g, o, none⟩ = false := fun o => frozen_of_row _ _ o _ _ HS2.out.row
    go_wp2_with fail
    refine (rf_any p A c bs (at_) _ HS2.out.rd).mono ?_
    cases hR3 : floR (bs.drop (at_)) with
    | bad e nb =>
      have H3 := Lib.hid hR3
      clear hR3
      rintro e u3 ⟨rfl, hr2, hk2⟩
      go_wp2
      exact ⟨rfl, FPA.mkBad (n := nb) (by rw [HF.out, show floR (bs.drop (at_)) = .bad e nb from H3.out]; rfl) rfl (by omega) (by omega) hr2 (HS2.out.kp.trans hk2 (fun _ _ x => .inl x))⟩
    | ok v3 n3 =>
      have H3 := Lib.hid hR3
      clear hR3
      rintro e u3 ⟨rfl, hr2, hk2⟩
      have S := HS2.out.read HP.out hr2 hk2
      have HS3 := Lib.hid S
      clear S
      clear hr2 hk2 c0 f0
      have c0 := fun o => cell_of_row u3 _ o _ _ (0, 0) HS3.out.row
      have f0 : ∀ o, u3.frozen? ⟨g, o, none⟩ = false := fun o => frozen_of_row _ _ o _ _ HS3.out.row
      go_wp2_with fail
      generalize hv : World.setCell _ _ _ = u4
      have S : TAt w p A c bs g (at_ + n3) (actC ⟨(j : Int), key, 0, v3, ⟨#[]⟩, RC.zero, must⟩ none 0) u4 := by rw [← hv]; exact HS3.out.set HP.out 3 (.float .f64 v3)
      have HS4 := Lib.hid S
      clear S hv c0 f0
      have c0 := fun o => cell_of_row u4 _ o _ _ (0, 0) HS4.out.row
      have f0 : ∀ o, u4.frozen? ⟨g, o, none⟩ = false := fun o => frozen_of_row _ _ o _ _ HS4.out.row
      go_wp2_with fail
      refine (field_is (j : Int) 115 false _ HS4.out.rows (by rw [show (115 : Nat).toUInt8 = 115 from rfl, fld_s]; exact GS.out)).mono ?_
      rintro e u5 ⟨rfl, hb⟩
      have S := HS4.out.look hb
      have HS5 := Lib.hid S
      clear S
      clear hb c0 f0
      have c0 := fun o => cell_of_row u5 _ o _ _ (0, 0) HS5.out.row
      have f0 : ∀ o, u5.frozen? ⟨g, o, none⟩ = false := fun o => frozen_of_row _ _ o _ _ HS5.out.row
      go_wp2_with fail
      refine (field_is (j : Int) 109 false _ HS5.out.rows (by rw [show (109 : Nat).toUInt8 = 109 from rfl, fld_m]; exact GM.out)).mono ?_
      rintro e u6 ⟨rfl, hb⟩
      have S := HS5.out.look hb
      have HS6 := Lib.hid S
      clear S
      clear hb c0 f0
      have c0 := fun o => cell_of_row u6 _ o _ _ (0, 0) HS6.out.row
      have f0 : ∀ o, u6.frozen? ⟨g, o, none⟩ = false := fun o => frozen_of_row _ _ o _ _ HS6.out.row
      go_wp2_with fail
      go_end0
      exact FPA.mkOk (n := n3) (x := ⟨(j : Int), key, 0, v3, ⟨#[]⟩, RC.zero, must⟩) (by rw [HF.out, H3.out]; rfl) (by omega) HS6.out (World.ownsRow_nil _ _ _ _) (fun k e => by cases e)
  · skip
    have HF := Lib.hid (fun l => actfR_s (must := must) (key := key) (l := l) gN gX gS gM)
    have GN := Lib.hid gN
    have GX := Lib.hid gX
    have GS := Lib.hid gS
    have GM := Lib.hid gM
    clear gN gX gS gM
    have c0 := fun o => cell_of_row w _ o _ _ (0, 0) HS0.out.row
    have f0 : ∀ o, w.frozen? ⟨g, o, none⟩ = false := fun o => frozen_of_row _ _ o _ _ HS0.out.row
    go_enter Tryz.func79, Tryz.ntmps79
    go_wp2_with fail
    refine (field_is (j : Int) 110 false _ HS0.out.rows (by rw [show (110 : Nat).toUInt8 = 110 from rfl, fld_n]; exact GN.out)).mono ?_
    rintro e u1 ⟨rfl, hb⟩
    have S := HS0.out.look hb
    have HS1 := Lib.hid S
    clear S
    clear hb c0 f0
    have c0 := fun o => cell_of_row u1 _ o _ _ (0, 0) HS1.out.row
    have f0 : ∀ o, u1.frozen? ⟨g, o, none⟩ = false := fun o => frozen_of_row _ _ o _ _ HS1.out.row
    go_wp2_with fail
    refine (field_is (j : Int) 120 false _ HS1.out.rows (by rw [show (120 : Nat).toUInt8 = 120 from rfl, fld_x]; exact GX.out)).mono ?_
    rintro e u2 ⟨rfl, hb⟩
    have S := HS1.out.look hb
    have HS2 := Lib.hid S
    clear S
    clear hb c0 f0
    have c0 := fun o => cell_of_row u2 _ o _ _ (0, 0) HS2.out.row
    have f0 : ∀ o, u2.frozen? ⟨g, o, none⟩ = false := fun o => frozen_of_row _ _ o _ _ HS2.out.row
    go_wp2_with fail
    refine (field_is (j : Int) 115 true _ HS2.out.rows (by rw [show (115 : Nat).toUInt8 = 115 from rfl, fld_s]; exact GS.out)).mono ?_
    rintro e u3 ⟨rfl, hb⟩
    have S := HS2.out.look hb
    have HS3 := Lib.hid S
    clear S
    clear hb c0 f0
    have c0 := fun o => cell_of_row u3 _ o _ _ (0, 0) HS3.out.row
    have f0 : ∀ o, u3.frozen? ⟨g, o, none⟩ = false := fun o => frozen_of_row _ _ o _ _ HS3.out.row
    go_wp2_with fail
    refine (mostOfS_any (j : Int) _ HS3.out.rows).mono ?_
    rintro e u4 ⟨rfl, hb⟩
    have S := HS3.out.look hb
    have HS4 := Lib.hid S
    clear S
    clear hb c0 f0
    have c0 := fun o => cell_of_row u4 _ o _ _ (0, 0) HS4.out.row
    have f0 : ∀ o, u4.frozen? ⟨g, o, none⟩ = false := fun o => frozen_of_row _ _ o _ _ HS4.out.row
    have hm64 : AC.most (j : Int) ≤ 64 := by unfold AC.most; split <;> (try split) <;> omega
    go_wp2_with fail
    refine (rs_any p A c bs (at_) (AC.most (j : Int) : Int) _ (i64_wf (by omega)) HS4.out.rd).mono ?_
    cases hR5 : txtR (AC.most (j : Int)) (bs.drop (at_)) with
    | bad e nb =>
      have H5 := Lib.hid hR5
      clear hR5
      rintro e u5 ⟨rfl, hr2, hk2⟩
      go_wp2
      exact ⟨rfl, FPA.mkBad (n := nb) (by rw [HF.out, show txtR (AC.most (j : Int)) (bs.drop (at_)) = .bad e nb from H5.out]; rfl) rfl (by omega) (by omega) hr2 (HS4.out.kp.trans hk2 (fun _ _ x => .inl x))⟩
    | ok v5 n5 =>
      have H5 := Lib.hid hR5
      clear hR5
      rintro e u5 ⟨rfl, hr2, hk2⟩
      have S := HS4.out.read HP.out hr2 hk2
      have HS5 := Lib.hid S
      clear S
      clear hr2 hk2 c0 f0
      have c0 := fun o => cell_of_row u5 _ o _ _ (0, 0) HS5.out.row
      have f0 : ∀ o, u5.frozen? ⟨g, o, none⟩ = false := fun o => frozen_of_row _ _ o _ _ HS5.out.row
      go_wp2_with fail
      generalize hv : World.setCell _ _ _ = u6
      have S : TAt w p A c bs g (at_ + n5) (actC ⟨(j : Int), key, 0, 0, ⟨v5.toArray⟩, RC.zero, must⟩ none 0) u6 := by rw [← hv]; exact HS5.out.set HP.out 4 (.string ⟨v5.toArray⟩)
      have HS6 := Lib.hid S
      clear S hv c0 f0
      have c0 := fun o => cell_of_row u6 _ o _ _ (0, 0) HS6.out.row
      have f0 : ∀ o, u6.frozen? ⟨g, o, none⟩ = false := fun o => frozen_of_row _ _ o _ _ HS6.out.row
      go_wp2_with fail
      refine (field_is (j : Int) 109 false _ HS6.out.rows (by rw [show (109 : Nat).toUInt8 = 109 from rfl, fld_m]; exact GM.out)).mono ?_
      rintro e u7 ⟨rfl, hb⟩
      have S := HS6.out.look hb
      have HS7 := Lib.hid S
      clear S
      clear hb c0 f0
      have c0 := fun o => cell_of_row u7 _ o _ _ (0, 0) HS7.out.row
      have f0 : ∀ o, u7.frozen? ⟨g, o, none⟩ = false := fun o => frozen_of_row _ _ o _ _ HS7.out.row
      go_wp2_with fail
      go_end0
      exact FPA.mkOk (n := n5) (x := ⟨(j : Int), key, 0, 0, ⟨v5.toArray⟩, RC.zero, must⟩) (by rw [HF.out, H5.out]; rfl) (by omega) HS7.out (World.ownsRow_nil _ _ _ _) (fun k e => by cases e)
  · skip
    have HF := Lib.hid (fun l => actfR_xs (must := must) (key := key) (l := l) gN gX gS gM)
    have GN := Lib.hid gN
    have GX := Lib.hid gX
    have GS := Lib.hid gS
    have GM := Lib.hid gM
    clear gN gX gS gM
    have c0 := fun o => cell_of_row w _ o _ _ (0, 0) HS0.out.row
    have f0 : ∀ o, w.frozen? ⟨g, o, none⟩ = false := fun o => frozen_of_row _ _ o _ _ HS0.out.row
    go_enter Tryz.func79, Tryz.ntmps79
    go_wp2_with fail
    refine (field_is (j : Int) 110 false _ HS0.out.rows (by rw [show (110 : Nat).toUInt8 = 110 from rfl, fld_n]; exact GN.out)).mono ?_
    rintro e u1 ⟨rfl, hb⟩
    have S := HS0.out.look hb
    have HS1 := Lib.hid S
    clear S
    clear hb c0 f0
    have c0 := fun o => cell_of_row u1 _ o _ _ (0, 0) HS1.out.row
    have f0 : ∀ o, u1.frozen? ⟨g, o, none⟩ = false := fun o => frozen_of_row _ _ o _ _ HS1.out.row
    go_wp2_with fail
    refine (field_is (j : Int) 120 true _ HS1.out.rows (by rw [show (120 : Nat).toUInt8 = 120 from rfl, fld_x]; exact GX.out)).mono ?_
    rintro e u2 ⟨rfl, hb⟩
    have S := HS1.out.look hb
    have HS2 := Lib.hid S
    clear S
    clear hb c0 f0
    have c0 := fun o => cell_of_row u2 _ o _ _ (0, 0) HS2.out.row
    have f0 : ∀ o, u2.frozen? ⟨g, o, none⟩ = false := fun o => frozen_of_row _ _ o _ _ HS2.out.row
    go_wp2_with fail
    refine (rf_any p A c bs (at_) _ HS2.out.rd).mono ?_
    cases hR3 : floR (bs.drop (at_)) with
    | bad e nb =>
      have H3 := Lib.hid hR3
      clear hR3
      rintro e u3 ⟨rfl, hr2, hk2⟩
      go_wp2
      exact ⟨rfl, FPA.mkBad (n := nb) (by rw [HF.out, andR_bad H3.out]) rfl (by omega) (by omega) hr2 (HS2.out.kp.trans hk2 (fun _ _ x => .inl x))⟩
    | ok v3 n3 =>
      have H3 := Lib.hid hR3
      clear hR3
      rintro e u3 ⟨rfl, hr2, hk2⟩
      have S := HS2.out.read HP.out hr2 hk2
      have HS3 := Lib.hid S
      clear S
      clear hr2 hk2 c0 f0
      have c0 := fun o => cell_of_row u3 _ o _ _ (0, 0) HS3.out.row
      have f0 : ∀ o, u3.frozen? ⟨g, o, none⟩ = false := fun o => frozen_of_row _ _ o _ _ HS3.out.row
      go_wp2_with fail
      generalize hv : World.setCell _ _ _ = u4
      have S : TAt w p A c bs g (at_ + n3) (actC ⟨(j : Int), key, 0, v3, ⟨#[]⟩, RC.zero, must⟩ none 0) u4 := by rw [← hv]; exact HS3.out.set HP.out 3 (.float .f64 v3)
      have HS4 := Lib.hid S
      clear S hv c0 f0
      have c0 := fun o => cell_of_row u4 _ o _ _ (0, 0) HS4.out.row
      have f0 : ∀ o, u4.frozen? ⟨g, o, none⟩ = false := fun o => frozen_of_row _ _ o _ _ HS4.out.row
      go_wp2_with fail
      refine (field_is (j : Int) 115 true _ HS4.out.rows (by rw [show (115 : Nat).toUInt8 = 115 from rfl, fld_s]; exact GS.out)).mono ?_
      rintro e u5 ⟨rfl, hb⟩
      have S := HS4.out.look hb
      have HS5 := Lib.hid S
      clear S
      clear hb c0 f0
      have c0 := fun o => cell_of_row u5 _ o _ _ (0, 0) HS5.out.row
      have f0 : ∀ o, u5.frozen? ⟨g, o, none⟩ = false := fun o => frozen_of_row _ _ o _ _ HS5.out.row
      go_wp2_with fail
      refine (mostOfS_any (j : Int) _ HS5.out.rows).mono ?_
      rintro e u6 ⟨rfl, hb⟩
      have S := HS5.out.look hb
      have HS6 := Lib.hid S
      clear S
      clear hb c0 f0
      have c0 := fun o => cell_of_row u6 _ o _ _ (0, 0) HS6.out.row
      have f0 : ∀ o, u6.frozen? ⟨g, o, none⟩ = false := fun o => frozen_of_row _ _ o _ _ HS6.out.row
      have hm64 : AC.most (j : Int) ≤ 64 := by unfold AC.most; split <;> (try split) <;> omega
      go_wp2_with fail
      refine (rs_any p A c bs (at_ + n3) (AC.most (j : Int) : Int) _ (i64_wf (by omega)) HS6.out.rd).mono ?_
      cases hR7 : txtR (AC.most (j : Int)) (bs.drop (at_ + n3)) with
      | bad e nb =>
        have H7 := Lib.hid hR7
        clear hR7
        rintro e u7 ⟨rfl, hr2, hk2⟩
        go_wp2
        exact ⟨rfl, FPA.mkBad (n := n3 + nb) (by rw [HF.out, andR_ok H3.out, List.drop_drop, H7.out]; rfl) rfl (by omega) (by omega) hr2 (HS6.out.kp.trans hk2 (fun _ _ x => .inl x))⟩
      | ok v7 n7 =>
        have H7 := Lib.hid hR7
        clear hR7
        rintro e u7 ⟨rfl, hr2, hk2⟩
        have S := HS6.out.read HP.out hr2 hk2
        have HS7 := Lib.hid S
        clear S
        clear hr2 hk2 c0 f0
        have c0 := fun o => cell_of_row u7 _ o _ _ (0, 0) HS7.out.row
        have f0 : ∀ o, u7.frozen? ⟨g, o, none⟩ = false := fun o => frozen_of_row _ _ o _ _ HS7.out.row
        go_wp2_with fail
        generalize hv : World.setCell _ _ _ = u8
        have S : TAt w p A c bs g (at_ + n3 + n7) (actC ⟨(j : Int), key, 0, v3, ⟨v7.toArray⟩, RC.zero, must⟩ none 0) u8 := by rw [← hv]; exact HS7.out.set HP.out 4 (.string ⟨v7.toArray⟩)
        have HS8 := Lib.hid S
        clear S hv c0 f0
        have c0 := fun o => cell_of_row u8 _ o _ _ (0, 0) HS8.out.row
        have f0 : ∀ o, u8.frozen? ⟨g, o, none⟩ = false := fun o => frozen_of_row _ _ o _ _ HS8.out.row
        go_wp2_with fail
        refine (field_is (j : Int) 109 false _ HS8.out.rows (by rw [show (109 : Nat).toUInt8 = 109 from rfl, fld_m]; exact GM.out)).mono ?_
        rintro e u9 ⟨rfl, hb⟩
        have S := HS8.out.look hb
        have HS9 := Lib.hid S
        clear S
        clear hb c0 f0
        have c0 := fun o => cell_of_row u9 _ o _ _ (0, 0) HS9.out.row
        have f0 : ∀ o, u9.frozen? ⟨g, o, none⟩ = false := fun o => frozen_of_row _ _ o _ _ HS9.out.row
        go_wp2_with fail
        go_end0
        exact FPA.mkOk (n := n3 + n7) (x := ⟨(j : Int), key, 0, v3, ⟨v7.toArray⟩, RC.zero, must⟩) (by rw [HF.out, andR_ok H3.out, List.drop_drop, H7.out]; rfl) (by omega) HS9.out (World.ownsRow_nil _ _ _ _) (fun k e => by cases e)
  · skip
    have HF := Lib.hid (fun l => actfR_m (must := must) (key := key) (l := l) gN gX gS gM)
    have GN := Lib.hid gN
    have GX := Lib.hid gX
    have GS := Lib.hid gS
    have GM := Lib.hid gM
    clear gN gX gS gM
    have c0 := fun o => cell_of_row w _ o _ _ (0, 0) HS0.out.row
    have f0 : ∀ o, w.frozen? ⟨g, o, none⟩ = false := fun o => frozen_of_row _ _ o _ _ HS0.out.row
    go_enter Tryz.func79, Tryz.ntmps79
    go_wp2_with fail
    refine (field_is (j : Int) 110 false _ HS0.out.rows (by rw [show (110 : Nat).toUInt8 = 110 from rfl, fld_n]; exact GN.out)).mono ?_
    rintro e u1 ⟨rfl, hb⟩
    have S := HS0.out.look hb
    have HS1 := Lib.hid S
    clear S
    clear hb c0 f0
    have c0 := fun o => cell_of_row u1 _ o _ _ (0, 0) HS1.out.row
    have f0 : ∀ o, u1.frozen? ⟨g, o, none⟩ = false := fun o => frozen_of_row _ _ o _ _ HS1.out.row
    go_wp2_with fail
    refine (field_is (j : Int) 120 false _ HS1.out.rows (by rw [show (120 : Nat).toUInt8 = 120 from rfl, fld_x]; exact GX.out)).mono ?_
    rintro e u2 ⟨rfl, hb⟩
    have S := HS1.out.look hb
    have HS2 := Lib.hid S
    clear S
    clear hb c0 f0
    have c0 := fun o => cell_of_row u2 _ o _ _ (0, 0) HS2.out.row
    have f0 : ∀ o, u2.frozen? ⟨g, o, none⟩ = false := fun o => frozen_of_row _ _ o _ _ HS2.out.row
    go_wp2_with fail
    refine (field_is (j : Int) 115 false _ HS2.out.rows (by rw [show (115 : Nat).toUInt8 = 115 from rfl, fld_s]; exact GS.out)).mono ?_
    rintro e u3 ⟨rfl, hb⟩
    have S := HS2.out.look hb
    have HS3 := Lib.hid S
    clear S
    clear hb c0 f0
    have c0 := fun o => cell_of_row u3 _ o _ _ (0, 0) HS3.out.row
    have f0 : ∀ o, u3.frozen? ⟨g, o, none⟩ = false := fun o => frozen_of_row _ _ o _ _ HS3.out.row
    go_wp2_with fail
    refine (field_is (j : Int) 109 true _ HS3.out.rows (by rw [show (109 : Nat).toUInt8 = 109 from rfl, fld_m]; exact GM.out)).mono ?_
    rintro e u4 ⟨rfl, hb⟩
    have S := HS3.out.look hb
    have HS4 := Lib.hid S
    clear S
    clear hb c0 f0
    have c0 := fun o => cell_of_row u4 _ o _ _ (0, 0) HS4.out.row
    have f0 : ∀ o, u4.frozen? ⟨g, o, none⟩ = false := fun o => frozen_of_row _ _ o _ _ HS4.out.row
    go_wp2_with fail
    refine (recTake_any p A c bs (at_) _ HS4.out.rd).mono ?_
    cases hR5 : recR (bs.drop (at_)) with
    | bad e nb =>
      have H5 := Lib.hid hR5
      clear hR5
      rintro e u5 ⟨rfl, hr2, hk2⟩
      go_wp2
      exact ⟨rfl, FPA.mkBad (n := nb) (by rw [HF.out, show recR (bs.drop (at_)) = .bad e nb from H5.out]; rfl) rfl (by omega) (by omega) hr2 (HS4.out.kp.trans hk2 (fun _ _ x => .inl x))⟩
    | ok v5 n5 =>
      have H5 := Lib.hid hR5
      clear hR5
      rintro e u5 ⟨A9, c9, rfl, ho9, hn9, hr2, hk2⟩
      have HO9 := Lib.hid ho9
      have HNw := Lib.hid (fun k e => Nat.le_trans HS4.out.kp.size (hn9 k e))
      have hn9g : ob A9 ≠ some g := fun e => by have := hn9 g e; have := HS4.out.kp.size; omega
      have S := HS4.out.read HP.out hr2 hk2
      have HS5 := Lib.hid S
      clear S
      clear hr2 hk2 c0 f0 ho9 hn9
      have c0 := fun o => cell_of_row u5 _ o _ _ (0, 0) HS5.out.row
      have f0 : ∀ o, u5.frozen? ⟨g, o, none⟩ = false := fun o => frozen_of_row _ _ o _ _ HS5.out.row
      go_wp2_with fail
      generalize hv : World.setCell _ _ _ = u6
      have KV : Kp (fun k => k = g) u5 u6 := by rw [← hv]; exact kpAt8 (Kp.refl _ _)
      have RV : u6.heap[g]? = some (.cells (actC ⟨(j : Int), key, 0, 0, ⟨#[]⟩, v5, must⟩ A9 c9) 27 (0, 0)) := by rw [← hv]; exact act_stores HS5.out.row
      have S := HS5.out.sets HP.out KV RV
      have HO := Lib.hid (KV.own HO9.out (fun k e x => by rw [ownBlock_slice] at e; have x' : k = g := x; subst x'; exact hn9g e))
      have HS6 := Lib.hid S
      clear S hv c0 f0 KV RV
      have c0 := fun o => cell_of_row u6 _ o _ _ (0, 0) HS6.out.row
      have f0 : ∀ o, u6.frozen? ⟨g, o, none⟩ = false := fun o => frozen_of_row _ _ o _ _ HS6.out.row
      go_wp2_with fail
      go_end0
      exact FPA.mkOk (n := n5) (x := ⟨(j : Int), key, 0, 0, ⟨#[]⟩, v5, must⟩) (by rw [HF.out, H5.out]; rfl) (by omega) HS6.out (HO.out) HNw.out

end Go.Proofs.YtaaeefndhmfceaaGreatDoor
/- Contracts of package act: an act is read. -/
namespace Go.Proofs.YtaaeefndhmfceaaGreatDoor
open Go.RowKit MM

abbrev zeroA : Array Value := actC AC.zero none 0
theorem sR_len {l : List UInt8} {t : ByteArray} {m : Int} {k : Nat} (h : sR m l = .ok t k) : t.size ≤ l.length := by
  obtain ⟨h1, h2⟩ := sR_one h
  have := congrArg List.length h1
  unfold PK.textB at this
  rw [List.length_append, sz_list, List.length_take] at this
  omega
theorem actfR_lim {k : Nat} {must : Bool} {key : ByteArray} {l : List UInt8} {a : AC.Ac} {n : Nat} (h : actfR k must key l = .ok a n) : a.s.size ≤ l.length ∧ a.make.list.length ≤ 32 := by
  obtain ⟨v, i1, j1, hv, hf1, rfl⟩ := andR_inv (show andR (optR (AC.hasN k) 0 iR l) l _ = _ from h)
  obtain ⟨x, i2, j2, hx, hf2, rfl⟩ := andR_inv hf1
  obtain ⟨s, i3, j3, hs, hf3, rfl⟩ := andR_inv hf2
  obtain ⟨m, hm, rfl⟩ := map_inv hf3
  constructor
  · rcases optR_inv hs with ⟨_, hr⟩ | ⟨_, rfl, rfl⟩
    · have := sR_len hr
      simp only [List.length_drop] at this
      show s.size ≤ l.length
      omega
    · exact Nat.zero_le _
  · rcases optR_inv hm with ⟨_, hr⟩ | ⟨_, rfl, rfl⟩
    · obtain ⟨_, _, h3, h4⟩ := recR_one hr
      exact (RC.chk_may h3 h4).len
    · exact Nat.zero_le _

/-! ### part by part -/
section
variable {l : List UInt8} {k n0 n1 n2 n e : Nat} {must : Bool} {key : ByteArray} {a : AC.Ac}
theorem actR_b1 (h : kindA l = .bad e n) : actR l = .bad e n := by unfold actR; rw [andR_bad h]
theorem actR_b2 (h0 : kindA l = .ok k n0) (h : flagR (l.drop n0) = .bad e n) : actR l = .bad e (n0 + n) := by unfold actR; rw [andR_ok h0, andR_bad h]; rfl
theorem actR_b3 (h0 : kindA l = .ok k n0) (h1 : flagR (l.drop n0) = .ok must n1) (h : keyR ((l.drop n0).drop n1) = .bad e n) : actR l = .bad e (n0 + (n1 + n)) := by unfold actR; rw [andR_ok h0, andR_ok h1, andR_bad h]; rfl
theorem actR_b4 (h0 : kindA l = .ok k n0) (h1 : flagR (l.drop n0) = .ok must n1) (h2 : keyR ((l.drop n0).drop n1) = .ok key n2) (h : actfR k must key (((l.drop n0).drop n1).drop n2) = .bad e n) : actR l = .bad e (n0 + (n1 + (n2 + n))) := by unfold actR; rw [andR_ok h0, andR_ok h1, andR_ok h2, andR_bad h]; rfl
theorem actR_ok (h0 : kindA l = .ok k n0) (h1 : flagR (l.drop n0) = .ok must n1) (h2 : keyR ((l.drop n0).drop n1) = .ok key n2) (h : actfR k must key (((l.drop n0).drop n1).drop n2) = .ok a n) (hc : AC.chk a = 0) : actR l = .ok a (n0 + (n1 + (n2 + n))) := by
  unfold actR; rw [andR_ok h0, andR_ok h1, andR_ok h2, andR_ok h]; unfold endA; rw [if_pos hc]; rfl
theorem actR_no (h0 : kindA l = .ok k n0) (h1 : flagR (l.drop n0) = .ok must n1) (h2 : keyR ((l.drop n0).drop n1) = .ok key n2) (h : actfR k must key (((l.drop n0).drop n1).drop n2) = .ok a n) (hc : AC.chk a ≠ 0) : actR l = .bad (AC.chk a) (n0 + (n1 + (n2 + n))) := by
  unfold actR; rw [andR_ok h0, andR_ok h1, andR_ok h2, andR_ok h]; unfold endA; rw [if_neg hc]; rfl
end

/-- How things stand while an act is read. -/
structure KAt (w : World) (p : Nat) (A : Option Addr) (c : Nat) (bs : List UInt8) (g m : Nat) (cs : Array Value) (u : World) : Prop where
  rd : Rd 5 u p A c bs m
  row : u.heap[g]? = some (.cells cs 27 (0, 0))
  res : u.heap[w.heap.size]? = some (.cells zeroA 27 (0, 0))
  kp : Kp (fun k => k = p) w u
  rows : RowsAt u
  lt : w.heap.size < g
section
variable {w : World} {p : Nat} {A : Option Addr} {c : Nat} {bs : List UInt8} {g m m' : Nat} {cs ds : Array Value} {u u' : World}
theorem KAt.read (h : KAt w p A c bs g m cs u) (ha : Apt p A g) (hp : p < w.heap.size) (hr : Rd 5 u' p A c bs m') (hk : Kp (fun k => k = p) u u') : KAt w p A c bs g m' cs u' :=
  ⟨hr, (hk.block _ (lt_of_heap h.row) (fun x => ha.pg (Eq.symm x))).trans h.row, (hk.block _ (lt_of_heap h.res) (by show ¬ w.heap.size = p; omega)).trans h.res, h.kp.same hk, h.rows.kp hk (fun x => ha.pr (Eq.symm x)), h.lt⟩
theorem KAt.look (h : KAt w p A c bs g m cs u) (hb : Below u.heap.size u u') : KAt w p A c bs g m cs u' :=
  ⟨h.rd.keep (Kp.of_below hb (fun _ => False)) (fun x => x) (fun _ _ x => x), (hb.block _ (lt_of_heap h.row)).trans h.row, (hb.block _ (lt_of_heap h.res)).trans h.res, h.kp.same (Kp.of_below hb _), h.rows.below hb, h.lt⟩
theorem KAt.set (h : KAt w p A c bs g m cs u) (ha : Apt p A g) (j : Nat) (v : Value) : KAt w p A c bs g m (cs.setIfInBounds j v) (u.setCell ⟨g, j, none⟩ v) :=
  have hk : Kp (fun k => k = g) u (u.setCell ⟨g, j, none⟩ v) := Kp.setCell (S := fun k => k = g) (Kp.refl _ u) (Or.inl rfl) _
  ⟨h.rd.keep hk (fun x => ha.pg x) (fun k e x => by have x' : k = g := x; subst x'; exact ha.ag e), heap_setCell_same _ _ _ _ _ _ h.row, (hk.block _ (lt_of_heap h.res) (by have := h.lt; show ¬ w.heap.size = g; omega)).trans h.res, h.kp.trans hk (fun i hi x => by have := h.lt; have x' : i = g := x; omega), h.rows.kp hk (fun x => ha.gr (Eq.symm x)), h.lt⟩
theorem KAt.tat (h : KAt w p A c bs g m cs u) : TAt u p A c bs g m cs u := ⟨h.rd, h.row, Kp.refl _ _, h.rows⟩
theorem KAt.kpf (h : KAt w p A c bs g m cs u) (hk : Kp (fun k => k = p ∨ k = g) u u') : Kp (fun k => k = p) w u' :=
  h.kp.trans hk (fun i hi x => by have := h.lt; rcases x with x | x; exact x; omega)
theorem KAt.fields (h : KAt w p A c bs g m cs u) (hp : p < w.heap.size) (ht : TAt u p A c bs g m' ds u') : KAt w p A c bs g m' ds u' :=
  ⟨ht.rd, ht.row, (ht.kp.block _ (lt_of_heap h.res) (fun x => by have := h.lt; rcases x with x | x <;> omega)).trans h.res, h.kpf ht.kp, ht.rows, h.lt⟩
end

/-- What Take answers. -/
def APost (p : Nat) (A : Option Addr) (c : Nat) (bs : List UInt8) (at_ : Nat) (r : Res AC.Ac) (w : World) (e : Ending) (w' : World) : Prop :=
  match r with
  | .ok r n => ∃ A' c', e = .returned (actV r A' c') ∧ w'.ownsRow 0 88 2 (.slice A' r.make.list.length c') r.make.list.length (itCells r.make.list) ∧ (∀ k, ob A' = some k → w.heap.size ≤ k) ∧ Rd 5 w' p A c bs (at_ + n) ∧ Kp (fun k => k = p) w w'
  | .bad code n => e = thr 34 code (at_ + n) ∧ Rd 5 w' p A c bs (at_ + n) ∧ Kp (fun k => k = p) w w'
section
variable {p : Nat} {A : Option Addr} {c : Nat} {bs : List UInt8} {at_ m n code : Nat} {r : Res AC.Ac} {w w' : World} {z y : Int} {x : AC.Ac}
theorem APost.mkBad (h : r = .bad code n) (hy : y = (code : Int)) (hz : z = ((at_ + n : Nat) : Int)) (hm : m = at_ + n) (hr : Rd 5 w' p A c bs m) (hk : Kp (fun k => k = p) w w') :
    APost p A c bs at_ r w (.panicked [{ v := .iface 34 (.agg #[.int .i64 y, .int .i64 z]), recovered := false }]) w' := by
  subst h hy hz hm
  exact ⟨rfl, hr, hk⟩
theorem APost.mkOk {A' : Option Addr} {c' : Nat} {v : Value} (h : r = .ok x n) (hv : v = actV x A' c') (ho : w'.ownsRow 0 88 2 (.slice A' x.make.list.length c') x.make.list.length (itCells x.make.list)) (hn : ∀ k, ob A' = some k → w.heap.size ≤ k) (hm : m = at_ + n) (hr : Rd 5 w' p A c bs m) (hk : Kp (fun k => k = p) w w') :
    APost p A c bs at_ r w (.returned v) w' := by
  subst h hm hv
  exact ⟨A', c', rfl, ho, hn, hr, hk⟩
end

theorem kp14 {w0 w : World} {S : Nat → Prop} {g : Nat} {d0 d1 d2 d3 d4 d5 d6 d7 d8 d9 d10 d11 d12 d13 : Value} (h : Kp S w0 w) (hg : S g ∨ w0.heap.size ≤ g) : Kp S w0 ((((((((((((((w.setCell ⟨g, 0, none⟩ d0).setCell ⟨g, 1, none⟩ d1).setCell ⟨g, 2, none⟩ d2).setCell ⟨g, 3, none⟩ d3).setCell ⟨g, 4, none⟩ d4).setCell ⟨g, 5, none⟩ d5).setCell ⟨g, 6, none⟩ d6).setCell ⟨g, 7, none⟩ d7).setCell ⟨g, 8, none⟩ d8).setCell ⟨g, 9, none⟩ d9).setCell ⟨g, 10, none⟩ d10).setCell ⟨g, 11, none⟩ d11).setCell ⟨g, 12, none⟩ d12).setCell ⟨g, 13, none⟩ d13) := by
  iterate 14 refine Kp.setCell ?_ hg _
  exact h
theorem below14 {B : Nat} {w0 w : World} {g : Nat} {d0 d1 d2 d3 d4 d5 d6 d7 d8 d9 d10 d11 d12 d13 : Value} (h : Below B w0 w) (hg : B ≤ g) : Below B w0 ((((((((((((((w.setCell ⟨g, 0, none⟩ d0).setCell ⟨g, 1, none⟩ d1).setCell ⟨g, 2, none⟩ d2).setCell ⟨g, 3, none⟩ d3).setCell ⟨g, 4, none⟩ d4).setCell ⟨g, 5, none⟩ d5).setCell ⟨g, 6, none⟩ d6).setCell ⟨g, 7, none⟩ d7).setCell ⟨g, 8, none⟩ d8).setCell ⟨g, 9, none⟩ d9).setCell ⟨g, 10, none⟩ d10).setCell ⟨g, 11, none⟩ d11).setCell ⟨g, 12, none⟩ d12).setCell ⟨g, 13, none⟩ d13) := by
  iterate 14 refine Below.setCell ?_ hg _
  exact h

set_option maxHeartbeats 8000000 in
set_option maxRecDepth 100000 in
theorem actTake_any (p : Nat) (A : Option Addr) (c : Nat) (bs : List UInt8) (at_ : Nat) (w : World) (hr : Rd 5 w p A c bs at_) (hR : RowsAt w) (hpr : p ≠ 0) :
    Calls Tryz.prog 40 #[.pointer (some ⟨p, 0, none⟩)] w (APost p A c bs at_ (actR (bs.drop at_)) w) := by
  have hp := hr.lt
  have Hin := Lib.hid (rd_in hr)
  have hx := fun o => actKind_any p A c bs at_ (w.alloc o) (hr.alloc o)
  have HR := Lib.hid hR
  have hrl := rows_lt hR
  have hlim := hr.lim
  unfold Lim at hlim
  clear hR
  cases hK : kindA (bs.drop at_) with
  | bad e n =>
    rw [hK] at hx
    have Hx := Lib.hid hx
    have HK := Lib.hid hK
    clear hx hK
    go_enter Tryz.func40, Tryz.ntmps40
    go_wp2_with fail
    refine (Hx.out _).mono ?_
    rintro e w1 ⟨rfl, hr1, hk1⟩
    go_wp2
    exact ⟨rfl, APost.mkBad (n := n) (actR_b1 HK.out) rfl (by omega) (by omega) hr1 (((Kp.refl _ w).alloc _).same hk1)⟩
  | ok k n0 =>
    rw [hK] at hx
    have Hx := Lib.hid hx
    have HK := Lib.hid hK
    obtain ⟨-, hk0, hk1⟩ := kindA_inv hK
    clear hx hK
    go_enter Tryz.func40, Tryz.ntmps40
    go_wp2_with fail
    refine (Hx.out _).mono ?_
    rintro e w1 ⟨rfl, hr1, hk1⟩
    clear Hx
    have hs1 : w.heap.size < w1.heap.size := by have := hk1.size; simp at this; omega
    have ha : Apt p A w1.heap.size := ⟨by omega, fun e => by have := Hin.out _ e; omega, hpr, by omega⟩
    have HP := Lib.hid ha
    have r0 := rd_new hk1 hp
    have hR1 : RowsAt w1 := (HR.out.below (below1 w _)).kp hk1 (fun x => hpr (Eq.symm x))
    go_wp2_with fail
    generalize hv0 : w1.alloc _ = v0
    have S : KAt w p A c bs w1.heap.size (at_ + n0) (actC ⟨(k : Int), ⟨#[]⟩, 0, 0, ⟨#[]⟩, RC.zero, false⟩ none 0) v0 := by
      rw [← hv0]
      exact ⟨hr1.alloc _, heap_alloc_new _ _, (heap_alloc_old w1 _ hs1).trans r0, (((Kp.refl _ w).alloc _).same hk1).alloc _, hR1.below (below1 _ _), hs1⟩
    have HS0 := Lib.hid S
    clear S hv0 r0 hR1 ha hk1 hr1
    generalize hgg : w1.heap.size = g at *
    clear hgg
    have c0 := fun o => cell_of_row v0 _ o _ _ (0, 0) HS0.out.row
    have f0 : ∀ o, v0.frozen? ⟨g, o, none⟩ = false := fun o => frozen_of_row _ _ o _ _ HS0.out.row
    refine (rflag_any p A c bs (at_ + n0) _ HS0.out.rd).mono ?_
    cases hB : flagR (bs.drop (at_ + n0)) with
    | bad e n =>
      have HB := Lib.hid (show flagR ((bs.drop at_).drop n0) = .bad e n by rw [List.drop_drop]; exact hB)
      clear hB
      rintro e u1 ⟨rfl, hr2, hk2⟩
      go_wp2
      exact ⟨rfl, APost.mkBad (n := n0 + n) (actR_b2 HK.out HB.out) rfl (by omega) (by omega) hr2 (HS0.out.kp.same hk2)⟩
    | ok must n1 =>
      have HB := Lib.hid (show flagR ((bs.drop at_).drop n0) = .ok must n1 by rw [List.drop_drop]; exact hB)
      clear hB
      rintro e u1 ⟨rfl, hr2, hk2⟩
      have S := HS0.out.read HP.out hp hr2 hk2
      have HS1 := Lib.hid S
      clear S hr2 hk2 c0 f0
      have c0 := fun o => cell_of_row u1 _ o _ _ (0, 0) HS1.out.row
      have f0 : ∀ o, u1.frozen? ⟨g, o, none⟩ = false := fun o => frozen_of_row _ _ o _ _ HS1.out.row
      go_wp2_with fail
      generalize hv : World.setCell _ _ _ = v1
      have S : KAt w p A c bs g (at_ + n0 + n1) (actC ⟨(k : Int), ⟨#[]⟩, 0, 0, ⟨#[]⟩, RC.zero, must⟩ none 0) v1 := by rw [← hv]; exact HS1.out.set HP.out 13 (.bool must)
      have HS2 := Lib.hid S
      clear S hv c0 f0 HS1
      have c0 := fun o => cell_of_row v1 _ o _ _ (0, 0) HS2.out.row
      have f0 : ∀ o, v1.frozen? ⟨g, o, none⟩ = false := fun o => frozen_of_row _ _ o _ _ HS2.out.row
      refine (rs_any p A c bs (at_ + n0 + n1) 24 _ rfl HS2.out.rd).mono ?_
      cases hT : txtR 24 (bs.drop (at_ + n0 + n1)) with
      | bad e n =>
        have HT := Lib.hid (show keyR (((bs.drop at_).drop n0).drop n1) = .bad e n by simp only [List.drop_drop]; unfold keyR sR; rw [hT]; rfl)
        clear hT
        rintro e u2 ⟨rfl, hr2, hk2⟩
        go_wp2
        exact ⟨rfl, APost.mkBad (n := n0 + (n1 + n)) (actR_b3 HK.out HB.out HT.out) rfl (by omega) (by omega) hr2 (HS2.out.kp.same hk2)⟩
      | ok t n2 =>
        have hT2 : keyR (((bs.drop at_).drop n0).drop n1) = .ok ⟨t.toArray⟩ n2 := by simp only [List.drop_drop]; unfold keyR sR; rw [hT]; rfl
        have hkl := sR_len (show sR 24 _ = _ from hT2)
        simp only [List.length_drop] at hkl
        have HT := Lib.hid hT2
        clear hT hT2
        rintro e u2 ⟨rfl, hr2, hk2⟩
        have S := HS2.out.read HP.out hp hr2 hk2
        have HS3 := Lib.hid S
        clear S hr2 hk2 c0 f0
        have c0 := fun o => cell_of_row u2 _ o _ _ (0, 0) HS3.out.row
        have f0 : ∀ o, u2.frozen? ⟨g, o, none⟩ = false := fun o => frozen_of_row _ _ o _ _ HS3.out.row
        go_wp2_with fail
        generalize hv : World.setCell _ _ _ = v2
        have S : KAt w p A c bs g (at_ + n0 + n1 + n2) (actC ⟨(k : Int), ⟨t.toArray⟩, 0, 0, ⟨#[]⟩, RC.zero, must⟩ none 0) v2 := by rw [← hv]; exact HS3.out.set HP.out 1 (.string ⟨t.toArray⟩)
        have HS4 := Lib.hid S
        clear S hv c0 f0 HS3
        refine (takeFields_any k must ⟨t.toArray⟩ p A c bs g (at_ + n0 + n1 + n2) v2 ⟨hk0, by omega⟩ HS4.out.tat HP.out).mono ?_
        cases hF : actfR k must ⟨t.toArray⟩ (bs.drop (at_ + n0 + n1 + n2)) with
        | bad e n =>
          have HF := Lib.hid (show actfR k must ⟨t.toArray⟩ ((((bs.drop at_).drop n0).drop n1).drop n2) = .bad e n by simp only [List.drop_drop]; exact hF)
          clear hF
          rintro e u3 ⟨rfl, hr2, hk2⟩
          go_wp2
          exact ⟨rfl, APost.mkBad (n := n0 + (n1 + (n2 + n))) (actR_b4 HK.out HB.out HT.out HF.out) rfl (by omega) (by omega) hr2 (HS4.out.kpf hk2)⟩
        | ok a n =>
          have hF2 : actfR k must ⟨t.toArray⟩ ((((bs.drop at_).drop n0).drop n1).drop n2) = .ok a n := by simp only [List.drop_drop]; exact hF
          obtain ⟨-, -, hao, hak, ham, hay⟩ := actfR_one hk1 hF2
          have hlm := actfR_lim hF2
          simp only [List.length_drop] at hlm
          have HF := Lib.hid hF2
          have HC := Lib.hid (fun u A' c' (hR : RowsAt u) (hI : Its u A' a.make.list) => actCheck_any a A' c' u hao hR hI (by unfold Lim; omega) (by rw [hay]; unfold Lim; omega) (by unfold Lim; omega))
          clear hF hF2 hak ham hay hao hlm hkl
          rintro e u3 ⟨rfl, A9, c9, ht9, ho9, hn9⟩
          have S := HS4.out.fields hp ht9
          have HNw := Lib.hid hn9
          have HO9 := Lib.hid ho9
          have HS5 := Lib.hid S
          clear S ht9 ho9 hn9
          have c0 := fun o => cell_of_row u3 _ o _ _ (0, 0) HS5.out.row
          go_wp2_with fail
          refine (HC.out _ A9 c9 HS5.out.rows (Its.own HO9.out)).mono ?_
          rintro e u4 ⟨rfl, hb4⟩
          have S := HS5.out.look hb4
          have HO := Lib.hid (own_below HO9.out hb4)
          have HS6 := Lib.hid S
          clear S hb4 HO9 c0
          rcases Nat.eq_zero_or_pos (AC.chk a) with hc | hc
          · have Hz := Lib.hid (actR_ok HK.out HB.out HT.out HF.out hc)
            rw [hc]
            have c0 := fun o => cell_of_row u4 _ o _ _ (0, 0) HS6.out.row
            have cR := fun o => cell_of_row u4 _ o _ _ (0, 0) HS6.out.res
            have fR : ∀ o, u4.frozen? ⟨w.heap.size, o, none⟩ = false := fun o => frozen_of_row _ _ o _ _ HS6.out.res
            clear hc
            go_wp2_with fail
            refine bodyPost_ret (v := actV a A9 c9) (by simp [results, Tryz.results40, go_sem, cR]) rfl ?_
            have hne : ∀ k, ob A9 = some k → k ≠ w.heap.size := fun k e => by have := HNw.out k e; have := HS4.out.kp.size; have := lt_of_heap HS4.out.res; omega
            generalize hwf : World.setCell _ _ _ = wf
            have hkr : Kp (fun k => k = w.heap.size) u4 wf := by rw [← hwf]; exact kp14 (Kp.refl _ u4) (Or.inl rfl)
            clear hwf
            refine APost.mkOk (n := n0 + (n1 + (n2 + n))) (m := at_ + n0 + n1 + n2 + n) Hz.out rfl (hkr.own HO.out (fun k e x => by rw [ownBlock_slice] at e; exact hne k e x)) (fun k e => by have := HNw.out k e; have := HS4.out.kp.size; omega) (by omega) (HS6.out.rd.keep hkr (by show ¬ p = w.heap.size; omega) (fun k e x => by have := Hin.out k e; have x' : k = w.heap.size := x; omega)) (HS6.out.kp.trans hkr (fun i hi x => by have x' : i = w.heap.size := x; omega))
          · have Hz := Lib.hid (actR_no HK.out HB.out HT.out HF.out (by omega))
            generalize AC.chk a = code at *
            have h2 : ((code : Int) != 0) = true := by simp; omega
            clear hc
            go_wp2_with fail
            refine (fail_any p A c bs _ code _ HS6.out.rd).mono ?_
            rintro e u5 ⟨rfl, rfl⟩
            go_wp2
            exact ⟨rfl, APost.mkBad (n := n0 + (n1 + (n2 + n))) Hz.out rfl (by omega) (by omega) HS6.out.rd HS6.out.kp⟩

end Go.Proofs.YtaaeefndhmfceaaGreatDoor
/- Contracts of package act: the act that bytes are. -/
namespace Go.Proofs.YtaaeefndhmfceaaGreatDoor
open Go.RowKit MM

set_option maxHeartbeats 1000000 in
set_option maxRecDepth 100000 in
theorem actCatch_fault (q : Nat) (x y : Value) (code at_ : Nat) (older : List PanicEntry) (w : World) (h0 : w.cell? ⟨q, 0, none⟩ = some x) (h1 : w.cell? ⟨q, 1, none⟩ = some y) (hf : ∀ o, w.frozen? ⟨q, o, none⟩ = false) :
    CallsD Tryz.prog 37 #[.pointer (some ⟨q, 0, none⟩)] (.panicking ({ v := .iface 34 (fltV code at_), recovered := false } :: older)) w fun e u' w' =>
      e = .returned (.tuple #[]) ∧ u' = .panicking ({ v := .iface 34 (fltV code at_), recovered := true } :: older) ∧ LaidAt q code at_ w w' := by
  refine callsD_of_wpS Tryz.func37 rfl fun c₀ cs hu => ?_
  apply wpS_region
  simp [wpOpsS, go_sem, recoverD, hu, Tryz.ntmps37]
  refine (caught_fault code at_ w).mono ?_
  rintro e w1 ⟨rfl, hb1⟩
  have hq : q < w.heap.size := World.block_lt_of_cell? w _ h0
  have c0 : w1.cell? ⟨q, 0, none⟩ = some x := (hb1.cell (p := ⟨q, 0, none⟩) hq).trans h0
  have c1 : w1.cell? ⟨q, 1, none⟩ = some y := (hb1.cell (p := ⟨q, 1, none⟩) hq).trans h1
  have f0 : ∀ o, w1.frozen? ⟨q, o, none⟩ = false := fun o => (hb1.frozen (p := ⟨q, o, none⟩) hq).trans (hf o)
  simp [go_sem, c0, c1, f0, bodyPostS, results, Tryz.results37]
  exact ⟨w1, hb1, rfl⟩

set_option maxHeartbeats 1000000 in
set_option maxRecDepth 100000 in
theorem actCatch_none (q : Nat) (x y : Value) (w : World) (h0 : w.cell? ⟨q, 0, none⟩ = some x) (h1 : w.cell? ⟨q, 1, none⟩ = some y) (hf : ∀ o, w.frozen? ⟨q, o, none⟩ = false) :
    CallsD Tryz.prog 37 #[.pointer (some ⟨q, 0, none⟩)] .returning w fun e u' w' =>
      e = .returned (.tuple #[]) ∧ u' = .returning ∧ LaidAt q 0 0 w w' := by
  refine callsD_of_wpS Tryz.func37 rfl fun c₀ cs hu => ?_
  apply wpS_region
  simp [wpOpsS, go_sem, recoverD, hu, Tryz.ntmps37]
  refine (caught_nil w).mono ?_
  rintro e w1 ⟨rfl, hb1⟩
  have hq : q < w.heap.size := World.block_lt_of_cell? w _ h0
  have c0 : w1.cell? ⟨q, 0, none⟩ = some x := (hb1.cell (p := ⟨q, 0, none⟩) hq).trans h0
  have c1 : w1.cell? ⟨q, 1, none⟩ = some y := (hb1.cell (p := ⟨q, 1, none⟩) hq).trans h1
  have f0 : ∀ o, w1.frozen? ⟨q, o, none⟩ = false := fun o => (hb1.frozen (p := ⟨q, o, none⟩) hq).trans (hf o)
  cases c₀
  simp_all [go_sem, bodyPostS, results, Tryz.results37]
  exact ⟨w1, hb1, rfl⟩

def RActPost (r : Res AC.Ac) (w : World) (e : Ending) (w' : World) : Prop :=
  match r with
  | .ok r _ => ∃ A c, e = .returned (.tuple #[actV r A c, fltV 0 0]) ∧ w'.ownsRow 0 88 2 (.slice A r.make.list.length c) r.make.list.length (itCells r.make.list) ∧ (∀ k, ob A = some k → w.heap.size ≤ k) ∧ Below w.heap.size w w'
  | .bad code n => e = .returned (.tuple #[actV AC.zero none 0, fltV code n]) ∧ Below w.heap.size w w'

theorem RActPost.bad {r : Res AC.Ac} {code n : Nat} {z : Int} {w w' : World} (h : r = .bad code n) (hz : z = (n : Int)) (hb : Below w.heap.size w w') : RActPost r w (.returned (.tuple #[.agg zeroA, .agg #[.int .i64 (code : Int), .int .i64 z]])) w' := by
  subst h hz
  exact ⟨rfl, hb⟩
theorem RActPost.good {r : Res AC.Ac} {x : AC.Ac} {n : Nat} {A : Option Addr} {c : Nat} {w w' : World} (h : r = .ok x n) (ho : w'.ownsRow 0 88 2 (.slice A x.make.list.length c) x.make.list.length (itCells x.make.list)) (hn : ∀ k, ob A = some k → w.heap.size ≤ k) (hb : Below w.heap.size w w') :
    RActPost r w (.returned (.tuple #[actV x A c, .agg #[.int .i64 0, .int .i64 0]])) w' := by
  subst h
  exact ⟨A, c, rfl, ho, hn, hb⟩
section
variable {w : World} {g : Nat} {x0 x1 x2 x3 x4 x5 x6 x7 x8 x9 x10 x11 x12 x13 d0 d1 d2 d3 d4 d5 d6 d7 d8 d9 d10 d11 d12 d13 : Value} {t : TypeId}
theorem act_all (hq : w.heap[g]? = some (.cells #[x0, x1, x2, x3, x4, x5, x6, x7, x8, x9, x10, x11, x12, x13] t (0, 0))) :
    ((((((((((((((w.setCell ⟨g, 0, none⟩ d0).setCell ⟨g, 1, none⟩ d1).setCell ⟨g, 2, none⟩ d2).setCell ⟨g, 3, none⟩ d3).setCell ⟨g, 4, none⟩ d4).setCell ⟨g, 5, none⟩ d5).setCell ⟨g, 6, none⟩ d6).setCell ⟨g, 7, none⟩ d7).setCell ⟨g, 8, none⟩ d8).setCell ⟨g, 9, none⟩ d9).setCell ⟨g, 10, none⟩ d10).setCell ⟨g, 11, none⟩ d11).setCell ⟨g, 12, none⟩ d12).setCell ⟨g, 13, none⟩ d13).heap[g]? = some (.cells #[d0, d1, d2, d3, d4, d5, d6, d7, d8, d9, d10, d11, d12, d13] t (0, 0)) := by
  have h0 : (w.setCell ⟨g, 0, none⟩ d0).heap[g]? = some (.cells #[d0, x1, x2, x3, x4, x5, x6, x7, x8, x9, x10, x11, x12, x13] t (0, 0)) := heap_setCell_same _ _ _ _ _ _ hq
  have h1 : ((w.setCell ⟨g, 0, none⟩ d0).setCell ⟨g, 1, none⟩ d1).heap[g]? = some (.cells #[d0, d1, x2, x3, x4, x5, x6, x7, x8, x9, x10, x11, x12, x13] t (0, 0)) := heap_setCell_same _ _ _ _ _ _ h0
  have h2 : (((w.setCell ⟨g, 0, none⟩ d0).setCell ⟨g, 1, none⟩ d1).setCell ⟨g, 2, none⟩ d2).heap[g]? = some (.cells #[d0, d1, d2, x3, x4, x5, x6, x7, x8, x9, x10, x11, x12, x13] t (0, 0)) := heap_setCell_same _ _ _ _ _ _ h1
  have h3 : ((((w.setCell ⟨g, 0, none⟩ d0).setCell ⟨g, 1, none⟩ d1).setCell ⟨g, 2, none⟩ d2).setCell ⟨g, 3, none⟩ d3).heap[g]? = some (.cells #[d0, d1, d2, d3, x4, x5, x6, x7, x8, x9, x10, x11, x12, x13] t (0, 0)) := heap_setCell_same _ _ _ _ _ _ h2
  have h4 : (((((w.setCell ⟨g, 0, none⟩ d0).setCell ⟨g, 1, none⟩ d1).setCell ⟨g, 2, none⟩ d2).setCell ⟨g, 3, none⟩ d3).setCell ⟨g, 4, none⟩ d4).heap[g]? = some (.cells #[d0, d1, d2, d3, d4, x5, x6, x7, x8, x9, x10, x11, x12, x13] t (0, 0)) := heap_setCell_same _ _ _ _ _ _ h3
  have h5 : ((((((w.setCell ⟨g, 0, none⟩ d0).setCell ⟨g, 1, none⟩ d1).setCell ⟨g, 2, none⟩ d2).setCell ⟨g, 3, none⟩ d3).setCell ⟨g, 4, none⟩ d4).setCell ⟨g, 5, none⟩ d5).heap[g]? = some (.cells #[d0, d1, d2, d3, d4, d5, x6, x7, x8, x9, x10, x11, x12, x13] t (0, 0)) := heap_setCell_same _ _ _ _ _ _ h4
  have h6 : (((((((w.setCell ⟨g, 0, none⟩ d0).setCell ⟨g, 1, none⟩ d1).setCell ⟨g, 2, none⟩ d2).setCell ⟨g, 3, none⟩ d3).setCell ⟨g, 4, none⟩ d4).setCell ⟨g, 5, none⟩ d5).setCell ⟨g, 6, none⟩ d6).heap[g]? = some (.cells #[d0, d1, d2, d3, d4, d5, d6, x7, x8, x9, x10, x11, x12, x13] t (0, 0)) := heap_setCell_same _ _ _ _ _ _ h5
  have h7 : ((((((((w.setCell ⟨g, 0, none⟩ d0).setCell ⟨g, 1, none⟩ d1).setCell ⟨g, 2, none⟩ d2).setCell ⟨g, 3, none⟩ d3).setCell ⟨g, 4, none⟩ d4).setCell ⟨g, 5, none⟩ d5).setCell ⟨g, 6, none⟩ d6).setCell ⟨g, 7, none⟩ d7).heap[g]? = some (.cells #[d0, d1, d2, d3, d4, d5, d6, d7, x8, x9, x10, x11, x12, x13] t (0, 0)) := heap_setCell_same _ _ _ _ _ _ h6
  have h8 : (((((((((w.setCell ⟨g, 0, none⟩ d0).setCell ⟨g, 1, none⟩ d1).setCell ⟨g, 2, none⟩ d2).setCell ⟨g, 3, none⟩ d3).setCell ⟨g, 4, none⟩ d4).setCell ⟨g, 5, none⟩ d5).setCell ⟨g, 6, none⟩ d6).setCell ⟨g, 7, none⟩ d7).setCell ⟨g, 8, none⟩ d8).heap[g]? = some (.cells #[d0, d1, d2, d3, d4, d5, d6, d7, d8, x9, x10, x11, x12, x13] t (0, 0)) := heap_setCell_same _ _ _ _ _ _ h7
  have h9 : ((((((((((w.setCell ⟨g, 0, none⟩ d0).setCell ⟨g, 1, none⟩ d1).setCell ⟨g, 2, none⟩ d2).setCell ⟨g, 3, none⟩ d3).setCell ⟨g, 4, none⟩ d4).setCell ⟨g, 5, none⟩ d5).setCell ⟨g, 6, none⟩ d6).setCell ⟨g, 7, none⟩ d7).setCell ⟨g, 8, none⟩ d8).setCell ⟨g, 9, none⟩ d9).heap[g]? = some (.cells #[d0, d1, d2, d3, d4, d5, d6, d7, d8, d9, x10, x11, x12, x13] t (0, 0)) := heap_setCell_same _ _ _ _ _ _ h8
  have h10 : (((((((((((w.setCell ⟨g, 0, none⟩ d0).setCell ⟨g, 1, none⟩ d1).setCell ⟨g, 2, none⟩ d2).setCell ⟨g, 3, none⟩ d3).setCell ⟨g, 4, none⟩ d4).setCell ⟨g, 5, none⟩ d5).setCell ⟨g, 6, none⟩ d6).setCell ⟨g, 7, none⟩ d7).setCell ⟨g, 8, none⟩ d8).setCell ⟨g, 9, none⟩ d9).setCell ⟨g, 10, none⟩ d10).heap[g]? = some (.cells #[d0, d1, d2, d3, d4, d5, d6, d7, d8, d9, d10, x11, x12, x13] t (0, 0)) := heap_setCell_same _ _ _ _ _ _ h9
  have h11 : ((((((((((((w.setCell ⟨g, 0, none⟩ d0).setCell ⟨g, 1, none⟩ d1).setCell ⟨g, 2, none⟩ d2).setCell ⟨g, 3, none⟩ d3).setCell ⟨g, 4, none⟩ d4).setCell ⟨g, 5, none⟩ d5).setCell ⟨g, 6, none⟩ d6).setCell ⟨g, 7, none⟩ d7).setCell ⟨g, 8, none⟩ d8).setCell ⟨g, 9, none⟩ d9).setCell ⟨g, 10, none⟩ d10).setCell ⟨g, 11, none⟩ d11).heap[g]? = some (.cells #[d0, d1, d2, d3, d4, d5, d6, d7, d8, d9, d10, d11, x12, x13] t (0, 0)) := heap_setCell_same _ _ _ _ _ _ h10
  have h12 : (((((((((((((w.setCell ⟨g, 0, none⟩ d0).setCell ⟨g, 1, none⟩ d1).setCell ⟨g, 2, none⟩ d2).setCell ⟨g, 3, none⟩ d3).setCell ⟨g, 4, none⟩ d4).setCell ⟨g, 5, none⟩ d5).setCell ⟨g, 6, none⟩ d6).setCell ⟨g, 7, none⟩ d7).setCell ⟨g, 8, none⟩ d8).setCell ⟨g, 9, none⟩ d9).setCell ⟨g, 10, none⟩ d10).setCell ⟨g, 11, none⟩ d11).setCell ⟨g, 12, none⟩ d12).heap[g]? = some (.cells #[d0, d1, d2, d3, d4, d5, d6, d7, d8, d9, d10, d11, d12, x13] t (0, 0)) := heap_setCell_same _ _ _ _ _ _ h11
  have h13 : ((((((((((((((w.setCell ⟨g, 0, none⟩ d0).setCell ⟨g, 1, none⟩ d1).setCell ⟨g, 2, none⟩ d2).setCell ⟨g, 3, none⟩ d3).setCell ⟨g, 4, none⟩ d4).setCell ⟨g, 5, none⟩ d5).setCell ⟨g, 6, none⟩ d6).setCell ⟨g, 7, none⟩ d7).setCell ⟨g, 8, none⟩ d8).setCell ⟨g, 9, none⟩ d9).setCell ⟨g, 10, none⟩ d10).setCell ⟨g, 11, none⟩ d11).setCell ⟨g, 12, none⟩ d12).setCell ⟨g, 13, none⟩ d13).heap[g]? = some (.cells #[d0, d1, d2, d3, d4, d5, d6, d7, d8, d9, d10, d11, d12, d13] t (0, 0)) := heap_setCell_same _ _ _ _ _ _ h12
  exact h13
theorem act_other {k : Nat} (h : k ≠ g) : ((((((((((((((w.setCell ⟨g, 0, none⟩ d0).setCell ⟨g, 1, none⟩ d1).setCell ⟨g, 2, none⟩ d2).setCell ⟨g, 3, none⟩ d3).setCell ⟨g, 4, none⟩ d4).setCell ⟨g, 5, none⟩ d5).setCell ⟨g, 6, none⟩ d6).setCell ⟨g, 7, none⟩ d7).setCell ⟨g, 8, none⟩ d8).setCell ⟨g, 9, none⟩ d9).setCell ⟨g, 10, none⟩ d10).setCell ⟨g, 11, none⟩ d11).setCell ⟨g, 12, none⟩ d12).setCell ⟨g, 13, none⟩ d13).heap[k]? = w.heap[k]? := by
  iterate 14 refine (heap_setCell_other _ _ _ _ h).trans ?_
  rfl
end

set_option maxHeartbeats 2000000 in
set_option maxRecDepth 100000 in
theorem actRead_any (A : Option Addr) (c : Nat) (bs : List UInt8) (w : World) (hb : Bts w A bs) (hl : Lim bs.length) (hR : RowsAt w) :
    Calls Tryz.prog 11 #[.slice A bs.length c] w (RActPost (wholeR actR bs) w) := by
  have hmf : ∀ (fn : Fn) (first cap : Array Value) (w : World), (Instr.makeFunc fn first cap).run Tryz.prog w = .ok (.func fn first cap) w := fun _ _ _ _ => rfl
  have HB := Lib.hid hb
  have HRo := Lib.hid hR
  clear hb hR
  cases hR : actR bs with
  | bad code n =>
    have HC := Lib.hid (wholeR_bad hR)
    have HR := Lib.hid hR
    clear hR
    go_enter_defers Tryz.func11, Tryz.ntmps11
    go_wp2_with fail
    refine (new_any A c bs _ ((HB.out.alloc _).alloc _) hl).mono ?_
    rintro e w1 ⟨q, A1, c1, rfl, hr1, hq1, ha1, hb1⟩
    have hs1 := hb1.size
    simp only [World.size_alloc] at hq1 ha1 hs1
    have e0 := (hb1.block w.heap.size (by simp only [World.size_alloc]; omega)).trans (heap_alloc2_old w _ _)
    have e1 := (hb1.block (w.heap.size + 1) (by simp only [World.size_alloc]; omega)).trans (heap_alloc2_new w _ _)
    have hx := actTake_any q A1 c1 bs 0 w1 hr1 ((HRo.out.below (below2 w _ _)).below hb1) (by have := rows_lt HRo.out; omega)
    rw [List.drop_zero, HR.out] at hx
    have Hx := Lib.hid hx
    have HE0 := Lib.hid e0
    have HE1 := Lib.hid e1
    have HB1 := Lib.hid (show Below w.heap.size w w1 from (below2 w _ _).trans (hb1.mono (by simp; omega)))
    clear hx e0 e1 hb1
    go_wp2_with fail
    refine Hx.out.mono ?_
    rintro e w2 ⟨rfl, hr2, hk2⟩
    have z0 := (hk2.block _ (by omega) (by show ¬ w.heap.size = q; omega)).trans HE0.out
    have z1 := (hk2.block _ (by omega) (by show ¬ w.heap.size + 1 = q; omega)).trans HE1.out
    have d0 : w2.cell? ⟨w.heap.size + 1, 0, none⟩ = some (.int .i64 0) := (cell_of_row _ _ 0 _ _ (0, 0) z1).trans rfl
    have d1 : w2.cell? ⟨w.heap.size + 1, 1, none⟩ = some (.int .i64 0) := (cell_of_row _ _ 1 _ _ (0, 0) z1).trans rfl
    have df : ∀ o, w2.frozen? ⟨w.heap.size + 1, o, none⟩ = false := fun o => frozen_of_row _ _ o _ _ z1
    have hz2 := lt_of_heap z1
    have Z0 := Lib.hid z0
    have Z1 := Lib.hid z1
    have HB2 := Lib.hid (show Below w.heap.size w w2 from HB1.out.trans (hk2.below (by omega) (fun j hj e => by have h1 : j = q := e; omega)))
    clear z0 z1 Hx
    go_wp2
    try rw [show (((0 : Nat) : Int) + (n : Int)) = ((n : Nat) : Int) by omega]
    refine leaves_cons (f := 37) (args := #[.pointer (some ⟨w.heap.size + 1, 0, none⟩)]) (by simp) (by simp [go_sem]) ?_
    refine (actCatch_fault (w.heap.size + 1) _ _ code n [] _ d0 d1 df).mono ?_
    rintro e u' w'' ⟨rfl, rfl, w5, hb5, rfl⟩
    have y0 := (hb5.block _ (by omega)).trans Z0.out
    have y1 := (hb5.block _ hz2).trans Z1.out
    have c0 := fun o => cell_of_row w5 _ o _ _ (0, 0) y0
    have c1 := fun o => cell_of_row w5 _ o _ _ (0, 0) y1
    simp [Leaves, settle, results, Tryz.results11, go_sem, c0, c1]
    exact RActPost.bad HC.out rfl (((HB2.out.trans (hb5.mono HB2.out.size)).setCell (by simp) _).setCell (by simp) _)
  | ok r n =>
    have HR := Lib.hid hR
    clear hR
    go_enter_defers Tryz.func11, Tryz.ntmps11
    go_wp2_with fail
    refine (new_any A c bs _ ((HB.out.alloc _).alloc _) hl).mono ?_
    rintro e w1 ⟨q, A1, c1, rfl, hr1, hq1, ha1, hb1⟩
    have hs1 := hb1.size
    simp only [World.size_alloc] at hq1 ha1 hs1
    have e0 := (hb1.block w.heap.size (by simp only [World.size_alloc]; omega)).trans (heap_alloc2_old w _ _)
    have e1 := (hb1.block (w.heap.size + 1) (by simp only [World.size_alloc]; omega)).trans (heap_alloc2_new w _ _)
    have hx := actTake_any q A1 c1 bs 0 w1 hr1 ((HRo.out.below (below2 w _ _)).below hb1) (by have := rows_lt HRo.out; omega)
    rw [List.drop_zero, HR.out] at hx
    have Hx := Lib.hid hx
    have HE0 := Lib.hid e0
    have HE1 := Lib.hid e1
    have HB1 := Lib.hid (show Below w.heap.size w w1 from (below2 w _ _).trans (hb1.mono (by simp; omega)))
    clear hx e0 e1 hb1
    go_wp2_with fail
    refine Hx.out.mono ?_
    rintro e w2 ⟨A2, c2, rfl, hown, hnew, hr2, hk2⟩
    have z0 := (hk2.block _ (by omega) (by show ¬ w.heap.size = q; omega)).trans HE0.out
    have z1 := (hk2.block _ (by omega) (by show ¬ w.heap.size + 1 = q; omega)).trans HE1.out
    have Z0 := Lib.hid z0
    have Z1 := Lib.hid z1
    have HB2 := Lib.hid (show Below w.heap.size w w2 from HB1.out.trans (hk2.below (by omega) (fun j hj e => by have h1 : j = q := e; omega)))
    have hz2 := lt_of_heap z1
    have hK2 := hk2.size
    clear z0 z1 Hx
    have hx := fun o => rend_any q A1 c1 bs (0 + n) (w2.alloc o) (hr2.alloc o)
    by_cases hE : bs.drop n = []
    · rw [Nat.zero_add, show endR (bs.drop n) = .ok () 0 by unfold endR; rw [if_pos hE]] at hx
      have Hx := Lib.hid hx
      have HC := Lib.hid (wholeR_ok HR.out hE)
      clear hx hE
      go_wp2_with fail
      refine (Hx.out _).mono ?_
      rintro e w3 ⟨rfl, hr3, hk3⟩
      have e2 := rd_new hk3 (by have := hr1.lt; omega)
      have y0 := (hk3.block _ (by simp; omega) (by show ¬ w.heap.size = q; omega)).trans ((heap_alloc_old w2 _ (by omega)).trans Z0.out)
      have y1 := (hk3.block _ (by simp; omega) (by show ¬ w.heap.size + 1 = q; omega)).trans ((heap_alloc_old w2 _ (by omega)).trans Z1.out)
      have c2' := fun o => cell_of_row w3 _ o _ _ (0, 0) e2
      have c0' := fun o => cell_of_row w3 _ o _ _ (0, 0) y0
      have c1' := fun o => cell_of_row w3 _ o _ _ (0, 0) y1
      have f0' : ∀ o, w3.frozen? ⟨w.heap.size, o, none⟩ = false := fun o => frozen_of_row _ _ o _ _ y0
      have f1' : ∀ o, w3.frozen? ⟨w.heap.size + 1, o, none⟩ = false := fun o => frozen_of_row _ _ o _ _ y1
      have HW := Lib.hid (hk3.own (hown.alloc _) (fun k e x => by rw [ownBlock_slice] at e; have h1 := hnew k e; have h2 : k = q := x; have := hr1.lt; omega))
      have HN := Lib.hid hnew
      have hsz3 := hk3.size
      simp only [World.size_alloc] at hsz3
      have Y0 := Lib.hid y0
      have Y1 := Lib.hid y1
      have HB3 := Lib.hid (show Below w.heap.size w w3 from (HB2.out.alloc (by omega) _).trans (hk3.below (by simp; omega) (fun j hj e => by have h1 : j = q := e; omega)))
      clear e2 y0 y1 Hx hown hnew
      go_wp2_with fail
      generalize hw4 : World.setCell _ _ _ = w4
      have X0 : w4.heap[w.heap.size]? = some (.cells (actC r A2 c2) 27 (0, 0)) := by
        rw [← hw4]
        exact (heap_setCell_other _ _ _ _ (by show w.heap.size ≠ w.heap.size + 1; omega)).trans ((heap_setCell_other _ _ _ _ (by show w.heap.size ≠ w.heap.size + 1; omega)).trans (act_all Y0.out))
      have X1 : w4.heap[w.heap.size + 1]? = some (.cells #[.int .i64 0, .int .i64 0] 34 (0, 0)) := by
        rw [← hw4]
        exact heap_setCell_same _ _ _ _ _ _ (heap_setCell_same _ _ _ _ _ _ ((act_other (by omega)).trans Y1.out))
      have K4 : Kp (fun k => w.heap.size ≤ k ∧ k ≤ w.heap.size + 1) w3 w4 := by
        rw [← hw4]
        iterate 16 refine Kp.setCell ?_ (Or.inl (by show w.heap.size ≤ _ ∧ _ ≤ w.heap.size + 1; simp only; omega)) _
        exact Kp.refl _ _
      have HK4 := Lib.hid K4
      have hsz4 := K4.size
      have hc0 : w4.cell? ⟨w.heap.size + 1, 0, none⟩ = some (.int .i64 0) := (cell_of_row _ _ 0 _ _ (0, 0) X1).trans rfl
      have hc1 : w4.cell? ⟨w.heap.size + 1, 1, none⟩ = some (.int .i64 0) := (cell_of_row _ _ 1 _ _ (0, 0) X1).trans rfl
      have hf4 : ∀ o, w4.frozen? ⟨w.heap.size + 1, o, none⟩ = false := fun o => frozen_of_row _ _ o _ _ X1
      have HX0 := Lib.hid X0
      have HX1 := Lib.hid X1
      clear hw4 X0 X1 K4 Y0 Y1 c0' c1' c2' f0' f1'
      refine leaves_cons (f := 37) (args := #[.pointer (some ⟨w.heap.size + 1, 0, none⟩)]) (by simp) (by simp [go_sem]) ?_
      refine (actCatch_none (w.heap.size + 1) _ _ _ hc0 hc1 hf4).mono ?_
      rintro e u' w'' ⟨rfl, rfl, w5, hb5, rfl⟩
      have y0 := (hb5.block _ (by omega)).trans HX0.out
      have y1 := (hb5.block _ (by omega)).trans HX1.out
      have c0' := fun o => cell_of_row w5 _ o _ _ (0, 0) y0
      have c1' := fun o => cell_of_row w5 _ o _ _ (0, 0) y1
      simp [Leaves, settle, results, Tryz.results11, go_sem, c0', c1']
      have K5 : Kp (fun k => w.heap.size ≤ k ∧ k ≤ w.heap.size + 1) w3 ((w5.setCell ⟨w.heap.size + 1, 0, none⟩ (.int .i64 0)).setCell ⟨w.heap.size + 1, 1, none⟩ (.int .i64 0)) :=
        Kp.setCell (Kp.setCell (HK4.out.same (Kp.of_below hb5 _)) (Or.inl ⟨by show w.heap.size ≤ w.heap.size + 1; omega, Nat.le_refl _⟩) _) (Or.inl ⟨by show w.heap.size ≤ w.heap.size + 1; omega, Nat.le_refl _⟩) _
      exact RActPost.good HC.out (K5.own HW.out (fun k e x => by rw [ownBlock_slice] at e; have := HN.out k e; have x' : w.heap.size ≤ k ∧ k ≤ w.heap.size + 1 := x; omega)) (fun k e => by have := HN.out k e; omega)
        (HB3.out.trans (K5.below HB3.out.size (fun j hj e => by have x' : w.heap.size ≤ j ∧ j ≤ w.heap.size + 1 := e; omega)))
    · rw [Nat.zero_add, show endR (bs.drop n) = .bad 3 0 by unfold endR; rw [if_neg hE]] at hx
      have Hx := Lib.hid hx
      have HC := Lib.hid (wholeR_long HR.out hE)
      clear hx hE
      go_wp2_with fail
      refine (Hx.out _).mono ?_
      rintro e w3 ⟨rfl, hr3, hk3⟩
      have y0 := (hk3.block _ (by simp; omega) (by show ¬ w.heap.size = q; omega)).trans ((heap_alloc_old w2 _ (by omega)).trans Z0.out)
      have y1 := (hk3.block _ (by simp; omega) (by show ¬ w.heap.size + 1 = q; omega)).trans ((heap_alloc_old w2 _ (by omega)).trans Z1.out)
      have d0 : w3.cell? ⟨w.heap.size + 1, 0, none⟩ = some (.int .i64 0) := (cell_of_row _ _ 0 _ _ (0, 0) y1).trans rfl
      have d1 : w3.cell? ⟨w.heap.size + 1, 1, none⟩ = some (.int .i64 0) := (cell_of_row _ _ 1 _ _ (0, 0) y1).trans rfl
      have df : ∀ o, w3.frozen? ⟨w.heap.size + 1, o, none⟩ = false := fun o => frozen_of_row _ _ o _ _ y1
      have hsz3 := hk3.size
      simp only [World.size_alloc] at hsz3
      have Y0 := Lib.hid y0
      have Y1 := Lib.hid y1
      have HB3 := Lib.hid (show Below w.heap.size w w3 from (HB2.out.alloc (by omega) _).trans (hk3.below (by simp; omega) (fun j hj e => by have h1 : j = q := e; omega)))
      clear y0 y1 Hx
      go_wp2
      refine leaves_cons (f := 37) (args := #[.pointer (some ⟨w.heap.size + 1, 0, none⟩)]) (by simp) (by simp [go_sem]) ?_
      refine (actCatch_fault (w.heap.size + 1) _ _ 3 n [] _ d0 d1 df).mono ?_
      rintro e u' w'' ⟨rfl, rfl, w5, hb5, rfl⟩
      have y0 := (hb5.block _ (by omega)).trans Y0.out
      have y1 := (hb5.block _ (by omega)).trans Y1.out
      have c0 := fun o => cell_of_row w5 _ o _ _ (0, 0) y0
      have c1 := fun o => cell_of_row w5 _ o _ _ (0, 0) y1
      simp [Leaves, settle, results, Tryz.results11, go_sem, c0, c1]
      exact RActPost.bad (code := 3) HC.out rfl (((HB3.out.trans (hb5.mono HB3.out.size)).setCell (by simp) _).setCell (by simp) _)

end Go.Proofs.YtaaeefndhmfceaaGreatDoor
