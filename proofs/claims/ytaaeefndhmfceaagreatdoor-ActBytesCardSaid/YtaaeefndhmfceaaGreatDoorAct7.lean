/- Contracts of package act: an act is read. -/
import Derived.Test.YtaaeefndhmfceaaGreatDoorAct6
namespace Go.Proofs.YtaaeefndhmfceaaGreatDoor
open Go.RowKit MM

abbrev zeroA : Array Value := actC AC.zero none 0
theorem sR_len {l : List UInt8} {t : ByteArray} {m : Int} {k : Nat} (h : sR m l = .ok t k) : t.size ≤ l.length := by
  obtain ⟨h1, h2⟩ := sR_one h
  have := congrArg List.length h1
  unfold PK.textB at this
  rw [List.length_append, sz_list, List.length_take] at this
  omega
theorem actfR_lim {k : Nat} {must : Bool} {key : ByteArray} {l : List UInt8} {a : AC.Ac} {n : Nat} (h : actfR k must key l = .ok a n) : a.s.size ≤ l.length ∧ a.make.list.length ≤ 32 := by
  obtain ⟨v, i1, j1, hv, hf1, rfl⟩ := andR_inv (show andR (optR (AC.hasN k) 0 iR l) l _ = _ from h)
  obtain ⟨x, i2, j2, hx, hf2, rfl⟩ := andR_inv hf1
  obtain ⟨s, i3, j3, hs, hf3, rfl⟩ := andR_inv hf2
  obtain ⟨m, hm, rfl⟩ := map_inv hf3
  constructor
  · rcases optR_inv hs with ⟨_, hr⟩ | ⟨_, rfl, rfl⟩
    · have := sR_len hr
      simp only [List.length_drop] at this
      show s.size ≤ l.length
      omega
    · exact Nat.zero_le _
  · rcases optR_inv hm with ⟨_, hr⟩ | ⟨_, rfl, rfl⟩
    · obtain ⟨_, _, h3, h4⟩ := recR_one hr
      exact (RC.chk_may h3 h4).len
    · exact Nat.zero_le _

/-! ### part by part -/
section
variable {l : List UInt8} {k n0 n1 n2 n e : Nat} {must : Bool} {key : ByteArray} {a : AC.Ac}
theorem actR_b1 (h : kindA l = .bad e n) : actR l = .bad e n := by unfold actR; rw [andR_bad h]
theorem actR_b2 (h0 : kindA l = .ok k n0) (h : flagR (l.drop n0) = .bad e n) : actR l = .bad e (n0 + n) := by unfold actR; rw [andR_ok h0, andR_bad h]; rfl
theorem actR_b3 (h0 : kindA l = .ok k n0) (h1 : flagR (l.drop n0) = .ok must n1) (h : keyR ((l.drop n0).drop n1) = .bad e n) : actR l = .bad e (n0 + (n1 + n)) := by unfold actR; rw [andR_ok h0, andR_ok h1, andR_bad h]; rfl
theorem actR_b4 (h0 : kindA l = .ok k n0) (h1 : flagR (l.drop n0) = .ok must n1) (h2 : keyR ((l.drop n0).drop n1) = .ok key n2) (h : actfR k must key (((l.drop n0).drop n1).drop n2) = .bad e n) : actR l = .bad e (n0 + (n1 + (n2 + n))) := by unfold actR; rw [andR_ok h0, andR_ok h1, andR_ok h2, andR_bad h]; rfl
theorem actR_ok (h0 : kindA l = .ok k n0) (h1 : flagR (l.drop n0) = .ok must n1) (h2 : keyR ((l.drop n0).drop n1) = .ok key n2) (h : actfR k must key (((l.drop n0).drop n1).drop n2) = .ok a n) (hc : AC.chk a = 0) : actR l = .ok a (n0 + (n1 + (n2 + n))) := by
  unfold actR; rw [andR_ok h0, andR_ok h1, andR_ok h2, andR_ok h]; unfold endA; rw [if_pos hc]; rfl
theorem actR_no (h0 : kindA l = .ok k n0) (h1 : flagR (l.drop n0) = .ok must n1) (h2 : keyR ((l.drop n0).drop n1) = .ok key n2) (h : actfR k must key (((l.drop n0).drop n1).drop n2) = .ok a n) (hc : AC.chk a ≠ 0) : actR l = .bad (AC.chk a) (n0 + (n1 + (n2 + n))) := by
  unfold actR; rw [andR_ok h0, andR_ok h1, andR_ok h2, andR_ok h]; unfold endA; rw [if_neg hc]; rfl
end

/-- How things stand while an act is read. -/
structure KAt (w : World) (p : Nat) (A : Option Addr) (c : Nat) (bs : List UInt8) (g m : Nat) (cs : Array Value) (u : World) : Prop where
  rd : Rd 5 u p A c bs m
  row : u.heap[g]? = some (.cells cs 27 (0, 0))
  res : u.heap[w.heap.size]? = some (.cells zeroA 27 (0, 0))
  kp : Kp (fun k => k = p) w u
  rows : RowsAt u
  lt : w.heap.size < g
section
variable {w : World} {p : Nat} {A : Option Addr} {c : Nat} {bs : List UInt8} {g m m' : Nat} {cs ds : Array Value} {u u' : World}
theorem KAt.read (h : KAt w p A c bs g m cs u) (ha : Apt p A g) (hp : p < w.heap.size) (hr : Rd 5 u' p A c bs m') (hk : Kp (fun k => k = p) u u') : KAt w p A c bs g m' cs u' :=
  ⟨hr, (hk.block _ (lt_of_heap h.row) (fun x => ha.pg (Eq.symm x))).trans h.row, (hk.block _ (lt_of_heap h.res) (by show ¬ w.heap.size = p; omega)).trans h.res, h.kp.same hk, h.rows.kp hk (fun x => ha.pr (Eq.symm x)), h.lt⟩
theorem KAt.look (h : KAt w p A c bs g m cs u) (hb : Below u.heap.size u u') : KAt w p A c bs g m cs u' :=
  ⟨h.rd.keep (Kp.of_below hb (fun _ => False)) (fun x => x) (fun _ _ x => x), (hb.block _ (lt_of_heap h.row)).trans h.row, (hb.block _ (lt_of_heap h.res)).trans h.res, h.kp.same (Kp.of_below hb _), h.rows.below hb, h.lt⟩
theorem KAt.set (h : KAt w p A c bs g m cs u) (ha : Apt p A g) (j : Nat) (v : Value) : KAt w p A c bs g m (cs.setIfInBounds j v) (u.setCell ⟨g, j, none⟩ v) :=
  have hk : Kp (fun k => k = g) u (u.setCell ⟨g, j, none⟩ v) := Kp.setCell (S := fun k => k = g) (Kp.refl _ u) (Or.inl rfl) _
  ⟨h.rd.keep hk (fun x => ha.pg x) (fun k e x => by have x' : k = g := x; subst x'; exact ha.ag e), heap_setCell_same _ _ _ _ _ _ h.row, (hk.block _ (lt_of_heap h.res) (by have := h.lt; show ¬ w.heap.size = g; omega)).trans h.res, h.kp.trans hk (fun i hi x => by have := h.lt; have x' : i = g := x; omega), h.rows.kp hk (fun x => ha.gr (Eq.symm x)), h.lt⟩
theorem KAt.tat (h : KAt w p A c bs g m cs u) : TAt u p A c bs g m cs u := ⟨h.rd, h.row, Kp.refl _ _, h.rows⟩
theorem KAt.kpf (h : KAt w p A c bs g m cs u) (hk : Kp (fun k => k = p ∨ k = g) u u') : Kp (fun k => k = p) w u' :=
  h.kp.trans hk (fun i hi x => by have := h.lt; rcases x with x | x; exact x; omega)
theorem KAt.fields (h : KAt w p A c bs g m cs u) (hp : p < w.heap.size) (ht : TAt u p A c bs g m' ds u') : KAt w p A c bs g m' ds u' :=
  ⟨ht.rd, ht.row, (ht.kp.block _ (lt_of_heap h.res) (fun x => by have := h.lt; rcases x with x | x <;> omega)).trans h.res, h.kpf ht.kp, ht.rows, h.lt⟩
end

/-- What Take answers. -/
def APost (p : Nat) (A : Option Addr) (c : Nat) (bs : List UInt8) (at_ : Nat) (r : Res AC.Ac) (w : World) (e : Ending) (w' : World) : Prop :=
  match r with
  | .ok r n => ∃ A' c', e = .returned (actV r A' c') ∧ w'.ownsRow 0 88 2 (.slice A' r.make.list.length c') r.make.list.length (itCells r.make.list) ∧ (∀ k, ob A' = some k → w.heap.size ≤ k) ∧ Rd 5 w' p A c bs (at_ + n) ∧ Kp (fun k => k = p) w w'
  | .bad code n => e = thr 34 code (at_ + n) ∧ Rd 5 w' p A c bs (at_ + n) ∧ Kp (fun k => k = p) w w'
section
variable {p : Nat} {A : Option Addr} {c : Nat} {bs : List UInt8} {at_ m n code : Nat} {r : Res AC.Ac} {w w' : World} {z y : Int} {x : AC.Ac}
theorem APost.mkBad (h : r = .bad code n) (hy : y = (code : Int)) (hz : z = ((at_ + n : Nat) : Int)) (hm : m = at_ + n) (hr : Rd 5 w' p A c bs m) (hk : Kp (fun k => k = p) w w') :
    APost p A c bs at_ r w (.panicked [{ v := .iface 34 (.agg #[.int .i64 y, .int .i64 z]), recovered := false }]) w' := by
  subst h hy hz hm
  exact ⟨rfl, hr, hk⟩
theorem APost.mkOk {A' : Option Addr} {c' : Nat} {v : Value} (h : r = .ok x n) (hv : v = actV x A' c') (ho : w'.ownsRow 0 88 2 (.slice A' x.make.list.length c') x.make.list.length (itCells x.make.list)) (hn : ∀ k, ob A' = some k → w.heap.size ≤ k) (hm : m = at_ + n) (hr : Rd 5 w' p A c bs m) (hk : Kp (fun k => k = p) w w') :
    APost p A c bs at_ r w (.returned v) w' := by
  subst h hm hv
  exact ⟨A', c', rfl, ho, hn, hr, hk⟩
end

theorem kp14 {w0 w : World} {S : Nat → Prop} {g : Nat} {d0 d1 d2 d3 d4 d5 d6 d7 d8 d9 d10 d11 d12 d13 : Value} (h : Kp S w0 w) (hg : S g ∨ w0.heap.size ≤ g) : Kp S w0 ((((((((((((((w.setCell ⟨g, 0, none⟩ d0).setCell ⟨g, 1, none⟩ d1).setCell ⟨g, 2, none⟩ d2).setCell ⟨g, 3, none⟩ d3).setCell ⟨g, 4, none⟩ d4).setCell ⟨g, 5, none⟩ d5).setCell ⟨g, 6, none⟩ d6).setCell ⟨g, 7, none⟩ d7).setCell ⟨g, 8, none⟩ d8).setCell ⟨g, 9, none⟩ d9).setCell ⟨g, 10, none⟩ d10).setCell ⟨g, 11, none⟩ d11).setCell ⟨g, 12, none⟩ d12).setCell ⟨g, 13, none⟩ d13) := by
  iterate 14 refine Kp.setCell ?_ hg _
  exact h
theorem below14 {B : Nat} {w0 w : World} {g : Nat} {d0 d1 d2 d3 d4 d5 d6 d7 d8 d9 d10 d11 d12 d13 : Value} (h : Below B w0 w) (hg : B ≤ g) : Below B w0 ((((((((((((((w.setCell ⟨g, 0, none⟩ d0).setCell ⟨g, 1, none⟩ d1).setCell ⟨g, 2, none⟩ d2).setCell ⟨g, 3, none⟩ d3).setCell ⟨g, 4, none⟩ d4).setCell ⟨g, 5, none⟩ d5).setCell ⟨g, 6, none⟩ d6).setCell ⟨g, 7, none⟩ d7).setCell ⟨g, 8, none⟩ d8).setCell ⟨g, 9, none⟩ d9).setCell ⟨g, 10, none⟩ d10).setCell ⟨g, 11, none⟩ d11).setCell ⟨g, 12, none⟩ d12).setCell ⟨g, 13, none⟩ d13) := by
  iterate 14 refine Below.setCell ?_ hg _
  exact h

set_option maxHeartbeats 8000000 in
set_option maxRecDepth 100000 in
theorem actTake_any (p : Nat) (A : Option Addr) (c : Nat) (bs : List UInt8) (at_ : Nat) (w : World) (hr : Rd 5 w p A c bs at_) (hR : RowsAt w) (hpr : p ≠ 0) :
    Calls Tryz.prog 40 #[.pointer (some ⟨p, 0, none⟩)] w (APost p A c bs at_ (actR (bs.drop at_)) w) := by
  have hp := hr.lt
  have Hin := Lib.hid (rd_in hr)
  have hx := fun o => actKind_any p A c bs at_ (w.alloc o) (hr.alloc o)
  have HR := Lib.hid hR
  have hrl := rows_lt hR
  have hlim := hr.lim
  unfold Lim at hlim
  clear hR
  cases hK : kindA (bs.drop at_) with
  | bad e n =>
    rw [hK] at hx
    have Hx := Lib.hid hx
    have HK := Lib.hid hK
    clear hx hK
    go_enter Tryz.func40, Tryz.ntmps40
    go_wp2_with fail
    refine (Hx.out _).mono ?_
    rintro e w1 ⟨rfl, hr1, hk1⟩
    go_wp2
    exact ⟨rfl, APost.mkBad (n := n) (actR_b1 HK.out) rfl (by omega) (by omega) hr1 (((Kp.refl _ w).alloc _).same hk1)⟩
  | ok k n0 =>
    rw [hK] at hx
    have Hx := Lib.hid hx
    have HK := Lib.hid hK
    obtain ⟨-, hk0, hk1⟩ := kindA_inv hK
    clear hx hK
    go_enter Tryz.func40, Tryz.ntmps40
    go_wp2_with fail
    refine (Hx.out _).mono ?_
    rintro e w1 ⟨rfl, hr1, hk1⟩
    clear Hx
    have hs1 : w.heap.size < w1.heap.size := by have := hk1.size; simp at this; omega
    have ha : Apt p A w1.heap.size := ⟨by omega, fun e => by have := Hin.out _ e; omega, hpr, by omega⟩
    have HP := Lib.hid ha
    have r0 := rd_new hk1 hp
    have hR1 : RowsAt w1 := (HR.out.below (below1 w _)).kp hk1 (fun x => hpr (Eq.symm x))
    go_wp2_with fail
    generalize hv0 : w1.alloc _ = v0
    have S : KAt w p A c bs w1.heap.size (at_ + n0) (actC ⟨(k : Int), ⟨#[]⟩, 0, 0, ⟨#[]⟩, RC.zero, false⟩ none 0) v0 := by
      rw [← hv0]
      exact ⟨hr1.alloc _, heap_alloc_new _ _, (heap_alloc_old w1 _ hs1).trans r0, (((Kp.refl _ w).alloc _).same hk1).alloc _, hR1.below (below1 _ _), hs1⟩
    have HS0 := Lib.hid S
    clear S hv0 r0 hR1 ha hk1 hr1
    generalize hgg : w1.heap.size = g at *
    clear hgg
    have c0 := fun o => cell_of_row v0 _ o _ _ (0, 0) HS0.out.row
    have f0 : ∀ o, v0.frozen? ⟨g, o, none⟩ = false := fun o => frozen_of_row _ _ o _ _ HS0.out.row
    refine (rflag_any p A c bs (at_ + n0) _ HS0.out.rd).mono ?_
    cases hB : flagR (bs.drop (at_ + n0)) with
    | bad e n =>
      have HB := Lib.hid (show flagR ((bs.drop at_).drop n0) = .bad e n by rw [List.drop_drop]; exact hB)
      clear hB
      rintro e u1 ⟨rfl, hr2, hk2⟩
      go_wp2
      exact ⟨rfl, APost.mkBad (n := n0 + n) (actR_b2 HK.out HB.out) rfl (by omega) (by omega) hr2 (HS0.out.kp.same hk2)⟩
    | ok must n1 =>
      have HB := Lib.hid (show flagR ((bs.drop at_).drop n0) = .ok must n1 by rw [List.drop_drop]; exact hB)
      clear hB
      rintro e u1 ⟨rfl, hr2, hk2⟩
      have S := HS0.out.read HP.out hp hr2 hk2
      have HS1 := Lib.hid S
      clear S hr2 hk2 c0 f0
      have c0 := fun o => cell_of_row u1 _ o _ _ (0, 0) HS1.out.row
      have f0 : ∀ o, u1.frozen? ⟨g, o, none⟩ = false := fun o => frozen_of_row _ _ o _ _ HS1.out.row
      go_wp2_with fail
      generalize hv : World.setCell _ _ _ = v1
      have S : KAt w p A c bs g (at_ + n0 + n1) (actC ⟨(k : Int), ⟨#[]⟩, 0, 0, ⟨#[]⟩, RC.zero, must⟩ none 0) v1 := by rw [← hv]; exact HS1.out.set HP.out 13 (.bool must)
      have HS2 := Lib.hid S
      clear S hv c0 f0 HS1
      have c0 := fun o => cell_of_row v1 _ o _ _ (0, 0) HS2.out.row
      have f0 : ∀ o, v1.frozen? ⟨g, o, none⟩ = false := fun o => frozen_of_row _ _ o _ _ HS2.out.row
      refine (rs_any p A c bs (at_ + n0 + n1) 24 _ rfl HS2.out.rd).mono ?_
      cases hT : txtR 24 (bs.drop (at_ + n0 + n1)) with
      | bad e n =>
        have HT := Lib.hid (show keyR (((bs.drop at_).drop n0).drop n1) = .bad e n by simp only [List.drop_drop]; unfold keyR sR; rw [hT]; rfl)
        clear hT
        rintro e u2 ⟨rfl, hr2, hk2⟩
        go_wp2
        exact ⟨rfl, APost.mkBad (n := n0 + (n1 + n)) (actR_b3 HK.out HB.out HT.out) rfl (by omega) (by omega) hr2 (HS2.out.kp.same hk2)⟩
      | ok t n2 =>
        have hT2 : keyR (((bs.drop at_).drop n0).drop n1) = .ok ⟨t.toArray⟩ n2 := by simp only [List.drop_drop]; unfold keyR sR; rw [hT]; rfl
        have hkl := sR_len (show sR 24 _ = _ from hT2)
        simp only [List.length_drop] at hkl
        have HT := Lib.hid hT2
        clear hT hT2
        rintro e u2 ⟨rfl, hr2, hk2⟩
        have S := HS2.out.read HP.out hp hr2 hk2
        have HS3 := Lib.hid S
        clear S hr2 hk2 c0 f0
        have c0 := fun o => cell_of_row u2 _ o _ _ (0, 0) HS3.out.row
        have f0 : ∀ o, u2.frozen? ⟨g, o, none⟩ = false := fun o => frozen_of_row _ _ o _ _ HS3.out.row
        go_wp2_with fail
        generalize hv : World.setCell _ _ _ = v2
        have S : KAt w p A c bs g (at_ + n0 + n1 + n2) (actC ⟨(k : Int), ⟨t.toArray⟩, 0, 0, ⟨#[]⟩, RC.zero, must⟩ none 0) v2 := by rw [← hv]; exact HS3.out.set HP.out 1 (.string ⟨t.toArray⟩)
        have HS4 := Lib.hid S
        clear S hv c0 f0 HS3
        refine (takeFields_any k must ⟨t.toArray⟩ p A c bs g (at_ + n0 + n1 + n2) v2 ⟨hk0, by omega⟩ HS4.out.tat HP.out).mono ?_
        cases hF : actfR k must ⟨t.toArray⟩ (bs.drop (at_ + n0 + n1 + n2)) with
        | bad e n =>
          have HF := Lib.hid (show actfR k must ⟨t.toArray⟩ ((((bs.drop at_).drop n0).drop n1).drop n2) = .bad e n by simp only [List.drop_drop]; exact hF)
          clear hF
          rintro e u3 ⟨rfl, hr2, hk2⟩
          go_wp2
          exact ⟨rfl, APost.mkBad (n := n0 + (n1 + (n2 + n))) (actR_b4 HK.out HB.out HT.out HF.out) rfl (by omega) (by omega) hr2 (HS4.out.kpf hk2)⟩
        | ok a n =>
          have hF2 : actfR k must ⟨t.toArray⟩ ((((bs.drop at_).drop n0).drop n1).drop n2) = .ok a n := by simp only [List.drop_drop]; exact hF
          obtain ⟨-, -, hao, hak, ham, hay⟩ := actfR_one hk1 hF2
          have hlm := actfR_lim hF2
          simp only [List.length_drop] at hlm
          have HF := Lib.hid hF2
          have HC := Lib.hid (fun u A' c' (hR : RowsAt u) (hI : Its u A' a.make.list) => actCheck_any a A' c' u hao hR hI (by unfold Lim; omega) (by rw [hay]; unfold Lim; omega) (by unfold Lim; omega))
          clear hF hF2 hak ham hay hao hlm hkl
          rintro e u3 ⟨rfl, A9, c9, ht9, ho9, hn9⟩
          have S := HS4.out.fields hp ht9
          have HNw := Lib.hid hn9
          have HO9 := Lib.hid ho9
          have HS5 := Lib.hid S
          clear S ht9 ho9 hn9
          have c0 := fun o => cell_of_row u3 _ o _ _ (0, 0) HS5.out.row
          go_wp2_with fail
          refine (HC.out _ A9 c9 HS5.out.rows (Its.own HO9.out)).mono ?_
          rintro e u4 ⟨rfl, hb4⟩
          have S := HS5.out.look hb4
          have HO := Lib.hid (own_below HO9.out hb4)
          have HS6 := Lib.hid S
          clear S hb4 HO9 c0
          rcases Nat.eq_zero_or_pos (AC.chk a) with hc | hc
          · have Hz := Lib.hid (actR_ok HK.out HB.out HT.out HF.out hc)
            rw [hc]
            have c0 := fun o => cell_of_row u4 _ o _ _ (0, 0) HS6.out.row
            have cR := fun o => cell_of_row u4 _ o _ _ (0, 0) HS6.out.res
            have fR : ∀ o, u4.frozen? ⟨w.heap.size, o, none⟩ = false := fun o => frozen_of_row _ _ o _ _ HS6.out.res
            clear hc
            go_wp2_with fail
            refine bodyPost_ret (v := actV a A9 c9) (by simp [results, Tryz.results40, go_sem, cR]) rfl ?_
            have hne : ∀ k, ob A9 = some k → k ≠ w.heap.size := fun k e => by have := HNw.out k e; have := HS4.out.kp.size; have := lt_of_heap HS4.out.res; omega
            generalize hwf : World.setCell _ _ _ = wf
            have hkr : Kp (fun k => k = w.heap.size) u4 wf := by rw [← hwf]; exact kp14 (Kp.refl _ u4) (Or.inl rfl)
            clear hwf
            refine APost.mkOk (n := n0 + (n1 + (n2 + n))) (m := at_ + n0 + n1 + n2 + n) Hz.out rfl (hkr.own HO.out (fun k e x => by rw [ownBlock_slice] at e; exact hne k e x)) (fun k e => by have := HNw.out k e; have := HS4.out.kp.size; omega) (by omega) (HS6.out.rd.keep hkr (by show ¬ p = w.heap.size; omega) (fun k e x => by have := Hin.out k e; have x' : k = w.heap.size := x; omega)) (HS6.out.kp.trans hkr (fun i hi x => by have x' : i = w.heap.size := x; omega))
          · have Hz := Lib.hid (actR_no HK.out HB.out HT.out HF.out (by omega))
            generalize AC.chk a = code at *
            have h2 : ((code : Int) != 0) = true := by simp; omega
            clear hc
            go_wp2_with fail
            refine (fail_any p A c bs _ code _ HS6.out.rd).mono ?_
            rintro e u5 ⟨rfl, rfl⟩
            go_wp2
            exact ⟨rfl, APost.mkBad (n := n0 + (n1 + (n2 + n))) Hz.out rfl (by omega) (by omega) HS6.out.rd HS6.out.kp⟩

end Go.Proofs.YtaaeefndhmfceaaGreatDoor
