/- The walk of RuleOwn. -/
import Derived.Test.YtofaonknfihaiaaDoorSp5b
import Derived.Test.YtofaonknfihaiaaDoorRef3gm
import Derived.Deep.RegionHeld3
import Derived.Deep.DeepCutAuto
namespace Go.Proofs.YtofaonknfihaiaaDoor
open Go.RowKit MM

theorem act_smallO {a : AC.Ac} (hb : AC.big a = false) : Lim a.make.list.length ∧ Lim a.key.size ∧ Lim a.s.size := by
  obtain ⟨h1, h2, h3⟩ := AC.big_not hb
  have := (big_not h3).1
  unfold Lim
  exact ⟨by omega, by omega, by omega⟩
theorem bz_first {p : RC.Rc} {w2 W v : World} {gs : List (Nat × Obj)} {A1 : Option Addr} {c1 : Nat} (h : Bx none w2 W gs) (ho : v.ownsRow 0 49 2 (.slice A1 p.list.length c1) p.list.length (itCells p.list)) (hn : ∀ k, ob A1 = some k → W.heap.size ≤ k) (hb : Below W.heap.size W v) : Bz p (RU.err 0) none w2 A1 c1 none 0 v gs := by
  have h2 := h.below hb
  have hs := h.bel.size
  refine ⟨Kp.of_below h2.bel _, fun k e => (by cases e), h2.row, h2.apart, ho, World.ownsRow_nil _ _ _ _, fun k e => ⟨.inr (by have := hn k e; omega), fun y hy x => ?_⟩, fun k e => (by cases e)⟩
  have h3 := lt_of_heap (h.row y hy).2
  have h4 := hn k e
  omega
theorem bz_second {p : RC.Rc} {x : RU.Ans} {w2 W v : World} {gs : List (Nat × Obj)} {A1 B : Option Addr} {c1 cb : Nat} (h : Bz p (RU.err 0) none w2 A1 c1 none 0 W gs) (ho : v.ownsRow 0 49 2 (.slice B x.rc.list.length cb) x.rc.list.length (itCells x.rc.list)) (hn : ∀ k, ob B = some k → W.heap.size ≤ k) (hb : Below W.heap.size W v) : Bz p x none w2 A1 c1 B cb v gs := by
  have hs := h.kp.size
  refine ⟨h.kp.same (Kp.of_below hb _), fun k e => (by cases e), fun y hy => ⟨(h.row y hy).1, (hb.block _ (lt_of_heap (h.row y hy).2)).trans (h.row y hy).2⟩, h.apart, own_below h.own1 hb, ho, h.new1, fun k e => ⟨by have := hn k e; omega, fun x => ?_, fun y hy x => ?_⟩⟩
  · have h3 := in_own1 h k x
    have h4 := hn k e
    omega
  · have h3 := lt_of_heap (h.row y hy).2
    have h4 := hn k e
    omega
theorem lt_of_heap' {w : World} {b : Nat} {v : Value} (h : w.cell? ⟨b, 0, none⟩ = some v) : b < w.heap.size := World.block_lt_of_cell? w ⟨b, 0, none⟩ h
theorem its_far {S : Nat → Prop} {w w4 W : World} {A : Option Addr} {l : List RC.It} (h : Its w A l) (hB : Below w.heap.size w w4) (hk : Kp S w4 W) (hS : ∀ k, S k → w.heap.size ≤ k) : Its W A l := by
  rcases h with h | ⟨b, off, hA, hb, hrow⟩
  · rw [h]; exact Its.nil _ _
  · refine ((show Its w A l from .inr ⟨b, off, hA, hb, hrow⟩).below hB).kp hk (fun ad e x => ?_)
    have h1 := hS _ x
    rw [hA] at e
    injection e with e
    subst e
    have h2 : w.heap.size ≤ b := h1
    omega
theorem names_lay {P : ByteArray → Prop} {l : List RC.It} {x : RC.It} (hl : ∀ y ∈ l, P y.name) (hx : P x.name) : ∀ y ∈ RU.lay l x, P y.name := by
  intro y hy
  unfold RU.lay at hy
  rcases List.mem_append.1 hy with h | h
  · exact hl y (List.mem_of_mem_take h)
  · rcases List.mem_cons.1 h with rfl | h
    · exact hx
    · exact hl y (List.mem_of_mem_drop h)
theorem doR_names {P : ByteArray → Prop} {q : RC.Rc} {a : AC.Ac} (hq : ∀ y ∈ q.list, P y.name) (hs : P a.s) (hm : ∀ y ∈ a.make.list, P y.name) : (∀ y ∈ (RU.doR q a).1.list, P y.name) ∧ (∀ y ∈ (RU.doR q a).2.rc.list, P y.name) := by
  have hz : ∀ y ∈ RC.zero.list, P y.name := fun y hy => by cases hy
  have hj : ∀ y ∈ (RU.joined q a).list, P y.name := by
    unfold RU.joined
    split
    · exact hq
    · exact names_lay hq hs
  have hl : ∀ y ∈ (RU.left q a).list, P y.name := by
    unfold RU.left
    split
    · intro y hy
      rcases List.mem_append.1 (show y ∈ _ ++ _ from hy) with h | h
      · exact hq y (List.mem_of_mem_take h)
      · exact hq y (List.mem_of_mem_drop h)
    · exact hq
  have ho : ∀ y ∈ (RU.offered q a).list, P y.name := by
    unfold RU.offered
    split
    · exact hq
    · split
      · exact names_lay hq hs
      · exact fun y hy => names_lay hq hs y (List.mem_of_mem_take hy)
  exact doR_all (P := fun x => (∀ y ∈ x.1.list, P y.name) ∧ (∀ y ∈ x.2.rc.list, P y.name)) (fun _ => ⟨hq, hz⟩) ⟨hm, hz⟩ ⟨hz, hz⟩ ⟨hq, hz⟩ ⟨hq, hq⟩ ⟨hq, hz⟩ ⟨hq, hq⟩ ⟨hq, hz⟩ ⟨hq, hz⟩ ⟨hq, hz⟩ ⟨hq, hz⟩ ⟨hq, hz⟩ ⟨hq, hz⟩ ⟨hq, hz⟩ ⟨hq, hz⟩ ⟨hq, hz⟩ ⟨hj, hz⟩ ⟨hl, hz⟩ ⟨ho, hz⟩
theorem apply_names {P : ByteArray → Prop} {q : RC.Rc} {a : AC.Ac} (hq : ∀ y ∈ q.list, P y.name) (hs : P a.s) (hm : ∀ y ∈ a.make.list, P y.name) : (∀ y ∈ (RU.apply q true a).1.list, P y.name) ∧ (∀ y ∈ (RU.apply q true a).2.2.rc.list, P y.name) := by
  unfold RU.apply
  split
  · exact doR_names hq hs hm
  · exact ⟨hq, fun y hy => by cases hy⟩
/-- A list in memory of one's own, of whose items the names are texts. -/
def Nm (A : Option Addr) (n M : Nat) (w : World) : Prop := n = 0 ∨ ∃ g cur t, A = some ⟨g, 0, none⟩ ∧ w.heap[g]? = some (.cells cur t (0, 0)) ∧ ∀ i, i < n → ∃ s, cur[i * 2 + 1]? = some (.string s) ∧ s.size ≤ M
theorem nm_own {A : Option Addr} {c : Nat} {w : World} {l : List RC.It} (h : w.ownsRow 0 49 2 (.slice A l.length c) l.length (itCells l)) (hM : ∀ y ∈ l, y.name.size ≤ 1000) : Nm A l.length 1000 w := by
  rcases Nat.eq_zero_or_pos l.length with h0 | h0
  · exact .inl h0
  · obtain ⟨hl, ⟨h1, h2⟩ | ⟨g, cap, cur, h1, _, h3, h4, h5, h6, h7⟩⟩ := h
    · omega
    · injection h1 with hA _ _
      refine .inr ⟨g, cur, _, hA, h3, fun i hi => ⟨(l[i]).name, ?_, hM _ (List.getElem_mem hi)⟩⟩
      have h8 : (itCells l)[i * 2 + 1]? = some (.string (l[i]).name) := (itCells_get l i l[i] (List.getElem?_eq_getElem hi)).2
      rw [← h7, List.getElem?_take] at h8
      split at h8
      · simpa using h8
      · cases h8
theorem Nm.kp {S : Nat → Prop} {A : Option Addr} {n M : Nat} {w w' : World} (h : Nm A n M w) (hk : Kp S w w') (hn : ∀ k, ob A = some k → ¬ S k) : Nm A n M w' := by
  rcases h with h | ⟨g, cur, t, hA, hg, hs⟩
  · exact .inl h
  · exact .inr ⟨g, cur, t, hA, (hk.block _ (lt_of_heap hg) (hn g (by rw [hA]; rfl))).trans hg, hs⟩
theorem Nm.set {g n i M : Nat} {s : ByteArray} {w : World} (h : Nm (some ⟨g, 0, none⟩) n M w) (hM : s.size ≤ M + 1) : Nm (some ⟨g, 0, none⟩) n (M + 1) (w.setCell ⟨g, i * 2 + 1, none⟩ (.string s)) := by
  rcases h with h | ⟨g', cur, t, hA, hg, hs⟩
  · exact .inl h
  · injection hA with hA
    injection hA with hA
    subst hA
    refine .inr ⟨g, _, t, rfl, heap_setCell_same _ _ _ _ _ _ hg, fun j hj => ?_⟩
    obtain ⟨u, hu, hsz⟩ := hs j hj
    by_cases hji : j = i
    · subst hji
      have hlt : j * 2 + 1 < cur.size := (Array.getElem?_eq_some_iff.1 hu).1
      exact ⟨s, by simp [hlt], hM⟩
    · exact ⟨u, by rw [Array.getElem?_setIfInBounds_ne (by omega)]; exact hu, by omega⟩

set_option maxHeartbeats 20000000 in
set_option maxRecDepth 100000 in
theorem ruleOwnL_at (r : RC.Rc) (A : Option Addr) (c : Nat) (kk : Int) (key : ByteArray) (n : Int) (fx : Nat) (s : ByteArray) (mk : RC.Rc) (must : Bool) (L : Option Addr) (cl : Nat) (w : World) (hr : RecIn w r A c) (ha : ActIn w ⟨kk, key, n, fx, s, mk, must⟩ L cl) (hR : RowsAt w) :
    Calls Tryd.prog 6 #[recV r A c, actV ⟨kk, key, n, fx, s, mk, must⟩ L cl] w fun e w' => e = .returned (.bool true) ∧ Below w.heap.size w w' := by
  have HR := Lib.hid hR
  have HI := Lib.hid hr
  have HJ := Lib.hid ha
  clear hR hr ha
  go_enter Tryd.func6, Tryd.ntmps6
  go_wp2_with fail
  refine (speaks5_any _ (HR.out.below (below2 w _ _))).mono ?_
  rintro e w1 ⟨rfl, hb1⟩
  have hs1 := hb1.size
  simp only [World.size_alloc] at hs1
  have e0 := (hb1.block w.heap.size (by simp only [World.size_alloc]; omega)).trans (heap_alloc2_old w _ _)
  have e1 := (hb1.block (w.heap.size + 1) (by simp only [World.size_alloc]; omega)).trans (heap_alloc2_new w _ _)
  have c0 := fun o => cell_of_row w1 _ o _ _ (0, 0) e0
  have c1 := fun o => cell_of_row w1 _ o _ _ (0, 0) e1
  have HB1 := Lib.hid (show Below w.heap.size w w1 from (below2 w _ _).trans (hb1.mono (by simp only [World.size_alloc]; omega)))
  have E0 := Lib.hid e0
  have E1 := Lib.hid e1
  have HA1 := Lib.hid (acts_one 31 (HJ.out.keep HB1.out))
  clear hb1 e0 e1
  go_wp2_with fail
  refine (big5_any r A (some ⟨w1.heap.size, 0, none⟩) c 1 [⟨⟨kk, key, n, fx, s, mk, must⟩, L, cl⟩] _ ((HI.out.its.below HB1.out).alloc _) HI.out.len HA1.out).mono ?_
  rintro e w2 ⟨rfl, hb2⟩
  have hs2 := hb2.size
  simp only [World.size_alloc] at hs2
  have F0 := Lib.hid ((hb2.block w.heap.size (by simp only [World.size_alloc]; omega)).trans ((heap_alloc_old _ _ (by omega)).trans E0.out))
  have F1 := Lib.hid ((hb2.block (w.heap.size + 1) (by simp only [World.size_alloc]; omega)).trans ((heap_alloc_old _ _ (by omega)).trans E1.out))
  have HB2 := Lib.hid (show Below w.heap.size w w2 from (HB1.out.trans ((below1 w1 _).mono (by omega))).trans (hb2.mono (by simp only [World.size_alloc]; omega)))
  clear hb2 E0 E1 HA1 c0 c1
  have c0 := fun o => cell_of_row w2 _ o _ _ (0, 0) F0.out
  have c1 := fun o => cell_of_row w2 _ o _ _ (0, 0) F1.out
  cases hbig : big5 r [⟨⟨kk, key, n, fx, s, mk, must⟩, L, cl⟩]
  case true =>
    go_wp2_with fail
    go_ret
    exact ⟨rfl, HB2.out⟩
  have hb5 := big5_not hbig
  have HS := Lib.hid (act_smallO (hb5.2.2 ⟨⟨kk, key, n, fx, s, mk, must⟩, L, cl⟩ (List.mem_cons_self ..)))
  have HM := Lib.hid (show Lim r.list.length by have := (big_not hb5.1).1; unfold Lim; omega)
  have HNr := Lib.hid (show ∀ y ∈ r.list, y.name.size ≤ 1000 from fun y hy => by have := (big_not hb5.1).2.2 y hy; omega)
  have hbA := AC.big_not (hb5.2.2 ⟨⟨kk, key, n, fx, s, mk, must⟩, L, cl⟩ (List.mem_cons_self ..))
  have HNs := Lib.hid (show s.size ≤ 1000 from hbA.2.1)
  have HNm := Lib.hid (show ∀ y ∈ mk.list, y.name.size ≤ 1000 from fun y hy => by have := (big_not hbA.2.2).2.2 y hy; omega)
  clear hbig hb5 hbA
  have HNM := Lib.hid (apply_names (P := fun z => z.size ≤ 1000) (q := r) (a := ⟨kk, key, n, fx, s, mk, must⟩) HNr.out HNs.out HNm.out)
  have HAp := Lib.hid (fun u (b : Below w.heap.size w u) => apply_any r true ⟨kk, key, n, fx, s, mk, must⟩ A L c cl u HI.out.ok HJ.out.ok (HR.out.below b) (HI.out.its.below b) (HJ.out.make.its.below b) HM.out HS.out.1 HS.out.2.1 HS.out.2.2)
  have HC1 := Lib.hid (show ∀ W gs, Bx none w2 W gs → Calls Tryd.prog 17 #[recV r A c] W (fun e v => ∃ A1 c1, e = .returned (recV r A1 c1) ∧ Bz r (RU.err 0) none w2 A1 c1 none 0 v gs) from fun W gs h =>
    (recClone_any r A c W (HI.out.its.below (HB2.out.trans (h.bel.mono HB2.out.size))) HM.out).mono fun _ _ ⟨A1, c1, he, ho, hn, hb⟩ => ⟨A1, c1, he, bz_first h ho hn hb⟩)
  have HC2 := Lib.hid (show ∀ A1 c1 W gs, Bz r (RU.err 0) none w2 A1 c1 none 0 W gs → Calls Tryd.prog 17 #[recV mk L cl] W (fun e v => ∃ B cb, e = .returned (recV mk B cb) ∧ Bz r ⟨0, 0, mk⟩ none w2 A1 c1 B cb v gs) from fun A1 c1 W gs h =>
    (recClone_any mk L cl W (HJ.out.make.its.below (HB2.out.trans ((h.kp.below (Nat.le_refl _) (fun _ _ e => by cases e)).mono HB2.out.size))) HS.out.1).mono fun _ _ ⟨B, cb, he, ho, hn, hb⟩ => ⟨B, cb, he, bz_second h ho hn hb⟩)
  have HSS := Lib.hid (show ∀ W, Kp (fun k => ob (none : Option Addr) = some k) w2 W → (∀ o, W.cell? ⟨w.heap.size, o, none⟩ = (recC r.kind r.num r.low r.high r.real r.cap r.text (.slice A r.list.length c))[o]?) ∧ (∀ o, W.cell? ⟨w.heap.size + 1, o, none⟩ = (actC ⟨kk, key, n, fx, s, mk, must⟩ L cl)[o]?) from fun W hk =>
    ⟨fun o => cell_of_row W _ o _ _ (0, 0) ((hk.block _ (lt_of_heap F0.out) (fun e => by cases e)).trans F0.out), fun o => cell_of_row W _ o _ _ (0, 0) ((hk.block _ (lt_of_heap F1.out) (fun e => by cases e)).trans F1.out)⟩)
  have hx0 : Bx none w2 w2.drew [] := Bx.start (fun k e => by cases e)
  have hxw : Bx none w2 w2 [] := Bx.base (fun k e => by cases e)
  have hk0 := hx0.kp
  have hkw := hxw.kp
  have HZ := Lib.hid (show w.heap.size + 1 < w2.heap.size from lt_of_heap F1.out)
  clear c0 c1
  go_wp2_with fail
  go_cut [5, 6] (fun t5 t6 wx => ∃ (g h : Nat) (A1 : Option Addr) (c1 : Nat) (B : Option Addr) (cb : Nat), t5 = .pointer (some ⟨g, 0, none⟩) ∧ t6 = .pointer (some ⟨h, 0, none⟩) ∧ Bz r ⟨0, 0, mk⟩ none w2 A1 c1 B cb wx [(g, .cells (recC r.kind r.num r.low r.high r.real r.cap r.text (.slice A1 r.list.length c1)) 25 (0, 0)), (h, .cells (recC mk.kind mk.num mk.low mk.high mk.real mk.cap mk.text (.slice B mk.list.length cb)) 25 (0, 0))])
  case first =>
    go_region_held3 (fun W => (∀ o, W.cell? ⟨w.heap.size, o, none⟩ = (recC r.kind r.num r.low r.high r.real r.cap r.text (.slice A r.list.length c))[o]?) ∧ (∀ o, W.cell? ⟨w.heap.size + 1, o, none⟩ = (actC ⟨kk, key, n, fx, s, mk, must⟩ L cl)[o]?))
      (first
        | with_reducible exact HSS.out _ hkz
        | with_reducible exact HSS.out _ hky
        | with_reducible exact HSS.out _ hk0
        | ((with_reducible refine HSS.out _ ?_); (repeat (with_reducible (first | exact hkz | exact hky | exact hk0 | exact hkw | refine Kp.drew ?_ | refine Kp.alloc ?_ _ | refine kp8g ?_ (Or.inr q0) | refine kp8g ?_ (Or.inr q7) | refine kp8g ?_ (Or.inr hwd2)))); done))
      (first
        | ((first | with_reducible refine Calls.mono (HC1.out _ _ hx0) ?_ | with_reducible refine Calls.mono (HC1.out _ _ hxw.alloc.drew) ?_ | with_reducible refine Calls.mono (HC1.out _ _ hxw.alloc.alloc.drew) ?_); rintro e v ⟨A1, cA, rfl, hy⟩; have hv2 := hy.kp.size; have hky := hy.kp)
        | ((first | with_reducible refine Calls.mono (HC2.out _ _ _ _ hy) ?_ | with_reducible refine Calls.mono (HC2.out _ _ _ _ hy.alloc) ?_ | with_reducible refine Calls.mono (HC2.out _ _ _ _ hy.alloc.alloc) ?_); rintro e wd ⟨B, cb, rfl, hz⟩; (try simp only [World.size_alloc] at hz); have hwd2 := hz.kp.size; have hkz := hz.kp; (try have q0 := Bz.low hz); (try have q1 := Bz.cells hz); (try have q2 := Bz.froz hz); (try have q3 := Bz.lt hz); (try have q7 := Bz.low hz.swap); (try have q4 := Bz.cells hz.swap); (try have q5 := Bz.froz hz.swap); (try have q6 := Bz.lt hz.swap); (try have q8 := Bz.ne hz); (try have q9 := Bz.ne hz.swap); (try simp only [World.size_alloc, heap_drew] at q0); (try simp only [World.size_alloc, heap_drew] at q1); (try simp only [World.size_alloc, heap_drew] at q2); (try simp only [World.size_alloc, heap_drew] at q3); (try simp only [World.size_alloc, heap_drew] at q4); (try simp only [World.size_alloc, heap_drew] at q5); (try simp only [World.size_alloc, heap_drew] at q6); (try simp only [World.size_alloc, heap_drew] at q7)))
    all_goals
      go_wp2_with fail
      go_meet
      refine ⟨_, _, A1, cA, B, cb, rfl, rfl, ?_⟩
      first
        | (with_reducible refine Bz.allocG ?_ (by simp)); (with_reducible refine Bz.allocG ?_ (by simp)); with_reducible exact hz
        | (with_reducible refine Bz.swap ?_); (with_reducible refine Bz.allocG ?_ (by simp)); (with_reducible refine Bz.allocG ?_ (by simp)); with_reducible exact hz
        | (with_reducible refine Bz.allocG ?_ (by simp)); with_reducible exact Bz.recA hz
        | (with_reducible refine Bz.swap ?_); (with_reducible refine Bz.allocG ?_ (by simp)); with_reducible exact Bz.recA hz
        | with_reducible exact Bz.recB (Bz.recA hz)
        | (with_reducible refine Bz.swap ?_); with_reducible exact Bz.recA (Bz.recB hz)
  case rest =>
  obtain ⟨g, h, A1, cA, B, cb, rfl, rfl, hz⟩ := hcut
  obtain ⟨c0, c1⟩ := HSS.out wc hz.kp
  have hBc : Below w2.heap.size w2 wc := hz.kp.below (Nat.le_refl _) (fun _ _ e => by cases e)
  have HBc := Lib.hid (show Below w.heap.size w wc from HB2.out.trans (hBc.mono HB2.out.size))
  have R0 := Lib.hid ((hBc.block _ (lt_of_heap F0.out)).trans F0.out)
  have R1 := Lib.hid ((hBc.block _ (lt_of_heap F1.out)).trans F1.out)
  have R5 := Lib.hid (hz.row _ (List.mem_cons_self ..)).2
  have R6 := Lib.hid (hz.swap.row _ (List.mem_cons_self ..)).2
  have I1 := Lib.hid (Its.own hz.own1)
  have I2 := Lib.hid (Its.own hz.own2)
  have hok := apply_ok (there := true) HI.out.ok HJ.out.ok
  have hlm := apply_lim (there := true) HI.out.ok HJ.out.ok HM.out
  clear hz hBc HSS HC1 HC2 hx0 hxw hk0 hkw F0 F1
  go_wp2_with fail
  refine (HAp.out _ HBc.out).mono ?_
  have hnm := HNM.out
  generalize hap : RU.apply r true ⟨kk, key, n, fx, s, mk, must⟩ = out at hok hlm hnm
  obtain ⟨p, t1, xx⟩ := out
  clear hap
  have HLM := Lib.hid hlm
  have HNN := Lib.hid hnm
  clear hok hlm hnm HNM
  rintro e w3 ⟨A3, c3, C, cc, rfl, ho1, ho2, hn1, hn2, hb3⟩
  have HN1 := Lib.hid hn1
  have HN2 := Lib.hid hn2
  have HO1 := Lib.hid ho1
  have HO2 := Lib.hid ho2
  have HB3 := Lib.hid hb3
  clear ho1 ho2 hn1 hn2 hb3 c0 c1 HAp
  go_wp2_with fail
  generalize hw4 : World.alloc (World.alloc w3 _) _ = w4
  have HB4 := Lib.hid (show Below w3.heap.size w3 w4 by rw [← hw4]; exact below2 w3 _ _)
  have R7 := Lib.hid (show w4.heap[w3.heap.size]? = some (.cells (recC p.kind p.num p.low p.high p.real p.cap p.text (.slice A3 p.list.length c3)) 25 (0, 0)) by rw [← hw4]; exact heap_alloc2_old w3 _ _)
  have R9 := Lib.hid (show w4.heap[w3.heap.size + 1]? = some (.cells (ansC xx.code xx.num xx.rc C cc) 34 (0, 0)) by rw [← hw4]; exact heap_alloc2_new w3 _ _)
  clear hw4
  have HBw := Lib.hid (show Below wc.heap.size wc w4 from HB3.out.trans (HB4.out.mono HB3.out.size))
  have HS1 := Lib.hid (show ∀ k, (ob A3 = some k ∨ ob C = some k) → wc.heap.size ≤ k ∧ k < w3.heap.size from fun k e => by
    rcases e with e | e
    · exact ⟨HN1.out k e, in_of_own HO1.out k e⟩
    · exact ⟨(HN2.out k e).1, in_of_own HO2.out k e⟩)
  have HRow := Lib.hid (show ∀ W, Kp (fun k => ob A3 = some k ∨ ob C = some k) w4 W → (∀ o, W.cell? ⟨w.heap.size, o, none⟩ = (recC r.kind r.num r.low r.high r.real r.cap r.text (.slice A r.list.length c))[o]?) ∧ (∀ o, W.cell? ⟨w.heap.size + 1, o, none⟩ = (actC ⟨kk, key, n, fx, s, mk, must⟩ L cl)[o]?) ∧ (∀ o, W.cell? ⟨g, o, none⟩ = (recC r.kind r.num r.low r.high r.real r.cap r.text (.slice A1 r.list.length cA))[o]?) ∧ (∀ o, W.cell? ⟨h, o, none⟩ = (recC mk.kind mk.num mk.low mk.high mk.real mk.cap mk.text (.slice B mk.list.length cb))[o]?) ∧ (∀ o, W.cell? ⟨w3.heap.size, o, none⟩ = (recC p.kind p.num p.low p.high p.real p.cap p.text (.slice A3 p.list.length c3))[o]?) ∧ (∀ o, W.cell? ⟨w3.heap.size + 1, o, none⟩ = (ansC xx.code xx.num xx.rc C cc)[o]?) from fun W hk => by
    have old : ∀ {k : Nat} {x : Obj}, wc.heap[k]? = some x → W.heap[k]? = some x := fun {k x} e => by
      have h1 := lt_of_heap e
      have h2 := (HBw.out.block _ h1).trans e
      exact (hk.block _ (lt_of_heap h2) (fun s => by have := (HS1.out k s).1; omega)).trans h2
    exact ⟨fun o => cell_of_row W _ o _ _ (0, 0) (old R0.out), fun o => cell_of_row W _ o _ _ (0, 0) (old R1.out), fun o => cell_of_row W _ o _ _ (0, 0) (old R5.out), fun o => cell_of_row W _ o _ _ (0, 0) (old R6.out), fun o => cell_of_row W _ o _ _ (0, 0) ((hk.block _ (lt_of_heap R7.out) (fun s => by have := (HS1.out _ s).2; omega)).trans R7.out), fun o => cell_of_row W _ o _ _ (0, 0) ((hk.block _ (lt_of_heap R9.out) (fun s => by have := (HS1.out _ s).2; omega)).trans R9.out)⟩)
  have HIts := Lib.hid (show ∀ W, Kp (fun k => ob A3 = some k ∨ ob C = some k) w4 W → Its W A r.list ∧ Its W L mk.list ∧ Its W A1 r.list ∧ Its W B mk.list ∧ Below w.heap.size w W from fun W hk => by
    have hBw4 : Below w.heap.size w w4 := HBc.out.trans (HBw.out.mono HBc.out.size)
    have hS : ∀ k, (ob A3 = some k ∨ ob C = some k) → w.heap.size ≤ k := fun k e => by have := (HS1.out k e).1; have := HBc.out.size; omega
    exact ⟨its_far HI.out.its hBw4 hk hS, its_far HJ.out.make.its hBw4 hk hS, its_far I1.out HBw.out hk (fun k e => (HS1.out k e).1), its_far I2.out HBw.out hk (fun k e => (HS1.out k e).1), hBw4.trans (hk.below (by have := hBw4.size; omega) (fun i hi x => by have := hS i x; omega))⟩)
  have NA := Lib.hid (show Nm A3 p.list.length 1000 w4 from (nm_own HO1.out HNN.out.1).kp (Kp.of_below HB4.out (fun _ => False)) (fun _ _ x => x))
  have NC := Lib.hid (show Nm C xx.rc.list.length 1000 w4 from (nm_own HO2.out HNN.out.2).kp (Kp.of_below HB4.out (fun _ => False)) (fun _ _ x => x))
  have HAC := Lib.hid (show ∀ k, ob C = some k → ob A3 ≠ some k from fun k e => (HN2.out k e).2)
  have hl1 := HLM.out.1
  have hl2 := HLM.out.2
  unfold Lim at hl1 hl2
  have hl1' : p.list.length < 4294967296 := hl1
  have hl2' : xx.rc.list.length < 4294967296 := hl2
  clear hl1 hl2 R0 R1 R5 R6 R7 R9 I1 I2 HO1 HO2 HN1 HN2 HB3 HB4 HBw HLM
  go_loopw [33] (fun t33 wr => ∃ (i : Nat), t33 = .int .i64 i ∧ i ≤ p.list.length ∧ Kp (fun k => ob A3 = some k ∨ ob C = some k) w4 wr ∧ Nm A3 p.list.length (1000 + i) wr ∧ Nm C xx.rc.list.length 1000 wr) (fun t33 _ => p.list.length - (intOf t33).toNat)
  case atStart => exact ⟨0, rfl, Nat.zero_le _, Kp.refl _ _, NA.out, NC.out⟩
  case round =>
    obtain ⟨i, rfl, hi, hk, na, nc⟩ := hrel
    obtain ⟨x0, x1, x5, x6, x7, x9⟩ := HRow.out wr hk
    have HK := Lib.hid hk
    have NA1 := Lib.hid na
    have NC1 := Lib.hid nc
    clear hk na nc
    by_cases hlt : i < p.list.length
    · rcases NA1.out with h0 | ⟨g3, cur, ty, hA, hg3, hs⟩
      · omega
      subst hA
      obtain ⟨s1, hs1, hsz⟩ := hs i hlt
      have hsz1 : ¬ 9223372036854775807 < s1.size + 1 := by omega
      have HSZ := Lib.hid (show (s1 ++ (⟨#[120]⟩ : ByteArray)).size ≤ 1000 + i + 1 by rw [ByteArray.size_append]; show s1.size + 1 ≤ _; omega)
      have hc1 : wr.cell? ⟨g3, i * 2 + 1, none⟩ = some (.string s1) := (cell_of_row wr _ _ _ _ (0, 0) hg3).trans hs1
      have hf1 : wr.frozen? ⟨g3, i * 2 + 1, none⟩ = false := frozen_of_row _ _ _ _ _ hg3
      have hi1 : (i : Int) < (p.list.length : Int) := by omega
      clear hs hs1 hg3 hsz x0 x1 x5 x6 x9
      go_wp2_with fail
      go_roundw
      case rel =>
        refine ⟨i + 1, by go_num, by omega, Kp.setCell (p := ⟨g3, i * 2 + 1, none⟩) HK.out (Or.inl (Or.inl rfl)) _, NA1.out.set HSZ.out, NC1.out.kp (Kp.setCell (S := fun k => k = g3) (p := ⟨g3, i * 2 + 1, none⟩) (Kp.refl _ _) (Or.inl rfl) _) (fun k e x => ?_)⟩
        have x' : k = g3 := x
        subst x'
        exact HAC.out k e rfl
      case measure => simp [intOf]; omega
    · have hi1 : ¬ (i : Int) < (p.list.length : Int) := by omega
      clear hlt hi x0 x1 x5 x6 x7
      go_wp2_with fail
      clear x9
      go_loopw [50] (fun t50 wq => ∃ (j : Nat), t50 = .int .i64 j ∧ j ≤ xx.rc.list.length ∧ Kp (fun k => ob A3 = some k ∨ ob C = some k) w4 wq ∧ Nm C xx.rc.list.length (1000 + j) wq) (fun t50 _ => xx.rc.list.length - (intOf t50).toNat)
      case atStart => exact ⟨0, rfl, Nat.zero_le _, HK.out, NC1.out⟩
      case round =>
        obtain ⟨j, rfl, hj, hk, nc⟩ := hrel
        obtain ⟨x0, x1, x5, x6, x7, x9⟩ := HRow.out _ hk
        have HK2 := Lib.hid hk
        have NC2 := Lib.hid nc
        clear hk nc
        by_cases hlt : j < xx.rc.list.length
        · rcases NC2.out with h0 | ⟨g3, cur, ty, hA, hg3, hs⟩
          · omega
          subst hA
          obtain ⟨s1, hs1, hsz⟩ := hs j hlt
          have hsz1 : ¬ 9223372036854775807 < s1.size + 1 := by omega
          have HSZ := Lib.hid (show (s1 ++ (⟨#[121]⟩ : ByteArray)).size ≤ 1000 + j + 1 by rw [ByteArray.size_append]; show s1.size + 1 ≤ _; omega)
          have hc1 := (cell_of_row _ _ _ _ _ (0, 0) hg3).trans hs1
          have hf1 := frozen_of_row _ _ (j * 2 + 1) _ _ hg3
          have hi2 : (j : Int) < (xx.rc.list.length : Int) := by omega
          clear hs hs1 hg3 hsz x0 x1 x5 x6 x7
          go_wp2_with fail
          go_roundw
          case rel => exact ⟨j + 1, by go_num, by omega, Kp.setCell (p := ⟨g3, j * 2 + 1, none⟩) HK2.out (Or.inl (Or.inr rfl)) _, NC2.out.set HSZ.out⟩
          case measure => simp [intOf]; omega
        · have hi2 : ¬ (j : Int) < (xx.rc.list.length : Int) := by omega
          have HF := Lib.hid (HIts.out _ HK2.out)
          clear x7 x9
          go_wp2_with fail
          refine (rsame3_any r r A1 A cA c _ HI.out.ok HI.out.ok HF.out.2.2.1 HF.out.1 HM.out HM.out).mono ?_
          rintro e w5 ⟨rfl, hb5⟩
          rw [RC.same_refl']
          have y1 : ∀ o, w5.cell? ⟨w.heap.size + 1, o, none⟩ = (actC ⟨kk, key, n, fx, s, mk, must⟩ L cl)[o]? := fun o => (hb5.cell (p := ⟨w.heap.size + 1, o, none⟩) (lt_of_heap' (x1 0))).trans (x1 o)
          have y6 : ∀ o, w5.cell? ⟨h, o, none⟩ = (recC mk.kind mk.num mk.low mk.high mk.real mk.cap mk.text (.slice B mk.list.length cb))[o]? := fun o => (hb5.cell (p := ⟨h, o, none⟩) (lt_of_heap' (x6 0))).trans (x6 o)
          have HB5 := Lib.hid (HF.out.2.2.2.2.trans (hb5.mono HF.out.2.2.2.2.size))
          have J1 := Lib.hid (HF.out.2.1.below hb5)
          have J2 := Lib.hid (HF.out.2.2.2.1.below hb5)
          clear hb5 x0 x1 x5 x6
          go_wp2_with fail
          refine (rsame3_any mk mk B L cb cl _ HJ.out.ok.make HJ.out.ok.make J2.out J1.out HS.out.1 HS.out.1).mono ?_
          rintro e w6 ⟨rfl, hb6⟩
          rw [RC.same_refl']
          have HB6 := Lib.hid (HB5.out.trans (hb6.mono HB5.out.size))
          clear hb6 y1 y6
          go_wp2_with fail
          go_ret
          exact ⟨rfl, HB6.out⟩

theorem ruleOwnL_any (r : RC.Rc) (A : Option Addr) (c : Nat) (a : AC.Ac) (L : Option Addr) (cl : Nat) (w : World) (hr : RecIn w r A c) (ha : ActIn w a L cl) (hR : RowsAt w) :
    Calls Tryd.prog 6 #[recV r A c, actV a L cl] w fun e w' => e = .returned (.bool true) ∧ Below w.heap.size w w' := by
  obtain ⟨kk, key, n, fx, s, mk, must⟩ := a
  exact ruleOwnL_at r A c kk key n fx s mk must L cl w hr ha hR

end Go.Proofs.YtofaonknfihaiaaDoor
