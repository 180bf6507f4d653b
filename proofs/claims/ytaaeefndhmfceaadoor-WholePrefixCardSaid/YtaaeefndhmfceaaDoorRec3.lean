/- Contracts of package rec: may a record be? -/
import Derived.Test.YtaaeefndhmfceaaDoorRec2
import Derived.Deep.RegionWith
import Derived.Deep.RegionHeld3
namespace RC
theorem listE_range {r : Rc} (h : r.cap < 1 ∨ 32 < r.cap) : listE r = 1 := by unfold listE; rw [if_pos h]
theorem listE_full {r : Rc} (h : ¬ (r.cap < 1 ∨ 32 < r.cap)) (h2 : r.cap < r.list.length) : listE r = 8 := by unfold listE; rw [if_neg h, if_pos h2]
theorem listE_items {r : Rc} (h : ¬ (r.cap < 1 ∨ 32 < r.cap)) (h2 : ¬ r.cap < r.list.length) : listE r = itemsE r.kind none r.list := by unfold listE; rw [if_neg h, if_neg h2]
theorem itemE_long {k : Int} {p : Option It} {x : It} (h : 16 < x.name.size) : itemE k p x = 3 := by unfold itemE; rw [if_pos h]
theorem itemE_form {k : Int} {p : Option It} {x : It} (h : ¬ 16 < x.name.size) (h2 : (fits k x.score && follows k p x) = false) : itemE k p x = 4 := by unfold itemE; rw [if_neg h, if_neg (by rw [h2]; simp)]
theorem itemE_ok {k : Int} {p : Option It} {x : It} (h : ¬ 16 < x.name.size) (h2 : (fits k x.score && follows k p x) = true) : itemE k p x = 0 := by unfold itemE; rw [if_neg h, if_pos h2]
end RC
namespace Go.Proofs.YtaaeefndhmfceaaDoor
open Go.RowKit MM

/-- What beyond answers. -/
def BPost (r : RC.Rc) (w : World) (e : Ending) (w' : World) : Prop := ∃ A' c', e = .returned (recV (RC.rest r) A' c') ∧ Its w' A' (RC.rest r).list ∧ Below w.heap.size w w'
theorem BPost.mk {r : RC.Rc} {w w' : World} {A' : Option Addr} {c' : Nat} {v : Value} (h : v = recV (RC.rest r) A' c') (hi : Its w' A' (RC.rest r).list) (hb : Below w.heap.size w w') : BPost r w (.returned v) w' := by subst h; exact ⟨A', c', rfl, hi, hb⟩

set_option maxHeartbeats 1000000 in
set_option maxRecDepth 100000 in
theorem beyond_any (r : RC.Rc) (A : Option Addr) (c : Nat) (w : World) (hA : Its w A r.list) (hk : RC.known r.kind = true) :
    Calls Tryd.prog 41 #[recV r A c] w (BPost r w) := by
  obtain ⟨k, n, l, h, x, cap, t, s⟩ := r
  have HA := Lib.hid hA
  clear hA
  rcases RC.kind9 hk with rfl | rfl | rfl | rfl | rfl | rfl | rfl | rfl | rfl
  all_goals
    clear hk
    go_enter Tryd.func41, Tryd.ntmps41
    go_wp2_with fail
  · refine bodyPost_ret (v := .agg #[.int .i64 0, .int .i64 n, .int .i64 l, .int .i64 h, .float .f64 x, .int .i64 cap, .string ⟨#[]⟩, .slice A s.length c]) (by simp [results, Tryd.results41, go_sem]) rfl ?_
    refine (fun hb => BPost.mk (A' := A) (c' := c) rfl (HA.out.below hb) hb) ?_
    repeat (first | (with_reducible exact Below.refl _ _) | (refine Below.setCell ?_ (by simp) _) | (refine Below.alloc ?_ (by simp) _))
  · refine bodyPost_ret (v := .agg #[.int .i64 0, .int .i64 0, .int .i64 l, .int .i64 h, .float .f64 x, .int .i64 cap, .string t, .slice A s.length c]) (by simp [results, Tryd.results41, go_sem]) rfl ?_
    refine (fun hb => BPost.mk (A' := A) (c' := c) rfl (HA.out.below hb) hb) ?_
    repeat (first | (with_reducible exact Below.refl _ _) | (refine Below.setCell ?_ (by simp) _) | (refine Below.alloc ?_ (by simp) _))
  · refine bodyPost_ret (v := .agg #[.int .i64 0, .int .i64 0, .int .i64 l, .int .i64 h, .float .f64 x, .int .i64 cap, .string t, .slice A s.length c]) (by simp [results, Tryd.results41, go_sem]) rfl ?_
    refine (fun hb => BPost.mk (A' := A) (c' := c) rfl (HA.out.below hb) hb) ?_
    repeat (first | (with_reducible exact Below.refl _ _) | (refine Below.setCell ?_ (by simp) _) | (refine Below.alloc ?_ (by simp) _))
  · refine bodyPost_ret (v := .agg #[.int .i64 0, .int .i64 0, .int .i64 0, .int .i64 0, .float .f64 x, .int .i64 cap, .string t, .slice A s.length c]) (by simp [results, Tryd.results41, go_sem]) rfl ?_
    refine (fun hb => BPost.mk (A' := A) (c' := c) rfl (HA.out.below hb) hb) ?_
    repeat (first | (with_reducible exact Below.refl _ _) | (refine Below.setCell ?_ (by simp) _) | (refine Below.alloc ?_ (by simp) _))
  · refine bodyPost_ret (v := .agg #[.int .i64 0, .int .i64 n, .int .i64 l, .int .i64 h, .float .f64 0, .int .i64 cap, .string t, .slice A s.length c]) (by simp [results, Tryd.results41, go_sem]) rfl ?_
    refine (fun hb => BPost.mk (A' := A) (c' := c) rfl (HA.out.below hb) hb) ?_
    repeat (first | (with_reducible exact Below.refl _ _) | (refine Below.setCell ?_ (by simp) _) | (refine Below.alloc ?_ (by simp) _))
  · refine bodyPost_ret (v := .agg #[.int .i64 0, .int .i64 n, .int .i64 l, .int .i64 h, .float .f64 0, .int .i64 cap, .string t, .slice A s.length c]) (by simp [results, Tryd.results41, go_sem]) rfl ?_
    refine (fun hb => BPost.mk (A' := A) (c' := c) rfl (HA.out.below hb) hb) ?_
    repeat (first | (with_reducible exact Below.refl _ _) | (refine Below.setCell ?_ (by simp) _) | (refine Below.alloc ?_ (by simp) _))
  · refine bodyPost_ret (v := .agg #[.int .i64 0, .int .i64 n, .int .i64 l, .int .i64 h, .float .f64 0, .int .i64 cap, .string t, .slice A s.length c]) (by simp [results, Tryd.results41, go_sem]) rfl ?_
    refine (fun hb => BPost.mk (A' := A) (c' := c) rfl (HA.out.below hb) hb) ?_
    repeat (first | (with_reducible exact Below.refl _ _) | (refine Below.setCell ?_ (by simp) _) | (refine Below.alloc ?_ (by simp) _))
  · refine bodyPost_ret (v := .agg #[.int .i64 0, .int .i64 n, .int .i64 l, .int .i64 h, .float .f64 x, .int .i64 0, .string t, .slice none 0 0]) (by simp [results, Tryd.results41, go_sem]) rfl ?_
    refine (fun hb => BPost.mk (A' := none) (c' := 0) rfl (Its.nil _ _) hb) ?_
    repeat (first | (with_reducible exact Below.refl _ _) | (refine Below.setCell ?_ (by simp) _) | (refine Below.alloc ?_ (by simp) _))
  · refine bodyPost_ret (v := .agg #[.int .i64 0, .int .i64 n, .int .i64 l, .int .i64 h, .float .f64 x, .int .i64 0, .string t, .slice none 0 0]) (by simp [results, Tryd.results41, go_sem]) rfl ?_
    refine (fun hb => BPost.mk (A' := none) (c' := 0) rfl (Its.nil _ _) hb) ?_
    repeat (first | (with_reducible exact Below.refl _ _) | (refine Below.setCell ?_ (by simp) _) | (refine Below.alloc ?_ (by simp) _))


theorem fits_q (k : Int) (s : Nat) (b : Bool) (w : World) (hs : MF.W64 s) (h : RC.fits k s = b) :
    Calls Tryd.prog 96 #[.int .i64 k, .float .f64 s] w fun e w' => e = .returned (.bool b) ∧ w' = w :=
  (fits_any k s w hs).mono fun _ _ ⟨h1, h2⟩ => ⟨by rw [h1, h], h2.symm⟩

/-- What checkList, and Check, answer. -/
def EPost (n : Nat) (w : World) (e : Ending) (w' : World) : Prop := e = .returned (.int .i64 (n : Int)) ∧ Below w.heap.size w w'
theorem EPost.mk {n m : Nat} {z : Int} {w w' : World} (h : n = m) (hz : z = (m : Int)) (hb : Below w.heap.size w w') : EPost n w (.returned (.int .i64 z)) w' := by subst h hz; exact ⟨rfl, hb⟩

set_option maxHeartbeats 1000000 in
set_option maxRecDepth 100000 in
theorem checkList_any (r : RC.Rc) (A : Option Addr) (c : Nat) (w : World) (hA : Its w A r.list) (hr : WS64 r.list) (hn : Lim r.list.length) :
    Calls Tryd.prog 45 #[recV r A c] w (EPost (RC.listE r) w) := by
  obtain ⟨k, n, l, h, x, cap, t, s⟩ := r
  replace hr : WS64 s := hr
  have hn' : (s.length : Int) ≤ 4294967296 := by have hn : Lim s.length := hn; unfold Lim at hn; omega
  by_cases h1 : cap < 1 ∨ 32 < cap
  · have Hr := Lib.hid (RC.listE_range (r := ⟨k, n, l, h, x, cap, t, s⟩) h1)
    by_cases h2 : cap < 1
    · clear h1 hA
      go_enter Tryd.func45, Tryd.ntmps45
      go_wp2_with fail
      go_ret
      exact EPost.mk Hr.out rfl (below1 w _)
    · have h3 : 32 < cap := by omega
      clear h1 hA
      go_enter Tryd.func45, Tryd.ntmps45
      go_wp2_with fail
      go_ret
      exact EPost.mk Hr.out rfl (below1 w _)
  · have h2 : ¬ cap < 1 := by omega
    have h3 : ¬ 32 < cap := by omega
    by_cases h4 : cap < s.length
    · have Hr := Lib.hid (RC.listE_full (r := ⟨k, n, l, h, x, cap, t, s⟩) h1 h4)
      clear h1 hA
      go_enter Tryd.func45, Tryd.ntmps45
      go_wp2_with fail
      go_ret
      exact EPost.mk Hr.out rfl (below1 w _)
    · have Hr := Lib.hid (RC.listE_items (r := ⟨k, n, l, h, x, cap, t, s⟩) h1 h4)
      have HA := Lib.hid hA
      clear h1 hA
      go_enter Tryd.func45, Tryd.ntmps45
      go_wp2_with fail
      go_loopw [22] (fun ti wr => ∃ i : Nat, ti = .int .i64 i ∧ i ≤ s.length ∧ RC.itemsE k none s = RC.itemsE k (RC.prev s i) (s.drop i) ∧ Below (w.heap.size + 1) (w.alloc (.cells #[.int .i64 k, .int .i64 n, .int .i64 l, .int .i64 h, .float .f64 x, .int .i64 cap, .string t, .slice A s.length c] 25)) wr) (fun ti _ => s.length - (intOf ti).toNat)
      case atStart => exact ⟨0, rfl, Nat.zero_le _, rfl, Below.refl _ _⟩
      case round =>
        obtain ⟨i, rfl, hi, hs, hb⟩ := hrel
        have e0 := (hb.block w.heap.size (by omega)).trans (heap_alloc_new w _)
        have c0 : wr.cell? ⟨w.heap.size, 0, none⟩ = some (.int .i64 k) := (cell_of_row wr _ 0 _ _ (0, 0) e0).trans rfl
        have c7 : wr.cell? ⟨w.heap.size, 7, none⟩ = some (.slice A s.length c) := (cell_of_row wr _ 7 _ _ (0, 0) e0).trans rfl
        have hB : Below w.heap.size w wr := (below1 w _).trans (hb.mono (by omega))
        have hsz := hb.size
        rw [World.size_alloc] at hsz
        by_cases hlt : i < s.length
        · have hA := HA.out.below hB
          rcases hA with hA | ⟨ba, oa, rfl, hba, hca⟩
          · have hA : s = [] := hA
            subst hA; simp at hlt
          replace hca : ∀ (i : Nat) (x : RC.It), s[i]? = some x → wr.cell? ⟨ba, oa + i * 2, none⟩ = some (.float .f64 x.score) ∧ wr.cell? ⟨ba, oa + i * 2 + 1, none⟩ = some (.string x.name) := hca
          obtain ⟨a0, a1⟩ := hca i s[i] (List.getElem?_eq_getElem hlt)
          have wa := hr.at hlt
          have hst := RC.itemsE_step k s i hlt
          have hsp := RC.itemsE_stop k s i hlt
          have hi1 : (i : Int) < (s.length : Int) := by omega
          have hpr : i = 0 ∧ RC.prev s i = none ∨ ∃ p, 0 < i ∧ RC.prev s i = some p ∧ MF.W64 p.score ∧ wr.cell? ⟨ba, oa + (i - 1) * 2, none⟩ = some (.float .f64 p.score) ∧ wr.cell? ⟨ba, oa + (i - 1) * 2 + 1, none⟩ = some (.string p.name) := by
            by_cases h0 : i = 0
            · subst h0; exact .inl ⟨rfl, rfl⟩
            · have hj : i - 1 < s.length := by omega
              obtain ⟨q0, q1⟩ := hca (i - 1) s[i - 1] (List.getElem?_eq_getElem hj)
              refine .inr ⟨s[i - 1], by omega, ?_, hr.at hj, q0, q1⟩
              unfold RC.prev
              rw [if_neg h0, List.getElem?_eq_getElem hj]
          generalize s[i] = y at *
          generalize RC.prev s i = pv at *
          obtain ⟨ys, yn⟩ := y
          replace a0 : wr.cell? ⟨ba, oa + i * 2, none⟩ = some (.float .f64 ys) := a0
          replace a1 : wr.cell? ⟨ba, oa + i * 2 + 1, none⟩ = some (.string yn) := a1
          replace wa : MF.W64 ys := wa
          have Hs := Lib.hid hs
          have Hst := Lib.hid hst
          have Hsp := Lib.hid hsp
          have Hb := Lib.hid hb
          have HB := Lib.hid hB
          clear hs hst hsp hb hB hca e0
          have hne : ¬ w.heap.size = wr.heap.size := by omega
          by_cases h16 : 16 < yn.size
          · have Hi := Lib.hid (RC.itemE_long (k := k) (p := pv) (x := ⟨ys, yn⟩) h16)
            clear hpr
            go_wp2_with fail
            go_ret
            exact EPost.mk (m := 3) (by rw [Hr.out]; show RC.itemsE k none s = 3; rw [Hs.out, Hsp.out (by rw [Hi.out]; omega), Hi.out]) rfl (HB.out.trans ((below1 wr _).mono HB.out.size))
          · cases hf : RC.fits k ys
            · have Hi := Lib.hid (RC.itemE_form (k := k) (p := pv) (x := ⟨ys, yn⟩) h16 (by show (RC.fits k ys && _) = false; rw [hf]; rfl))
              have Hf := Lib.hid hf
              clear hpr hf
              go_wp2_with fail
              generalize hw2 : wr.alloc _ = w2
              have hB2 : Below wr.heap.size wr w2 := by rw [← hw2]; exact below1 wr _
              have k0 : w2.cell? ⟨w.heap.size, 0, none⟩ = some (.int .i64 k) := (hB2.cell (p := ⟨w.heap.size, 0, none⟩) (by show w.heap.size < _; omega)).trans c0
              have k7 : w2.cell? ⟨w.heap.size, 7, none⟩ = some (.slice (some ⟨ba, oa, none⟩) s.length c) := (hB2.cell (p := ⟨w.heap.size, 7, none⟩) (by show w.heap.size < _; omega)).trans c7
              have y0 : w2.cell? ⟨wr.heap.size, 0, none⟩ = some (.float .f64 ys) := by rw [← hw2]; simp [go_sem]
              have y1 : w2.cell? ⟨wr.heap.size, 1, none⟩ = some (.string yn) := by rw [← hw2]; simp [go_sem]
              have HB2 := Lib.hid hB2
              clear hw2 hB2
              go_quiet (first | (go_at_call 96; refine Calls.quiet_of_same (fits_q k ys false _ wa Hf.out)))
              go_wp2
              go_ret
              exact EPost.mk (m := 4) (by rw [Hr.out]; show RC.itemsE k none s = 4; rw [Hs.out, Hsp.out (by rw [Hi.out]; omega), Hi.out]) rfl (below_drewN (HB.out.trans (HB2.out.mono HB.out.size)) _)
            · have Hf := Lib.hid hf
              clear hf
              rcases hpr with ⟨rfl, rfl⟩ | ⟨p, h0, rfl, wp, p0, p1⟩
              · have Hi := Lib.hid (RC.itemE_ok (k := k) (p := none) (x := ⟨ys, yn⟩) h16 (by show (RC.fits k ys && true) = true; rw [Hf.out]; rfl))
                rw [Nat.zero_mul, Nat.add_zero] at a0 a1
                go_wp2_with fail
                generalize hw2 : wr.alloc _ = w2
                have hB2 : Below wr.heap.size wr w2 := by rw [← hw2]; exact below1 wr _
                have k0 : w2.cell? ⟨w.heap.size, 0, none⟩ = some (.int .i64 k) := (hB2.cell (p := ⟨w.heap.size, 0, none⟩) (by show w.heap.size < _; omega)).trans c0
                have k7 : w2.cell? ⟨w.heap.size, 7, none⟩ = some (.slice (some ⟨ba, oa, none⟩) s.length c) := (hB2.cell (p := ⟨w.heap.size, 7, none⟩) (by show w.heap.size < _; omega)).trans c7
                have y0 : w2.cell? ⟨wr.heap.size, 0, none⟩ = some (.float .f64 ys) := by rw [← hw2]; simp [go_sem]
                have y1 : w2.cell? ⟨wr.heap.size, 1, none⟩ = some (.string yn) := by rw [← hw2]; simp [go_sem]
                have HB2 := Lib.hid hB2
                clear hw2 hB2
                go_quiet (first | (go_at_call 96; refine Calls.quiet_of_same (fits_q k ys true _ wa Hf.out)))
                go_wp2
                go_roundw
                case rel => exact ⟨1, by go_num, by omega, by rw [Hs.out, Hst.out Hi.out], below_drewN (Hb.out.trans (HB2.out.mono (by omega))) _⟩
                case measure => simp [intOf]; omega
              · obtain ⟨ps, pn⟩ := p
                replace p0 : wr.cell? ⟨ba, oa + (i - 1) * 2, none⟩ = some (.float .f64 ps) := p0
                replace p1 : wr.cell? ⟨ba, oa + (i - 1) * 2 + 1, none⟩ = some (.string pn) := p1
                replace wp : MF.W64 ps := wp
                have W1 : IntKind.i64.wrap ((i : Int) - 1) = ((i - 1 : Nat) : Int) := (IntWalk.i64_in _ (by omega)).trans (by omega)
                have hj0 : (0 : Int) ≤ ((i - 1 : Nat) : Int) := Int.natCast_nonneg _
                have hj1 : ((i - 1 : Nat) : Int) < (s.length : Int) := by omega
                have h0' : decide ((0 : Int) < (i : Int)) = true := by simp; omega
                cases hq : RC.ahead k ⟨ps, pn⟩ ⟨ys, yn⟩
                · have Hi := Lib.hid (RC.itemE_form (k := k) (p := some ⟨ps, pn⟩) (x := ⟨ys, yn⟩) h16 (by show (RC.fits k ys && RC.ahead k ⟨ps, pn⟩ ⟨ys, yn⟩) = false; rw [hq, Bool.and_false]))
                  have Hq := Lib.hid hq
                  clear hq
                  go_wp2_with fail
                  generalize hw2 : wr.alloc _ = w2
                  have hB2 : Below wr.heap.size wr w2 := by rw [← hw2]; exact below1 wr _
                  have k0 : w2.cell? ⟨w.heap.size, 0, none⟩ = some (.int .i64 k) := (hB2.cell (p := ⟨w.heap.size, 0, none⟩) (by show w.heap.size < _; omega)).trans c0
                  have k7 : w2.cell? ⟨w.heap.size, 7, none⟩ = some (.slice (some ⟨ba, oa, none⟩) s.length c) := (hB2.cell (p := ⟨w.heap.size, 7, none⟩) (by show w.heap.size < _; omega)).trans c7
                  have y0 : w2.cell? ⟨wr.heap.size, 0, none⟩ = some (.float .f64 ys) := by rw [← hw2]; simp [go_sem]
                  have y1 : w2.cell? ⟨wr.heap.size, 1, none⟩ = some (.string yn) := by rw [← hw2]; simp [go_sem]
                  replace p0 := (hB2.cell (p := ⟨ba, oa + (i - 1) * 2, none⟩) hba).trans p0
                  replace p1 := (hB2.cell (p := ⟨ba, oa + (i - 1) * 2 + 1, none⟩) hba).trans p1
                  have HB2 := Lib.hid hB2
                  clear hw2 hB2 c0 c7 a0 a1
                  go_region_held3 (fun w' => w'.cell? ⟨w.heap.size, 0, none⟩ = some (.int .i64 k) ∧ w'.cell? ⟨w.heap.size, 7, none⟩ = some (.slice (some ⟨ba, oa, none⟩) s.length c) ∧ w'.cell? ⟨wr.heap.size, 0, none⟩ = some (.float .f64 ys) ∧ w'.cell? ⟨wr.heap.size, 1, none⟩ = some (.string yn) ∧ w'.cell? ⟨ba, oa + (i - 1) * 2, none⟩ = some (.float .f64 ps) ∧ w'.cell? ⟨ba, oa + (i - 1) * 2 + 1, none⟩ = some (.string pn))
                    (first
                      | go_keep
                      | (go_split_ands; exact ⟨below_keep hb1 (by assumption), below_keep hb1 (by assumption), below_keep hb1 (by assumption), below_keep hb1 (by assumption), below_keep hb1 (by assumption), below_keep hb1 (by assumption)⟩))
                    (first
                      | (go_at_call 96; refine (fits_any k ys _ wa).mono ?_; rw [Hf.out]; rintro e w1 ⟨rfl, rfl⟩)
                      | (go_at_call 97; refine (ahead_any k ⟨ps, pn⟩ ⟨ys, yn⟩ _ wp wa).mono ?_; rw [Hq.out]; rintro e w1 ⟨rfl, hb1⟩))
                  go_wp2
                  go_ret
                  exact EPost.mk (m := 4) (by rw [Hr.out]; show RC.itemsE k none s = 4; rw [Hs.out, Hsp.out (by rw [Hi.out]; omega), Hi.out]) rfl ((HB.out.trans ((below_drew HB2.out).mono HB.out.size)).trans (hb1.mono (Nat.le_trans HB.out.size HB2.out.size)))
                · have Hi := Lib.hid (RC.itemE_ok (k := k) (p := some ⟨ps, pn⟩) (x := ⟨ys, yn⟩) h16 (by show (RC.fits k ys && RC.ahead k ⟨ps, pn⟩ ⟨ys, yn⟩) = true; rw [hq, Hf.out]; rfl))
                  have Hq := Lib.hid hq
                  clear hq
                  go_wp2_with fail
                  generalize hw2 : wr.alloc _ = w2
                  have hB2 : Below wr.heap.size wr w2 := by rw [← hw2]; exact below1 wr _
                  have k0 : w2.cell? ⟨w.heap.size, 0, none⟩ = some (.int .i64 k) := (hB2.cell (p := ⟨w.heap.size, 0, none⟩) (by show w.heap.size < _; omega)).trans c0
                  have k7 : w2.cell? ⟨w.heap.size, 7, none⟩ = some (.slice (some ⟨ba, oa, none⟩) s.length c) := (hB2.cell (p := ⟨w.heap.size, 7, none⟩) (by show w.heap.size < _; omega)).trans c7
                  have y0 : w2.cell? ⟨wr.heap.size, 0, none⟩ = some (.float .f64 ys) := by rw [← hw2]; simp [go_sem]
                  have y1 : w2.cell? ⟨wr.heap.size, 1, none⟩ = some (.string yn) := by rw [← hw2]; simp [go_sem]
                  replace p0 := (hB2.cell (p := ⟨ba, oa + (i - 1) * 2, none⟩) hba).trans p0
                  replace p1 := (hB2.cell (p := ⟨ba, oa + (i - 1) * 2 + 1, none⟩) hba).trans p1
                  have HB2 := Lib.hid hB2
                  clear hw2 hB2 c0 c7 a0 a1
                  go_region_held3 (fun w' => w'.cell? ⟨w.heap.size, 0, none⟩ = some (.int .i64 k) ∧ w'.cell? ⟨w.heap.size, 7, none⟩ = some (.slice (some ⟨ba, oa, none⟩) s.length c) ∧ w'.cell? ⟨wr.heap.size, 0, none⟩ = some (.float .f64 ys) ∧ w'.cell? ⟨wr.heap.size, 1, none⟩ = some (.string yn) ∧ w'.cell? ⟨ba, oa + (i - 1) * 2, none⟩ = some (.float .f64 ps) ∧ w'.cell? ⟨ba, oa + (i - 1) * 2 + 1, none⟩ = some (.string pn))
                    (first
                      | go_keep
                      | (go_split_ands; exact ⟨below_keep hb1 (by assumption), below_keep hb1 (by assumption), below_keep hb1 (by assumption), below_keep hb1 (by assumption), below_keep hb1 (by assumption), below_keep hb1 (by assumption)⟩))
                    (first
                      | (go_at_call 96; refine (fits_any k ys _ wa).mono ?_; rw [Hf.out]; rintro e w1 ⟨rfl, rfl⟩)
                      | (go_at_call 97; refine (ahead_any k ⟨ps, pn⟩ ⟨ys, yn⟩ _ wp wa).mono ?_; rw [Hq.out]; rintro e w1 ⟨rfl, hb1⟩))
                  go_wp2
                  go_roundw
                  case rel => exact ⟨i + 1, by go_num, by omega, by rw [Hs.out, Hst.out Hi.out], Hb.out.trans (((below_drew HB2.out).mono (by omega)).trans (hb1.mono (Nat.le_trans hsz HB2.out.size)))⟩
                  case measure => simp [intOf]; omega
        · have hi' : i = s.length := by omega
          rw [List.drop_eq_nil_of_le (by omega)] at hs
          have Hs := Lib.hid hs
          have HB := Lib.hid hB
          clear hs e0 hB
          subst hi'
          go_wp2
          go_ret
          exact EPost.mk (m := 0) (by rw [Hr.out]; show RC.itemsE k none s = 0; rw [Hs.out]; rfl) rfl HB.out

end Go.Proofs.YtaaeefndhmfceaaDoor
