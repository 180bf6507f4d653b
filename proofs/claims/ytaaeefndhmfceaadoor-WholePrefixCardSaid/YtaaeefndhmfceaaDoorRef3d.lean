/- Contracts of the document's own answers for layer 3: may a record be? -/
import Derived.Test.YtaaeefndhmfceaaDoorRef3c
import Derived.Test.YtaaeefndhmfceaaDoorRec3
namespace RC
theorem empty_iff (t : ByteArray) : t.toList = (⟨#[]⟩ : ByteArray).toList ↔ t = ⟨#[]⟩ := by
  rw [← beq_iff_eq]; exact strEq_iff t ⟨#[]⟩
theorem nil_iff (l : List It) : (l.length : Int) = 0 ↔ l = [] := by
  cases l with
  | nil => simp
  | cons a l => simp; omega
theorem only_iff (t n b r l : Bool) (q : Rc) (ht : t = decide (q.kind = 1)) (hn : n = decide (2 ≤ q.kind ∧ q.kind ≤ 4)) (hb : b = decide (q.kind = 4)) (hr : r = decide (5 ≤ q.kind ∧ q.kind ≤ 7)) (hl : l = decide (8 ≤ q.kind ∧ q.kind ≤ 9)) : onlyB t n b r l q = clean q := by
  rw [Bool.eq_iff_iff, clean_iff]
  unfold onlyB
  simp only [Bool.and_eq_true, Bool.or_eq_true, beq_iff_eq]
  rw [empty_iff, nil_iff]
  subst ht hn hb hr hl
  simp only [decide_eq_true_eq]
  constructor
  · rintro ⟨h1, h2, h3, h4, h5, h6⟩
    exact ⟨fun k => h2.resolve_left k, fun k => h3.resolve_left k, fun k => h4.resolve_left k, fun k => h5.resolve_left k, fun k => (h6.resolve_left k).1, fun k => h1.resolve_left k, fun k => (h6.resolve_left k).2⟩
  · rintro ⟨h2, h3, h4, h5, h6, h1, h7⟩
    refine ⟨?_, ?_, ?_, ?_, ?_, ?_⟩
    · by_cases k : q.kind = 1
      · exact .inl k
      · exact .inr (h1 k)
    · by_cases k : 2 ≤ q.kind ∧ q.kind ≤ 4
      · exact .inl k
      · exact .inr (h2 k)
    · by_cases k : q.kind = 4
      · exact .inl k
      · exact .inr (h3 k)
    · by_cases k : q.kind = 4
      · exact .inl k
      · exact .inr (h4 k)
    · by_cases k : 5 ≤ q.kind ∧ q.kind ≤ 7
      · exact .inl k
      · exact .inr (h5 k)
    · by_cases k : 8 ≤ q.kind ∧ q.kind ≤ 9
      · exact .inl k
      · exact .inr ⟨h6 k, h7 k⟩
end RC
namespace Go.Proofs.YtaaeefndhmfceaaDoor
open Go.RowKit MM

def fieldsOf (k : Int) : ByteArray :=
  if k = 1 then ⟨#[116]⟩ else if k = 2 ∨ k = 3 then ⟨#[110]⟩ else if k = 4 then ⟨#[110, 98]⟩ else if k = 5 ∨ k = 6 ∨ k = 7 then ⟨#[114]⟩ else if k = 8 ∨ k = 9 then ⟨#[108]⟩ else ⟨#[]⟩

set_option maxHeartbeats 1000000 in
set_option maxRecDepth 100000 in
theorem rfields_any (k : Int) (w : World) (hk : RC.known k = true) :
    Calls Tryd.prog 34 #[.int .i64 k] w fun e w' => e = .returned (.string (fieldsOf k)) ∧ Below w.heap.size w w' := by
  rcases RC.kind9 hk with rfl | rfl | rfl | rfl | rfl | rfl | rfl | rfl | rfl
  all_goals
    clear hk
    go_enter Tryd.func34, Tryd.ntmps34
    go_wp2
    go_ret
    exact ⟨rfl, below1 w _⟩

theorem ronly_any (r : RC.Rc) (A : Option Addr) (c : Nat) (w : World) (hr : MF.W64 r.real) (hn : r.list.length ≤ maxLen) (hk : RC.known r.kind = true) :
    Calls Tryd.prog 33 #[recV r A c, .string (fieldsOf r.kind)] w (OPost (RC.clean r) w) := by
  have h : ∀ k, r.kind = k → Calls Tryd.prog 33 #[recV r A c, .string (fieldsOf k)] w (OPost (RC.clean r) w) := by
    intro k e
    have hk' := RC.kind9 hk
    rw [e] at hk'
    rcases hk' with rfl | rfl | rfl | rfl | rfl | rfl | rfl | rfl | rfl
    · rw [← RC.only_iff true false false false false r (by rw [e]; decide) (by rw [e]; decide) (by rw [e]; decide) (by rw [e]; decide) (by rw [e]; decide)]; exact ronly_t r A c w hr hn
    · rw [← RC.only_iff false true false false false r (by rw [e]; decide) (by rw [e]; decide) (by rw [e]; decide) (by rw [e]; decide) (by rw [e]; decide)]; exact ronly_n r A c w hr hn
    · rw [← RC.only_iff false true false false false r (by rw [e]; decide) (by rw [e]; decide) (by rw [e]; decide) (by rw [e]; decide) (by rw [e]; decide)]; exact ronly_n r A c w hr hn
    · rw [← RC.only_iff false true true false false r (by rw [e]; decide) (by rw [e]; decide) (by rw [e]; decide) (by rw [e]; decide) (by rw [e]; decide)]; exact ronly_nb r A c w hr hn
    · rw [← RC.only_iff false false false true false r (by rw [e]; decide) (by rw [e]; decide) (by rw [e]; decide) (by rw [e]; decide) (by rw [e]; decide)]; exact ronly_r r A c w hr hn
    · rw [← RC.only_iff false false false true false r (by rw [e]; decide) (by rw [e]; decide) (by rw [e]; decide) (by rw [e]; decide) (by rw [e]; decide)]; exact ronly_r r A c w hr hn
    · rw [← RC.only_iff false false false true false r (by rw [e]; decide) (by rw [e]; decide) (by rw [e]; decide) (by rw [e]; decide) (by rw [e]; decide)]; exact ronly_r r A c w hr hn
    · rw [← RC.only_iff false false false false true r (by rw [e]; decide) (by rw [e]; decide) (by rw [e]; decide) (by rw [e]; decide) (by rw [e]; decide)]; exact ronly_l r A c w hr hn
    · rw [← RC.only_iff false false false false true r (by rw [e]; decide) (by rw [e]; decide) (by rw [e]; decide) (by rw [e]; decide) (by rw [e]; decide)]; exact ronly_l r A c w hr hn
  exact h _ rfl

theorem zero_proper {s : Nat} (hs : MF.W64 s) (h : MF.same s 0 = true) : MF.proper s = true := by
  have := RC.zero_of_same hs h
  subst this
  exact RC.proper_zero

set_option maxHeartbeats 2000000 in
set_option maxRecDepth 100000 in
theorem ritem_8 (A : Option Addr) (c : Nat) (l : List RC.It) (i : Nat) (w : World) (hI : Its w A l) (hl : WS64 l) (hi : i < l.length) (hn : Lim l.length) :
    Calls Tryd.prog 36 #[.int .i64 8, .slice A l.length c, .int .i64 i] w (EPost (RC.itemE 8 (RC.prev l i) l[i]) w) := by
  have hn' : (l.length : Int) ≤ 4294967296 := by unfold Lim at hn; omega
  rcases hI with rfl | ⟨b, off, rfl, hb, hc⟩
  · simp at hi
  obtain ⟨a0, a1⟩ := hc i l[i] (List.getElem?_eq_getElem hi)
  have wy := hl.at hi
  have hpr : i = 0 ∧ RC.prev l i = none ∨ ∃ p, 0 < i ∧ RC.prev l i = some p ∧ w.cell? ⟨b, off + (i - 1) * 2 + 1, none⟩ = some (.string p.name) := by
    by_cases h0 : i = 0
    · subst h0; exact .inl ⟨rfl, rfl⟩
    · have hj : i - 1 < l.length := by omega
      obtain ⟨q0, q1⟩ := hc (i - 1) l[i - 1] (List.getElem?_eq_getElem hj)
      refine .inr ⟨l[i - 1], by omega, ?_, q1⟩
      unfold RC.prev
      rw [if_neg h0, List.getElem?_eq_getElem hj]
  generalize l[i] = y at *
  generalize RC.prev l i = pv at *
  obtain ⟨ys, yn⟩ := y
  replace a0 : w.cell? ⟨b, off + i * 2, none⟩ = some (.float .f64 ys) := a0
  replace a1 : w.cell? ⟨b, off + i * 2 + 1, none⟩ = some (.string yn) := a1
  replace wy : MF.W64 ys := wy
  have hi1 : (i : Int) < (l.length : Int) := by omega
  have hi0 : (0 : Int) ≤ (i : Int) := by omega
  have Hz := Lib.hid (fun w => rzero_any ys w wy)
  have Hp := Lib.hid (fun w => rproper_any ys w)
  have Hzp := Lib.hid (fun h => zero_proper wy h)
  have He := Lib.hid (show ∀ p, RC.itemE 8 p ⟨ys, yn⟩ = if 16 < yn.size then 3 else if MF.same ys 0 && RC.follows 8 p ⟨ys, yn⟩ then 0 else 4 from fun _ => rfl)
  clear hc hl
  generalize MF.same ys 0 = z at *
  generalize MF.proper ys = pr at *
  by_cases h16 : 16 < yn.size
  · clear hpr
    go_enter Tryd.func36, Tryd.ntmps36
    go_wp2_with fail
    go_ret
    exact EPost.mk (m := 3) (by rw [He.out, if_pos h16]) rfl (below1 w _)
  cases z
  · clear hpr
    go_enter Tryd.func36, Tryd.ntmps36
    go_wp2_with (first | (go_at_call 65; refine (Hz.out _).mono ?_; rintro e w' ⟨rfl, rfl⟩))
    go_ret
    exact EPost.mk (m := 4) (by rw [He.out, if_neg h16]; rfl) rfl (below1 w _)
  have hpr1 : pr = true := Hzp.out rfl
  subst hpr1
  rcases hpr with ⟨rfl, rfl⟩ | ⟨p, h0, rfl, p1⟩
  · rw [Nat.zero_mul, Nat.add_zero] at a0 a1
    go_enter Tryd.func36, Tryd.ntmps36
    go_wp2_with (first
      | (go_at_call 65; refine (Hz.out _).mono ?_; rintro e w' ⟨rfl, rfl⟩)
      | (go_at_call 35; refine (Hp.out _).mono ?_; rintro e w' ⟨rfl, rfl⟩))
    generalize hw2 : w.alloc _ = w2
    have HB2 := Lib.hid (show Below w.heap.size w w2 by rw [← hw2]; exact below1 w _)
    clear hw2
    go_quiet (fail)
    go_wp2
    go_quiet (fail)
    go_wp2
    go_ret
    exact EPost.mk (m := 0) (by rw [He.out, if_neg h16]; rfl) rfl (below_drewN (below_drewN HB2.out _) _)
  · obtain ⟨ps, pn⟩ := p
    replace p1 : w.cell? ⟨b, off + (i - 1) * 2 + 1, none⟩ = some (.string pn) := p1
    have W1 : IntKind.i64.wrap ((i : Int) - 1) = ((i - 1 : Nat) : Int) := (IntWalk.i64_in _ (by omega)).trans (by omega)
    have hj0 : (0 : Int) ≤ ((i - 1 : Nat) : Int) := Int.natCast_nonneg _
    have hj1 : ((i - 1 : Nat) : Int) < (l.length : Int) := by omega
    have h0' : decide ((0 : Int) < (i : Int)) = true := by simp; omega
    have He2 := Lib.hid (show RC.itemE 8 (some ⟨ps, pn⟩) ⟨ys, yn⟩ = if RC.strLt pn yn then 0 else 4 by rw [He.out, if_neg h16]; rfl)
    clear He Hzp
    generalize hs : RC.strLt pn yn = q at He2
    have hq : Op.bytesLess pn.toList yn.toList = q := hs
    clear hs
    cases q
    all_goals
      go_enter Tryd.func36, Tryd.ntmps36
      go_wp2_with (first
        | (go_at_call 65; refine (Hz.out _).mono ?_; rintro e w' ⟨rfl, rfl⟩)
        | (go_at_call 35; refine (Hp.out _).mono ?_; rintro e w' ⟨rfl, rfl⟩))
      generalize hw2 : w.alloc _ = w2
      have hB2 : Below w.heap.size w w2 := by rw [← hw2]; exact below1 w _
      have y1 : w2.cell? ⟨w.heap.size, 1, none⟩ = some (.string yn) := by rw [← hw2]; simp [go_sem]
      replace p1 := (hB2.cell (p := ⟨b, off + (i - 1) * 2 + 1, none⟩) hb).trans p1
      have HB2 := Lib.hid hB2
      clear hw2 hB2 a0 a1
      go_quiet (fail)
      go_wp2
    · go_ret
      exact EPost.mk (m := 4) (by rw [He2.out]; rfl) rfl (below_drewN HB2.out _)
    · go_quiet (fail)
      go_wp2
      go_ret
      exact EPost.mk (m := 0) (by rw [He2.out]; rfl) rfl (below_drewN (below_drewN HB2.out _) _)

end Go.Proofs.YtaaeefndhmfceaaDoor
