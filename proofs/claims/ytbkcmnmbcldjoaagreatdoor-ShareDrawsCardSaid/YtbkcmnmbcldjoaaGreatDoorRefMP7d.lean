/- Layer 3's statements' own head: a few records there and back. -/
import Derived.Test.YtbkcmnmbcldjoaaGreatDoorRecNP7d
import Derived.Test.YtbkcmnmbcldjoaaGreatDoorRecMP7d
import Derived.Deep.RegionHeld3
namespace Go.Proofs.YtbkcmnmbcldjoaaGreatDoor
open Go.RowKit MM
end Go.Proofs.YtbkcmnmbcldjoaaGreatDoor
namespace RC
theorem less_same {a b : Nat} (h : MF.same a b = true) : MF.less a b = false := by
  unfold MF.same at h; unfold MF.less
  have h := of_decide_eq_true h
  simp; omega
theorem better_eq (a b : It) : better a b = (MF.less b.score a.score || (MF.same a.score b.score && strLt a.name b.name)) := by
  unfold better
  cases hs : MF.same a.score b.score
  · simp
  · rw [less_same (by rw [same_comm]; exact hs)]; simp
theorem better_iff (a b : It) : better a b = true ↔ (MF.key b.score < MF.key a.score ∨ (MF.key a.score = MF.key b.score ∧ strLt a.name b.name = true)) := by
  rw [better_eq]; unfold MF.less MF.same; simp
end RC
namespace Go.Proofs.YtbkcmnmbcldjoaaGreatDoor
open Go.RowKit MM
theorem below_a (w : World) : Below w.heap.size w w.drew := below_drew (Below.refl _ _)
set_option maxHeartbeats 1000000 in
set_option maxRecDepth 100000 in
theorem rahead_any (a b : RC.It) (w : World) (ha : MF.W64 a.score) (hb : MF.W64 b.score) :
    Calls Tryz.prog 96 #[itV a, itV b] w fun e w' => e = .returned (.bool (RC.better a b)) ∧ Below w.heap.size w w' := by
  have HB := Lib.hid (RC.better_eq a b)
  obtain ⟨sa, na⟩ := a
  obtain ⟨sb, nb⟩ := b
  replace ha : MF.W64 sa := ha
  replace hb : MF.W64 sb := hb
  cases h1 : MF.less sb sa
  all_goals cases h2 : MF.same sa sb
  all_goals
    have H1 := Lib.hid h1
    have H2 := Lib.hid h2
    clear h1 h2
    go_enter Tryz.func96, Tryz.ntmps96
    go_wp2_with (first
      | (go_at_call 80; refine (rless_any sb sa _ hb ha).mono ?_; rw [H1.out]; rintro e w' ⟨rfl, rfl⟩)
      | (go_at_call 43; refine (rsame_any sa sb _ ha hb).mono ?_; rw [H2.out]; rintro e w' ⟨rfl, rfl⟩))
    go_ret
    exact ⟨ret_bool (by rw [HB.out, H1.out, H2.out]; rfl), below2 w _ _⟩
end Go.Proofs.YtbkcmnmbcldjoaaGreatDoor
namespace RC
/-- Has a record no other fields than those? -/
def onlyB (t n b r l : Bool) (q : Rc) : Bool :=
  (t || (q.text.toList == (⟨#[]⟩ : ByteArray).toList)) && ((n || q.num == 0) && ((b || q.low == 0) && ((b || q.high == 0) && ((r || MF.same q.real 0) && (l || (q.cap == 0 && ((q.list.length : Int) == 0)))))))
end RC
namespace Go.Proofs.YtbkcmnmbcldjoaaGreatDoor
open Go.RowKit MM
theorem proper_none (x : Nat) : MF.proper x = (!MF.nan x || x == 9221120237041090561) := by
  unfold MF.proper
  cases h : MF.nan x
  · rw [MF.canon_eq x false h]; simp
  · rw [MF.canon_eq x true h]; rfl
set_option maxHeartbeats 1000000 in
theorem rproper_any (x : Nat) (w : World) :
    Calls Tryz.prog 65 #[.float .f64 x] w fun e w' => e = .returned (.bool (MF.proper x)) ∧ w = w' := by
  have HP := Lib.hid (proper_none x)
  cases h : MF.nan x
  all_goals
    have Hn := Lib.hid h
    go_enter Tryz.func65, Tryz.ntmps65
    go_wp2_with (first
      | (go_at_call 94; refine (rnone_any x _ _ h).mono ?_; rintro e w' ⟨rfl, rfl⟩))
    go_ret
    exact ⟨ret_bool (by rw [HP.out, Hn.out]; first | rfl | (rw [Bool.eq_iff_iff]; simp; try omega)), rfl⟩
set_option maxHeartbeats 1000000 in
theorem rzero_any (x : Nat) (w : World) (hx : MF.W64 x) :
    Calls Tryz.prog 93 #[.float .f64 x] w fun e w' => e = .returned (.bool (MF.same x 0)) ∧ w = w' := by
  have h0 : MF.W64 0 := w0
  go_enter Tryz.func93, Tryz.ntmps93
  go_wp2_with (first
    | (go_at_call 43; refine (rsame_any x 0 _ hx h0).mono ?_; rintro e w' ⟨rfl, rfl⟩))
  go_ret
  exact ⟨rfl, rfl⟩
end Go.Proofs.YtbkcmnmbcldjoaaGreatDoor
namespace Go.Proofs.YtbkcmnmbcldjoaaGreatDoor
open Go.RowKit MM
def OPost (v : Bool) (w : World) (e : Ending) (w' : World) : Prop := e = .returned (.bool v) ∧ Below w.heap.size w w'
theorem OPost.mk {v b : Bool} {w w' : World} (h : v = b) (hb : Below w.heap.size w w') : OPost v w (.returned (.bool b)) w' := by subst h; exact ⟨rfl, hb⟩
set_option maxHeartbeats 2000000 in
set_option maxRecDepth 100000 in
theorem ronly_t (r : RC.Rc) (A : Option Addr) (c : Nat) (w : World) (hr : MF.W64 r.real) (hn : r.list.length ≤ maxLen) :
    Calls Tryz.prog 63 #[recV r A c, .string ⟨#[116]⟩] w (OPost (RC.onlyB true false false false false r) w) := by
  obtain ⟨k, n, l, h, x, cap, t, s⟩ := r
  replace hr : MF.W64 x := hr
  replace hn : s.length ≤ maxLen := hn
  unfold maxLen at hn
  generalize hv : RC.onlyB true false false false false ⟨k, n, l, h, x, cap, t, s⟩ = v
  have Hv := Lib.hid hv
  clear hv
  have Hx := Lib.hid (fun w => rzero_any x w hr)
  generalize hz : MF.same x 0 = z at Hx
  have Hz := Lib.hid hz
  clear hz hr
  go_enter Tryz.func63, Tryz.ntmps63
  go_wp2_with fail
  go_loop [5, 6, 7, 8, 9, 10] (fun t5 t6 t7 t8 t9 t10 => (t5 = .bool false ∧ t6 = .bool false ∧ t7 = .bool false ∧ t8 = .bool false ∧ t9 = .bool false ∧ t10 = .int .i64 0) ∨ (t5 = .bool true ∧ t6 = .bool false ∧ t7 = .bool false ∧ t8 = .bool false ∧ t9 = .bool false ∧ t10 = .int .i64 1)) (fun _ _ _ _ _ t10 => 1 - (intOf t10).toNat)
  case atStart => exact Or.inl (⟨rfl, rfl, rfl, rfl, rfl, rfl⟩)
  case round =>
    rcases hrel with ⟨rfl, rfl, rfl, rfl, rfl, rfl⟩ | ⟨rfl, rfl, rfl, rfl, rfl, rfl⟩
    · go_wp2_with fail
      go_round
      case rel => exact Or.inr (⟨rfl, rfl, rfl, rfl, rfl, by go_num⟩)
      case measure => simp [intOf]
    · cases z
      all_goals
        go_wp2_with (first
          | (go_at_call 93; refine (Hx.out _).mono ?_; rintro e w' ⟨rfl, rfl⟩))
        all_goals
          go_ret
          exact OPost.mk (by have hz := Hz.out; rw [← Hv.out]; unfold RC.onlyB; simp_all) (below1 w _)
set_option maxHeartbeats 2000000 in
set_option maxRecDepth 100000 in
theorem ronly_n (r : RC.Rc) (A : Option Addr) (c : Nat) (w : World) (hr : MF.W64 r.real) (hn : r.list.length ≤ maxLen) :
    Calls Tryz.prog 63 #[recV r A c, .string ⟨#[110]⟩] w (OPost (RC.onlyB false true false false false r) w) := by
  obtain ⟨k, n, l, h, x, cap, t, s⟩ := r
  replace hr : MF.W64 x := hr
  replace hn : s.length ≤ maxLen := hn
  unfold maxLen at hn
  generalize hv : RC.onlyB false true false false false ⟨k, n, l, h, x, cap, t, s⟩ = v
  have Hv := Lib.hid hv
  clear hv
  have Hx := Lib.hid (fun w => rzero_any x w hr)
  generalize hz : MF.same x 0 = z at Hx
  have Hz := Lib.hid hz
  clear hz hr
  go_enter Tryz.func63, Tryz.ntmps63
  go_wp2_with fail
  go_loop [5, 6, 7, 8, 9, 10] (fun t5 t6 t7 t8 t9 t10 => (t5 = .bool false ∧ t6 = .bool false ∧ t7 = .bool false ∧ t8 = .bool false ∧ t9 = .bool false ∧ t10 = .int .i64 0) ∨ (t5 = .bool false ∧ t6 = .bool true ∧ t7 = .bool false ∧ t8 = .bool false ∧ t9 = .bool false ∧ t10 = .int .i64 1)) (fun _ _ _ _ _ t10 => 1 - (intOf t10).toNat)
  case atStart => exact Or.inl (⟨rfl, rfl, rfl, rfl, rfl, rfl⟩)
  case round =>
    rcases hrel with ⟨rfl, rfl, rfl, rfl, rfl, rfl⟩ | ⟨rfl, rfl, rfl, rfl, rfl, rfl⟩
    · go_wp2_with fail
      go_round
      case rel => exact Or.inr (⟨rfl, rfl, rfl, rfl, rfl, by go_num⟩)
      case measure => simp [intOf]
    · cases z
      all_goals
        go_wp2_with (first
          | (go_at_call 93; refine (Hx.out _).mono ?_; rintro e w' ⟨rfl, rfl⟩))
        all_goals
          go_ret
          exact OPost.mk (by have hz := Hz.out; rw [← Hv.out]; unfold RC.onlyB; simp_all) (below1 w _)
set_option maxHeartbeats 2000000 in
set_option maxRecDepth 100000 in
theorem ronly_nb (r : RC.Rc) (A : Option Addr) (c : Nat) (w : World) (hr : MF.W64 r.real) (hn : r.list.length ≤ maxLen) :
    Calls Tryz.prog 63 #[recV r A c, .string ⟨#[110, 98]⟩] w (OPost (RC.onlyB false true true false false r) w) := by
  obtain ⟨k, n, l, h, x, cap, t, s⟩ := r
  replace hr : MF.W64 x := hr
  replace hn : s.length ≤ maxLen := hn
  unfold maxLen at hn
  generalize hv : RC.onlyB false true true false false ⟨k, n, l, h, x, cap, t, s⟩ = v
  have Hv := Lib.hid hv
  clear hv
  have Hx := Lib.hid (fun w => rzero_any x w hr)
  generalize hz : MF.same x 0 = z at Hx
  have Hz := Lib.hid hz
  clear hz hr
  go_enter Tryz.func63, Tryz.ntmps63
  go_wp2_with fail
  go_loop [5, 6, 7, 8, 9, 10] (fun t5 t6 t7 t8 t9 t10 => (t5 = .bool false ∧ t6 = .bool false ∧ t7 = .bool false ∧ t8 = .bool false ∧ t9 = .bool false ∧ t10 = .int .i64 0) ∨ (t5 = .bool false ∧ t6 = .bool true ∧ t7 = .bool false ∧ t8 = .bool false ∧ t9 = .bool false ∧ t10 = .int .i64 1) ∨ (t5 = .bool false ∧ t6 = .bool true ∧ t7 = .bool true ∧ t8 = .bool false ∧ t9 = .bool false ∧ t10 = .int .i64 2)) (fun _ _ _ _ _ t10 => 2 - (intOf t10).toNat)
  case atStart => exact Or.inl (⟨rfl, rfl, rfl, rfl, rfl, rfl⟩)
  case round =>
    rcases hrel with ⟨rfl, rfl, rfl, rfl, rfl, rfl⟩ | ⟨rfl, rfl, rfl, rfl, rfl, rfl⟩ | ⟨rfl, rfl, rfl, rfl, rfl, rfl⟩
    · go_wp2_with fail
      go_round
      case rel => exact Or.inr (Or.inl (⟨rfl, rfl, rfl, rfl, rfl, by go_num⟩))
      case measure => simp [intOf]
    · go_wp2_with fail
      go_round
      case rel => exact Or.inr (Or.inr (⟨rfl, rfl, rfl, rfl, rfl, by go_num⟩))
      case measure => simp [intOf]
    · cases z
      all_goals
        go_wp2_with (first
          | (go_at_call 93; refine (Hx.out _).mono ?_; rintro e w' ⟨rfl, rfl⟩))
        all_goals
          go_ret
          exact OPost.mk (by have hz := Hz.out; rw [← Hv.out]; unfold RC.onlyB; simp_all) (below1 w _)
set_option maxHeartbeats 2000000 in
set_option maxRecDepth 100000 in
theorem ronly_r (r : RC.Rc) (A : Option Addr) (c : Nat) (w : World) (hr : MF.W64 r.real) (hn : r.list.length ≤ maxLen) :
    Calls Tryz.prog 63 #[recV r A c, .string ⟨#[114]⟩] w (OPost (RC.onlyB false false false true false r) w) := by
  obtain ⟨k, n, l, h, x, cap, t, s⟩ := r
  replace hr : MF.W64 x := hr
  replace hn : s.length ≤ maxLen := hn
  unfold maxLen at hn
  generalize hv : RC.onlyB false false false true false ⟨k, n, l, h, x, cap, t, s⟩ = v
  have Hv := Lib.hid hv
  clear hv
  have Hx := Lib.hid (fun w => rzero_any x w hr)
  generalize hz : MF.same x 0 = z at Hx
  have Hz := Lib.hid hz
  clear hz hr
  go_enter Tryz.func63, Tryz.ntmps63
  go_wp2_with fail
  go_loop [5, 6, 7, 8, 9, 10] (fun t5 t6 t7 t8 t9 t10 => (t5 = .bool false ∧ t6 = .bool false ∧ t7 = .bool false ∧ t8 = .bool false ∧ t9 = .bool false ∧ t10 = .int .i64 0) ∨ (t5 = .bool false ∧ t6 = .bool false ∧ t7 = .bool false ∧ t8 = .bool true ∧ t9 = .bool false ∧ t10 = .int .i64 1)) (fun _ _ _ _ _ t10 => 1 - (intOf t10).toNat)
  case atStart => exact Or.inl (⟨rfl, rfl, rfl, rfl, rfl, rfl⟩)
  case round =>
    rcases hrel with ⟨rfl, rfl, rfl, rfl, rfl, rfl⟩ | ⟨rfl, rfl, rfl, rfl, rfl, rfl⟩
    · go_wp2_with fail
      go_round
      case rel => exact Or.inr (⟨rfl, rfl, rfl, rfl, rfl, by go_num⟩)
      case measure => simp [intOf]
    · cases z
      all_goals
        go_wp2_with (first
          | (go_at_call 93; refine (Hx.out _).mono ?_; rintro e w' ⟨rfl, rfl⟩))
        all_goals
          go_ret
          exact OPost.mk (by have hz := Hz.out; rw [← Hv.out]; unfold RC.onlyB; simp_all) (below1 w _)
set_option maxHeartbeats 2000000 in
set_option maxRecDepth 100000 in
theorem ronly_l (r : RC.Rc) (A : Option Addr) (c : Nat) (w : World) (hr : MF.W64 r.real) (hn : r.list.length ≤ maxLen) :
    Calls Tryz.prog 63 #[recV r A c, .string ⟨#[108]⟩] w (OPost (RC.onlyB false false false false true r) w) := by
  obtain ⟨k, n, l, h, x, cap, t, s⟩ := r
  replace hr : MF.W64 x := hr
  replace hn : s.length ≤ maxLen := hn
  unfold maxLen at hn
  generalize hv : RC.onlyB false false false false true ⟨k, n, l, h, x, cap, t, s⟩ = v
  have Hv := Lib.hid hv
  clear hv
  have Hx := Lib.hid (fun w => rzero_any x w hr)
  generalize hz : MF.same x 0 = z at Hx
  have Hz := Lib.hid hz
  clear hz hr
  go_enter Tryz.func63, Tryz.ntmps63
  go_wp2_with fail
  go_loop [5, 6, 7, 8, 9, 10] (fun t5 t6 t7 t8 t9 t10 => (t5 = .bool false ∧ t6 = .bool false ∧ t7 = .bool false ∧ t8 = .bool false ∧ t9 = .bool false ∧ t10 = .int .i64 0) ∨ (t5 = .bool false ∧ t6 = .bool false ∧ t7 = .bool false ∧ t8 = .bool false ∧ t9 = .bool true ∧ t10 = .int .i64 1)) (fun _ _ _ _ _ t10 => 1 - (intOf t10).toNat)
  case atStart => exact Or.inl (⟨rfl, rfl, rfl, rfl, rfl, rfl⟩)
  case round =>
    rcases hrel with ⟨rfl, rfl, rfl, rfl, rfl, rfl⟩ | ⟨rfl, rfl, rfl, rfl, rfl, rfl⟩
    · go_wp2_with fail
      go_round
      case rel => exact Or.inr (⟨rfl, rfl, rfl, rfl, rfl, by go_num⟩)
      case measure => simp [intOf]
    · cases z
      all_goals
        go_wp2_with (first
          | (go_at_call 93; refine (Hx.out _).mono ?_; rintro e w' ⟨rfl, rfl⟩))
        all_goals
          go_ret
          exact OPost.mk (by have hz := Hz.out; rw [← Hv.out]; unfold RC.onlyB; simp_all) (below1 w _)
end Go.Proofs.YtbkcmnmbcldjoaaGreatDoor
namespace RC
theorem empty_iff (t : ByteArray) : t.toList = (⟨#[]⟩ : ByteArray).toList ↔ t = ⟨#[]⟩ := by
  rw [← beq_iff_eq]; exact strEq_iff t ⟨#[]⟩
theorem nil_iff (l : List It) : (l.length : Int) = 0 ↔ l = [] := by
  cases l with
  | nil => simp
  | cons a l => simp; omega
theorem only_iff (t n b r l : Bool) (q : Rc) (ht : t = decide (q.kind = 1)) (hn : n = decide (2 ≤ q.kind ∧ q.kind ≤ 4)) (hb : b = decide (q.kind = 4)) (hr : r = decide (5 ≤ q.kind ∧ q.kind ≤ 7)) (hl : l = decide (8 ≤ q.kind ∧ q.kind ≤ 9)) : onlyB t n b r l q = clean q := by
  rw [Bool.eq_iff_iff, clean_iff]
  unfold onlyB
  simp only [Bool.and_eq_true, Bool.or_eq_true, beq_iff_eq]
  rw [empty_iff, nil_iff]
  subst ht hn hb hr hl
  simp only [decide_eq_true_eq]
  constructor
  · rintro ⟨h1, h2, h3, h4, h5, h6⟩
    exact ⟨fun k => h2.resolve_left k, fun k => h3.resolve_left k, fun k => h4.resolve_left k, fun k => h5.resolve_left k, fun k => (h6.resolve_left k).1, fun k => h1.resolve_left k, fun k => (h6.resolve_left k).2⟩
  · rintro ⟨h2, h3, h4, h5, h6, h1, h7⟩
    refine ⟨?_, ?_, ?_, ?_, ?_, ?_⟩
    · by_cases k : q.kind = 1
      · exact .inl k
      · exact .inr (h1 k)
    · by_cases k : 2 ≤ q.kind ∧ q.kind ≤ 4
      · exact .inl k
      · exact .inr (h2 k)
    · by_cases k : q.kind = 4
      · exact .inl k
      · exact .inr (h3 k)
    · by_cases k : q.kind = 4
      · exact .inl k
      · exact .inr (h4 k)
    · by_cases k : 5 ≤ q.kind ∧ q.kind ≤ 7
      · exact .inl k
      · exact .inr (h5 k)
    · by_cases k : 8 ≤ q.kind ∧ q.kind ≤ 9
      · exact .inl k
      · exact .inr ⟨h6 k, h7 k⟩
end RC
namespace Go.Proofs.YtbkcmnmbcldjoaaGreatDoor
open Go.RowKit MM
def fieldsOf (k : Int) : ByteArray :=
  if k = 1 then ⟨#[116]⟩ else if k = 2 ∨ k = 3 then ⟨#[110]⟩ else if k = 4 then ⟨#[110, 98]⟩ else if k = 5 ∨ k = 6 ∨ k = 7 then ⟨#[114]⟩ else if k = 8 ∨ k = 9 then ⟨#[108]⟩ else ⟨#[]⟩
set_option maxHeartbeats 1000000 in
set_option maxRecDepth 100000 in
theorem rfields_any (k : Int) (w : World) (hk : RC.known k = true) :
    Calls Tryz.prog 64 #[.int .i64 k] w fun e w' => e = .returned (.string (fieldsOf k)) ∧ Below w.heap.size w w' := by
  rcases RC.kind9 hk with rfl | rfl | rfl | rfl | rfl | rfl | rfl | rfl | rfl
  all_goals
    clear hk
    go_enter Tryz.func64, Tryz.ntmps64
    go_wp2
    go_ret
    exact ⟨rfl, below1 w _⟩
theorem ronly_any (r : RC.Rc) (A : Option Addr) (c : Nat) (w : World) (hr : MF.W64 r.real) (hn : r.list.length ≤ maxLen) (hk : RC.known r.kind = true) :
    Calls Tryz.prog 63 #[recV r A c, .string (fieldsOf r.kind)] w (OPost (RC.clean r) w) := by
  have h : ∀ k, r.kind = k → Calls Tryz.prog 63 #[recV r A c, .string (fieldsOf k)] w (OPost (RC.clean r) w) := by
    intro k e
    have hk' := RC.kind9 hk
    rw [e] at hk'
    rcases hk' with rfl | rfl | rfl | rfl | rfl | rfl | rfl | rfl | rfl
    · rw [← RC.only_iff true false false false false r (by rw [e]; decide) (by rw [e]; decide) (by rw [e]; decide) (by rw [e]; decide) (by rw [e]; decide)]; exact ronly_t r A c w hr hn
    · rw [← RC.only_iff false true false false false r (by rw [e]; decide) (by rw [e]; decide) (by rw [e]; decide) (by rw [e]; decide) (by rw [e]; decide)]; exact ronly_n r A c w hr hn
    · rw [← RC.only_iff false true false false false r (by rw [e]; decide) (by rw [e]; decide) (by rw [e]; decide) (by rw [e]; decide) (by rw [e]; decide)]; exact ronly_n r A c w hr hn
    · rw [← RC.only_iff false true true false false r (by rw [e]; decide) (by rw [e]; decide) (by rw [e]; decide) (by rw [e]; decide) (by rw [e]; decide)]; exact ronly_nb r A c w hr hn
    · rw [← RC.only_iff false false false true false r (by rw [e]; decide) (by rw [e]; decide) (by rw [e]; decide) (by rw [e]; decide) (by rw [e]; decide)]; exact ronly_r r A c w hr hn
    · rw [← RC.only_iff false false false true false r (by rw [e]; decide) (by rw [e]; decide) (by rw [e]; decide) (by rw [e]; decide) (by rw [e]; decide)]; exact ronly_r r A c w hr hn
    · rw [← RC.only_iff false false false true false r (by rw [e]; decide) (by rw [e]; decide) (by rw [e]; decide) (by rw [e]; decide) (by rw [e]; decide)]; exact ronly_r r A c w hr hn
    · rw [← RC.only_iff false false false false true r (by rw [e]; decide) (by rw [e]; decide) (by rw [e]; decide) (by rw [e]; decide) (by rw [e]; decide)]; exact ronly_l r A c w hr hn
    · rw [← RC.only_iff false false false false true r (by rw [e]; decide) (by rw [e]; decide) (by rw [e]; decide) (by rw [e]; decide) (by rw [e]; decide)]; exact ronly_l r A c w hr hn
  exact h _ rfl
theorem zero_proper {s : Nat} (hs : MF.W64 s) (h : MF.same s 0 = true) : MF.proper s = true := by
  have := RC.zero_of_same hs h
  subst this
  exact RC.proper_zero
set_option maxHeartbeats 2000000 in
set_option maxRecDepth 100000 in
theorem ritem_8 (A : Option Addr) (c : Nat) (l : List RC.It) (i : Nat) (w : World) (hI : Its w A l) (hl : WS64 l) (hi : i < l.length) (hn : Lim l.length) :
    Calls Tryz.prog 66 #[.int .i64 8, .slice A l.length c, .int .i64 i] w (EPost (RC.itemE 8 (RC.prev l i) l[i]) w) := by
  have hn' : (l.length : Int) ≤ 4294967296 := by unfold Lim at hn; omega
  rcases hI with rfl | ⟨b, off, rfl, hb, hc⟩
  · simp at hi
  obtain ⟨a0, a1⟩ := hc i l[i] (List.getElem?_eq_getElem hi)
  have wy := hl.at hi
  have hpr : i = 0 ∧ RC.prev l i = none ∨ ∃ p, 0 < i ∧ RC.prev l i = some p ∧ w.cell? ⟨b, off + (i - 1) * 2 + 1, none⟩ = some (.string p.name) := by
    by_cases h0 : i = 0
    · subst h0; exact .inl ⟨rfl, rfl⟩
    · have hj : i - 1 < l.length := by omega
      obtain ⟨q0, q1⟩ := hc (i - 1) l[i - 1] (List.getElem?_eq_getElem hj)
      refine .inr ⟨l[i - 1], by omega, ?_, q1⟩
      unfold RC.prev
      rw [if_neg h0, List.getElem?_eq_getElem hj]
  generalize l[i] = y at *
  generalize RC.prev l i = pv at *
  obtain ⟨ys, yn⟩ := y
  replace a0 : w.cell? ⟨b, off + i * 2, none⟩ = some (.float .f64 ys) := a0
  replace a1 : w.cell? ⟨b, off + i * 2 + 1, none⟩ = some (.string yn) := a1
  replace wy : MF.W64 ys := wy
  have hi1 : (i : Int) < (l.length : Int) := by omega
  have hi0 : (0 : Int) ≤ (i : Int) := by omega
  have Hz := Lib.hid (fun w => rzero_any ys w wy)
  have Hp := Lib.hid (fun w => rproper_any ys w)
  have Hzp := Lib.hid (fun h => zero_proper wy h)
  have He := Lib.hid (show ∀ p, RC.itemE 8 p ⟨ys, yn⟩ = if 16 < yn.size then 3 else if MF.same ys 0 && RC.follows 8 p ⟨ys, yn⟩ then 0 else 4 from fun _ => rfl)
  clear hc hl
  generalize MF.same ys 0 = z at *
  generalize MF.proper ys = pr at *
  by_cases h16 : 16 < yn.size
  · clear hpr
    go_enter Tryz.func66, Tryz.ntmps66
    go_wp2_with fail
    go_ret
    exact EPost.mk (m := 3) (by rw [He.out, if_pos h16]) rfl (below1 w _)
  cases z
  · clear hpr
    go_enter Tryz.func66, Tryz.ntmps66
    go_wp2_with (first | (go_at_call 93; refine (Hz.out _).mono ?_; rintro e w' ⟨rfl, rfl⟩))
    go_ret
    exact EPost.mk (m := 4) (by rw [He.out, if_neg h16]; rfl) rfl (below1 w _)
  have hpr1 : pr = true := Hzp.out rfl
  subst hpr1
  rcases hpr with ⟨rfl, rfl⟩ | ⟨p, h0, rfl, p1⟩
  · rw [Nat.zero_mul, Nat.add_zero] at a0 a1
    go_enter Tryz.func66, Tryz.ntmps66
    go_wp2_with (first
      | (go_at_call 93; refine (Hz.out _).mono ?_; rintro e w' ⟨rfl, rfl⟩)
      | (go_at_call 65; refine (Hp.out _).mono ?_; rintro e w' ⟨rfl, rfl⟩))
    generalize hw2 : w.alloc _ = w2
    have HB2 := Lib.hid (show Below w.heap.size w w2 by rw [← hw2]; exact below1 w _)
    clear hw2
    go_quiet (fail)
    go_wp2
    go_quiet (fail)
    go_wp2
    go_ret
    exact EPost.mk (m := 0) (by rw [He.out, if_neg h16]; rfl) rfl (below_drewN (below_drewN HB2.out _) _)
  · obtain ⟨ps, pn⟩ := p
    replace p1 : w.cell? ⟨b, off + (i - 1) * 2 + 1, none⟩ = some (.string pn) := p1
    have W1 : IntKind.i64.wrap ((i : Int) - 1) = ((i - 1 : Nat) : Int) := (IntWalk.i64_in _ (by omega)).trans (by omega)
    have hj0 : (0 : Int) ≤ ((i - 1 : Nat) : Int) := Int.natCast_nonneg _
    have hj1 : ((i - 1 : Nat) : Int) < (l.length : Int) := by omega
    have h0' : decide ((0 : Int) < (i : Int)) = true := by simp; omega
    have He2 := Lib.hid (show RC.itemE 8 (some ⟨ps, pn⟩) ⟨ys, yn⟩ = if RC.strLt pn yn then 0 else 4 by rw [He.out, if_neg h16]; rfl)
    clear He Hzp
    generalize hs : RC.strLt pn yn = q at He2
    have hq : Op.bytesLess pn.toList yn.toList = q := hs
    clear hs
    cases q
    all_goals
      go_enter Tryz.func66, Tryz.ntmps66
      go_wp2_with (first
        | (go_at_call 93; refine (Hz.out _).mono ?_; rintro e w' ⟨rfl, rfl⟩)
        | (go_at_call 65; refine (Hp.out _).mono ?_; rintro e w' ⟨rfl, rfl⟩))
      generalize hw2 : w.alloc _ = w2
      have hB2 : Below w.heap.size w w2 := by rw [← hw2]; exact below1 w _
      have y1 : w2.cell? ⟨w.heap.size, 1, none⟩ = some (.string yn) := by rw [← hw2]; simp [go_sem]
      replace p1 := (hB2.cell (p := ⟨b, off + (i - 1) * 2 + 1, none⟩) hb).trans p1
      have HB2 := Lib.hid hB2
      clear hw2 hB2 a0 a1
      go_quiet (fail)
      go_wp2
    · go_ret
      exact EPost.mk (m := 4) (by rw [He2.out]; rfl) rfl (below_drewN HB2.out _)
    · go_quiet (fail)
      go_wp2
      go_ret
      exact EPost.mk (m := 0) (by rw [He2.out]; rfl) rfl (below_drewN (below_drewN HB2.out _) _)
end Go.Proofs.YtbkcmnmbcldjoaaGreatDoor
namespace Go.Proofs.YtbkcmnmbcldjoaaGreatDoor
open Go.RowKit MM
set_option maxHeartbeats 2000000 in
set_option maxRecDepth 100000 in
theorem ritem_9 (A : Option Addr) (c : Nat) (l : List RC.It) (i : Nat) (w : World) (hI : Its w A l) (hl : WS64 l) (hi : i < l.length) (hn : Lim l.length) :
    Calls Tryz.prog 66 #[.int .i64 9, .slice A l.length c, .int .i64 i] w (EPost (RC.itemE 9 (RC.prev l i) l[i]) w) := by
  have hn' : (l.length : Int) ≤ 4294967296 := by unfold Lim at hn; omega
  rcases hI with rfl | ⟨b, off, rfl, hb, hc⟩
  · simp at hi
  obtain ⟨a0, a1⟩ := hc i l[i] (List.getElem?_eq_getElem hi)
  have wy := hl.at hi
  have hpr : i = 0 ∧ RC.prev l i = none ∨ ∃ p, 0 < i ∧ RC.prev l i = some p ∧ MF.W64 p.score ∧ w.cell? ⟨b, off + (i - 1) * 2, none⟩ = some (.float .f64 p.score) ∧ w.cell? ⟨b, off + (i - 1) * 2 + 1, none⟩ = some (.string p.name) := by
    by_cases h0 : i = 0
    · subst h0; exact .inl ⟨rfl, rfl⟩
    · have hj : i - 1 < l.length := by omega
      obtain ⟨q0, q1⟩ := hc (i - 1) l[i - 1] (List.getElem?_eq_getElem hj)
      refine .inr ⟨l[i - 1], by omega, ?_, hl.at hj, q0, q1⟩
      unfold RC.prev
      rw [if_neg h0, List.getElem?_eq_getElem hj]
  generalize l[i] = y at *
  generalize RC.prev l i = pv at *
  obtain ⟨ys, yn⟩ := y
  replace a0 : w.cell? ⟨b, off + i * 2, none⟩ = some (.float .f64 ys) := a0
  replace a1 : w.cell? ⟨b, off + i * 2 + 1, none⟩ = some (.string yn) := a1
  replace wy : MF.W64 ys := wy
  have hi1 : (i : Int) < (l.length : Int) := by omega
  have hi0 : (0 : Int) ≤ (i : Int) := by omega
  have Hp := Lib.hid (fun w => rproper_any ys w)
  have He := Lib.hid (show ∀ p, RC.itemE 9 p ⟨ys, yn⟩ = if 16 < yn.size then 3 else if MF.proper ys && RC.follows 9 p ⟨ys, yn⟩ then 0 else 4 from fun _ => rfl)
  clear hc hl
  generalize MF.proper ys = pr at *
  by_cases h16 : 16 < yn.size
  · clear hpr
    go_enter Tryz.func66, Tryz.ntmps66
    go_wp2_with fail
    go_ret
    exact EPost.mk (m := 3) (by rw [He.out, if_pos h16]) rfl (below1 w _)
  cases pr
  · clear hpr
    go_enter Tryz.func66, Tryz.ntmps66
    go_wp2_with (first
      | (go_at_call 65; refine (Hp.out _).mono ?_; rintro e w' ⟨rfl, rfl⟩))
    go_ret
    exact EPost.mk (m := 4) (by rw [He.out, if_neg h16]; rfl) rfl (below1 w _)
  rcases hpr with ⟨rfl, rfl⟩ | ⟨p, h0, rfl, wp, p0, p1⟩
  · rw [Nat.zero_mul, Nat.add_zero] at a0 a1
    go_enter Tryz.func66, Tryz.ntmps66
    go_wp2_with (first
      | (go_at_call 65; refine (Hp.out _).mono ?_; rintro e w' ⟨rfl, rfl⟩))
    generalize hw2 : w.alloc _ = w2
    have HB2 := Lib.hid (show Below w.heap.size w w2 by rw [← hw2]; exact below1 w _)
    clear hw2
    go_quiet (fail)
    go_wp2
    go_quiet (fail)
    go_wp2
    go_ret
    exact EPost.mk (m := 0) (by rw [He.out, if_neg h16]; rfl) rfl (below_drewN (below_drewN HB2.out _) _)
  · obtain ⟨ps, pn⟩ := p
    replace p0 : w.cell? ⟨b, off + (i - 1) * 2, none⟩ = some (.float .f64 ps) := p0
    replace p1 : w.cell? ⟨b, off + (i - 1) * 2 + 1, none⟩ = some (.string pn) := p1
    replace wp : MF.W64 ps := wp
    have W1 : IntKind.i64.wrap ((i : Int) - 1) = ((i - 1 : Nat) : Int) := (IntWalk.i64_in _ (by omega)).trans (by omega)
    have hj0 : (0 : Int) ≤ ((i - 1 : Nat) : Int) := Int.natCast_nonneg _
    have hj1 : ((i - 1 : Nat) : Int) < (l.length : Int) := by omega
    have h0' : decide ((0 : Int) < (i : Int)) = true := by simp; omega
    have He2 := Lib.hid (show RC.itemE 9 (some ⟨ps, pn⟩) ⟨ys, yn⟩ = if RC.better ⟨ps, pn⟩ ⟨ys, yn⟩ then 0 else 4 by rw [He.out, if_neg h16]; rfl)
    have HA := Lib.hid (fun w => rahead_any ⟨ps, pn⟩ ⟨ys, yn⟩ w wp wy)
    clear He
    generalize RC.better ⟨ps, pn⟩ ⟨ys, yn⟩ = q at *
    cases q
    all_goals
      go_enter Tryz.func66, Tryz.ntmps66
      go_wp2_with (first
        | (go_at_call 65; refine (Hp.out _).mono ?_; rintro e w' ⟨rfl, rfl⟩))
      generalize hw2 : w.alloc _ = w2
      have hB2 : Below w.heap.size w w2 := by rw [← hw2]; exact below1 w _
      have y0 : w2.cell? ⟨w.heap.size, 0, none⟩ = some (.float .f64 ys) := by rw [← hw2]; simp [go_sem]
      have y1 : w2.cell? ⟨w.heap.size, 1, none⟩ = some (.string yn) := by rw [← hw2]; simp [go_sem]
      replace p0 := (hB2.cell (p := ⟨b, off + (i - 1) * 2, none⟩) hb).trans p0
      replace p1 := (hB2.cell (p := ⟨b, off + (i - 1) * 2 + 1, none⟩) hb).trans p1
      have HB2 := Lib.hid hB2
      clear hw2 hB2 a0 a1
      go_quiet (fail)
      go_wp2_with fail
      rename_i nq _
      generalize hw3 : World.drewN w2 _ = w3 at *
      have HB3 := Lib.hid (show Below w.heap.size w w3 by rw [← hw3]; exact below_drewN HB2.out _)
      replace y0 : w3.cell? ⟨w.heap.size, 0, none⟩ = some (.float .f64 ys) := by rw [← hw3]; exact y0
      replace y1 : w3.cell? ⟨w.heap.size, 1, none⟩ = some (.string yn) := by rw [← hw3]; exact y1
      replace p0 : w3.cell? ⟨b, off + (i - 1) * 2, none⟩ = some (.float .f64 ps) := by rw [← hw3]; exact p0
      replace p1 : w3.cell? ⟨b, off + (i - 1) * 2 + 1, none⟩ = some (.string pn) := by rw [← hw3]; exact p1
      clear hw3 HB2
      go_region_held3 (fun w' => w'.cell? ⟨w.heap.size, 0, none⟩ = some (.float .f64 ys) ∧ w'.cell? ⟨w.heap.size, 1, none⟩ = some (.string yn) ∧ w'.cell? ⟨b, off + (i - 1) * 2, none⟩ = some (.float .f64 ps) ∧ w'.cell? ⟨b, off + (i - 1) * 2 + 1, none⟩ = some (.string pn))
        (first
          | go_keep
          | (go_split_ands; exact ⟨below_keep hb4 (by assumption), below_keep hb4 (by assumption), below_keep hb4 (by assumption), below_keep hb4 (by assumption)⟩))
        (first
          | (go_at_call 96; refine (HA.out _).mono ?_; rintro e w4 ⟨rfl, hb4⟩))
      go_wp2_with fail
      go_ret
    · exact EPost.mk (m := 4) (by rw [He2.out]; rfl) rfl (HB3.out.trans (((below_a w3).mono HB3.out.size).trans (hb4.mono HB3.out.size)))
    · exact EPost.mk (m := 0) (by rw [He2.out]; rfl) rfl (HB3.out.trans (((below_a w3).mono HB3.out.size).trans (hb4.mono HB3.out.size)))
end Go.Proofs.YtbkcmnmbcldjoaaGreatDoor
namespace RC
theorem clean_proper {r : Rc} (hr : r.ok) (hc : clean r = true) (hk : ¬ (5 ≤ r.kind ∧ r.kind ≤ 7)) : MF.proper r.real = true := by
  have h := ((clean_iff r).1 hc).real hk
  rw [zero_of_same hr.real h]; exact proper_zero
end RC
namespace Go.Proofs.YtbkcmnmbcldjoaaGreatDoor
open Go.RowKit MM
theorem ritem_any (k : Int) (A : Option Addr) (c : Nat) (l : List RC.It) (i : Nat) (w : World) (hI : Its w A l) (hl : WS64 l) (hi : i < l.length) (hn : Lim l.length) (hk : k = 8 ∨ k = 9) :
    Calls Tryz.prog 66 #[.int .i64 k, .slice A l.length c, .int .i64 i] w (EPost (RC.itemE k (RC.prev l i) l[i]) w) := by
  rcases hk with rfl | rfl
  · exact ritem_8 A c l i w hI hl hi hn
  · exact ritem_9 A c l i w hI hl hi hn
theorem lim_max {n : Nat} (h : Lim n) : n ≤ maxLen := by unfold Lim at h; unfold maxLen; omega
set_option maxHeartbeats 4000000 in
set_option maxRecDepth 100000 in
theorem rcheck_any (r : RC.Rc) (A : Option Addr) (c : Nat) (w : World) (hr : r.ok) (hA : Its w A r.list) (hn : Lim r.list.length) :
    Calls Tryz.prog 27 #[recV r A c] w (EPost (RC.chk r) w) := by
  cases hk : RC.known r.kind
  · have He := Lib.hid (RC.chk_kind hk)
    obtain ⟨k, n, l, h, x, cap, t, s⟩ := r
    have hk' : k < 1 ∨ 9 < k := by
      have h2 : RC.known k = false := hk
      unfold RC.known at h2; simp at h2; omega
    clear hk hA
    by_cases h1 : k < 1
    · clear hk'
      go_enter Tryz.func27, Tryz.ntmps27
      go_wp2_with fail
      go_ret
      exact EPost.mk He.out rfl (below1 w _)
    · have h2 : 9 < k := by omega
      clear hk'
      go_enter Tryz.func27, Tryz.ntmps27
      go_wp2_with fail
      go_ret
      exact EPost.mk He.out rfl (below1 w _)
  · have HF := Lib.hid (fun w => rfields_any r.kind w hk)
    have HO := Lib.hid (fun w => ronly_any r A c w hr.real (lim_max hn) hk)
    have HI := Lib.hid (fun k w (hA : Its w A r.list) i hi hk => ritem_any k A c r.list i w hA hr.list hi hn hk)
    have HP := Lib.hid (fun w => rproper_any r.real w)
    have HA := Lib.hid hA
    have hn' : (r.list.length : Int) ≤ 4294967296 := by unfold Lim at hn; omega
    have h9 : 1 ≤ r.kind ∧ r.kind ≤ 9 := by have := RC.kind9 hk; omega
    have HE := Lib.hid (show RC.chk r = if RC.clean r then RC.fieldE r else 4 by unfold RC.chk; rw [if_pos hk])
    have Hpr := Lib.hid (fun hc h => RC.clean_proper hr hc h)
    have Hk := Lib.hid hk
    clear hk hA
    generalize RC.clean r = cl at *
    obtain ⟨k, n, l, h, x, cap, t, s⟩ := r
    have h1 : 1 ≤ k := h9.1
    have h2 : k ≤ 9 := h9.2
    replace hn' : (s.length : Int) ≤ 4294967296 := hn'
    clear h9
    go_enter Tryz.func27, Tryz.ntmps27
    go_wp2_with fail
    generalize hw1 : w.alloc _ = w1
    have e0 : w1.heap[w.heap.size]? = some (.cells (recC k n l h x cap t (.slice A s.length c)) 25 (0, 0)) := by rw [← hw1]; exact heap_alloc_new _ _
    have HB1 := Lib.hid (show Below w.heap.size w w1 by rw [← hw1]; exact below1 w _)
    have f0 : w1.cell? ⟨w.heap.size, 0, none⟩ = some (.int .i64 k) := (cell_of_row w1 _ 0 _ _ (0, 0) e0).trans rfl
    have f1 : w1.cell? ⟨w.heap.size, 1, none⟩ = some (.int .i64 n) := (cell_of_row w1 _ 1 _ _ (0, 0) e0).trans rfl
    have f2 : w1.cell? ⟨w.heap.size, 2, none⟩ = some (.int .i64 l) := (cell_of_row w1 _ 2 _ _ (0, 0) e0).trans rfl
    have f3 : w1.cell? ⟨w.heap.size, 3, none⟩ = some (.int .i64 h) := (cell_of_row w1 _ 3 _ _ (0, 0) e0).trans rfl
    have f4 : w1.cell? ⟨w.heap.size, 4, none⟩ = some (.float .f64 x) := (cell_of_row w1 _ 4 _ _ (0, 0) e0).trans rfl
    have f5 : w1.cell? ⟨w.heap.size, 5, none⟩ = some (.int .i64 cap) := (cell_of_row w1 _ 5 _ _ (0, 0) e0).trans rfl
    have f6 : w1.cell? ⟨w.heap.size, 6, none⟩ = some (.string t) := (cell_of_row w1 _ 6 _ _ (0, 0) e0).trans rfl
    have f7 : w1.cell? ⟨w.heap.size, 7, none⟩ = some (.slice A s.length c) := (cell_of_row w1 _ 7 _ _ (0, 0) e0).trans rfl
    clear hw1 e0
    go_region_held3 (fun w' => w'.cell? ⟨w.heap.size, 0, none⟩ = some (.int .i64 k) ∧ w'.cell? ⟨w.heap.size, 1, none⟩ = some (.int .i64 n) ∧ w'.cell? ⟨w.heap.size, 2, none⟩ = some (.int .i64 l) ∧ w'.cell? ⟨w.heap.size, 3, none⟩ = some (.int .i64 h) ∧ w'.cell? ⟨w.heap.size, 4, none⟩ = some (.float .f64 x) ∧ w'.cell? ⟨w.heap.size, 5, none⟩ = some (.int .i64 cap) ∧ w'.cell? ⟨w.heap.size, 6, none⟩ = some (.string t) ∧ w'.cell? ⟨w.heap.size, 7, none⟩ = some (.slice A s.length c))
      (first
        | go_keep
        | (go_split_ands; exact ⟨below_keep hb3 (by assumption), below_keep hb3 (by assumption), below_keep hb3 (by assumption), below_keep hb3 (by assumption), below_keep hb3 (by assumption), below_keep hb3 (by assumption), below_keep hb3 (by assumption), below_keep hb3 (by assumption)⟩)
        | (go_split_ands; exact ⟨below_keep hb2 (by assumption), below_keep hb2 (by assumption), below_keep hb2 (by assumption), below_keep hb2 (by assumption), below_keep hb2 (by assumption), below_keep hb2 (by assumption), below_keep hb2 (by assumption), below_keep hb2 (by assumption)⟩))
      (first
        | (go_at_call 64; refine (HF.out _).mono ?_; rintro e w2 ⟨rfl, hb2⟩)
        | (go_at_call 63; refine (HO.out _).mono ?_; rintro e w3 ⟨rfl, hb3⟩))
    rename_i hH
    obtain ⟨f0, f1, f2, f3, f4, f5, f6, f7⟩ := hH
    have HB2 := Lib.hid (show Below w.heap.size w w3 from HB1.out.trans (((below_a w1).mono HB1.out.size).trans ((hb2.mono HB1.out.size).trans (hb3.mono (Nat.le_trans HB1.out.size hb2.size)))))
    clear hb2 hb3 HB1
    cases cl
    · go_wp2_with fail
      go_ret
      exact EPost.mk (m := 4) (by rw [HE.out]; rfl) rfl HB2.out
    · have He := Lib.hid (show RC.chk ⟨k, n, l, h, x, cap, t, s⟩ = RC.fieldE ⟨k, n, l, h, x, cap, t, s⟩ by rw [HE.out]; rfl)
      have hk : k = 1 ∨ k = 2 ∨ k = 3 ∨ k = 4 ∨ k = 5 ∨ k = 6 ∨ k = 7 ∨ k = 8 ∨ k = 9 := by omega
      replace Hpr := Lib.hid (fun h => Hpr.out (by trivial) h)
      clear HE h1 h2
      rcases hk with rfl | rfl | rfl | rfl | rfl | rfl | rfl | rfl | rfl
      · have hp : MF.proper x = true := Hpr.out (by simp)
        have HP1 := Lib.hid (fun w => (hp ▸ HP.out w : Calls Tryz.prog 65 #[.float .f64 x] w fun e w' => e = .returned (.bool true) ∧ w = w'))
        clear hp HP Hpr
        by_cases h64 : 64 < t.size
        · go_wp2_with fail
          go_ret
          exact EPost.mk (He.out.trans (show (if 64 < t.size then 3 else 0) = 3 from if_pos h64)) rfl HB2.out
        · go_wp2_with (first | (go_at_call 65; refine (HP1.out _).mono ?_; rintro e w' ⟨rfl, rfl⟩))
          go_ret
          exact EPost.mk (He.out.trans (show (if 64 < t.size then 3 else 0) = 0 from if_neg h64)) rfl HB2.out
      iterate 2
        · have hp : MF.proper x = true := Hpr.out (by simp)
          have HP1 := Lib.hid (fun w => (hp ▸ HP.out w : Calls Tryz.prog 65 #[.float .f64 x] w fun e w' => e = .returned (.bool true) ∧ w = w'))
          clear hp HP Hpr
          go_wp2_with (first | (go_at_call 65; refine (HP1.out _).mono ?_; rintro e w' ⟨rfl, rfl⟩))
          go_ret
          exact EPost.mk He.out rfl HB2.out
      · have hp : MF.proper x = true := Hpr.out (by simp)
        have HP1 := Lib.hid (fun w => (hp ▸ HP.out w : Calls Tryz.prog 65 #[.float .f64 x] w fun e w' => e = .returned (.bool true) ∧ w = w'))
        clear hp HP Hpr
        have He4 := Lib.hid (He.out.trans (show RC.fieldE ⟨4, n, l, h, x, cap, t, s⟩ = if decide (-2305843009213693952 ≤ l ∧ l ≤ n ∧ n ≤ h ∧ h ≤ 2305843009213693952) then 0 else 1 from rfl))
        clear He
        go_wp2_with (first | (go_at_call 65; refine (HP1.out _).mono ?_; rintro e w' ⟨rfl, rfl⟩))
        all_goals
          go_ret
          first
            | exact EPost.mk (m := 0) (by rw [He4.out, if_pos (decide_eq_true (by omega))]) rfl HB2.out
            | exact EPost.mk (m := 1) (by rw [He4.out, if_neg (by rw [decide_eq_true_eq]; omega)]) rfl HB2.out
      iterate 3
        · have He5 := Lib.hid (show RC.chk _ = (if MF.proper x then 0 else 4) from He.out)
          clear He Hpr
          generalize hpx : MF.proper x = px at *
          have HP1 := Lib.hid (fun w => (hpx ▸ HP.out w : Calls Tryz.prog 65 #[.float .f64 x] w fun e w' => e = .returned (.bool px) ∧ w = w'))
          clear hpx HP
          cases px
          all_goals
            go_wp2_with (first | (go_at_call 65; refine (HP1.out _).mono ?_; rintro e w' ⟨rfl, rfl⟩))
            go_ret
            exact EPost.mk He5.out rfl HB2.out
      · have hp : MF.proper x = true := Hpr.out (by simp)
        have HP1 := Lib.hid (fun w => (hp ▸ HP.out w : Calls Tryz.prog 65 #[.float .f64 x] w fun e w' => e = .returned (.bool true) ∧ w = w'))
        have He8 := Lib.hid (He.out.trans (show RC.fieldE ⟨8, n, l, h, x, cap, t, s⟩ = if cap < 1 ∨ 32 < cap then 1 else if cap < s.length then 8 else RC.itemsE 8 none s from rfl))
        clear hp HP Hpr He
        by_cases h1 : cap < 1
        · go_wp2_with (first | (go_at_call 65; refine (HP1.out _).mono ?_; rintro e w' ⟨rfl, rfl⟩))
          go_ret
          exact EPost.mk (m := 1) (by rw [He8.out, if_pos (.inl h1)]) rfl HB2.out
        by_cases h2 : 32 < cap
        · go_wp2_with (first | (go_at_call 65; refine (HP1.out _).mono ?_; rintro e w' ⟨rfl, rfl⟩))
          go_ret
          exact EPost.mk (m := 1) (by rw [He8.out, if_pos (.inr h2)]) rfl HB2.out
        have He9 := Lib.hid (He8.out.trans (if_neg (show ¬ (cap < 1 ∨ 32 < cap) by omega)))
        clear He8
        by_cases h3 : cap < s.length
        · go_wp2_with (first | (go_at_call 65; refine (HP1.out _).mono ?_; rintro e w' ⟨rfl, rfl⟩))
          go_ret
          exact EPost.mk (m := 8) (by rw [He9.out, if_pos h3]) rfl HB2.out
        have He10 := Lib.hid (He9.out.trans (if_neg h3))
        clear He9
        go_wp2_with (first | (go_at_call 65; refine (HP1.out _).mono ?_; rintro e w' ⟨rfl, rfl⟩))
        have HB3 := Lib.hid HB2.out
        clear HB2 HF HO HP1
        go_loopw [4] (fun t4 wr => ∃ i : Nat, t4 = .int .i64 i ∧ i ≤ s.length ∧ RC.itemsE 8 none s = RC.itemsE 8 (RC.prev s i) (s.drop i) ∧ Below w3.heap.size w3 wr) (fun t4 _ => s.length - (intOf t4).toNat)
        case atStart => exact ⟨0, rfl, Nat.zero_le _, rfl, Below.refl _ _⟩
        case round =>
          obtain ⟨i, rfl, hi, hs, hbr⟩ := hrel
          have g0 := below_keep hbr f0
          have g7 := below_keep hbr f7
          have HBr := Lib.hid (HB3.out.trans (hbr.mono HB3.out.size))
          by_cases hlt : i < s.length
          · have hst := RC.itemsE_step 8 s i hlt
            have hsp := RC.itemsE_stop 8 s i hlt
            have HX := Lib.hid (fun w hA => HI.out 8 w hA i hlt (by omega))
            have hi1 : (i : Int) < (s.length : Int) := by omega
            have Hs := Lib.hid hs
            have Hst := Lib.hid hst
            have Hsp := Lib.hid hsp
            have Hbr := Lib.hid hbr
            clear hs hst hsp hbr
            go_wp2_with fail
            refine (HX.out _ (HA.out.below HBr.out)).mono ?_
            rintro e w4 ⟨rfl, hb4⟩
            rcases Nat.eq_zero_or_pos (RC.itemE 8 (RC.prev s i) s[i]) with he | he
            · rw [he]
              have Hn := Lib.hid (Hs.out.trans (Hst.out he))
              have HB4 := Lib.hid (Hbr.out.trans (hb4.mono Hbr.out.size))
              clear he hb4
              go_wp2_with fail
              go_roundw
              case rel => exact ⟨i + 1, by go_num, by omega, Hn.out, HB4.out⟩
              case measure => simp [intOf]; omega
            · have Hn := Lib.hid (Hs.out.trans (Hsp.out (Nat.ne_of_gt he)))
              generalize RC.itemE 8 (RC.prev s i) s[i] = E at *
              have hE : ((E : Int) != 0) = true := by simp; omega
              go_wp2_with fail
              go_ret
              exact EPost.mk (m := E) (by rw [He10.out, Hn.out]) rfl (HBr.out.trans (hb4.mono HBr.out.size))
          · go_wp2_with fail
            go_ret
            exact EPost.mk (m := 0) (by rw [He10.out, hs, List.drop_eq_nil_of_le (by omega)]; rfl) rfl HBr.out
      · have hp : MF.proper x = true := Hpr.out (by simp)
        have HP1 := Lib.hid (fun w => (hp ▸ HP.out w : Calls Tryz.prog 65 #[.float .f64 x] w fun e w' => e = .returned (.bool true) ∧ w = w'))
        have He8 := Lib.hid (He.out.trans (show RC.fieldE ⟨9, n, l, h, x, cap, t, s⟩ = if cap < 1 ∨ 32 < cap then 1 else if cap < s.length then 8 else RC.itemsE 9 none s from rfl))
        clear hp HP Hpr He
        by_cases h1 : cap < 1
        · go_wp2_with (first | (go_at_call 65; refine (HP1.out _).mono ?_; rintro e w' ⟨rfl, rfl⟩))
          go_ret
          exact EPost.mk (m := 1) (by rw [He8.out, if_pos (.inl h1)]) rfl HB2.out
        by_cases h2 : 32 < cap
        · go_wp2_with (first | (go_at_call 65; refine (HP1.out _).mono ?_; rintro e w' ⟨rfl, rfl⟩))
          go_ret
          exact EPost.mk (m := 1) (by rw [He8.out, if_pos (.inr h2)]) rfl HB2.out
        have He9 := Lib.hid (He8.out.trans (if_neg (show ¬ (cap < 1 ∨ 32 < cap) by omega)))
        clear He8
        by_cases h3 : cap < s.length
        · go_wp2_with (first | (go_at_call 65; refine (HP1.out _).mono ?_; rintro e w' ⟨rfl, rfl⟩))
          go_ret
          exact EPost.mk (m := 8) (by rw [He9.out, if_pos h3]) rfl HB2.out
        have He10 := Lib.hid (He9.out.trans (if_neg h3))
        clear He9
        go_wp2_with (first | (go_at_call 65; refine (HP1.out _).mono ?_; rintro e w' ⟨rfl, rfl⟩))
        have HB3 := Lib.hid HB2.out
        clear HB2 HF HO HP1
        go_loopw [4] (fun t4 wr => ∃ i : Nat, t4 = .int .i64 i ∧ i ≤ s.length ∧ RC.itemsE 9 none s = RC.itemsE 9 (RC.prev s i) (s.drop i) ∧ Below w3.heap.size w3 wr) (fun t4 _ => s.length - (intOf t4).toNat)
        case atStart => exact ⟨0, rfl, Nat.zero_le _, rfl, Below.refl _ _⟩
        case round =>
          obtain ⟨i, rfl, hi, hs, hbr⟩ := hrel
          have g0 := below_keep hbr f0
          have g7 := below_keep hbr f7
          have HBr := Lib.hid (HB3.out.trans (hbr.mono HB3.out.size))
          by_cases hlt : i < s.length
          · have hst := RC.itemsE_step 9 s i hlt
            have hsp := RC.itemsE_stop 9 s i hlt
            have HX := Lib.hid (fun w hA => HI.out 9 w hA i hlt (by omega))
            have hi1 : (i : Int) < (s.length : Int) := by omega
            have Hs := Lib.hid hs
            have Hst := Lib.hid hst
            have Hsp := Lib.hid hsp
            have Hbr := Lib.hid hbr
            clear hs hst hsp hbr
            go_wp2_with fail
            refine (HX.out _ (HA.out.below HBr.out)).mono ?_
            rintro e w4 ⟨rfl, hb4⟩
            rcases Nat.eq_zero_or_pos (RC.itemE 9 (RC.prev s i) s[i]) with he | he
            · rw [he]
              have Hn := Lib.hid (Hs.out.trans (Hst.out he))
              have HB4 := Lib.hid (Hbr.out.trans (hb4.mono Hbr.out.size))
              clear he hb4
              go_wp2_with fail
              go_roundw
              case rel => exact ⟨i + 1, by go_num, by omega, Hn.out, HB4.out⟩
              case measure => simp [intOf]; omega
            · have Hn := Lib.hid (Hs.out.trans (Hsp.out (Nat.ne_of_gt he)))
              generalize RC.itemE 9 (RC.prev s i) s[i] = E at *
              have hE : ((E : Int) != 0) = true := by simp; omega
              go_wp2_with fail
              go_ret
              exact EPost.mk (m := E) (by rw [He10.out, Hn.out]) rfl (HBr.out.trans (hb4.mono HBr.out.size))
          · go_wp2_with fail
            go_ret
            exact EPost.mk (m := 0) (by rw [He10.out, hs, List.drop_eq_nil_of_le (by omega)]; rfl) rfl HBr.out
end Go.Proofs.YtbkcmnmbcldjoaaGreatDoor
namespace RC
/-- More than is looked at. -/
def big (r : Rc) : Bool := decide (100 < r.list.length) || (decide (1000 < r.text.size) || r.list.any fun x => decide (100 < x.name.size))
theorem any_step {l : List It} {i : Nat} (hi : i < l.length) (h : l.any (fun x => decide (100 < x.name.size)) = (l.drop i).any fun x => decide (100 < x.name.size)) (hx : ¬ 100 < l[i].name.size) :
    l.any (fun x => decide (100 < x.name.size)) = (l.drop (i + 1)).any fun x => decide (100 < x.name.size) := by
  rw [h, List.drop_eq_getElem_cons hi, List.any_cons, decide_eq_false hx, Bool.false_or]
theorem any_stop {l : List It} {i : Nat} (hi : i < l.length) (hx : 100 < l[i].name.size) : l.any (fun x => decide (100 < x.name.size)) = true :=
  List.any_eq_true.2 ⟨l[i], List.getElem_mem hi, decide_eq_true hx⟩
end RC
namespace Go.Proofs.YtbkcmnmbcldjoaaGreatDoor
open Go.RowKit MM
/-- What Big answers. -/
def GPost (b : Bool) (w : World) (e : Ending) (w' : World) : Prop := e = .returned (.int .i64 (if b then 1 else 0)) ∧ Below w.heap.size w w'
theorem GPost.yes {b : Bool} {w w' : World} (h : b = true) (hb : Below w.heap.size w w') : GPost b w (.returned (.int .i64 1)) w' := by subst h; exact ⟨rfl, hb⟩
theorem GPost.no {b : Bool} {w w' : World} (h : b = false) (hb : Below w.heap.size w w') : GPost b w (.returned (.int .i64 0)) w' := by subst h; exact ⟨rfl, hb⟩
set_option maxHeartbeats 1000000 in
set_option maxRecDepth 100000 in
theorem big3_any (r : RC.Rc) (A : Option Addr) (c : Nat) (w : World) (hA : Its w A r.list) (hn : r.list.length ≤ maxLen) :
    Calls Tryz.prog 33 #[recV r A c] w (GPost (RC.big r) w) := by
  have HA := Lib.hid hA
  have Hb := Lib.hid (show RC.big r = (decide (100 < r.list.length) || (decide (1000 < r.text.size) || r.list.any fun x => decide (100 < x.name.size))) from rfl)
  obtain ⟨k, n, l, h, x, cap, t, s⟩ := r
  replace hn : s.length ≤ maxLen := hn
  unfold maxLen at hn
  clear hA
  by_cases h1 : 100 < s.length
  · go_enter Tryz.func33, Tryz.ntmps33
    go_wp2_with fail
    go_ret
    exact GPost.yes (by rw [Hb.out, decide_eq_true h1]; rfl) (below1 w _)
  by_cases h2 : 1000 < t.size
  · go_enter Tryz.func33, Tryz.ntmps33
    go_wp2_with fail
    go_ret
    exact GPost.yes (by rw [Hb.out, decide_eq_true h2]; simp) (below1 w _)
  have Hc := Lib.hid (show RC.big ⟨k, n, l, h, x, cap, t, s⟩ = s.any fun x => decide (100 < x.name.size) by rw [Hb.out, decide_eq_false h1, decide_eq_false h2]; rfl)
  clear Hb
  go_enter Tryz.func33, Tryz.ntmps33
  go_wp2_with fail
  go_loopw [18] (fun t18 wr => ∃ i : Nat, t18 = .int .i64 i ∧ i ≤ s.length ∧ (s.any fun x => decide (100 < x.name.size)) = ((s.drop i).any fun x => decide (100 < x.name.size)) ∧ Below w.heap.size w wr) (fun t18 _ => s.length - (intOf t18).toNat)
  case atStart => exact ⟨0, rfl, Nat.zero_le _, rfl, below1 w _⟩
  case round =>
    obtain ⟨i, rfl, hi, hs, hbr⟩ := hrel
    by_cases hlt : i < s.length
    · rcases HA.out.below hbr with hA | ⟨b, off, rfl, hb, hc⟩
      · have hA : s = [] := hA
        subst hA; simp at hlt
      replace hc : ∀ (i : Nat) (x : RC.It), s[i]? = some x → wr.cell? ⟨b, off + i * 2, none⟩ = some (.float .f64 x.score) ∧ wr.cell? ⟨b, off + i * 2 + 1, none⟩ = some (.string x.name) := hc
      obtain ⟨a0, a1⟩ := hc i s[i] (List.getElem?_eq_getElem hlt)
      have Hst := Lib.hid (fun h => RC.any_step hlt hs h)
      have Hsp := Lib.hid (fun h => RC.any_stop hlt h)
      generalize s[i] = y at *
      obtain ⟨ys, yn⟩ := y
      replace a0 : wr.cell? ⟨b, off + i * 2, none⟩ = some (.float .f64 ys) := a0
      replace a1 : wr.cell? ⟨b, off + i * 2 + 1, none⟩ = some (.string yn) := a1
      have hi1 : (i : Int) < (s.length : Int) := by omega
      have Hbr := Lib.hid hbr
      clear hs hbr hc
      by_cases h3 : 100 < yn.size
      · have He := Lib.hid (Hsp.out h3)
        go_wp2_with fail
        go_ret
        exact GPost.yes (by rw [Hc.out, He.out]) (Hbr.out.alloc Hbr.out.size _)
      · have He := Lib.hid (Hst.out h3)
        go_wp2_with fail
        go_roundw
        case rel => exact ⟨i + 1, by go_num, by omega, He.out, Hbr.out.alloc Hbr.out.size _⟩
        case measure => simp [intOf]; omega
    · have He := Lib.hid (show (s.any fun x => decide (100 < x.name.size)) = false by rw [hs, List.drop_eq_nil_of_le (by omega)]; rfl)
      have Hbr := Lib.hid hbr
      have hi' : i = s.length := by omega
      subst hi'
      clear hs hbr
      go_wp2_with fail
      go_ret
      exact GPost.no (by rw [Hc.out, He.out]) Hbr.out
theorem big_not {r : RC.Rc} (h : RC.big r = false) : r.list.length ≤ 100 ∧ r.text.size ≤ 1000 ∧ ∀ x ∈ r.list, x.name.size ≤ 100 := by
  unfold RC.big at h
  simp only [Bool.or_eq_false_iff, decide_eq_false_iff_not, List.any_eq_false, decide_eq_true_eq] at h
  exact ⟨by omega, by omega, fun x hx => by have := h.2.2 x hx; omega⟩
end Go.Proofs.YtbkcmnmbcldjoaaGreatDoor
