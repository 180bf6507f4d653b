/- Contracts of the document's own answers for layer 3: has a record no other fields than those? -/
import Derived.Test.YtaaeefndhmfceaaDoorRef3b
namespace Go.Proofs.YtaaeefndhmfceaaDoor
open Go.RowKit MM

def OPost (v : Bool) (w : World) (e : Ending) (w' : World) : Prop := e = .returned (.bool v) ∧ Below w.heap.size w w'
theorem OPost.mk {v b : Bool} {w w' : World} (h : v = b) (hb : Below w.heap.size w w') : OPost v w (.returned (.bool b)) w' := by subst h; exact ⟨rfl, hb⟩

set_option maxHeartbeats 2000000 in
set_option maxRecDepth 100000 in
theorem ronly_t (r : RC.Rc) (A : Option Addr) (c : Nat) (w : World) (hr : MF.W64 r.real) (hn : r.list.length ≤ maxLen) :
    Calls Tryd.prog 33 #[recV r A c, .string ⟨#[116]⟩] w (OPost (RC.onlyB true false false false false r) w) := by
  obtain ⟨k, n, l, h, x, cap, t, s⟩ := r
  replace hr : MF.W64 x := hr
  replace hn : s.length ≤ maxLen := hn
  unfold maxLen at hn
  generalize hv : RC.onlyB true false false false false ⟨k, n, l, h, x, cap, t, s⟩ = v
  have Hv := Lib.hid hv
  clear hv
  have Hx := Lib.hid (fun w => rzero_any x w hr)
  generalize hz : MF.same x 0 = z at Hx
  have Hz := Lib.hid hz
  clear hz hr
  go_enter Tryd.func33, Tryd.ntmps33
  go_wp2_with fail
  go_loop [5, 6, 7, 8, 9, 10] (fun t5 t6 t7 t8 t9 t10 => (t5 = .bool false ∧ t6 = .bool false ∧ t7 = .bool false ∧ t8 = .bool false ∧ t9 = .bool false ∧ t10 = .int .i64 0) ∨ (t5 = .bool true ∧ t6 = .bool false ∧ t7 = .bool false ∧ t8 = .bool false ∧ t9 = .bool false ∧ t10 = .int .i64 1)) (fun _ _ _ _ _ t10 => 1 - (intOf t10).toNat)
  case atStart => exact Or.inl (⟨rfl, rfl, rfl, rfl, rfl, rfl⟩)
  case round =>
    rcases hrel with ⟨rfl, rfl, rfl, rfl, rfl, rfl⟩ | ⟨rfl, rfl, rfl, rfl, rfl, rfl⟩
    · go_wp2_with fail
      go_round
      case rel => exact Or.inr (⟨rfl, rfl, rfl, rfl, rfl, by go_num⟩)
      case measure => simp [intOf]
    · cases z
      all_goals
        go_wp2_with (first
          | (go_at_call 65; refine (Hx.out _).mono ?_; rintro e w' ⟨rfl, rfl⟩))
        all_goals
          go_ret
          exact OPost.mk (by have hz := Hz.out; rw [← Hv.out]; unfold RC.onlyB; simp_all) (below1 w _)

set_option maxHeartbeats 2000000 in
set_option maxRecDepth 100000 in
theorem ronly_n (r : RC.Rc) (A : Option Addr) (c : Nat) (w : World) (hr : MF.W64 r.real) (hn : r.list.length ≤ maxLen) :
    Calls Tryd.prog 33 #[recV r A c, .string ⟨#[110]⟩] w (OPost (RC.onlyB false true false false false r) w) := by
  obtain ⟨k, n, l, h, x, cap, t, s⟩ := r
  replace hr : MF.W64 x := hr
  replace hn : s.length ≤ maxLen := hn
  unfold maxLen at hn
  generalize hv : RC.onlyB false true false false false ⟨k, n, l, h, x, cap, t, s⟩ = v
  have Hv := Lib.hid hv
  clear hv
  have Hx := Lib.hid (fun w => rzero_any x w hr)
  generalize hz : MF.same x 0 = z at Hx
  have Hz := Lib.hid hz
  clear hz hr
  go_enter Tryd.func33, Tryd.ntmps33
  go_wp2_with fail
  go_loop [5, 6, 7, 8, 9, 10] (fun t5 t6 t7 t8 t9 t10 => (t5 = .bool false ∧ t6 = .bool false ∧ t7 = .bool false ∧ t8 = .bool false ∧ t9 = .bool false ∧ t10 = .int .i64 0) ∨ (t5 = .bool false ∧ t6 = .bool true ∧ t7 = .bool false ∧ t8 = .bool false ∧ t9 = .bool false ∧ t10 = .int .i64 1)) (fun _ _ _ _ _ t10 => 1 - (intOf t10).toNat)
  case atStart => exact Or.inl (⟨rfl, rfl, rfl, rfl, rfl, rfl⟩)
  case round =>
    rcases hrel with ⟨rfl, rfl, rfl, rfl, rfl, rfl⟩ | ⟨rfl, rfl, rfl, rfl, rfl, rfl⟩
    · go_wp2_with fail
      go_round
      case rel => exact Or.inr (⟨rfl, rfl, rfl, rfl, rfl, by go_num⟩)
      case measure => simp [intOf]
    · cases z
      all_goals
        go_wp2_with (first
          | (go_at_call 65; refine (Hx.out _).mono ?_; rintro e w' ⟨rfl, rfl⟩))
        all_goals
          go_ret
          exact OPost.mk (by have hz := Hz.out; rw [← Hv.out]; unfold RC.onlyB; simp_all) (below1 w _)

set_option maxHeartbeats 2000000 in
set_option maxRecDepth 100000 in
theorem ronly_nb (r : RC.Rc) (A : Option Addr) (c : Nat) (w : World) (hr : MF.W64 r.real) (hn : r.list.length ≤ maxLen) :
    Calls Tryd.prog 33 #[recV r A c, .string ⟨#[110, 98]⟩] w (OPost (RC.onlyB false true true false false r) w) := by
  obtain ⟨k, n, l, h, x, cap, t, s⟩ := r
  replace hr : MF.W64 x := hr
  replace hn : s.length ≤ maxLen := hn
  unfold maxLen at hn
  generalize hv : RC.onlyB false true true false false ⟨k, n, l, h, x, cap, t, s⟩ = v
  have Hv := Lib.hid hv
  clear hv
  have Hx := Lib.hid (fun w => rzero_any x w hr)
  generalize hz : MF.same x 0 = z at Hx
  have Hz := Lib.hid hz
  clear hz hr
  go_enter Tryd.func33, Tryd.ntmps33
  go_wp2_with fail
  go_loop [5, 6, 7, 8, 9, 10] (fun t5 t6 t7 t8 t9 t10 => (t5 = .bool false ∧ t6 = .bool false ∧ t7 = .bool false ∧ t8 = .bool false ∧ t9 = .bool false ∧ t10 = .int .i64 0) ∨ (t5 = .bool false ∧ t6 = .bool true ∧ t7 = .bool false ∧ t8 = .bool false ∧ t9 = .bool false ∧ t10 = .int .i64 1) ∨ (t5 = .bool false ∧ t6 = .bool true ∧ t7 = .bool true ∧ t8 = .bool false ∧ t9 = .bool false ∧ t10 = .int .i64 2)) (fun _ _ _ _ _ t10 => 2 - (intOf t10).toNat)
  case atStart => exact Or.inl (⟨rfl, rfl, rfl, rfl, rfl, rfl⟩)
  case round =>
    rcases hrel with ⟨rfl, rfl, rfl, rfl, rfl, rfl⟩ | ⟨rfl, rfl, rfl, rfl, rfl, rfl⟩ | ⟨rfl, rfl, rfl, rfl, rfl, rfl⟩
    · go_wp2_with fail
      go_round
      case rel => exact Or.inr (Or.inl (⟨rfl, rfl, rfl, rfl, rfl, by go_num⟩))
      case measure => simp [intOf]
    · go_wp2_with fail
      go_round
      case rel => exact Or.inr (Or.inr (⟨rfl, rfl, rfl, rfl, rfl, by go_num⟩))
      case measure => simp [intOf]
    · cases z
      all_goals
        go_wp2_with (first
          | (go_at_call 65; refine (Hx.out _).mono ?_; rintro e w' ⟨rfl, rfl⟩))
        all_goals
          go_ret
          exact OPost.mk (by have hz := Hz.out; rw [← Hv.out]; unfold RC.onlyB; simp_all) (below1 w _)

set_option maxHeartbeats 2000000 in
set_option maxRecDepth 100000 in
theorem ronly_r (r : RC.Rc) (A : Option Addr) (c : Nat) (w : World) (hr : MF.W64 r.real) (hn : r.list.length ≤ maxLen) :
    Calls Tryd.prog 33 #[recV r A c, .string ⟨#[114]⟩] w (OPost (RC.onlyB false false false true false r) w) := by
  obtain ⟨k, n, l, h, x, cap, t, s⟩ := r
  replace hr : MF.W64 x := hr
  replace hn : s.length ≤ maxLen := hn
  unfold maxLen at hn
  generalize hv : RC.onlyB false false false true false ⟨k, n, l, h, x, cap, t, s⟩ = v
  have Hv := Lib.hid hv
  clear hv
  have Hx := Lib.hid (fun w => rzero_any x w hr)
  generalize hz : MF.same x 0 = z at Hx
  have Hz := Lib.hid hz
  clear hz hr
  go_enter Tryd.func33, Tryd.ntmps33
  go_wp2_with fail
  go_loop [5, 6, 7, 8, 9, 10] (fun t5 t6 t7 t8 t9 t10 => (t5 = .bool false ∧ t6 = .bool false ∧ t7 = .bool false ∧ t8 = .bool false ∧ t9 = .bool false ∧ t10 = .int .i64 0) ∨ (t5 = .bool false ∧ t6 = .bool false ∧ t7 = .bool false ∧ t8 = .bool true ∧ t9 = .bool false ∧ t10 = .int .i64 1)) (fun _ _ _ _ _ t10 => 1 - (intOf t10).toNat)
  case atStart => exact Or.inl (⟨rfl, rfl, rfl, rfl, rfl, rfl⟩)
  case round =>
    rcases hrel with ⟨rfl, rfl, rfl, rfl, rfl, rfl⟩ | ⟨rfl, rfl, rfl, rfl, rfl, rfl⟩
    · go_wp2_with fail
      go_round
      case rel => exact Or.inr (⟨rfl, rfl, rfl, rfl, rfl, by go_num⟩)
      case measure => simp [intOf]
    · cases z
      all_goals
        go_wp2_with (first
          | (go_at_call 65; refine (Hx.out _).mono ?_; rintro e w' ⟨rfl, rfl⟩))
        all_goals
          go_ret
          exact OPost.mk (by have hz := Hz.out; rw [← Hv.out]; unfold RC.onlyB; simp_all) (below1 w _)

set_option maxHeartbeats 2000000 in
set_option maxRecDepth 100000 in
theorem ronly_l (r : RC.Rc) (A : Option Addr) (c : Nat) (w : World) (hr : MF.W64 r.real) (hn : r.list.length ≤ maxLen) :
    Calls Tryd.prog 33 #[recV r A c, .string ⟨#[108]⟩] w (OPost (RC.onlyB false false false false true r) w) := by
  obtain ⟨k, n, l, h, x, cap, t, s⟩ := r
  replace hr : MF.W64 x := hr
  replace hn : s.length ≤ maxLen := hn
  unfold maxLen at hn
  generalize hv : RC.onlyB false false false false true ⟨k, n, l, h, x, cap, t, s⟩ = v
  have Hv := Lib.hid hv
  clear hv
  have Hx := Lib.hid (fun w => rzero_any x w hr)
  generalize hz : MF.same x 0 = z at Hx
  have Hz := Lib.hid hz
  clear hz hr
  go_enter Tryd.func33, Tryd.ntmps33
  go_wp2_with fail
  go_loop [5, 6, 7, 8, 9, 10] (fun t5 t6 t7 t8 t9 t10 => (t5 = .bool false ∧ t6 = .bool false ∧ t7 = .bool false ∧ t8 = .bool false ∧ t9 = .bool false ∧ t10 = .int .i64 0) ∨ (t5 = .bool false ∧ t6 = .bool false ∧ t7 = .bool false ∧ t8 = .bool false ∧ t9 = .bool true ∧ t10 = .int .i64 1)) (fun _ _ _ _ _ t10 => 1 - (intOf t10).toNat)
  case atStart => exact Or.inl (⟨rfl, rfl, rfl, rfl, rfl, rfl⟩)
  case round =>
    rcases hrel with ⟨rfl, rfl, rfl, rfl, rfl, rfl⟩ | ⟨rfl, rfl, rfl, rfl, rfl, rfl⟩
    · go_wp2_with fail
      go_round
      case rel => exact Or.inr (⟨rfl, rfl, rfl, rfl, rfl, by go_num⟩)
      case measure => simp [intOf]
    · cases z
      all_goals
        go_wp2_with (first
          | (go_at_call 65; refine (Hx.out _).mono ?_; rintro e w' ⟨rfl, rfl⟩))
        all_goals
          go_ret
          exact OPost.mk (by have hz := Hz.out; rw [← Hv.out]; unfold RC.onlyB; simp_all) (below1 w _)

end Go.Proofs.YtaaeefndhmfceaaDoor
