/- Contracts of package share: Clone, and Left of what was cloned. -/
import Derived.Test.YtbkcmnmbcldjoaaGreatDoorShXP7d
import Derived.Test.YtbkcmnmbcldjoaaGreatDoorPlMP7d
import Derived.BigQuiet
import Derived.Deep.QuietTactic
import Derived.Test.YtbkcmnmbcldjoaaGreatDoorRefMP7d
namespace Go.Proofs.YtbkcmnmbcldjoaaGreatDoor
open Go.RowKit MM
set_option linter.unusedVariables false
set_option linter.unusedSimpArgs false
set_option maxHeartbeats 4000000 in
theorem shasL_any (g gl n cc : Nat) (k kind : Int) (V : Value) (w : World) (hR : w.heap[g]? = some (.cells #[.int .i64 kind, V, .slice (some ⟨gl, 0, none⟩) n cc] 107 (0, 0))) :
    Calls Tryz.prog 60 #[.pointer (some ⟨g, 0, none⟩), .int .i64 k] w fun e w' => e = .returned (.bool (decide (0 ≤ k ∧ k < (n : Int)))) ∧ w = w' := by
  have c2 : w.cell? ⟨g, 2, none⟩ = some (.slice (some ⟨gl, 0, none⟩) n cc) := cell_of_row w _ 2 _ _ (0, 0) hR
  clear hR
  go_enter Tryz.func60, Tryz.ntmps60
  by_cases h0 : 0 ≤ k
  · by_cases h1 : k < (n : Int)
    · have HV := Lib.hid (show decide (0 ≤ k ∧ k < (n : Int)) = true from decide_eq_true ⟨h0, h1⟩)
      rw [HV.out]
      go_wp2_with fail
      go_ret
      exact ⟨rfl, rfl⟩
    · have HV := Lib.hid (show decide (0 ≤ k ∧ k < (n : Int)) = false from decide_eq_false (fun h => h1 h.2))
      rw [HV.out]
      go_wp2_with fail
      go_ret
      exact ⟨rfl, rfl⟩
  · have HV := Lib.hid (show decide (0 ≤ k ∧ k < (n : Int)) = false from decide_eq_false (fun h => h0 h.1))
    rw [HV.out]
    go_wp2_with fail
    go_ret
    exact ⟨rfl, rfl⟩
set_option maxHeartbeats 8000000 in
set_option maxRecDepth 100000 in
theorem sleftL_any (g gl cc : Nat) (k kind : Int) (V : Value) (l : List Rm) (cs : Array Value) (w : World) (hR : w.heap[g]? = some (.cells #[.int .i64 kind, V, .slice (some ⟨gl, 0, none⟩) l.length cc] 107 (0, 0))) (hl : w.heap[gl]? = some (.cells cs 104 (0, 0))) (hc : ∀ (k : Nat) (x : Rm), l[k]? = some x → cs[k * 2]? = some (.int .u64 x.up) ∧ cs[k * 2 + 1]? = some (.int .u64 x.down)) :
    Calls Tryz.prog 24 #[.pointer (some ⟨g, 0, none⟩), .int .i64 k] w fun e w' => e = .returned (.tuple #[.int .u64 (SH.left l k).up, .int .u64 (SH.left l k).down]) ∧ Below w.heap.size w w' := by
  have HH := Lib.hid (shasL_any g gl l.length cc k kind V w hR)
  have HV := Lib.hid (show SH.left l k = if 0 ≤ k ∧ k < (l.length : Int) then (l[k.toNat]?).getD ⟨0, 0⟩ else ⟨0, 0⟩ from rfl)
  generalize SH.left l k = v at *
  go_enter Tryz.func24, Tryz.ntmps24
  go_wp2_with fail
  refine HH.out.mono ?_
  rintro e w1 ⟨rfl, rfl⟩
  by_cases hk : 0 ≤ k ∧ k < (l.length : Int)
  case neg =>
    have HW := Lib.hid (show v = ⟨0, 0⟩ by rw [HV.out, if_neg hk])
    rw [decide_eq_false hk]
    clear hk
    go_wp2_with fail
    rw [HW.out]
    exact bodyPost_ret (v := .tuple #[.int .u64 0, .int .u64 0]) (by simp [results, Tryz.results24, go_sem]) rfl ⟨rfl, Below.refl _ _⟩
  obtain ⟨i, rfl⟩ : ∃ i : Nat, k = (i : Int) := ⟨k.toNat, by omega⟩
  have hi : i < l.length := by omega
  have HW := Lib.hid (show v = l[i] by rw [HV.out, if_pos hk, Int.toNat_natCast, List.getElem?_eq_getElem hi]; rfl)
  rw [decide_eq_true hk]
  obtain ⟨x, hx⟩ : ∃ x, x = l[i] := ⟨_, rfl⟩
  have hcx := hc i x (by rw [hx]; exact List.getElem?_eq_getElem hi)
  rw [← hx] at HW
  have hi1 : (i : Int) < (l.length : Int) := by omega
  have c2 : w.cell? ⟨g, 2, none⟩ = some (.slice (some ⟨gl, 0, none⟩) l.length cc) := cell_of_row w _ 2 _ _ (0, 0) hR
  have u0 : w.cell? ⟨gl, i * 2, none⟩ = some (.int .u64 x.up) := by rw [cell_of_row w _ _ _ _ (0, 0) hl]; exact hcx.1
  have u1 : w.cell? ⟨gl, i * 2 + 1, none⟩ = some (.int .u64 x.down) := by rw [cell_of_row w _ _ _ _ (0, 0) hl]; exact hcx.2
  clear hcx hx hi hk hR hl hc
  go_upto_region 3 with fail
  refine wp_region_held_drew (S := fun W => Below w.heap.size w W) (by kernel_rfl) (below_drew (Below.refl _ _)) (fun hHeld => ?_)
  refine wpAnyH_take (i := 0) (oi := ⟨_, _, _, _, _, _⟩) (v := ?_) rfl (by kernel_rfl) (by kernel_rfl) (by kernel_rfl) (fun _ _ _ h => h) (Or.inl ⟨by kernel_rfl, ?_⟩) hHeld ?_
  rotate_left 1
  · intro W hW; first | (go_simp; done) | (go_simp; with_reducible rfl)
  try simp only [Act.put, List.setIfInBounds_toArray, List.set_cons_zero, List.set_cons_succ]
  refine wpAnyH_take (i := 1) (oi := ⟨_, _, _, _, _, _⟩) (v := ?_) rfl (by kernel_rfl) (by kernel_rfl) (by kernel_rfl) (fun _ _ _ h => h) (Or.inl ⟨by kernel_rfl, ?_⟩) hHeld ?_
  rotate_left 1
  · intro W hW; first | (go_simp; done) | (go_simp; with_reducible rfl)
  try simp only [Act.put, List.setIfInBounds_toArray, List.set_cons_zero, List.set_cons_succ]
  refine wpAnyH_take (i := 2) (oi := ⟨_, _, _, _, _, _⟩) (v := ?_) rfl (by kernel_rfl) (by kernel_rfl) (by kernel_rfl) (fun _ _ _ h => h) (Or.inl ⟨by kernel_rfl, ?_⟩) hHeld ?_
  rotate_left 1
  · intro W hW; first | (go_simp; done) | (go_simp; with_reducible rfl)
  try simp only [Act.put, List.setIfInBounds_toArray, List.set_cons_zero, List.set_cons_succ]
  refine wpAnyH_take (i := 3) (oi := ⟨_, _, _, _, _, _⟩) (v := ?_) rfl (by kernel_rfl) (by kernel_rfl) (by kernel_rfl) (fun _ _ _ h => h) (Or.inl ⟨by kernel_rfl, ?_⟩) hHeld ?_
  rotate_left 1
  · intro W hW; have k0 := below_keep hW c2; first | (go_simp; done) | (go_simp; with_reducible rfl)
  try simp only [Act.put, List.setIfInBounds_toArray, List.set_cons_zero, List.set_cons_succ]
  refine wpAnyH_take (i := 4) (oi := ⟨_, _, _, _, _, _⟩) (v := ?_) rfl (by kernel_rfl) (by kernel_rfl) (by kernel_rfl) (fun _ _ _ h => h) (Or.inl ⟨by kernel_rfl, ?_⟩) hHeld ?_
  rotate_left 1
  · intro W hW; first | (go_simp; done) | (go_simp; with_reducible rfl)
  try simp only [Act.put, List.setIfInBounds_toArray, List.set_cons_zero, List.set_cons_succ]
  refine wpAnyH_take (i := 5) (oi := ⟨_, _, _, _, _, _⟩) (v := ?_) rfl (by kernel_rfl) (by kernel_rfl) (by kernel_rfl) (fun _ _ _ h => h) (Or.inl ⟨by kernel_rfl, ?_⟩) hHeld ?_
  rotate_left 1
  · intro W hW; first | (go_simp; done) | (go_simp; with_reducible rfl)
  try simp only [Act.put, List.setIfInBounds_toArray, List.set_cons_zero, List.set_cons_succ]
  refine wpAnyH_take (i := 6) (oi := ⟨_, _, _, _, _, _⟩) (v := ?_) rfl (by kernel_rfl) (by kernel_rfl) (by kernel_rfl) (fun _ _ _ h => h) (Or.inl ⟨by kernel_rfl, ?_⟩) hHeld ?_
  rotate_left 1
  · intro W hW; first | (go_simp; done) | (go_simp; with_reducible rfl)
  try simp only [Act.put, List.setIfInBounds_toArray, List.set_cons_zero, List.set_cons_succ]
  refine wpAnyH_take (i := 7) (oi := ⟨_, _, _, _, _, _⟩) (v := ?_) rfl (by kernel_rfl) (by kernel_rfl) (by kernel_rfl) (fun _ _ _ h => h) (Or.inl ⟨by kernel_rfl, ?_⟩) hHeld ?_
  rotate_left 1
  · intro W hW; have k0 := below_keep hW u0; first | (go_simp; done) | (go_simp; with_reducible rfl)
  try simp only [Act.put, List.setIfInBounds_toArray, List.set_cons_zero, List.set_cons_succ]
  refine wpAnyH_take (i := 8) (oi := ⟨_, _, _, _, _, _⟩) (v := ?_) rfl (by kernel_rfl) (by kernel_rfl) (by kernel_rfl) (fun _ _ _ h => h) (Or.inl ⟨by kernel_rfl, ?_⟩) hHeld ?_
  rotate_left 1
  · intro W hW; first | (go_simp; done) | (go_simp; with_reducible rfl)
  try simp only [Act.put, List.setIfInBounds_toArray, List.set_cons_zero, List.set_cons_succ]
  refine wpAnyH_take (i := 9) (oi := ⟨_, _, _, _, _, _⟩) (v := ?_) rfl (by kernel_rfl) (by kernel_rfl) (by kernel_rfl) (fun _ _ _ h => h) (Or.inl ⟨by kernel_rfl, ?_⟩) hHeld ?_
  rotate_left 1
  · intro W hW; first | (go_simp; done) | (go_simp; with_reducible rfl)
  try simp only [Act.put, List.setIfInBounds_toArray, List.set_cons_zero, List.set_cons_succ]
  refine wpAnyH_take (i := 10) (oi := ⟨_, _, _, _, _, _⟩) (v := ?_) rfl (by kernel_rfl) (by kernel_rfl) (by kernel_rfl) (fun _ _ _ h => h) (Or.inl ⟨by kernel_rfl, ?_⟩) hHeld ?_
  rotate_left 1
  · intro W hW; first | (go_simp; done) | (go_simp; with_reducible rfl)
  try simp only [Act.put, List.setIfInBounds_toArray, List.set_cons_zero, List.set_cons_succ]
  refine wpAnyH_take (i := 11) (oi := ⟨_, _, _, _, _, _⟩) (v := ?_) rfl (by kernel_rfl) (by kernel_rfl) (by kernel_rfl) (fun _ _ _ h => h) (Or.inl ⟨by kernel_rfl, ?_⟩) hHeld ?_
  rotate_left 1
  · intro W hW; have k0 := below_keep hW c2; first | (go_simp; done) | (go_simp; with_reducible rfl)
  try simp only [Act.put, List.setIfInBounds_toArray, List.set_cons_zero, List.set_cons_succ]
  refine wpAnyH_take (i := 12) (oi := ⟨_, _, _, _, _, _⟩) (v := ?_) rfl (by kernel_rfl) (by kernel_rfl) (by kernel_rfl) (fun _ _ _ h => h) (Or.inl ⟨by kernel_rfl, ?_⟩) hHeld ?_
  rotate_left 1
  · intro W hW; first | (go_simp; done) | (go_simp; with_reducible rfl)
  try simp only [Act.put, List.setIfInBounds_toArray, List.set_cons_zero, List.set_cons_succ]
  refine wpAnyH_take (i := 13) (oi := ⟨_, _, _, _, _, _⟩) (v := ?_) rfl (by kernel_rfl) (by kernel_rfl) (by kernel_rfl) (fun _ _ _ h => h) (Or.inl ⟨by kernel_rfl, ?_⟩) hHeld ?_
  rotate_left 1
  · intro W hW; first | (go_simp; done) | (go_simp; with_reducible rfl)
  try simp only [Act.put, List.setIfInBounds_toArray, List.set_cons_zero, List.set_cons_succ]
  refine wpAnyH_take (i := 14) (oi := ⟨_, _, _, _, _, _⟩) (v := ?_) rfl (by kernel_rfl) (by kernel_rfl) (by kernel_rfl) (fun _ _ _ h => h) (Or.inl ⟨by kernel_rfl, ?_⟩) hHeld ?_
  rotate_left 1
  · intro W hW; first | (go_simp; done) | (go_simp; with_reducible rfl)
  try simp only [Act.put, List.setIfInBounds_toArray, List.set_cons_zero, List.set_cons_succ]
  refine wpAnyH_take (i := 15) (oi := ⟨_, _, _, _, _, _⟩) (v := ?_) rfl (by kernel_rfl) (by kernel_rfl) (by kernel_rfl) (fun _ _ _ h => h) (Or.inl ⟨by kernel_rfl, ?_⟩) hHeld ?_
  rotate_left 1
  · intro W hW; have k0 := below_keep hW u1; first | (go_simp; done) | (go_simp; with_reducible rfl)
  try simp only [Act.put, List.setIfInBounds_toArray, List.set_cons_zero, List.set_cons_succ]
  refine wpAnyH_take (i := 16) (oi := ⟨_, _, _, _, _, _⟩) (v := ?_) rfl (by kernel_rfl) (by kernel_rfl) (by kernel_rfl) (fun _ _ _ h => h) (Or.inl ⟨by kernel_rfl, ?_⟩) hHeld ?_
  rotate_left 1
  · intro W hW; first | (go_simp; done) | (go_simp; with_reducible rfl)
  try simp only [Act.put, List.setIfInBounds_toArray, List.set_cons_zero, List.set_cons_succ]
  refine wpAnyH_take (i := 17) (oi := ⟨_, _, _, _, _, _⟩) (v := ?_) rfl (by kernel_rfl) (by kernel_rfl) (by kernel_rfl) (fun _ _ _ h => h) (Or.inl ⟨by kernel_rfl, ?_⟩) hHeld ?_
  rotate_left 1
  · intro W hW; first | (go_simp; done) | (go_simp; with_reducible rfl)
  try simp only [Act.put, List.setIfInBounds_toArray, List.set_cons_zero, List.set_cons_succ]
  refine wpAnyH_done (by kernel_rfl) ?_ _
  have HB := Lib.hid hHeld
  go_wp2_with fail
  rw [HW.out]
  exact bodyPost_ret (v := .tuple #[.int .u64 x.up, .int .u64 x.down]) (by simp [results, Tryz.results24, go_sem]) rfl ⟨rfl, HB.out⟩
set_option maxHeartbeats 1000000 in
set_option maxRecDepth 100000 in
theorem stClone_any (A : Option Addr) (c n : Nat) (xs : List Value) (w : World) (hS : ∀ u, Below w.heap.size w u → Src Tryz.prog 1 99 (.slice A n c) n xs u) (hA : A.isSome = true) (hn : n ≤ 100000) :
    Calls Tryz.prog 58 #[.slice A n c] w fun e w' => ∃ A2 c2, e = .returned (.slice A2 n c2) ∧ w'.ownsRow 0 9 1 (.slice A2 n c2) n xs ∧ (∀ k, ob A2 = some k → w.heap.size ≤ k) ∧ Below w.heap.size w w' := by
  obtain ⟨i0, hi0, hz0, hz1, hz2⟩ := info_parts str_info7
  have hnil := fun n w => Lib.run_eql_slice_nil (P := Tryz.prog) w 99 9 A n c 0 0 Tryz.underlying99
  have HS := Lib.hid hS
  clear hS
  cases A with
  | none => cases hA
  | some ad =>
    go_enter Tryz.func58, Tryz.ntmps58
    go_wp2_with (first
      | (at_builtin
         refine wpList_append_at rfl (.tmp 5) (.tmp 6) _ _ rfl 9 i0 _ 1 16 Tryz.underlying99 hi0 hz0 hz1 hz2 rfl (some ⟨w.heap.size, 0, none⟩) 0 0 [] rfl (World.ownsRow_lit w #[] 0 (Nat.zero_le _) (by unfold maxLen; omega) rfl) _ n _ rfl (HS.out _ (below1 w _)) (by unfold maxLen; omega) (by omega) ?_
         intro A2 c2 w2 ho2 hg2 hat2))
    go_ret
    rw [Nat.zero_add, List.nil_append] at ho2
    have hbw : Below w.heap.size w w2 := ((Below.refl w.heap.size w).alloc (Nat.le_refl _) _).grown hg2 (by simp) (fun k e => by injection e with e; simp at e; omega)
    refine ⟨A2, c2, rfl, ho2, fun k e => ?_, hbw⟩
    rcases hat2 with h | h
    · rw [h] at e; injection e with e; simp at e; omega
    · rw [h] at e; injection e with e; simp at e; omega
set_option maxHeartbeats 1000000 in
set_option maxRecDepth 100000 in
theorem rmClone_any (A : Option Addr) (c n : Nat) (xs : List Value) (w : World) (hS : ∀ u, Below w.heap.size w u → Src Tryz.prog 2 101 (.slice A n c) n xs u) (hA : A.isSome = true) (hn : n ≤ 100000) :
    Calls Tryz.prog 59 #[.slice A n c] w fun e w' => ∃ A2 c2, e = .returned (.slice A2 n c2) ∧ w'.ownsRow 0 104 2 (.slice A2 n c2) n xs ∧ (∀ k, ob A2 = some k → w.heap.size ≤ k) ∧ Below w.heap.size w w' := by
  obtain ⟨i0, hi0, hz0, hz1, hz2⟩ := info_parts room_info7
  have hnil := fun n w => Lib.run_eql_slice_nil (P := Tryz.prog) w 101 104 A n c 0 0 Tryz.underlying101
  have HS := Lib.hid hS
  clear hS
  cases A with
  | none => cases hA
  | some ad =>
    go_enter Tryz.func59, Tryz.ntmps59
    go_wp2_with (first
      | (at_builtin
         refine wpList_append_at rfl (.tmp 5) (.tmp 6) _ _ rfl 104 i0 _ 2 16 Tryz.underlying101 hi0 hz0 hz1 hz2 rfl (some ⟨w.heap.size, 0, none⟩) 0 0 [] rfl (World.ownsRow_lit w #[] 0 (Nat.zero_le _) (by unfold maxLen; omega) rfl) _ n _ rfl (HS.out _ (below1 w _)) (by unfold maxLen; omega) (by omega) ?_
         intro A2 c2 w2 ho2 hg2 hat2))
    go_ret
    rw [Nat.zero_add, List.nil_append] at ho2
    have hbw : Below w.heap.size w w2 := ((Below.refl w.heap.size w).alloc (Nat.le_refl _) _).grown hg2 (by simp) (fun k e => by injection e with e; simp at e; omega)
    refine ⟨A2, c2, rfl, ho2, fun k e => ?_, hbw⟩
    rcases hat2 with h | h
    · rw [h] at e; injection e with e; simp at e; omega
    · rw [h] at e; injection e with e; simp at e; omega
theorem st_src {w : World} {A : Option Addr} {l : List ByteArray} {c : Nat} {tx e' : TypeId} (hk : Tryz.prog.underlying tx = some (.slice e')) (h : Strs w A l) : Src Tryz.prog 1 tx (.slice A l.length c) l.length (stCells l) w := by
  have hone : ∀ u ∈ stCells l, u.oneCell' = true := fun u hu => by
    obtain ⟨s, _, rfl⟩ := List.mem_map.1 hu
    rfl
  cases A with
  | none =>
    have hx : l = [] := by rcases h with h | ⟨b, off, h, _⟩; exact h; cases h
    subst hx
    exact Src.ofNil w hk c
  | some ad =>
    refine Src.ofSlice w hk ad _ _ _ (by simp [stCells]) ?_ hone
    rcases h with rfl | ⟨b, off, e, hb, hc⟩
    · intro j u hu; simp [stCells] at hu
    · injection e with e
      subst e
      intro j u hu
      rw [MM.add_plain]
      unfold stCells at hu
      rw [List.getElem?_map] at hu
      cases hj : l[j]? with
      | none => rw [hj] at hu; cases hu
      | some s =>
        rw [hj] at hu
        have h9 := hc j s hj
        rw [h9]
        exact hu
theorem rm_one {cs : Array Value} {l : List Rm} (h : RmsAt cs l) : ∀ u ∈ cs.toList, u.oneCell' = true := fun u hu => by
  obtain ⟨j, hj, rfl⟩ := List.mem_iff_getElem.1 hu
  rw [Array.length_toList, h.1] at hj
  have hq : j / 2 < l.length := by omega
  obtain ⟨h1, h2⟩ := h.2 (j / 2) _ (List.getElem?_eq_getElem hq)
  rcases Nat.mod_two_eq_zero_or_one j with h0 | h0
  · have h3 : cs[j]? = some (.int .u64 (l[j / 2].up : Nat)) := by have e : j / 2 * 2 = j := (by omega); rw [e] at h1; exact h1
    rw [← Array.getElem?_toList] at h3
    obtain ⟨_, h4⟩ := List.getElem?_eq_some_iff.1 h3
    rw [h4]
    rfl
  · have h3 : cs[j]? = some (.int .u64 (l[j / 2].down : Nat)) := by have e : j / 2 * 2 + 1 = j := (by omega); rw [e] at h2; exact h2
    rw [← Array.getElem?_toList] at h3
    obtain ⟨_, h4⟩ := List.getElem?_eq_some_iff.1 h3
    rw [h4]
    rfl
theorem rm_src {w : World} {gl c : Nat} {cs : Array Value} {l : List Rm} {tx e' : TypeId} (hk : Tryz.prog.underlying tx = some (.slice e')) (hr : w.heap[gl]? = some (.cells cs 104 (0, 0))) (h : RmsAt cs l) : Src Tryz.prog 2 tx (.slice (some ⟨gl, 0, none⟩) l.length c) l.length cs.toList w := by
  refine Src.ofSlice w hk _ _ _ _ (by rw [Array.length_toList]; exact h.1) ?_ (rm_one h)
  intro j u hu
  rw [MM.add_plain, Nat.zero_add, cell_of_row w _ _ _ _ (0, 0) hr, ← Array.getElem?_toList]
  exact hu
/-- What Clone answers: an escrow that has the same left. -/
def ClPost (rs : List Rm) (w : World) (e : Ending) (w' : World) : Prop := ∃ g2 gl2 cc kind V cs, e = .returned (.pointer (some ⟨g2, 0, none⟩)) ∧ w'.heap[g2]? = some (.cells #[.int .i64 kind, V, .slice (some ⟨gl2, 0, none⟩) rs.length cc] 107 (0, 0)) ∧ w'.heap[gl2]? = some (.cells cs 104 (0, 0)) ∧ (∀ k x, rs[k]? = some x → cs[k * 2]? = some (.int .u64 x.up) ∧ cs[k * 2 + 1]? = some (.int .u64 x.down)) ∧ w.heap.size ≤ g2 ∧ w.heap.size ≤ gl2 ∧ Below w.heap.size w w'
/-- A row that is one's own, block and cells. -/
theorem own_row2 {w : World} {e : TypeId} {size n c : Nat} {A : Option Addr} {cs : Array Value} (h : w.ownsRow 0 e size (.slice A n c) n cs.toList) (hn : 1 ≤ n) : ∃ g, A = some ⟨g, 0, none⟩ ∧ g < w.heap.size ∧ ∃ cur, w.heap[g]? = some (.cells cur e (0, 0)) ∧ ∀ j, j < cs.size → cur[j]? = cs[j]? := by
  obtain ⟨hl, ⟨h1, h2⟩ | ⟨g, cap, cur, h1, _, h3, h4, h5, h6, h7⟩⟩ := h
  · omega
  · injection h1 with hA _ _
    refine ⟨g, hA, lt_of_heap h3, cur, h3, fun j hj => ?_⟩
    have h8 : (cur.toList.take (n * size))[j]? = cs.toList[j]? := by rw [h7]
    have hlen : cs.toList.length = n * size := hl
    rw [List.getElem?_take, if_pos (by rw [← hlen]; simpa using hj), Array.getElem?_toList, Array.getElem?_toList] at h8
    exact h8
set_option maxHeartbeats 8000000 in
set_option maxRecDepth 100000 in
theorem sclone_any (g gl : Nat) (kind : Int) (names : List ByteArray) (B : Option Addr) (cb : Nat) (rs : List Rm) (cs : Array Value) (w : World) (hE : w.heap[g]? = some (.cells #[.int .i64 kind, .slice B names.length cb, .slice (some ⟨gl, 0, none⟩) rs.length rs.length] 107 (0, 0))) (hX : w.heap[gl]? = some (.cells cs 104 (0, 0))) (hc : RmsAt cs rs) (hN : Strs w B names) (hn : names.length ≤ 100000) (hrs : 1 ≤ rs.length ∧ rs.length ≤ 8) :
    Calls Tryz.prog 23 #[.pointer (some ⟨g, 0, none⟩)] w (ClPost rs w) := by
  have c0 := cell_of_row w _ 0 _ _ (0, 0) hE
  have c1 := cell_of_row w _ 1 _ _ (0, 0) hE
  have c2 := cell_of_row w _ 2 _ _ (0, 0) hE
  have HSt := Lib.hid (show ∀ u, Below w.heap.size w u → Calls Tryz.prog 58 #[.slice B names.length cb] u (fun e w' => ∃ A2 c2, e = .returned (.slice A2 names.length c2) ∧ Below u.heap.size u w') from fun u h => by
    cases hB : B with
    | none =>
      have hx : names = [] := by subst hB; rcases hN with h | ⟨b, off, h, _⟩; exact h; cases h
      subst hx
      have hnil := fun n w => Lib.run_eql_slice_nil (P := Tryz.prog) w 99 9 none n cb 0 0 Tryz.underlying99
      clear hE hX hc hN c0 c1 c2
      go_enter Tryz.func58, Tryz.ntmps58
      go_wp2
      go_ret
      exact ⟨none, 0, rfl, Below.refl _ _⟩
    | some ad =>
      exact (stClone_any (some ad) cb names.length (stCells names) u (fun v hv => st_src Tryz.underlying99 ((by rw [← hB]; exact hN.below (h.trans (hv.mono h.size))))) rfl hn).mono fun e w' ⟨A2, c2, h1, _, _, h4⟩ => ⟨A2, c2, h1, h4⟩)
  have HRm := Lib.hid (fun u (h : Below w.heap.size w u) => rmClone_any (some ⟨gl, 0, none⟩) rs.length rs.length cs.toList u (fun v hv => rm_src Tryz.underlying101 (((h.trans (hv.mono h.size)).block _ (lt_of_heap hX)).trans hX) hc) rfl (by omega))
  have HC := Lib.hid hc
  have HL := Lib.hid hrs
  clear hE hX hc hN hn hrs
  go_enter Tryz.func23, Tryz.ntmps23
  go_upto_region 1 with fail
  refine wp_region_held_drew (S := fun W => Below w.heap.size w W) (by kernel_rfl) (below_drew (Below.refl _ _)) (fun hHeld => ?_)
  generalize World.drew w = v0 at *
  refine wpAnyH_take (i := 0) (oi := ⟨_, _, _, _, _, _⟩) (v := ?_) rfl (by kernel_rfl) (by kernel_rfl) (by kernel_rfl) (fun _ _ _ h => h) (Or.inl ⟨by kernel_rfl, ?_⟩) hHeld ?_
  rotate_left 1
  · intro W hW; first | (go_simp; done) | (go_simp; with_reducible rfl)
  try simp only [Act.put, List.setIfInBounds_toArray, List.set_cons_zero, List.set_cons_succ]
  refine wpAnyH_take (i := 1) (oi := ⟨_, _, _, _, _, _⟩) (v := ?_) rfl (by kernel_rfl) (by kernel_rfl) (by kernel_rfl) (fun _ _ _ h => h) (Or.inl ⟨by kernel_rfl, ?_⟩) hHeld ?_
  rotate_left 1
  · intro W hW; first | (go_simp; done) | (go_simp; with_reducible rfl)
  try simp only [Act.put, List.setIfInBounds_toArray, List.set_cons_zero, List.set_cons_succ]
  refine wpAnyH_take (i := 2) (oi := ⟨_, _, _, _, _, _⟩) (v := ?_) rfl (by kernel_rfl) (by kernel_rfl) (by kernel_rfl) (fun _ _ _ h => h) (Or.inl ⟨by kernel_rfl, ?_⟩) hHeld ?_
  rotate_left 1
  · intro W hW; first | (go_simp; done) | (go_simp; with_reducible rfl)
  try simp only [Act.put, List.setIfInBounds_toArray, List.set_cons_zero, List.set_cons_succ]
  refine wpAnyH_take (i := 3) (oi := ⟨_, _, _, _, _, _⟩) (v := ?_) rfl (by kernel_rfl) (by kernel_rfl) (by kernel_rfl) (fun _ _ _ h => h) (Or.inl ⟨by kernel_rfl, ?_⟩) hHeld ?_
  rotate_left 1
  · intro W hW; have k0 := below_keep hW c0; first | (go_simp; done) | (go_simp; with_reducible rfl)
  try simp only [Act.put, List.setIfInBounds_toArray, List.set_cons_zero, List.set_cons_succ]
  refine wpAnyH_take (i := 4) (oi := ⟨_, _, _, _, _, _⟩) (v := ?_) rfl (by kernel_rfl) (by kernel_rfl) (by kernel_rfl) (fun _ _ _ h => h) (Or.inl ⟨by kernel_rfl, ?_⟩) hHeld ?_
  rotate_left 1
  · intro W hW; first | (go_simp; done) | (go_simp; with_reducible rfl)
  try simp only [Act.put, List.setIfInBounds_toArray, List.set_cons_zero, List.set_cons_succ]
  refine wpAnyH_take (i := 5) (oi := ⟨_, _, _, _, _, _⟩) (v := ?_) rfl (by kernel_rfl) (by kernel_rfl) (by kernel_rfl) (fun _ _ _ h => h) (Or.inl ⟨by kernel_rfl, ?_⟩) hHeld ?_
  rotate_left 1
  · intro W hW; first | (go_simp; done) | (go_simp; with_reducible rfl)
  try simp only [Act.put, List.setIfInBounds_toArray, List.set_cons_zero, List.set_cons_succ]
  refine wpAnyH_take (i := 6) (oi := ⟨_, _, _, _, _, _⟩) (v := ?_) rfl (by kernel_rfl) (by kernel_rfl) (by kernel_rfl) (fun _ _ _ h => h) (Or.inl ⟨by kernel_rfl, ?_⟩) hHeld ?_
  rotate_left 1
  · intro W hW; first | (go_simp; done) | (go_simp; with_reducible rfl)
  try simp only [Act.put, List.setIfInBounds_toArray, List.set_cons_zero, List.set_cons_succ]
  refine wpAnyH_take (i := 7) (oi := ⟨_, _, _, _, _, _⟩) (v := ?_) rfl (by kernel_rfl) (by kernel_rfl) (by kernel_rfl) (fun _ _ _ h => h) (Or.inl ⟨by kernel_rfl, ?_⟩) hHeld ?_
  rotate_left 1
  · intro W hW; have k0 := below_keep hW c1; first | (go_simp; done) | (go_simp; with_reducible rfl)
  try simp only [Act.put, List.setIfInBounds_toArray, List.set_cons_zero, List.set_cons_succ]
  refine wpAnyH_take (i := 9) (oi := ⟨_, _, _, _, _, _⟩) (v := ?_) rfl (by kernel_rfl) (by kernel_rfl) (by kernel_rfl) (fun _ _ _ h => h) (Or.inl ⟨by kernel_rfl, ?_⟩) hHeld ?_
  rotate_left 1
  · intro W hW; first | (go_simp; done) | (go_simp; with_reducible rfl)
  try simp only [Act.put, List.setIfInBounds_toArray, List.set_cons_zero, List.set_cons_succ]
  refine wpAnyH_take (i := 10) (oi := ⟨_, _, _, _, _, _⟩) (v := ?_) rfl (by kernel_rfl) (by kernel_rfl) (by kernel_rfl) (fun _ _ _ h => h) (Or.inl ⟨by kernel_rfl, ?_⟩) hHeld ?_
  rotate_left 1
  · intro W hW; first | (go_simp; done) | (go_simp; with_reducible rfl)
  try simp only [Act.put, List.setIfInBounds_toArray, List.set_cons_zero, List.set_cons_succ]
  refine wpAnyH_take (i := 11) (oi := ⟨_, _, _, _, _, _⟩) (v := ?_) rfl (by kernel_rfl) (by kernel_rfl) (by kernel_rfl) (fun _ _ _ h => h) (Or.inl ⟨by kernel_rfl, ?_⟩) hHeld ?_
  rotate_left 1
  · intro W hW; first | (go_simp; done) | (go_simp; with_reducible rfl)
  try simp only [Act.put, List.setIfInBounds_toArray, List.set_cons_zero, List.set_cons_succ]
  refine wpAnyH_take (i := 12) (oi := ⟨_, _, _, _, _, _⟩) (v := ?_) rfl (by kernel_rfl) (by kernel_rfl) (by kernel_rfl) (fun _ _ _ h => h) (Or.inl ⟨by kernel_rfl, ?_⟩) hHeld ?_
  rotate_left 1
  · intro W hW; have k0 := below_keep hW c2; first | (go_simp; done) | (go_simp; with_reducible rfl)
  try simp only [Act.put, List.setIfInBounds_toArray, List.set_cons_zero, List.set_cons_succ]
  refine wpAnyH_ready (rs := [8]) (by kernel_rfl) (by simp) ?_
  refine AllReadyH.cons rfl (fun K hK => ?_) AllReadyH.nil
  go_simp
  refine (HSt.out _ hHeld).mono ?_
  rintro e v1 ⟨S2, cs2, rfl, hbx⟩
  go_wp2_with fail
  refine hK.out _ _ ?_ (fun hHelda => ?_)
  · exact hHeld.trans (hbx.mono hHeld.size)
  clear hK K
  try simp only [Act.put, List.setIfInBounds_toArray, List.set_cons_zero, List.set_cons_succ]
  clear hbx
  refine wpAnyH_ready (rs := [13]) (by kernel_rfl) (by simp) ?_
  refine AllReadyH.cons rfl (fun K hK => ?_) AllReadyH.nil
  go_simp
  refine (HRm.out _ hHelda).mono ?_
  rintro e v2 ⟨A2, cc, rfl, hown, hnew, hbx⟩
  have HO := Lib.hid hown
  have HW := Lib.hid (And.intro hnew (show w.heap.size ≤ v1.heap.size from (hHelda).size))
  clear hown hnew
  go_wp2_with fail
  refine hK.out _ _ ?_ (fun hHeldaa => ?_)
  · exact hHelda.trans (hbx.mono hHelda.size)
  clear hK K
  try simp only [Act.put, List.setIfInBounds_toArray, List.set_cons_zero, List.set_cons_succ]
  clear hbx
  refine wpAnyH_take (i := 14) (oi := ⟨_, _, _, _, _, _⟩) (v := ?_) rfl (by kernel_rfl) (by kernel_rfl) (by kernel_rfl) (fun _ _ _ h => h) (Or.inl ⟨by kernel_rfl, ?_⟩) hHeldaa ?_
  rotate_left 1
  · intro W hW; first | (go_simp; done) | (go_simp; with_reducible rfl)
  try simp only [Act.put, List.setIfInBounds_toArray, List.set_cons_zero, List.set_cons_succ]
  refine wpAnyH_ready (rs := [15]) (by kernel_rfl) (by simp) ?_
  refine AllReadyH.cons rfl (fun K hK => ?_) AllReadyH.nil
  go_simp
  generalize hwx : World.alloc v2 _ = v3
  have hbx : Below v2.heap.size v2 v3 := by rw [← hwx]; exact below1 v2 _
  have HP := Lib.hid (show ClPost rs w (.returned (.pointer (some ⟨v2.heap.size, 0, none⟩))) v3 from by
    obtain ⟨g2, rfl, hg2, cur, hrow, hcur⟩ := own_row2 HO.out HL.out.1
    have h1 := HW.out.1 g2 rfl
    refine ⟨v2.heap.size, g2, cc, kind, .slice S2 names.length cs2, cur, rfl, by rw [← hwx]; exact heap_alloc_new v2 _, (hbx.block _ hg2).trans hrow, fun k x hx => ?_, (hHeldaa).size, by have := HW.out.2; omega, (hHeldaa).trans (hbx.mono (hHeldaa).size)⟩
    have hk := (List.getElem?_eq_some_iff.1 hx).1
    obtain ⟨h3, h4⟩ := HC.out.2 k x hx
    exact ⟨by rw [hcur _ (by rw [HC.out.1]; omega)]; exact h3, by rw [hcur _ (by rw [HC.out.1]; omega)]; exact h4⟩)
  clear hwx
  refine hK.out _ _ ?_ (fun hHeldaaa => ?_)
  · exact hHeldaa.trans (hbx.mono hHeldaa.size)
  clear hK K
  try simp only [Act.put, List.setIfInBounds_toArray, List.set_cons_zero, List.set_cons_succ]
  clear hbx
  refine wpAnyH_take (i := 16) (oi := ⟨_, _, _, _, _, _⟩) (v := ?_) rfl (by kernel_rfl) (by kernel_rfl) (by kernel_rfl) (fun _ _ _ h => h) (Or.inl ⟨by kernel_rfl, ?_⟩) hHeldaaa ?_
  rotate_left 1
  · intro W hW; first | (go_simp; done) | (go_simp; with_reducible rfl)
  try simp only [Act.put, List.setIfInBounds_toArray, List.set_cons_zero, List.set_cons_succ]
  refine wpAnyH_done (by kernel_rfl) ?_ _
  go_wp2_with fail
  go_ret
  exact HP.out
end Go.Proofs.YtbkcmnmbcldjoaaGreatDoor

namespace Go.Proofs.YtbkcmnmbcldjoaaGreatDoor
open Go.RowKit MM
set_option linter.unusedVariables false
set_option linter.unusedSimpArgs false
theorem tup2 {a b c d : Int} (h1 : a = c) (h2 : b = d) : Ending.returned (.tuple #[.int .u64 a, .int .u64 b]) = Ending.returned (.tuple #[.int .u64 c, .int .u64 d]) := by rw [h1, h2]
set_option maxHeartbeats 4000000 in
set_option maxRecDepth 100000 in
theorem r7room_any (r : RC.Rc) (A : Option Addr) (c : Nat) (w : World) (hr : r.ok) (h : RC.chk r = 0) :
    Calls Tryz.prog 56 #[recV r A c] w fun e w' => e = .returned (.tuple #[.int .u64 (SH.all r).up, .int .u64 (SH.all r).down]) ∧ Below w.heap.size w w' := by
  have HD := Lib.hid (show SH.all r = if r.kind = 3 then ⟨(9223372036854775807 - r.num).toNat, (r.num + 9223372036854775808).toNat⟩ else if r.kind = 4 then ⟨(r.high - r.num).toNat, (r.num - r.low).toNat⟩ else if r.kind = 8 then ⟨(r.cap - r.list.length).toNat, 0⟩ else ⟨0, 0⟩ from rfl)
  have HN := Lib.hid (i64_lims hr.num)
  have HPb := Lib.hid (fun hk => purse_bd h hk)
  have HCap := Lib.hid (fun (hk : r.kind = 8) => (show 1 ≤ r.cap ∧ r.cap ≤ 32 ∧ (r.list.length : Int) ≤ r.cap from by
    obtain ⟨_, _, h3⟩ := RC.chk_zero h
    unfold RC.fieldE at h3
    rw [if_neg (by omega), if_neg (by omega), if_neg (by omega), if_pos (by omega)] at h3
    unfold RC.listE at h3
    split at h3
    · cases h3
    · rename_i h4
      split at h3
      · cases h3
      · omega))
  generalize SH.all r = x at *
  clear hr h
  go_enter Tryz.func56, Tryz.ntmps56
  go_upto_region 1 with fail
  generalize hw1 : World.alloc w _ = w1
  have HB := Lib.hid (show Below w.heap.size w w1 by rw [← hw1]; exact below1 w _)
  have E1 := (show w1.heap[w.heap.size]? = some (.cells (recC r.kind r.num r.low r.high r.real r.cap r.text (.slice A r.list.length c)) 25 (0, 0)) by rw [← hw1]; exact heap_alloc_new w _)
  have p0 : w1.cell? ⟨w.heap.size, 0, none⟩ = some (.int .i64 r.kind) := cell_of_row w1 _ 0 _ _ (0, 0) E1
  have p1 : w1.cell? ⟨w.heap.size, 1, none⟩ = some (.int .i64 r.num) := cell_of_row w1 _ 1 _ _ (0, 0) E1
  have p2 : w1.cell? ⟨w.heap.size, 2, none⟩ = some (.int .i64 r.low) := cell_of_row w1 _ 2 _ _ (0, 0) E1
  have p3 : w1.cell? ⟨w.heap.size, 3, none⟩ = some (.int .i64 r.high) := cell_of_row w1 _ 3 _ _ (0, 0) E1
  have p5 : w1.cell? ⟨w.heap.size, 5, none⟩ = some (.int .i64 r.cap) := cell_of_row w1 _ 5 _ _ (0, 0) E1
  have p7 : w1.cell? ⟨w.heap.size, 7, none⟩ = some (.slice A r.list.length c) := cell_of_row w1 _ 7 _ _ (0, 0) E1
  clear hw1 E1
  by_cases k3 : r.kind = 3
  · have HX := Lib.hid (show x = ⟨(9223372036854775807 - r.num).toNat, (r.num + 9223372036854775808).toNat⟩ by rw [HD.out, if_pos k3])
    replace p0 : w1.cell? ⟨w.heap.size, 0, none⟩ = some (.int .i64 3) := by rw [← k3]; exact p0
    clear k3
    by_cases hneg : r.num < 0
    · have HNg := Lib.hid hneg
      go_wp2_with fail
      go_ret2
      refine ⟨tup2 ?_ ?_, HB.out⟩
      all_goals
        rw [HX.out]
        have h1 := HN.out
        have h2 := HNg.out
        simp only [u64_wrap]
        try unfold wrap64
        omega
    · have HNg := Lib.hid hneg
      go_upto_region 7 with fail
      go_quiet (fail)
      go_wp2_with fail
      go_ret2
      refine ⟨tup2 ?_ ?_, HB.out.trans ((below_drewN (Below.refl _ w1) _).mono HB.out.size)⟩
      all_goals
        rw [HX.out]
        have h1 := HN.out
        have h2 := HNg.out
        simp only [u64_wrap]
        omega
  have h3 := k3
  clear k3
  by_cases k4 : r.kind = 4
  · have HX := Lib.hid (show x = ⟨(r.high - r.num).toNat, (r.num - r.low).toNat⟩ by rw [HD.out, if_neg h3, if_pos k4])
    have HP := Lib.hid (HPb.out k4)
    replace p0 : w1.cell? ⟨w.heap.size, 0, none⟩ = some (.int .i64 4) := by rw [← k4]; exact p0
    clear k4 h3
    go_upto_region 9 with fail
    go_quiet (fail)
    go_wp2_with fail
    go_ret2
    refine ⟨tup2 ?_ ?_, HB.out.trans ((below_drewN (Below.refl _ w1) _).mono HB.out.size)⟩
    all_goals
      rw [HX.out]
      have h1 := HP.out
      simp only [u64_wrap]
      try unfold wrap64
      omega
  have h4 := k4
  clear k4
  by_cases k8 : r.kind = 8
  · have HX := Lib.hid (show x = ⟨(r.cap - r.list.length).toNat, 0⟩ by rw [HD.out, if_neg h3, if_neg h4, if_pos k8])
    have HC := Lib.hid (HCap.out k8)
    replace p0 : w1.cell? ⟨w.heap.size, 0, none⟩ = some (.int .i64 8) := by rw [← k8]; exact p0
    clear k8 h3 h4
    go_wp2_with fail
    go_ret2
    refine ⟨tup2 ?_ ?_, HB.out⟩
    all_goals
      rw [HX.out]
      have h1 := HC.out
      try simp only [u64_wrap]
      try unfold wrap64
      omega
  have HX := Lib.hid (show x = ⟨0, 0⟩ by rw [HD.out, if_neg h3, if_neg h4, if_neg k8])
  have b3 : (r.kind == 3) = false := beq_eq_false_iff_ne.2 h3
  have b4 : (r.kind == 4) = false := beq_eq_false_iff_ne.2 h4
  have b8 : (r.kind == 8) = false := beq_eq_false_iff_ne.2 k8
  clear h3 h4 k8
  go_wp2_with fail
  go_ret2
  refine ⟨tup2 ?_ ?_, HB.out⟩
  all_goals
    rw [HX.out]
    rfl
def nuCells (l : List Nat) : List Value := l.map fun x : Nat => Value.int .u64 (x : Int)
theorem u64_info : (Tryz.prog.info? 53).map (fun i => (i.zero, i.size, i.bytes)) = some (some (.int .u64 0), 1, 8) := by kernel_rfl
def SH.ports (t n : Nat) : List Nat := (List.range n).map fun k => SH.portion t k n
/-- What dealt answers. -/
def DePost (l : List Nat) (w : World) (e : Ending) (w' : World) : Prop := ∃ B cb, e = .returned (.slice B l.length cb) ∧ w'.ownsRow 0 53 1 (.slice B l.length cb) l.length (nuCells l) ∧ (∀ k, ob B = some k → w.heap.size ≤ k) ∧ Below w.heap.size w w'
/-- How things stand while portions are gathered. -/
structure DeAt (w : World) (ys : List Nat) (B : Option Addr) (n cb : Nat) (wr : World) : Prop where
  own : wr.ownsRow 0 53 1 (.slice B n cb) n (nuCells ys)
  newB : ∀ k, ob B = some k → w.heap.size ≤ k
  below : Below w.heap.size w wr
  len : ys.length = n
theorem DeAt.keep {w wr w' : World} {ys : List Nat} {B : Option Addr} {n cb : Nat} (h : DeAt w ys B n cb wr) (hb : Below wr.heap.size wr w') : DeAt w ys B n cb w' :=
  ⟨own_below h.own hb, h.newB, h.below.trans (hb.mono h.below.size), h.len⟩
theorem DeAt.next {w wr w4 : World} {ys : List Nat} {a : Nat} {B B' : Option Addr} {n cb cb' : Nat} (h : DeAt w ys B n cb wr) (hg : wr.grownBy w4 (ob B)) (hat : ob B' = ob B ∨ ob B' = some wr.heap.size) (ho : w4.ownsRow 0 53 1 (.slice B' (n + 1) cb') (n + 1) (nuCells ys ++ [.int .u64 (a : Int)])) : DeAt w (ys ++ [a]) B' (n + 1) cb' w4 := by
  refine ⟨?_, grown_new7 h.newB hat h.below.size, grown_keep7 h.below h.newB hg (Nat.le_refl _), by simp [h.len]⟩
  unfold nuCells at ho ⊢
  rw [List.map_append]
  exact ho
set_option maxHeartbeats 4000000 in
set_option maxRecDepth 100000 in
theorem r7dealt_any (t n : Nat) (w : World) (ht : t < 18446744073709551616) (hn : 1 ≤ n ∧ n ≤ 8) :
    Calls Tryz.prog 57 #[.int .u64 (t : Int), .int .i64 (n : Int)] w (DePost (SH.ports t n) w) := by
  obtain ⟨i0, hi0, hz0, hz1, hz2⟩ := info_parts u64_info
  obtain ⟨pf, hpf⟩ : ∃ pf : Nat → Nat, pf = fun k => SH.portion t k n := ⟨_, rfl⟩
  have HV := Lib.hid (show ∀ k, pf k = if k < t % n then t / n + 1 else t / n from fun k => by rw [hpf]; rfl)
  have HPn := Lib.hid (show ∀ i, (List.range (i + 1)).map pf = (List.range i).map pf ++ [pf i] from fun i => by rw [List.range_succ, List.map_append]; rfl)
  have HPs := Lib.hid (show SH.ports t n = (List.range n).map pf from by rw [hpf]; rfl)
  have hq : Int.tdiv (t : Int) (n : Int) = ((t / n : Nat) : Int) := by rw [Int.tdiv_eq_ediv_of_nonneg (by omega)]; rfl
  have hr : Int.tmod (t : Int) (n : Int) = ((t % n : Nat) : Int) := by rw [Int.tmod_eq_emod_of_nonneg (by omega)]; rfl
  have h1 : t / n * n + t % n = t := Nat.div_add_mod' t n
  have h2 : t / n ≤ t / n * n := Nat.le_mul_of_pos_right _ (by omega)
  have hml : t % n < n := Nat.mod_lt _ (by omega)
  have hpl : ∀ i, ((List.range i).map pf).length = i := fun i => by simp
  have HPl := Lib.hid hpl
  clear hpl hpf
  generalize SH.ports t n = V at *
  generalize t / n = dq at *
  generalize t % n = dr at *
  have h3 : dq + dr ≤ t := by omega
  have HM := Lib.hid (And.intro h3 hml)
  clear h1 h2
  have hwn : IntKind.u64.wrap (n : Int) = (n : Int) := by rw [u64_wrap]; omega
  have hwk : ∀ k : Nat, k < 9 → IntKind.u64.wrap (k : Int) = (k : Int) := fun k hk => by rw [u64_wrap]; omega
  have hwq : IntKind.u64.wrap (dq : Int) = (dq : Int) := by rw [u64_wrap]; omega
  have hwr : IntKind.u64.wrap (dr : Int) = (dr : Int) := by rw [u64_wrap]; omega
  have hn0 : (n : Int) ≠ 0 := by omega
  have HNx := Lib.hid (show 0 < dr → IntKind.u64.wrap ((dq : Int) + 1) = ((dq + 1 : Nat) : Int) from fun h => by
    rw [u64_wrap]
    omega)
  have HK := Lib.hid hwk
  have hn8 := hn.2
  clear hml ht h3 hwk
  go_enter Tryz.func57, Tryz.ntmps57
  go_upto_region 2 with fail
  generalize hw1 : World.alloc w _ = w1
  have HD0 := Lib.hid (show DeAt w [] (some ⟨w.heap.size, 0, none⟩) 0 0 w1 from by
    rw [← hw1]
    exact ⟨World.ownsRow_lit (base := 0) (e := 53) (size := 1) w #[] 0 (Nat.zero_le _) (by unfold maxLen; omega) rfl, fun k e => by injection e with e; have e' : w.heap.size = k := e; omega, below1 w _, rfl⟩)
  clear hw1
  go_wp2_with fail
  go_loopw [5, 6] (fun t5 t6 wr => ∃ (i : Nat) (zs : List Nat) (B : Option Addr) (cb : Nat), t6 = .int .i64 i ∧ i ≤ n ∧ zs = (List.range i).map pf ∧ t5 = .slice B i cb ∧ DeAt w zs B i cb wr) (fun _ t6 _ => n - (intOf t6).toNat)
  case atStart => exact ⟨0, [], some ⟨w.heap.size, 0, none⟩, 0, rfl, Nat.zero_le _, rfl, rfl, HD0.out⟩
  case round =>
    obtain ⟨i, zs, B, cb, rfl, hi, hzs, rfl, hv⟩ := hrel
    have HVv := Lib.hid hv
    have HZS := Lib.hid hzs
    clear hv hzs
    by_cases hlt : i < n
    · have hi1 : (i : Int) < (n : Int) := by omega
      have hwi := HK.out i (by omega)
      have KO := Lib.hid (fun X => HVv.out.keep (below1 wr X))
      have HTA := Lib.hid (show zs ++ [pf i] = (List.range (i + 1)).map pf by rw [HPn.out i, HZS.out])
      by_cases hd : i < dr
      · have hd1 : (i : Int) < (dr : Int) := by omega
        have HPf := Lib.hid (show pf i = dq + 1 by rw [HV.out i, if_pos hd])
        have hwx := HNx.out (by omega)
        go_wp2_with (first
          | (at_builtin
             refine wpList_append_at rfl _ _ _ _ rfl 53 i0 _ 1 8 Tryz.underlying58 hi0 hz0 hz1 hz2 rfl B i cb (nuCells zs) rfl (KO.out _).own _ 1 _ rfl (src_row Tryz.underlying58 _ #[.int .u64 ((dq + 1 : Nat) : Int)] _ (by simp) rfl (List.all_eq_true.1 rfl)) (by unfold maxLen; omega) (by omega) ?_
             intro B' cb' w10 ho10 hg10 hat10))
        have HT := Lib.hid ((KO.out _).next (a := dq + 1) hg10 hat10 ho10)
        clear ho10 hg10 hat10
        go_wp2_with fail
        go_roundw
        case rel => exact ⟨i + 1, zs ++ [pf i], B', cb', by go_num, by omega, HTA.out, by simp, by rw [HPf.out]; exact HT.out⟩
        case measure => simp [intOf]; omega
      · have hd1 : ¬ (i : Int) < (dr : Int) := by omega
        have HPf := Lib.hid (show pf i = dq by rw [HV.out i, if_neg hd])
        go_wp2_with (first
          | (at_builtin
             refine wpList_append_at rfl _ _ _ _ rfl 53 i0 _ 1 8 Tryz.underlying58 hi0 hz0 hz1 hz2 rfl B i cb (nuCells zs) rfl (KO.out _).own _ 1 _ rfl (src_row Tryz.underlying58 _ #[.int .u64 (dq : Int)] _ (by simp) rfl (List.all_eq_true.1 rfl)) (by unfold maxLen; omega) (by omega) ?_
             intro B' cb' w10 ho10 hg10 hat10))
        have HT := Lib.hid ((KO.out _).next (a := dq) hg10 hat10 ho10)
        clear ho10 hg10 hat10
        go_wp2_with fail
        go_roundw
        case rel => exact ⟨i + 1, zs ++ [pf i], B', cb', by go_num, by omega, HTA.out, by simp, by rw [HPf.out]; exact HT.out⟩
        case measure => simp [intOf]; omega
    · have hi' : i = n := by omega
      have hi1 : ¬ (i : Int) < (n : Int) := by omega
      have HE := Lib.hid (show zs = V by rw [HZS.out, HPs.out, hi'])
      have HP := Lib.hid (show DePost V w (.returned (.slice B i cb)) wr from by
        have hl : V.length = i := by rw [← HE.out, HZS.out, HPl.out]
        refine ⟨B, cb, by rw [hl], ?_, HVv.out.newB, HVv.out.below⟩
        rw [hl, ← HE.out]
        exact HVv.out.own)
      clear hlt hi hi'
      go_wp2_with fail
      go_ret
      exact HP.out
end Go.Proofs.YtbkcmnmbcldjoaaGreatDoor

namespace Go.Proofs.YtbkcmnmbcldjoaaGreatDoor
open Go.RowKit MM
set_option linter.unusedVariables false
set_option linter.unusedSimpArgs false
/-- Numbers, cell by cell. -/
def NuAt (cs : Array Value) (l : List Nat) : Prop := ∀ (k x : Nat), l[k]? = some x → cs[k]? = some (Value.int .u64 (x : Int))
abbrev rescC (r : RC.Rc) (A : Option Addr) (c n g1 c1 g2 c2 : Nat) : Array Value := #[.int .i64 r.kind, .int .i64 r.num, .int .i64 r.low, .int .i64 r.high, .float .f64 r.real, .int .i64 r.cap, .string r.text, .slice A r.list.length c, .slice (some ⟨g1, 0, none⟩) n c1, .slice (some ⟨g2, 0, none⟩) n c2]
/-- The document's escrow in memory. -/
structure REsc (B0 : Nat) (w : World) (g : Nat) (r : RC.Rc) (A : Option Addr) (c n g1 c1 g2 c2 : Nat) (cu cd : Array Value) (us ds : List Nat) : Prop where
  box : w.heap[g]? = some (.cells (rescC r A c n g1 c1 g2 c2) 60 (0, 0))
  up : w.heap[g1]? = some (.cells cu 53 (0, 0))
  down : w.heap[g2]? = some (.cells cd 53 (0, 0))
  nu : NuAt cu us
  nd : NuAt cd ds
  lu : us.length = n
  ld : ds.length = n
  ne : g ≠ g1 ∧ g ≠ g2 ∧ g1 ≠ g2
  new : B0 ≤ g ∧ B0 ≤ g1 ∧ B0 ≤ g2
theorem REsc.keep {B0 : Nat} {w w' : World} {g : Nat} {r : RC.Rc} {A : Option Addr} {c n g1 c1 g2 c2 : Nat} {cu cd : Array Value} {us ds : List Nat} (h : REsc B0 w g r A c n g1 c1 g2 c2 cu cd us ds) {S : Nat → Prop} (hk : Kp S w w') (h1 : ¬ S g) (h2 : ¬ S g1) (h3 : ¬ S g2) : REsc B0 w' g r A c n g1 c1 g2 c2 cu cd us ds :=
  ⟨(hk.block _ (lt_of_heap h.box) h1).trans h.box, (hk.block _ (lt_of_heap h.up) h2).trans h.up, (hk.block _ (lt_of_heap h.down) h3).trans h.down, h.nu, h.nd, h.lu, h.ld, h.ne, h.new⟩
theorem own_row3 {w : World} {e : TypeId} {n c : Nat} {A : Option Addr} {xs : List Value} (h : w.ownsRow 0 e 1 (.slice A n c) n xs) (hn : 1 ≤ n) : ∃ g, A = some ⟨g, 0, none⟩ ∧ g < w.heap.size ∧ ∃ cur, w.heap[g]? = some (.cells cur e (0, 0)) ∧ ∀ j, j < n → cur[j]? = xs[j]? := by
  obtain ⟨hl, ⟨h1, h2⟩ | ⟨g, cap, cur, h1, _, h3, h4, h5, h6, h7⟩⟩ := h
  · omega
  · injection h1 with hA _ _
    refine ⟨g, hA, lt_of_heap h3, cur, h3, fun j hj => ?_⟩
    have h8 : (cur.toList.take (n * 1))[j]? = xs[j]? := by rw [h7]
    rw [List.getElem?_take, if_pos (by omega), Array.getElem?_toList] at h8
    exact h8
theorem nu_of {cur : Array Value} {l : List Nat} {n : Nat} (hn : l.length = n) (h : ∀ j, j < n → cur[j]? = (nuCells l)[j]?) : NuAt cur l := fun k x hx => by
  have hk := (List.getElem?_eq_some_iff.1 hx).1
  rw [h k (by omega)]
  unfold nuCells
  rw [List.getElem?_map, hx]
  rfl
theorem ports_len (t n : Nat) : (SH.ports t n).length = n := by simp [SH.ports]
/-- What the document's New answers. -/
def RNPost (r : RC.Rc) (k : Int) (A : Option Addr) (c : Nat) (w : World) (e : Ending) (w' : World) : Prop :=
  (SH.newE r k ≠ 0 ∧ e = .returned (.tuple #[.pointer none, .int .i64 (SH.newE r k : Nat)]) ∧ Below w.heap.size w w') ∨
  (SH.newE r k = 0 ∧ ∃ g g1 c1 g2 c2 cu cd, e = .returned (.tuple #[.pointer (some ⟨g, 0, none⟩), .int .i64 0]) ∧ REsc w.heap.size w' g r A c k.toNat g1 c1 g2 c2 cu cd (SH.ports (SH.all r).up k.toNat) (SH.ports (SH.all r).down k.toNat) ∧ Below w.heap.size w w')
set_option maxHeartbeats 8000000 in
set_option maxRecDepth 100000 in
theorem r7new_any (r : RC.Rc) (A : Option Addr) (c : Nat) (k : Int) (w : World) (hr : r.ok) (hA : Its w A r.list) (hn : Lim r.list.length) :
    Calls Tryz.prog 22 #[recV r A c, .int .i64 k] w (RNPost r k A c w) := by
  have HC := Lib.hid (fun u (h : Below w.heap.size w u) => rcheck_any r A c u hr (hA.below h) hn)
  have HSl := Lib.hid (fun u (h : Below w.heap.size w u) => r7slice_any r A c u hr (hA.below h) hn)
  have HRo := Lib.hid (fun (h : RC.chk r = 0) u => r7room_any r A c u hr h)
  have HDe := Lib.hid (fun (h : RC.chk r = 0) (m : Nat) (hm : 1 ≤ m ∧ m ≤ 8) u => And.intro (r7dealt_any (SH.all r).up m u (SH.all_lt hr h).1 hm) (r7dealt_any (SH.all r).down m u (SH.all_lt hr h).2 hm))
  clear hr hA hn
  have HP1 := Lib.hid (fun (h : k < 1 ∨ 8 < k) u (hb : Below w.heap.size w u) => show RNPost r k A c w (.returned (.tuple #[.pointer none, .int .i64 1])) u from .inl (by unfold SH.newE; rw [if_pos h]; exact ⟨by omega, rfl, hb⟩))
  have HP2 := Lib.hid (fun (h : ¬ (k < 1 ∨ 8 < k)) (h2 : RC.chk r ≠ 0) u (hb : Below w.heap.size w u) => show RNPost r k A c w (.returned (.tuple #[.pointer none, .int .i64 (RC.chk r : Nat)])) u from .inl (by unfold SH.newE; rw [if_neg h, if_pos h2]; exact ⟨h2, rfl, hb⟩))
  have HP3 := Lib.hid (fun (h : ¬ (k < 1 ∨ 8 < k)) (h2 : RC.chk r = 0) (h3 : (SH.slice r).2 = false) u (hb : Below w.heap.size w u) => show RNPost r k A c w (.returned (.tuple #[.pointer none, .int .i64 5])) u from .inl (by unfold SH.newE; rw [if_neg h, if_neg (by omega), if_pos h3]; exact ⟨by omega, rfl, hb⟩))
  have HP4 := Lib.hid (fun (h : ¬ (k < 1 ∨ 8 < k)) (h2 : RC.chk r = 0) (h3 : (SH.slice r).2 = true) g g1 c1 g2 c2 cu cd u (he : REsc w.heap.size u g r A c k.toNat g1 c1 g2 c2 cu cd (SH.ports (SH.all r).up k.toNat) (SH.ports (SH.all r).down k.toNat)) (hb : Below w.heap.size w u) => show RNPost r k A c w (.returned (.tuple #[.pointer (some ⟨g, 0, none⟩), .int .i64 0])) u from .inr (by
    have h9 : SH.newE r k = 0 := by unfold SH.newE; rw [if_neg h, if_neg (by omega), if_neg (by rw [h3]; simp)]
    exact ⟨h9, g, g1, c1, g2, c2, cu, cd, rfl, he, hb⟩))
  generalize hPP : RNPost r k A c w = PP at *
  clear hPP
  go_enter Tryz.func22, Tryz.ntmps22
  go_upto_region 1 with fail
  generalize hw1 : World.alloc w _ = w1
  have HB := Lib.hid (show Below w.heap.size w w1 by rw [← hw1]; exact below1 w _)
  have E1 := Lib.hid (show w1.heap[w.heap.size]? = some (.cells (recC r.kind r.num r.low r.high r.real r.cap r.text (.slice A r.list.length c)) 25 (0, 0)) by rw [← hw1]; exact heap_alloc_new w _)
  clear hw1
  by_cases h1 : k < 1
  · have HQ := Lib.hid (HP1.out (.inl h1) w1 HB.out)
    go_wp2_with fail
    exact HQ.out
  by_cases h8 : 8 < k
  · have HQ := Lib.hid (HP1.out (.inr h8) w1 HB.out)
    go_wp2_with fail
    exact HQ.out
  have hnn : ¬ (k < 1 ∨ 8 < k) := by omega
  obtain ⟨m, rfl⟩ : ∃ m : Nat, k = (m : Int) := ⟨k.toNat, by omega⟩
  have HM := Lib.hid (show 1 ≤ m ∧ m ≤ 8 by omega)
  have HNN := Lib.hid hnn
  clear hnn
  go_wp2_with (first
    | (refine wpList_load_row rfl _ _ rfl w.heap.size rfl 25 _ (0, 0) _ E1.out Tryz.underlying25 rfl rec_inf7 ?_))
  refine (HC.out _ HB.out).mono ?_
  rintro e w2 ⟨rfl, hb⟩
  have HB2 := Lib.hid (HB.out.trans (hb.mono HB.out.size))
  have E2 := Lib.hid ((hb.block _ (lt_of_heap E1.out)).trans E1.out)
  clear hb E1 HB
  rcases Nat.eq_zero_or_pos (RC.chk r) with h0 | h0
  rotate_left
  · have hne : ((RC.chk r : Int) != 0) = true := by simp; omega
    have HQ := Lib.hid (HP2.out HNN.out (by omega) w2 HB2.out)
    generalize RC.chk r = ck at *
    go_wp2_with fail
    exact HQ.out
  have H0 := Lib.hid h0
  rw [h0]
  clear h0
  go_wp2_with (first
    | (refine wpList_load_row rfl _ _ rfl w.heap.size rfl 25 _ (0, 0) _ E2.out Tryz.underlying25 rfl rec_inf7 ?_))
  refine (HSl.out _ HB2.out).mono ?_
  generalize hsl : SH.slice r = sl at *
  obtain ⟨s, sb⟩ := sl
  rintro e w3 ⟨rfl, hb⟩
  have HB3 := Lib.hid (HB2.out.trans (hb.mono HB2.out.size))
  have E3 := Lib.hid ((hb.block _ (lt_of_heap E2.out)).trans E2.out)
  clear hb E2 HB2 HSl hsl
  go_upto_region 7 with (first
    | (refine wpList_store_row rfl _ _ _ rfl _ (recC s.kind s.num s.low s.high s.real s.cap s.text (.slice none s.list.length 0)) rfl rfl 25 _ (heap_alloc_new _ _) rec_inf7 rfl (by kernel_rfl) ?_))
  rw [World.setRow_alloc_new]
  generalize hw4 : World.alloc w3 _ = w4
  have hb : Below w3.heap.size w3 w4 := by rw [← hw4]; exact below1 w3 _
  have HB4 := Lib.hid (HB3.out.trans (hb.mono HB3.out.size))
  have E4 := Lib.hid ((hb.block _ (lt_of_heap E3.out)).trans E3.out)
  clear hb hw4 E3 HB3
  cases sb
  case false =>
    have HQ := Lib.hid (HP3.out HNN.out H0.out rfl w4 HB4.out)
    go_wp2_with fail
    exact HQ.out
  have HF := Lib.hid (HP4.out HNN.out H0.out rfl)
  clear HP1 HP2 HP3 HP4
  go_wp2_with (first
    | (refine wpList_load_row rfl _ _ rfl w.heap.size rfl 25 _ (0, 0) _ E4.out Tryz.underlying25 rfl rec_inf7 ?_))
  refine (HRo.out H0.out _).mono ?_
  rintro e w5 ⟨rfl, hb⟩
  have HB5 := Lib.hid (HB4.out.trans (hb.mono HB4.out.size))
  have E5 := Lib.hid ((hb.block _ (lt_of_heap E4.out)).trans E4.out)
  clear hb E4 HB4
  have p0 := cell_of_row w5 _ 0 _ _ (0, 0) E5.out
  have p1 := cell_of_row w5 _ 1 _ _ (0, 0) E5.out
  have p2 := cell_of_row w5 _ 2 _ _ (0, 0) E5.out
  have p3 := cell_of_row w5 _ 3 _ _ (0, 0) E5.out
  have p4 := cell_of_row w5 _ 4 _ _ (0, 0) E5.out
  have p5 := cell_of_row w5 _ 5 _ _ (0, 0) E5.out
  have p6 := cell_of_row w5 _ 6 _ _ (0, 0) E5.out
  have p7 := cell_of_row w5 _ 7 _ _ (0, 0) E5.out
  have HDu := Lib.hid (fun u => (HDe.out H0.out m HM.out u).1)
  have HDd := Lib.hid (fun u => (HDe.out H0.out m HM.out u).2)
  clear HDe
  go_upto_region 10 with fail
  refine wp_region_held_drew (S := fun W => Below w5.heap.size w5 W) (by kernel_rfl) (below_drew (Below.refl _ _)) (fun hHeld => ?_)
  generalize World.drew w5 = v0 at *
  refine wpAnyH_take (i := 0) (oi := ⟨_, _, _, _, _, _⟩) (v := ?_) rfl (by kernel_rfl) (by kernel_rfl) (by kernel_rfl) (fun _ _ _ h => h) (Or.inl ⟨by kernel_rfl, ?_⟩) hHeld ?_
  rotate_left 1
  · intro W hW; have k0 := below_keep hW p0; have k1 := below_keep hW p1; have k2 := below_keep hW p2; have k3 := below_keep hW p3; have k4 := below_keep hW p4; have k5 := below_keep hW p5; have k6 := below_keep hW p6; have k7 := below_keep hW p7; first | (go_simp; done) | (go_simp; with_reducible rfl)
  try simp only [Act.put, List.setIfInBounds_toArray, List.set_cons_zero, List.set_cons_succ]
  refine wpAnyH_take (i := 1) (oi := ⟨_, _, _, _, _, _⟩) (v := ?_) rfl (by kernel_rfl) (by kernel_rfl) (by kernel_rfl) (fun _ _ _ h => h) (Or.inl ⟨by kernel_rfl, ?_⟩) hHeld ?_
  rotate_left 1
  · intro W hW; first | (go_simp; done) | (go_simp; with_reducible rfl)
  try simp only [Act.put, List.setIfInBounds_toArray, List.set_cons_zero, List.set_cons_succ]
  refine wpAnyH_take (i := 2) (oi := ⟨_, _, _, _, _, _⟩) (v := ?_) rfl (by kernel_rfl) (by kernel_rfl) (by kernel_rfl) (fun _ _ _ h => h) (Or.inl ⟨by kernel_rfl, ?_⟩) hHeld ?_
  rotate_left 1
  · intro W hW; first | (go_simp; done) | (go_simp; with_reducible rfl)
  try simp only [Act.put, List.setIfInBounds_toArray, List.set_cons_zero, List.set_cons_succ]
  refine wpAnyH_take (i := 4) (oi := ⟨_, _, _, _, _, _⟩) (v := ?_) rfl (by kernel_rfl) (by kernel_rfl) (by kernel_rfl) (fun _ _ _ h => h) (Or.inl ⟨by kernel_rfl, ?_⟩) hHeld ?_
  rotate_left 1
  · intro W hW; first | (go_simp; done) | (go_simp; with_reducible rfl)
  try simp only [Act.put, List.setIfInBounds_toArray, List.set_cons_zero, List.set_cons_succ]
  refine wpAnyH_take (i := 5) (oi := ⟨_, _, _, _, _, _⟩) (v := ?_) rfl (by kernel_rfl) (by kernel_rfl) (by kernel_rfl) (fun _ _ _ h => h) (Or.inl ⟨by kernel_rfl, ?_⟩) hHeld ?_
  rotate_left 1
  · intro W hW; first | (go_simp; done) | (go_simp; with_reducible rfl)
  try simp only [Act.put, List.setIfInBounds_toArray, List.set_cons_zero, List.set_cons_succ]
  refine wpAnyH_ready (rs := [3]) (by kernel_rfl) (by simp) ?_
  refine AllReadyH.cons rfl (fun K hK => ?_) AllReadyH.nil
  go_simp
  refine (HDu.out _).mono ?_
  rintro e v1 ⟨B1, c1, rfl, hown, hnew, hbx⟩
  rw [ports_len] at hown ⊢
  obtain ⟨g1, rfl, hl1, cu, hru, hcu⟩ := own_row3 hown HM.out.1
  have HU := Lib.hid (And.intro hru (nu_of (ports_len _ _) hcu))
  have HG1 := Lib.hid (show v0.heap.size ≤ g1 ∧ g1 < v1.heap.size ∧ w5.heap.size ≤ v0.heap.size from ⟨hnew g1 rfl, hl1, (hHeld).size⟩)
  clear hown hnew hru hcu hl1
  go_wp2_with fail
  refine hK.out _ _ ?_ (fun hHelda => ?_)
  · exact hHeld.trans (hbx.mono hHeld.size)
  clear hK K
  try simp only [Act.put, List.setIfInBounds_toArray, List.set_cons_zero, List.set_cons_succ]
  clear hbx
  refine wpAnyH_ready (rs := [6]) (by kernel_rfl) (by simp) ?_
  refine AllReadyH.cons rfl (fun K hK => ?_) AllReadyH.nil
  go_simp
  refine (HDd.out _).mono ?_
  rintro e v2 ⟨B2, c2, rfl, hown, hnew, hbx⟩
  rw [ports_len] at hown ⊢
  obtain ⟨g2, rfl, hl2, cd, hrd, hcd⟩ := own_row3 hown HM.out.1
  have HD := Lib.hid (And.intro hrd (nu_of (ports_len _ _) hcd))
  have HU := Lib.hid (And.intro ((hbx.block _ HG1.out.2.1).trans HU.out.1) HU.out.2)
  have HG2 := Lib.hid (show v1.heap.size ≤ g2 ∧ g2 < v2.heap.size ∧ v1.heap.size ≤ v2.heap.size from ⟨hnew g2 rfl, hl2, hbx.size⟩)
  clear hown hnew hrd hcd hl2
  go_wp2_with fail
  refine hK.out _ _ ?_ (fun hHeldaa => ?_)
  · exact hHelda.trans (hbx.mono hHelda.size)
  clear hK K
  try simp only [Act.put, List.setIfInBounds_toArray, List.set_cons_zero, List.set_cons_succ]
  clear hbx
  refine wpAnyH_take (i := 7) (oi := ⟨_, _, _, _, _, _⟩) (v := ?_) rfl (by kernel_rfl) (by kernel_rfl) (by kernel_rfl) (fun _ _ _ h => h) (Or.inl ⟨by kernel_rfl, ?_⟩) hHeldaa ?_
  rotate_left 1
  · intro W hW; first | (go_simp; done) | (go_simp; with_reducible rfl)
  try simp only [Act.put, List.setIfInBounds_toArray, List.set_cons_zero, List.set_cons_succ]
  refine wpAnyH_ready (rs := [8]) (by kernel_rfl) (by simp) ?_
  refine AllReadyH.cons rfl (fun K hK => ?_) AllReadyH.nil
  go_simp
  generalize hwx : World.alloc v2 _ = v3
  have hbx : Below v2.heap.size v2 v3 := by rw [← hwx]; exact below1 v2 _
  have HP := Lib.hid (show PP (.returned (.tuple #[.pointer (some ⟨v2.heap.size, 0, none⟩), .int .i64 0])) v3 from by
    have a1 := HG1.out
    have a2 := HG2.out
    have a5 := HB5.out.size
    refine HF.out _ g1 c1 g2 c2 cu cd _ ⟨?_, (hbx.block _ (by omega)).trans HU.out.1, (hbx.block _ (by omega)).trans HD.out.1, by rw [Int.toNat_natCast]; exact HU.out.2, by rw [Int.toNat_natCast]; exact HD.out.2, by rw [Int.toNat_natCast]; exact ports_len _ _, by rw [Int.toNat_natCast]; exact ports_len _ _, ⟨by omega, by omega, by omega⟩, ⟨by omega, by omega, by omega⟩⟩ (HB5.out.trans ((hHeldaa.trans (hbx.mono hHeldaa.size)).mono HB5.out.size))
    rw [Int.toNat_natCast, ← hwx]
    exact heap_alloc_new v2 _)
  clear hwx
  refine hK.out _ _ ?_ (fun hHeldaaa => ?_)
  · exact hHeldaa.trans (hbx.mono hHeldaa.size)
  clear hK K
  try simp only [Act.put, List.setIfInBounds_toArray, List.set_cons_zero, List.set_cons_succ]
  clear hbx
  refine wpAnyH_take (i := 9) (oi := ⟨_, _, _, _, _, _⟩) (v := ?_) rfl (by kernel_rfl) (by kernel_rfl) (by kernel_rfl) (fun _ _ _ h => h) (Or.inl ⟨by kernel_rfl, ?_⟩) hHeldaaa ?_
  rotate_left 1
  · intro W hW; first | (go_simp; done) | (go_simp; with_reducible rfl)
  try simp only [Act.put, List.setIfInBounds_toArray, List.set_cons_zero, List.set_cons_succ]
  refine wpAnyH_take (i := 10) (oi := ⟨_, _, _, _, _, _⟩) (v := ?_) rfl (by kernel_rfl) (by kernel_rfl) (by kernel_rfl) (fun _ _ _ h => h) (Or.inl ⟨by kernel_rfl, ?_⟩) hHeldaaa ?_
  rotate_left 1
  · intro W hW; first | (go_simp; done) | (go_simp; with_reducible rfl)
  try simp only [Act.put, List.setIfInBounds_toArray, List.set_cons_zero, List.set_cons_succ]
  refine wpAnyH_done (by kernel_rfl) ?_ _
  go_wp2_with fail
  exact HP.out
end Go.Proofs.YtbkcmnmbcldjoaaGreatDoor
