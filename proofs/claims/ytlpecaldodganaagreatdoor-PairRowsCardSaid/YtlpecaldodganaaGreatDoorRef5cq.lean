/- Contracts of the document's own answers for layer 5: a list with an item more. -/
import Derived.Test.YtlpecaldodganaaGreatDoorR5Aq
import Derived.Test.YtlpecaldodganaaGreatDoorRuWq
import Derived.Deep.RegionWith
import Derived.Deep.DeepCutAuto
import Derived.Deep.QuietTactic
import Derived.BigQuiet
namespace Go.Proofs.YtlpecaldodganaaGreatDoor
open Go.RowKit MM
/-- How things stand while a list is laid anew. -/
structure LdAt (w : World) (x : RC.It) (B : Option Addr) (cb : Nat) (out : List RC.It) (wr : World) : Prop where
  box : wr.heap[w.heap.size]? = some (.cells #[.float .f64 x.score, .string x.name] 108 (0, 0))
  own : wr.ownsRow 0 108 2 (.slice B out.length cb) out.length (itCells out)
  new : ∀ k, ob B = some k → w.heap.size + 1 ≤ k
  below : Below w.heap.size w wr
section
variable {w : World} {x : RC.It} {B : Option Addr} {cb : Nat} {out : List RC.It} {wr wx : World}
theorem LdAt.look (h : LdAt w x B cb out wr) (hb : Below wr.heap.size wr wx) : LdAt w x B cb out wx :=
  ⟨(hb.block _ (lt_of_heap h.box)).trans h.box, own_below h.own hb, h.new, h.below.trans (hb.mono h.below.size)⟩
theorem LdAt.more (h : LdAt w x B cb out wr) {n : Nat} (hn : out.length = n) {y : RC.It} {w3 : World} {B2 : Option Addr} {c2 : Nat} {o : Obj} (hg : (wr.alloc o).grownBy w3 (ob B)) (hat : ob B2 = ob B ∨ ob B2 = some (wr.alloc o).heap.size) (ho : w3.ownsRow 0 108 2 (.slice B2 (n + 1) c2) (n + 1) (itCells out ++ [.float .f64 y.score, .string y.name])) : LdAt w x B2 c2 (out ++ [y]) w3 := by
  subst hn
  have hk : Kp (fun k => ob B = some k) (wr.alloc o) w3 := Kp.grown (Kp.refl _ _) hg (fun k e => .inl e)
  have hs := lt_of_heap h.box
  refine ⟨(hk.block _ (by simp only [World.size_alloc]; omega) (fun e => by have := h.new _ e; omega)).trans ((heap_alloc_old wr o hs).trans h.box), ?_, fun k e => ?_, (h.below.alloc h.below.size o).trans (hk.below (by simp only [World.size_alloc]; omega) (fun i hi e => by have := h.new i e; omega))⟩
  · rw [itCells_append, show (out ++ [y]).length = out.length + 1 by simp]
    exact ho
  · rcases hat with h1 | h1
    · rw [h1] at e; exact h.new k e
    · rw [h1] at e; injection e with e; simp only [World.size_alloc] at e; omega
end
theorem LdAt.ownN {w : World} {x : RC.It} {B : Option Addr} {cb n : Nat} {out : List RC.It} {wr : World} (h : LdAt w x B cb out wr) (hn : out.length = n) : wr.ownsRow 0 108 2 (.slice B n cb) n (itCells out) := by subst hn; exact h.own
theorem one2' (a b : Value) (ha : a.oneCell' = true) (hb : b.oneCell' = true) : ∀ u ∈ (#[a, b] : Array Value).toList, u.oneCell' = true := by
  intro u hu
  simp at hu
  rcases hu with rfl | rfl <;> assumption
theorem src_it {P : Program} {tx e' t : TypeId} (hk : P.underlying tx = some (.slice e')) (w : World) (a b : Value) (k : Nat) (hw : k = w.heap.size) (ha : a.oneCell' = true) (hb : b.oneCell' = true) :
    Src P 2 tx (.slice (some ⟨k, 0, none⟩) 1 1) 1 [a, b] (w.alloc (.cells #[a, b] t)) := by
  subst hw
  exact src_new hk w #[a, b] rfl (one2' a b ha hb)
set_option maxHeartbeats 16000000 in
set_option maxRecDepth 100000 in
theorem laid_names (l : List RC.It) (x : RC.It) (A : Option Addr) (c : Nat) (w : World) (hA : Its w A l) (hn : l.length ≤ 1000) :
    Calls Tryz.prog 134 #[.slice A l.length c, itV x, .bool true] w (CPost (RU.laidG (fun y => RC.strLt y.name x.name) (fun y => RC.strEq y.name x.name) x l false) w) := by
  obtain ⟨i0, hi0, hz0, hz1, hz2⟩ := info_parts item_info
  have HA := Lib.hid hA
  clear hA
  go_enter Tryz.func134, Tryz.ntmps134
  go_wp2_with fail
  generalize hw1 : World.alloc (World.alloc w _) _ = w1
  have H0 := Lib.hid (show LdAt w x (some ⟨w.heap.size + 1, 0, none⟩) 0 [] w1 by
    rw [← hw1]
    refine ⟨heap_alloc2_old w _ _, ?_, fun k e => (by injection e with e; have e' : w.heap.size + 1 = k := e; omega), below2 w _ _⟩
    have h := World.ownsRow_lit (base := 0) (e := 108) (size := 2) (w.alloc (.cells #[.float .f64 x.score, .string x.name] 108)) #[] 0 (Nat.zero_le _) (by unfold maxLen; omega) rfl
    rw [World.size_alloc] at h
    exact h)
  clear hw1
  go_loopw [7, 8, 9] (fun t7 t8 t9 wr => ∃ (i : Nat) (d : Bool) (out : List RC.It) (B : Option Addr) (cb : Nat), t9 = .int .i64 i ∧ t8 = .bool d ∧ t7 = .slice B out.length cb ∧ i ≤ l.length ∧ out.length ≤ 2 * i ∧ out ++ RU.laidG (fun y => RC.strLt y.name x.name) (fun y => RC.strEq y.name x.name) x (l.drop i) d = RU.laidG (fun y => RC.strLt y.name x.name) (fun y => RC.strEq y.name x.name) x l false ∧ LdAt w x B cb out wr) (fun _ _ t9 _ => l.length - (intOf t9).toNat)
  case atStart => exact ⟨0, false, [], _, _, rfl, rfl, rfl, Nat.zero_le _, Nat.le_refl _, rfl, H0.out⟩
  case round =>
    obtain ⟨i, d, out, B, cb, rfl, rfl, rfl, hi, hol, heq, hv⟩ := hrel
    have HV := Lib.hid hv
    have HEq := Lib.hid heq
    clear hv heq H0
    by_cases hlt : i < l.length
    · have hd := List.drop_eq_getElem_cons hlt
      have HEq2 := HEq
      rw [hd] at HEq2
      rcases HA.out with h0 | ⟨b, off, rfl, hb, hrow⟩
      · subst h0; simp at hlt
      have hc := hrow i l[i] (List.getElem?_eq_getElem hlt)
      clear hrow hd
      generalize l[i] = y at *
      have y0 := below_keep HV.out.below hc.1
      have y1 := below_keep HV.out.below hc.2
      have HC0 := Lib.hid hc.1
      have HC1 := Lib.hid hc.2
      have x0 := fun o => cell_of_row wr _ o _ _ (0, 0) HV.out.box
      have hi1 : (i : Int) < (l.length : Int) := by omega
      clear hc
      go_wp2_with fail
      go_cut [10] (fun t10 wx => t10 = .bool (RC.strLt y.name x.name) ∧ Below wr.heap.size wr wx)
      case first =>
        go_quiet (fail)
        go_wp2_with fail
        go_meet
        exact ⟨rfl, rfl, rfl, rfl, Nat.le_refl _, fun _ _ => rfl⟩
      case rest =>
      obtain ⟨rfl, hb2⟩ := hcut
      generalize hwc : wc = w2 at *
      clear hwc
      have HV2 := Lib.hid (HV.out.look hb2)
      clear y0 y1 x0 hb2
      have y0 := below_keep HV2.out.below HC0.out
      have y1 := below_keep HV2.out.below HC1.out
      have x0 := fun o => cell_of_row w2 _ o _ _ (0, 0) HV2.out.box
      go_wp2_with fail
      go_cut [11] (fun t11 wx => t11 = .bool (RC.strEq y.name x.name) ∧ Below w2.heap.size w2 wx)
      case first =>
        cases he : RC.strEq y.name x.name
        · have he' : (y.name.toList == x.name.toList) = false := he
          have He := Lib.hid he
          clear he
          go_quiet (fail)
          go_wp2_with fail
          go_meet
          exact ⟨by rw [He.out], rfl, rfl, rfl, Nat.le_refl _, fun _ _ => rfl⟩
        · have he' : (y.name.toList == x.name.toList) = true := he
          have He := Lib.hid he
          clear he
          go_quiet (fail)
          go_wp2_with fail
          go_meet
          exact ⟨by rw [He.out], rfl, rfl, rfl, Nat.le_refl _, fun _ _ => rfl⟩
      case rest =>
      obtain ⟨rfl, hb3⟩ := hcut
      generalize hwc : wc = w3 at *
      clear hwc
      have HV3 := Lib.hid (HV2.out.look hb3)
      clear y0 y1 x0 hb3 HV HV2
      have y0 := below_keep HV3.out.below HC0.out
      have y1 := below_keep HV3.out.below HC1.out
      have x0 := fun o => cell_of_row w3 _ o _ _ (0, 0) HV3.out.box
      have HS := Lib.hid (show RU.laidG (fun y => RC.strLt y.name x.name) (fun y => RC.strEq y.name x.name) x (y :: l.drop (i + 1)) d = if !d && !RC.strLt y.name x.name then (if RC.strEq y.name x.name then y :: RU.laidG (fun y => RC.strLt y.name x.name) (fun y => RC.strEq y.name x.name) x (l.drop (i + 1)) true else x :: y :: RU.laidG (fun y => RC.strLt y.name x.name) (fun y => RC.strEq y.name x.name) x (l.drop (i + 1)) true) else y :: RU.laidG (fun y => RC.strLt y.name x.name) (fun y => RC.strEq y.name x.name) x (l.drop (i + 1)) d from rfl)
      have hlx := lt_of_heap HV3.out.box
      have HCell := Lib.hid (show ∀ B2 c2 o2 W, LdAt w x B2 c2 o2 W → W.cell? ⟨b, off + i * 2, none⟩ = some (.float .f64 y.score) ∧ W.cell? ⟨b, off + i * 2 + 1, none⟩ = some (.string y.name) from fun _ _ _ _ h => ⟨below_keep h.below HC0.out, below_keep h.below HC1.out⟩)
      generalize RC.strLt y.name x.name = a1 at *
      generalize RC.strEq y.name x.name = s1 at *
      have hone : ∀ d', RU.laidG (fun y => RC.strLt y.name x.name) (fun y => RC.strEq y.name x.name) x (y :: l.drop (i + 1)) d = y :: RU.laidG (fun y => RC.strLt y.name x.name) (fun y => RC.strEq y.name x.name) x (l.drop (i + 1)) d' → (out ++ [y]) ++ RU.laidG (fun y => RC.strLt y.name x.name) (fun y => RC.strEq y.name x.name) x (l.drop (i + 1)) d' = RU.laidG (fun y => RC.strLt y.name x.name) (fun y => RC.strEq y.name x.name) x l false := fun d' e => by
        rw [List.append_assoc, List.singleton_append, ← e]
        exact HEq2.out
      have HOne := Lib.hid hone
      clear hone
      cases d
      case true =>
        go_wp2_with (first
          | (at_builtin
             refine wpList_append_at rfl _ _ _ _ rfl 108 i0 _ 2 24 Tryz.underlying23 hi0 hz0 hz1 hz2 rfl B (out.length) cb (itCells (out)) rfl (own_below (HV3.out.ownN rfl) (below1 _ _)) _ 1 _ rfl (src_it Tryz.underlying23 _ _ _ _ rfl rfl rfl) (by unfold maxLen; omega) (by omega) ?_
             intro B5 c5 w5 ho hg hat
             have H5 := Lib.hid (HV3.out.more rfl (y := y) hg hat ho)
             clear ho hg hat))
        go_wp2_with fail
        go_roundw
        case rel => exact ⟨i + 1, true, out ++ [y], B5, c5, by go_num, rfl, by simp, by omega, by simp; omega, HOne.out true (by rw [HS.out]; rfl), H5.out⟩
        case measure => simp [intOf]; omega
      cases a1
      case true =>
        go_wp2_with (first
          | (at_builtin
             refine wpList_append_at rfl _ _ _ _ rfl 108 i0 _ 2 24 Tryz.underlying23 hi0 hz0 hz1 hz2 rfl B (out.length) cb (itCells (out)) rfl (own_below (HV3.out.ownN rfl) (below1 _ _)) _ 1 _ rfl (src_it Tryz.underlying23 _ _ _ _ rfl rfl rfl) (by unfold maxLen; omega) (by omega) ?_
             intro B5 c5 w5 ho hg hat
             have H5 := Lib.hid (HV3.out.more rfl (y := y) hg hat ho)
             clear ho hg hat))
        go_wp2_with fail
        go_roundw
        case rel => exact ⟨i + 1, false, out ++ [y], B5, c5, by go_num, rfl, by simp, by omega, by simp; omega, HOne.out false (by rw [HS.out]; rfl), H5.out⟩
        case measure => simp [intOf]; omega
      cases s1
      case true =>
        go_wp2_with (first
          | (at_builtin
             refine wpList_append_at rfl _ _ _ _ rfl 108 i0 _ 2 24 Tryz.underlying23 hi0 hz0 hz1 hz2 rfl B (out.length) cb (itCells (out)) rfl (own_below (HV3.out.ownN rfl) (below1 _ _)) _ 1 _ rfl (src_it Tryz.underlying23 _ _ _ _ rfl rfl rfl) (by unfold maxLen; omega) (by omega) ?_
             intro B5 c5 w5 ho hg hat
             have H5 := Lib.hid (HV3.out.more rfl (y := y) hg hat ho)
             clear ho hg hat))
        go_wp2_with fail
        go_roundw
        case rel => exact ⟨i + 1, true, out ++ [y], B5, c5, by go_num, rfl, by simp, by omega, by simp; omega, HOne.out true (by rw [HS.out]; rfl), H5.out⟩
        case measure => simp [intOf]; omega
      go_wp2_with (first
        | (at_builtin
           refine wpList_append_at rfl _ _ _ _ rfl 108 i0 _ 2 24 Tryz.underlying23 hi0 hz0 hz1 hz2 rfl B (out.length) cb (itCells (out)) rfl (own_below (HV3.out.ownN rfl) (below1 _ _)) _ 1 _ rfl (src_it Tryz.underlying23 _ _ _ _ rfl rfl rfl) (by unfold maxLen; omega) (by omega) ?_
           intro B4 c4 w4 ho hg hat
           have H4 := Lib.hid (HV3.out.more rfl (y := x) hg hat ho)
           clear ho hg hat y0 y1 x0
           obtain ⟨y0, y1⟩ := HCell.out _ _ _ _ H4.out)
        | (at_builtin
           refine wpList_append_at rfl _ _ _ _ rfl 108 i0 _ 2 24 Tryz.underlying23 hi0 hz0 hz1 hz2 rfl B4 (out.length + 1) c4 (itCells (out ++ [x])) rfl (own_below (H4.out.ownN (by simp)) (below1 _ _)) _ 1 _ rfl (src_it Tryz.underlying23 _ _ _ _ rfl rfl rfl) (by unfold maxLen; omega) (by omega) ?_
           intro B5 c5 w5 ho hg hat
           have H5 := Lib.hid (H4.out.more (by simp) (y := y) hg hat ho)
           clear ho hg hat))
      go_wp2_with fail
      go_roundw
      case rel =>
        refine ⟨i + 1, true, (out ++ [x]) ++ [y], B5, c5, by go_num, rfl, by simp, by omega, by simp; omega, ?_, H5.out⟩
        rw [List.append_assoc, List.append_assoc, List.singleton_append, List.singleton_append, ← HEq2.out, HS.out]
        rfl
      case measure => simp [intOf]; omega
    · have hi' : i = l.length := by omega
      subst hi'
      have hi1 : ¬ (l.length : Int) < (l.length : Int) := by omega
      have HEn := HEq
      rw [List.drop_length] at HEn
      have x0 := fun o => cell_of_row wr _ o _ _ (0, 0) HV.out.box
      have hlx := lt_of_heap HV.out.box
      cases d
      · have hT : out ++ [x] = RU.laidG (fun y => RC.strLt y.name x.name) (fun y => RC.strEq y.name x.name) x l false := HEn.out
        have HT := Lib.hid hT
        clear hT
        go_wp2_with (first
          | (at_builtin
             refine wpList_append_at rfl _ _ _ _ rfl 108 i0 _ 2 24 Tryz.underlying23 hi0 hz0 hz1 hz2 rfl B (out.length) cb (itCells (out)) rfl (own_below (HV.out.ownN rfl) (below1 _ _)) _ 1 _ rfl (src_it Tryz.underlying23 _ _ _ _ rfl rfl rfl) (by unfold maxLen; omega) (by omega) ?_
             intro B5 c5 w5 ho hg hat
             have H5 := Lib.hid (HV.out.more rfl (y := x) hg hat ho)
             clear ho hg hat))
        go_ret
        rw [← HT.out]
        exact ⟨B5, c5, by simp, H5.out.own, fun k e => by have := H5.out.new k e; omega, H5.out.below⟩
      · have hT : out = RU.laidG (fun y => RC.strLt y.name x.name) (fun y => RC.strEq y.name x.name) x l false := by
          have := HEn.out
          rwa [show RU.laidG (fun y => RC.strLt y.name x.name) (fun y => RC.strEq y.name x.name) x [] true = [] from rfl, List.append_nil] at this
        have HT := Lib.hid hT
        clear hT
        go_wp2_with fail
        go_ret
        rw [← HT.out]
        exact ⟨B, cb, rfl, HV.out.own, fun k e => by have := HV.out.new k e; omega, HV.out.below⟩
end Go.Proofs.YtlpecaldodganaaGreatDoor
