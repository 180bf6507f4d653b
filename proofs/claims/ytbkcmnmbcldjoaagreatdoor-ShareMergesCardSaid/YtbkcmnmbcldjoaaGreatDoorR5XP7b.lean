/- Contracts of the document's own answers for layer 5: a list with an item more. -/
import Derived.Test.YtbkcmnmbcldjoaaGreatDoorR5AP7b
import Derived.Test.YtbkcmnmbcldjoaaGreatDoorRuWP7b
import Derived.Deep.RegionWith
import Derived.Deep.DeepCutAuto
import Derived.Deep.QuietTactic
import Derived.BigQuiet
import Derived.Test.YtbkcmnmbcldjoaaGreatDoorRef4bmP7b
namespace Go.Proofs.YtbkcmnmbcldjoaaGreatDoor
open Go.RowKit MM
/-- How things stand while a list is laid anew. -/
structure LdAt (w : World) (x : RC.It) (B : Option Addr) (cb : Nat) (out : List RC.It) (wr : World) : Prop where
  box : wr.heap[w.heap.size]? = some (.cells #[.float .f64 x.score, .string x.name] 91 (0, 0))
  own : wr.ownsRow 0 91 2 (.slice B out.length cb) out.length (itCells out)
  new : ∀ k, ob B = some k → w.heap.size + 1 ≤ k
  below : Below w.heap.size w wr
section
variable {w : World} {x : RC.It} {B : Option Addr} {cb : Nat} {out : List RC.It} {wr wx : World}
theorem LdAt.look (h : LdAt w x B cb out wr) (hb : Below wr.heap.size wr wx) : LdAt w x B cb out wx :=
  ⟨(hb.block _ (lt_of_heap h.box)).trans h.box, own_below h.own hb, h.new, h.below.trans (hb.mono h.below.size)⟩
theorem LdAt.more (h : LdAt w x B cb out wr) {n : Nat} (hn : out.length = n) {y : RC.It} {w3 : World} {B2 : Option Addr} {c2 : Nat} {o : Obj} (hg : (wr.alloc o).grownBy w3 (ob B)) (hat : ob B2 = ob B ∨ ob B2 = some (wr.alloc o).heap.size) (ho : w3.ownsRow 0 91 2 (.slice B2 (n + 1) c2) (n + 1) (itCells out ++ [.float .f64 y.score, .string y.name])) : LdAt w x B2 c2 (out ++ [y]) w3 := by
  subst hn
  have hk : Kp (fun k => ob B = some k) (wr.alloc o) w3 := Kp.grown (Kp.refl _ _) hg (fun k e => .inl e)
  have hs := lt_of_heap h.box
  refine ⟨(hk.block _ (by simp only [World.size_alloc]; omega) (fun e => by have := h.new _ e; omega)).trans ((heap_alloc_old wr o hs).trans h.box), ?_, fun k e => ?_, (h.below.alloc h.below.size o).trans (hk.below (by simp only [World.size_alloc]; omega) (fun i hi e => by have := h.new i e; omega))⟩
  · rw [itCells_append, show (out ++ [y]).length = out.length + 1 by simp]
    exact ho
  · rcases hat with h1 | h1
    · rw [h1] at e; exact h.new k e
    · rw [h1] at e; injection e with e; simp only [World.size_alloc] at e; omega
end
theorem LdAt.ownN {w : World} {x : RC.It} {B : Option Addr} {cb n : Nat} {out : List RC.It} {wr : World} (h : LdAt w x B cb out wr) (hn : out.length = n) : wr.ownsRow 0 91 2 (.slice B n cb) n (itCells out) := by subst hn; exact h.own
theorem one2' (a b : Value) (ha : a.oneCell' = true) (hb : b.oneCell' = true) : ∀ u ∈ (#[a, b] : Array Value).toList, u.oneCell' = true := by
  intro u hu
  simp at hu
  rcases hu with rfl | rfl <;> assumption
theorem src_it {P : Program} {tx e' t : TypeId} (hk : P.underlying tx = some (.slice e')) (w : World) (a b : Value) (k : Nat) (hw : k = w.heap.size) (ha : a.oneCell' = true) (hb : b.oneCell' = true) :
    Src P 2 tx (.slice (some ⟨k, 0, none⟩) 1 1) 1 [a, b] (w.alloc (.cells #[a, b] t)) := by
  subst hw
  exact src_new hk w #[a, b] rfl (one2' a b ha hb)
set_option maxHeartbeats 16000000 in
set_option maxRecDepth 100000 in
theorem laid_names (l : List RC.It) (x : RC.It) (A : Option Addr) (c : Nat) (w : World) (hA : Its w A l) (hn : l.length ≤ 1000) :
    Calls Tryz.prog 140 #[.slice A l.length c, itV x, .bool true] w (CPost (RU.laidG (fun y => RC.strLt y.name x.name) (fun y => RC.strEq y.name x.name) x l false) w) := by
  obtain ⟨i0, hi0, hz0, hz1, hz2⟩ := info_parts item_info
  have HA := Lib.hid hA
  clear hA
  go_enter Tryz.func140, Tryz.ntmps140
  go_wp2_with fail
  generalize hw1 : World.alloc (World.alloc w _) _ = w1
  have H0 := Lib.hid (show LdAt w x (some ⟨w.heap.size + 1, 0, none⟩) 0 [] w1 by
    rw [← hw1]
    refine ⟨heap_alloc2_old w _ _, ?_, fun k e => (by injection e with e; have e' : w.heap.size + 1 = k := e; omega), below2 w _ _⟩
    have h := World.ownsRow_lit (base := 0) (e := 91) (size := 2) (w.alloc (.cells #[.float .f64 x.score, .string x.name] 91)) #[] 0 (Nat.zero_le _) (by unfold maxLen; omega) rfl
    rw [World.size_alloc] at h
    exact h)
  clear hw1
  go_loopw [7, 8, 9] (fun t7 t8 t9 wr => ∃ (i : Nat) (d : Bool) (out : List RC.It) (B : Option Addr) (cb : Nat), t9 = .int .i64 i ∧ t8 = .bool d ∧ t7 = .slice B out.length cb ∧ i ≤ l.length ∧ out.length ≤ 2 * i ∧ out ++ RU.laidG (fun y => RC.strLt y.name x.name) (fun y => RC.strEq y.name x.name) x (l.drop i) d = RU.laidG (fun y => RC.strLt y.name x.name) (fun y => RC.strEq y.name x.name) x l false ∧ LdAt w x B cb out wr) (fun _ _ t9 _ => l.length - (intOf t9).toNat)
  case atStart => exact ⟨0, false, [], _, _, rfl, rfl, rfl, Nat.zero_le _, Nat.le_refl _, rfl, H0.out⟩
  case round =>
    obtain ⟨i, d, out, B, cb, rfl, rfl, rfl, hi, hol, heq, hv⟩ := hrel
    have HV := Lib.hid hv
    have HEq := Lib.hid heq
    clear hv heq H0
    by_cases hlt : i < l.length
    · have hd := List.drop_eq_getElem_cons hlt
      have HEq2 := HEq
      rw [hd] at HEq2
      rcases HA.out with h0 | ⟨b, off, rfl, hb, hrow⟩
      · subst h0; simp at hlt
      have hc := hrow i l[i] (List.getElem?_eq_getElem hlt)
      clear hrow hd
      generalize l[i] = y at *
      have y0 := below_keep HV.out.below hc.1
      have y1 := below_keep HV.out.below hc.2
      have HC0 := Lib.hid hc.1
      have HC1 := Lib.hid hc.2
      have x0 := fun o => cell_of_row wr _ o _ _ (0, 0) HV.out.box
      have hi1 : (i : Int) < (l.length : Int) := by omega
      clear hc
      go_wp2_with fail
      go_cut [10] (fun t10 wx => t10 = .bool (RC.strLt y.name x.name) ∧ Below wr.heap.size wr wx)
      case first =>
        go_quiet (fail)
        go_wp2_with fail
        go_meet
        exact ⟨rfl, rfl, rfl, rfl, Nat.le_refl _, fun _ _ => rfl⟩
      case rest =>
      obtain ⟨rfl, hb2⟩ := hcut
      generalize hwc : wc = w2 at *
      clear hwc
      have HV2 := Lib.hid (HV.out.look hb2)
      clear y0 y1 x0 hb2
      have y0 := below_keep HV2.out.below HC0.out
      have y1 := below_keep HV2.out.below HC1.out
      have x0 := fun o => cell_of_row w2 _ o _ _ (0, 0) HV2.out.box
      go_wp2_with fail
      go_cut [11] (fun t11 wx => t11 = .bool (RC.strEq y.name x.name) ∧ Below w2.heap.size w2 wx)
      case first =>
        cases he : RC.strEq y.name x.name
        · have he' : (y.name.toList == x.name.toList) = false := he
          have He := Lib.hid he
          clear he
          go_quiet (fail)
          go_wp2_with fail
          go_meet
          exact ⟨by rw [He.out], rfl, rfl, rfl, Nat.le_refl _, fun _ _ => rfl⟩
        · have he' : (y.name.toList == x.name.toList) = true := he
          have He := Lib.hid he
          clear he
          go_quiet (fail)
          go_wp2_with fail
          go_meet
          exact ⟨by rw [He.out], rfl, rfl, rfl, Nat.le_refl _, fun _ _ => rfl⟩
      case rest =>
      obtain ⟨rfl, hb3⟩ := hcut
      generalize hwc : wc = w3 at *
      clear hwc
      have HV3 := Lib.hid (HV2.out.look hb3)
      clear y0 y1 x0 hb3 HV HV2
      have y0 := below_keep HV3.out.below HC0.out
      have y1 := below_keep HV3.out.below HC1.out
      have x0 := fun o => cell_of_row w3 _ o _ _ (0, 0) HV3.out.box
      have HS := Lib.hid (show RU.laidG (fun y => RC.strLt y.name x.name) (fun y => RC.strEq y.name x.name) x (y :: l.drop (i + 1)) d = if !d && !RC.strLt y.name x.name then (if RC.strEq y.name x.name then y :: RU.laidG (fun y => RC.strLt y.name x.name) (fun y => RC.strEq y.name x.name) x (l.drop (i + 1)) true else x :: y :: RU.laidG (fun y => RC.strLt y.name x.name) (fun y => RC.strEq y.name x.name) x (l.drop (i + 1)) true) else y :: RU.laidG (fun y => RC.strLt y.name x.name) (fun y => RC.strEq y.name x.name) x (l.drop (i + 1)) d from rfl)
      have hlx := lt_of_heap HV3.out.box
      have HCell := Lib.hid (show ∀ B2 c2 o2 W, LdAt w x B2 c2 o2 W → W.cell? ⟨b, off + i * 2, none⟩ = some (.float .f64 y.score) ∧ W.cell? ⟨b, off + i * 2 + 1, none⟩ = some (.string y.name) from fun _ _ _ _ h => ⟨below_keep h.below HC0.out, below_keep h.below HC1.out⟩)
      generalize RC.strLt y.name x.name = a1 at *
      generalize RC.strEq y.name x.name = s1 at *
      have hone : ∀ d', RU.laidG (fun y => RC.strLt y.name x.name) (fun y => RC.strEq y.name x.name) x (y :: l.drop (i + 1)) d = y :: RU.laidG (fun y => RC.strLt y.name x.name) (fun y => RC.strEq y.name x.name) x (l.drop (i + 1)) d' → (out ++ [y]) ++ RU.laidG (fun y => RC.strLt y.name x.name) (fun y => RC.strEq y.name x.name) x (l.drop (i + 1)) d' = RU.laidG (fun y => RC.strLt y.name x.name) (fun y => RC.strEq y.name x.name) x l false := fun d' e => by
        rw [List.append_assoc, List.singleton_append, ← e]
        exact HEq2.out
      have HOne := Lib.hid hone
      clear hone
      cases d
      case true =>
        go_wp2_with (first
          | (at_builtin
             refine wpList_append_at rfl _ _ _ _ rfl 91 i0 _ 2 24 Tryz.underlying23 hi0 hz0 hz1 hz2 rfl B (out.length) cb (itCells (out)) rfl (own_below (HV3.out.ownN rfl) (below1 _ _)) _ 1 _ rfl (src_it Tryz.underlying23 _ _ _ _ rfl rfl rfl) (by unfold maxLen; omega) (by omega) ?_
             intro B5 c5 w5 ho hg hat
             have H5 := Lib.hid (HV3.out.more rfl (y := y) hg hat ho)
             clear ho hg hat))
        go_wp2_with fail
        go_roundw
        case rel => exact ⟨i + 1, true, out ++ [y], B5, c5, by go_num, rfl, by simp, by omega, by simp; omega, HOne.out true (by rw [HS.out]; rfl), H5.out⟩
        case measure => simp [intOf]; omega
      cases a1
      case true =>
        go_wp2_with (first
          | (at_builtin
             refine wpList_append_at rfl _ _ _ _ rfl 91 i0 _ 2 24 Tryz.underlying23 hi0 hz0 hz1 hz2 rfl B (out.length) cb (itCells (out)) rfl (own_below (HV3.out.ownN rfl) (below1 _ _)) _ 1 _ rfl (src_it Tryz.underlying23 _ _ _ _ rfl rfl rfl) (by unfold maxLen; omega) (by omega) ?_
             intro B5 c5 w5 ho hg hat
             have H5 := Lib.hid (HV3.out.more rfl (y := y) hg hat ho)
             clear ho hg hat))
        go_wp2_with fail
        go_roundw
        case rel => exact ⟨i + 1, false, out ++ [y], B5, c5, by go_num, rfl, by simp, by omega, by simp; omega, HOne.out false (by rw [HS.out]; rfl), H5.out⟩
        case measure => simp [intOf]; omega
      cases s1
      case true =>
        go_wp2_with (first
          | (at_builtin
             refine wpList_append_at rfl _ _ _ _ rfl 91 i0 _ 2 24 Tryz.underlying23 hi0 hz0 hz1 hz2 rfl B (out.length) cb (itCells (out)) rfl (own_below (HV3.out.ownN rfl) (below1 _ _)) _ 1 _ rfl (src_it Tryz.underlying23 _ _ _ _ rfl rfl rfl) (by unfold maxLen; omega) (by omega) ?_
             intro B5 c5 w5 ho hg hat
             have H5 := Lib.hid (HV3.out.more rfl (y := y) hg hat ho)
             clear ho hg hat))
        go_wp2_with fail
        go_roundw
        case rel => exact ⟨i + 1, true, out ++ [y], B5, c5, by go_num, rfl, by simp, by omega, by simp; omega, HOne.out true (by rw [HS.out]; rfl), H5.out⟩
        case measure => simp [intOf]; omega
      go_wp2_with (first
        | (at_builtin
           refine wpList_append_at rfl _ _ _ _ rfl 91 i0 _ 2 24 Tryz.underlying23 hi0 hz0 hz1 hz2 rfl B (out.length) cb (itCells (out)) rfl (own_below (HV3.out.ownN rfl) (below1 _ _)) _ 1 _ rfl (src_it Tryz.underlying23 _ _ _ _ rfl rfl rfl) (by unfold maxLen; omega) (by omega) ?_
           intro B4 c4 w4 ho hg hat
           have H4 := Lib.hid (HV3.out.more rfl (y := x) hg hat ho)
           clear ho hg hat y0 y1 x0
           obtain ⟨y0, y1⟩ := HCell.out _ _ _ _ H4.out)
        | (at_builtin
           refine wpList_append_at rfl _ _ _ _ rfl 91 i0 _ 2 24 Tryz.underlying23 hi0 hz0 hz1 hz2 rfl B4 (out.length + 1) c4 (itCells (out ++ [x])) rfl (own_below (H4.out.ownN (by simp)) (below1 _ _)) _ 1 _ rfl (src_it Tryz.underlying23 _ _ _ _ rfl rfl rfl) (by unfold maxLen; omega) (by omega) ?_
           intro B5 c5 w5 ho hg hat
           have H5 := Lib.hid (H4.out.more (by simp) (y := y) hg hat ho)
           clear ho hg hat))
      go_wp2_with fail
      go_roundw
      case rel =>
        refine ⟨i + 1, true, (out ++ [x]) ++ [y], B5, c5, by go_num, rfl, by simp, by omega, by simp; omega, ?_, H5.out⟩
        rw [List.append_assoc, List.append_assoc, List.singleton_append, List.singleton_append, ← HEq2.out, HS.out]
        rfl
      case measure => simp [intOf]; omega
    · have hi' : i = l.length := by omega
      subst hi'
      have hi1 : ¬ (l.length : Int) < (l.length : Int) := by omega
      have HEn := HEq
      rw [List.drop_length] at HEn
      have x0 := fun o => cell_of_row wr _ o _ _ (0, 0) HV.out.box
      have hlx := lt_of_heap HV.out.box
      cases d
      · have hT : out ++ [x] = RU.laidG (fun y => RC.strLt y.name x.name) (fun y => RC.strEq y.name x.name) x l false := HEn.out
        have HT := Lib.hid hT
        clear hT
        go_wp2_with (first
          | (at_builtin
             refine wpList_append_at rfl _ _ _ _ rfl 91 i0 _ 2 24 Tryz.underlying23 hi0 hz0 hz1 hz2 rfl B (out.length) cb (itCells (out)) rfl (own_below (HV.out.ownN rfl) (below1 _ _)) _ 1 _ rfl (src_it Tryz.underlying23 _ _ _ _ rfl rfl rfl) (by unfold maxLen; omega) (by omega) ?_
             intro B5 c5 w5 ho hg hat
             have H5 := Lib.hid (HV.out.more rfl (y := x) hg hat ho)
             clear ho hg hat))
        go_ret
        rw [← HT.out]
        exact ⟨B5, c5, by simp, H5.out.own, fun k e => by have := H5.out.new k e; omega, H5.out.below⟩
      · have hT : out = RU.laidG (fun y => RC.strLt y.name x.name) (fun y => RC.strEq y.name x.name) x l false := by
          have := HEn.out
          rwa [show RU.laidG (fun y => RC.strLt y.name x.name) (fun y => RC.strEq y.name x.name) x [] true = [] from rfl, List.append_nil] at this
        have HT := Lib.hid hT
        clear hT
        go_wp2_with fail
        go_ret
        rw [← HT.out]
        exact ⟨B, cb, rfl, HV.out.own, fun k e => by have := HV.out.new k e; omega, HV.out.below⟩
end Go.Proofs.YtbkcmnmbcldjoaaGreatDoor

namespace Go.Proofs.YtbkcmnmbcldjoaaGreatDoor
open Go.RowKit MM
theorem below5 (w : World) (o1 o2 o3 o4 o5 : Obj) : Below w.heap.size w (((((w.alloc o1).alloc o2).alloc o3).alloc o4).alloc o5) := (below4 w o1 o2 o3 o4).alloc (by simp only [World.size_alloc]; omega) _
set_option maxHeartbeats 1000000 in
set_option maxRecDepth 100000 in
theorem rplace1_any (x : Nat) (w : World) (hx : MF.W64 x) :
    Calls Tryz.prog 138 #[.float .f64 x] w fun e w' => e = .returned (.int .u64 (MF.key x : Nat)) ∧ w = w' := by
  cases hn : MF.nan x
  · have Hk := Lib.hid (MF.key_num hx hn)
    rcases MF.parts hx with ⟨h1, h2, h3⟩ | ⟨h1, h2, h3⟩
    · have He := Lib.hid (show MF.key x = 9223372036854775808 + x by rw [Hk.out, h1]; simp; omega)
      have hge : decide ((9223372036854775808 : Int) ≤ (x : Int)) = false := by simp; omega
      have H3 := Lib.hid h3
      clear Hk h1 h2 h3
      go_enter Tryz.func138, Tryz.ntmps138
      go_wp2_with (first | (go_at_call 94; refine (rnone_any x _ _ hn).mono ?_; rintro e w' ⟨rfl, rfl⟩))
      go_ret
      exact ⟨ret_int (by rw [IntKind.wrap_u64, He.out]; have := H3.out; omega), rfl⟩
    · have He := Lib.hid (show MF.key x = 9223372036854775807 - (x - 9223372036854775808) by rw [Hk.out, h1]; simp; omega)
      have hge : decide ((9223372036854775808 : Int) ≤ (x : Int)) = true := by simp; omega
      have H3 := Lib.hid h3
      clear Hk h1 h2 h3
      go_enter Tryz.func138, Tryz.ntmps138
      go_wp2_with (first | (go_at_call 94; refine (rnone_any x _ _ hn).mono ?_; rintro e w' ⟨rfl, rfl⟩))
      go_ret
      exact ⟨ret_int (by rw [IntKind.wrap_u64, IntKind.wrap_u64, He.out]; have := H3.out; unfold MF.W64 at hx; omega), rfl⟩
  · have Hk := Lib.hid (MF.key_nan hn)
    go_enter Tryz.func138, Tryz.ntmps138
    go_wp2_with (first | (go_at_call 94; refine (rnone_any x _ _ hn).mono ?_; rintro e w' ⟨rfl, rfl⟩))
    go_ret
    exact ⟨ret_nat (m := 18444492273895866369) rfl Hk.out, rfl⟩
set_option maxHeartbeats 1000000 in
set_option maxRecDepth 100000 in
theorem rnumber1_any (k : Nat) (w : World) (hk : MF.W64 k) :
    Calls Tryz.prog 137 #[.int .u64 k] w fun e w' => e = .returned (.float .f64 (MF.bk k)) ∧ w = w' := by
  by_cases h : k < 9223372036854775808
  · have He := Lib.hid (show MF.bk k = 18446744073709551615 - k by unfold MF.bk; rw [if_pos h])
    have hge : decide ((9223372036854775808 : Int) ≤ (k : Int)) = false := by simp; omega
    have H := Lib.hid h
    clear h
    go_enter Tryz.func137, Tryz.ntmps137
    go_wp2_with fail
    go_ret
    exact ⟨ret_flo (by rw [IntKind.wrap_u64, IntKind.wrap_u64, He.out]; have := H.out; omega), rfl⟩
  · have He := Lib.hid (show MF.bk k = k - 9223372036854775808 by unfold MF.bk; rw [if_neg h])
    have hge : decide ((9223372036854775808 : Int) ≤ (k : Int)) = true := by simp; omega
    have H := Lib.hid h
    clear h
    go_enter Tryz.func137, Tryz.ntmps137
    go_wp2_with fail
    go_ret
    exact ⟨ret_flo (by rw [IntKind.wrap_u64, He.out]; have := H.out; unfold MF.W64 at hk; omega), rfl⟩
set_option maxHeartbeats 4000000 in
set_option maxRecDepth 100000 in
theorem do5_8no (r : RC.Rc) (key : ByteArray) (n : Int) (x : Nat) (s : ByteArray) (m : RC.Rc) (must : Bool) (A L : Option Addr) (c cl : Nat) (w : World) (hA : Its w A r.list) (hov : RU.overN r.num n = true) :
    Calls Tryz.prog 87 #[recV r A c, actV ⟨8, key, n, x, s, m, must⟩ L cl] w (D5Post r (RU.err 9) w) := by
  have HI := Lib.hid hA
  clear hA
  go_enter Tryz.func87, Tryz.ntmps87
  go_wp2_with (first
    | (go_at_call 136; refine (over_any _ _ _).mono ?_; rintro e w' ⟨rfl, rfl⟩))
  generalize hwz : World.alloc _ _ = wz
  have HD := Lib.hid (show D5 w r A c (RU.err 9) none 0 wz by rw [← hwz]; exact D5.start r A c _ (RU.err 9) none 0 w)
  have HA := Lib.hid (HD.out.old HI.out)
  have HB := Lib.hid (show ∀ wf, Kp (S23 w) wz wf → Its wf none (RU.err 9).rc.list from D5.noL (w := w) (W := wz) none)
  clear hwz
  have HF := Lib.hid (D5.fin HD.out HA.out HB.out)
  generalize RU.err 9 = xx at *
  have c0 := fun o => cell_of_row wz _ o _ _ (0, 0) HD.out.r0
  have c2 := fun o => cell_of_row wz _ o _ _ (0, 0) HD.out.r2
  have c3 := fun o => cell_of_row wz _ o _ _ (0, 0) HD.out.r3
  have c4 := fun o => cell_of_row wz _ o _ _ (0, 0) HD.out.r4
  have f2 : ∀ o, wz.frozen? ⟨w.heap.size + 1 + 1, o, none⟩ = false := fun o => frozen_of_row _ _ o _ _ HD.out.r2
  have f3 : ∀ o, wz.frozen? ⟨w.heap.size + 1 + 1 + 1, o, none⟩ = false := fun o => frozen_of_row _ _ o _ _ HD.out.r3
  have Q2 := Lib.hid HD.out.r2
  have Q3 := Lib.hid HD.out.r3
  clear HD HA HB
  go_region_with (fail)
  all_goals
    go_wp2_with fail
    generalize hwf : World.drew _ = wf
    have X2 : wf.heap[w.heap.size + 1 + 1]? = some (.cells (recC r.kind r.num r.low r.high r.real r.cap r.text (.slice A r.list.length c)) 25 (0, 0)) := by
      rw [← hwf, heap_drew]
      exact (ans_other (by omega)).trans (rec_stores Q2.out)
    have X3 : wf.heap[w.heap.size + 1 + 1 + 1]? = some (.cells (ansC xx.code xx.num xx.rc none 0) 82 (0, 0)) := by
      rw [← hwf, heap_drew]
      exact ans_all ((rec_stores_other (by omega)).trans Q3.out)
    have hk : Kp (S23 w) wz wf := by
      rw [← hwf]
      exact (kp10 (kp8g (Kp.refl _ _) (Or.inl (Or.inl rfl))) (Or.inl (Or.inr rfl))).drew
    have HP := Lib.hid (HF.out wf hk)
    have q2 := fun o => cell_of_row wf _ o _ _ (0, 0) X2
    have q3 := fun o => cell_of_row wf _ o _ _ (0, 0) X3
    clear hwf X2 X3 hk c0 c2 c3 c4 f2 f3
    exact bodyPost_ret (v := .tuple #[recV r A c, ansV xx.code xx.num xx.rc none 0]) (by simp [results, Tryz.results87, go_sem, q2, q3]) rfl HP.out
set_option maxHeartbeats 4000000 in
set_option maxRecDepth 100000 in
theorem do5_8ok (r : RC.Rc) (key : ByteArray) (n : Int) (x : Nat) (s : ByteArray) (m : RC.Rc) (must : Bool) (A L : Option Addr) (c cl : Nat) (w : World) (hA : Its w A r.list) (hov : RU.overN r.num n = false) :
    Calls Tryz.prog 87 #[recV r A c, actV ⟨8, key, n, x, s, m, must⟩ L cl] w (D5Post { r with num := RU.w64 (r.num + n) } (RU.err 0) w) := by
  have HI := Lib.hid hA
  clear hA
  go_enter Tryz.func87, Tryz.ntmps87
  go_wp2_with (first
    | (go_at_call 136; refine (over_any _ _ _).mono ?_; rintro e w' ⟨rfl, rfl⟩))
  generalize hwz : World.alloc _ _ = wz
  have HD := Lib.hid (show D5 w { r with num := RU.w64 (r.num + n) } A c (RU.err 0) none 0 wz by rw [← hwz]; exact D5.start { r with num := RU.w64 (r.num + n) } A c _ (RU.err 0) none 0 w)
  have HA := Lib.hid (HD.out.old HI.out)
  have HB := Lib.hid (show ∀ wf, Kp (S23 w) wz wf → Its wf none (RU.err 0).rc.list from D5.noL (w := w) (W := wz) none)
  clear hwz
  have HF := Lib.hid (D5.fin HD.out HA.out HB.out)
  generalize ({ r with num := RU.w64 (r.num + n) } : RC.Rc) = q at *
  generalize RU.err 0 = xx at *
  have c0 := fun o => cell_of_row wz _ o _ _ (0, 0) HD.out.r0
  have c2 := fun o => cell_of_row wz _ o _ _ (0, 0) HD.out.r2
  have c3 := fun o => cell_of_row wz _ o _ _ (0, 0) HD.out.r3
  have c4 := fun o => cell_of_row wz _ o _ _ (0, 0) HD.out.r4
  have f2 : ∀ o, wz.frozen? ⟨w.heap.size + 1 + 1, o, none⟩ = false := fun o => frozen_of_row _ _ o _ _ HD.out.r2
  have f3 : ∀ o, wz.frozen? ⟨w.heap.size + 1 + 1 + 1, o, none⟩ = false := fun o => frozen_of_row _ _ o _ _ HD.out.r3
  have Q2 := Lib.hid HD.out.r2
  have Q3 := Lib.hid HD.out.r3
  clear HD HA HB
  go_region_with (fail)
  all_goals
    go_wp2_with fail
    generalize hwf : World.drew _ = wf
    have X2 : wf.heap[w.heap.size + 1 + 1]? = some (.cells (recC q.kind q.num q.low q.high q.real q.cap q.text (.slice A q.list.length c)) 25 (0, 0)) := by
      rw [← hwf, heap_drew]
      exact (ans_other (by omega)).trans (rec_stores Q2.out)
    have X3 : wf.heap[w.heap.size + 1 + 1 + 1]? = some (.cells (ansC xx.code xx.num xx.rc none 0) 82 (0, 0)) := by
      rw [← hwf, heap_drew]
      exact ans_all ((rec_stores_other (by omega)).trans Q3.out)
    have hk : Kp (S23 w) wz wf := by
      rw [← hwf]
      exact (kp10 (kp8g (Kp.refl _ _) (Or.inl (Or.inl rfl))) (Or.inl (Or.inr rfl))).drew
    have HP := Lib.hid (HF.out wf hk)
    have q2 := fun o => cell_of_row wf _ o _ _ (0, 0) X2
    have q3 := fun o => cell_of_row wf _ o _ _ (0, 0) X3
    clear hwf X2 X3 hk c0 c2 c3 c4 f2 f3
    exact bodyPost_ret (v := .tuple #[recV q A c, ansV xx.code xx.num xx.rc none 0]) (by simp [results, Tryz.results87, go_sem, q2, q3]) rfl HP.out
set_option maxHeartbeats 4000000 in
set_option maxRecDepth 100000 in
theorem do5_13 (r : RC.Rc) (key : ByteArray) (n : Int) (x : Nat) (s : ByteArray) (m : RC.Rc) (must : Bool) (A L : Option Addr) (c cl : Nat) (w : World) (hA : Its w A r.list) (hw : MF.W64 r.real) (hx : MF.W64 x) (hp : MF.proper r.real = true) (hq : MF.proper x = true) :
    Calls Tryz.prog 87 #[recV r A c, actV ⟨13, key, n, x, s, m, must⟩ L cl] w (D5Post { r with real := MF.mx r.real x } (RU.err 0) w) := by
  have Hm : MF.rmx r.real x = MF.mx r.real x := by unfold MF.rmx MF.mx; rw [RC.proper_eq hp, RC.proper_eq hq]
  rw [← Hm]
  clear Hm
  have HI := Lib.hid hA
  clear hA
  go_enter Tryz.func87, Tryz.ntmps87
  go_wp2_with (first
    | (go_at_call 51; refine (rmax_any _ _ _ hw hx).mono ?_; rintro e w' ⟨rfl, rfl⟩))
  generalize hwz : World.alloc _ _ = wz
  have HD := Lib.hid (show D5 w { r with real := MF.rmx r.real x } A c (RU.err 0) none 0 wz by rw [← hwz]; exact D5.start { r with real := MF.rmx r.real x } A c _ (RU.err 0) none 0 w)
  have HA := Lib.hid (HD.out.old HI.out)
  have HB := Lib.hid (show ∀ wf, Kp (S23 w) wz wf → Its wf none (RU.err 0).rc.list from D5.noL (w := w) (W := wz) none)
  clear hwz
  have HF := Lib.hid (D5.fin HD.out HA.out HB.out)
  generalize ({ r with real := MF.rmx r.real x } : RC.Rc) = q at *
  generalize RU.err 0 = xx at *
  have c0 := fun o => cell_of_row wz _ o _ _ (0, 0) HD.out.r0
  have c2 := fun o => cell_of_row wz _ o _ _ (0, 0) HD.out.r2
  have c3 := fun o => cell_of_row wz _ o _ _ (0, 0) HD.out.r3
  have c4 := fun o => cell_of_row wz _ o _ _ (0, 0) HD.out.r4
  have f2 : ∀ o, wz.frozen? ⟨w.heap.size + 1 + 1, o, none⟩ = false := fun o => frozen_of_row _ _ o _ _ HD.out.r2
  have f3 : ∀ o, wz.frozen? ⟨w.heap.size + 1 + 1 + 1, o, none⟩ = false := fun o => frozen_of_row _ _ o _ _ HD.out.r3
  have Q2 := Lib.hid HD.out.r2
  have Q3 := Lib.hid HD.out.r3
  clear HD HA HB
  go_region_with (fail)
  all_goals
    go_wp2_with fail
    generalize hwf : World.drew _ = wf
    have X2 : wf.heap[w.heap.size + 1 + 1]? = some (.cells (recC q.kind q.num q.low q.high q.real q.cap q.text (.slice A q.list.length c)) 25 (0, 0)) := by
      rw [← hwf, heap_drew]
      exact (ans_other (by omega)).trans (rec_stores Q2.out)
    have X3 : wf.heap[w.heap.size + 1 + 1 + 1]? = some (.cells (ansC xx.code xx.num xx.rc none 0) 82 (0, 0)) := by
      rw [← hwf, heap_drew]
      exact ans_all ((rec_stores_other (by omega)).trans Q3.out)
    have hk : Kp (S23 w) wz wf := by
      rw [← hwf]
      exact (kp10 (kp8g (Kp.refl _ _) (Or.inl (Or.inl rfl))) (Or.inl (Or.inr rfl))).drew
    have HP := Lib.hid (HF.out wf hk)
    have q2 := fun o => cell_of_row wf _ o _ _ (0, 0) X2
    have q3 := fun o => cell_of_row wf _ o _ _ (0, 0) X3
    clear hwf X2 X3 hk c0 c2 c3 c4 f2 f3
    exact bodyPost_ret (v := .tuple #[recV q A c, ansV xx.code xx.num xx.rc none 0]) (by simp [results, Tryz.results87, go_sem, q2, q3]) rfl HP.out
set_option maxHeartbeats 4000000 in
set_option maxRecDepth 100000 in
theorem do5_14 (r : RC.Rc) (key : ByteArray) (n : Int) (x : Nat) (s : ByteArray) (m : RC.Rc) (must : Bool) (A L : Option Addr) (c cl : Nat) (w : World) (hA : Its w A r.list) (hw : MF.W64 r.real) (hx : MF.W64 x) (hp : MF.proper r.real = true) (hq : MF.proper x = true) :
    Calls Tryz.prog 87 #[recV r A c, actV ⟨14, key, n, x, s, m, must⟩ L cl] w (D5Post { r with real := MF.mn r.real x } (RU.err 0) w) := by
  have Hm : MF.rmn r.real x = MF.mn r.real x := by unfold MF.rmn MF.mn; rw [RC.proper_eq hp, RC.proper_eq hq]
  rw [← Hm]
  clear Hm
  have HI := Lib.hid hA
  clear hA
  go_enter Tryz.func87, Tryz.ntmps87
  go_wp2_with (first
    | (go_at_call 52; refine (rmin_any _ _ _ hw hx).mono ?_; rintro e w' ⟨rfl, rfl⟩))
  generalize hwz : World.alloc _ _ = wz
  have HD := Lib.hid (show D5 w { r with real := MF.rmn r.real x } A c (RU.err 0) none 0 wz by rw [← hwz]; exact D5.start { r with real := MF.rmn r.real x } A c _ (RU.err 0) none 0 w)
  have HA := Lib.hid (HD.out.old HI.out)
  have HB := Lib.hid (show ∀ wf, Kp (S23 w) wz wf → Its wf none (RU.err 0).rc.list from D5.noL (w := w) (W := wz) none)
  clear hwz
  have HF := Lib.hid (D5.fin HD.out HA.out HB.out)
  generalize ({ r with real := MF.rmn r.real x } : RC.Rc) = q at *
  generalize RU.err 0 = xx at *
  have c0 := fun o => cell_of_row wz _ o _ _ (0, 0) HD.out.r0
  have c2 := fun o => cell_of_row wz _ o _ _ (0, 0) HD.out.r2
  have c3 := fun o => cell_of_row wz _ o _ _ (0, 0) HD.out.r3
  have c4 := fun o => cell_of_row wz _ o _ _ (0, 0) HD.out.r4
  have f2 : ∀ o, wz.frozen? ⟨w.heap.size + 1 + 1, o, none⟩ = false := fun o => frozen_of_row _ _ o _ _ HD.out.r2
  have f3 : ∀ o, wz.frozen? ⟨w.heap.size + 1 + 1 + 1, o, none⟩ = false := fun o => frozen_of_row _ _ o _ _ HD.out.r3
  have Q2 := Lib.hid HD.out.r2
  have Q3 := Lib.hid HD.out.r3
  clear HD HA HB
  go_region_with (fail)
  all_goals
    go_wp2_with fail
    generalize hwf : World.drew _ = wf
    have X2 : wf.heap[w.heap.size + 1 + 1]? = some (.cells (recC q.kind q.num q.low q.high q.real q.cap q.text (.slice A q.list.length c)) 25 (0, 0)) := by
      rw [← hwf, heap_drew]
      exact (ans_other (by omega)).trans (rec_stores Q2.out)
    have X3 : wf.heap[w.heap.size + 1 + 1 + 1]? = some (.cells (ansC xx.code xx.num xx.rc none 0) 82 (0, 0)) := by
      rw [← hwf, heap_drew]
      exact ans_all ((rec_stores_other (by omega)).trans Q3.out)
    have hk : Kp (S23 w) wz wf := by
      rw [← hwf]
      exact (kp10 (kp8g (Kp.refl _ _) (Or.inl (Or.inl rfl))) (Or.inl (Or.inr rfl))).drew
    have HP := Lib.hid (HF.out wf hk)
    have q2 := fun o => cell_of_row wf _ o _ _ (0, 0) X2
    have q3 := fun o => cell_of_row wf _ o _ _ (0, 0) X3
    clear hwf X2 X3 hk c0 c2 c3 c4 f2 f3
    exact bodyPost_ret (v := .tuple #[recV q A c, ansV xx.code xx.num xx.rc none 0]) (by simp [results, Tryz.results87, go_sem, q2, q3]) rfl HP.out
set_option maxHeartbeats 4000000 in
set_option maxRecDepth 100000 in
theorem do5_15some (r : RC.Rc) (key : ByteArray) (n : Int) (x : Nat) (s : ByteArray) (m : RC.Rc) (must : Bool) (A L : Option Addr) (c cl : Nat) (w : World) (hA : Its w A r.list) (z : Nat) (hz : MF.W64 z) (hs : Ieee.double.add r.real x = some z) :
    Calls Tryz.prog 87 #[recV r A c, actV ⟨15, key, n, x, s, m, must⟩ L cl] w (D5Post { r with real := MF.plus r.real x } (RU.err 0) w) := by
  have hr := fun w => run_float_arith (P := Tryz.prog) w .add 22 .f64 r.real x z hs
  have Hm : MF.bk (MF.key z) = MF.plus r.real x := by rw [MF.bk_key hz]; unfold MF.plus; rw [hs]; rfl
  rw [← Hm]
  have hkz : MF.W64 (MF.key z) := MF.w_key hz
  clear hs Hm
  have HI := Lib.hid hA
  clear hA
  go_enter Tryz.func87, Tryz.ntmps87
  go_wp2_with (first
    | (go_at_call 138; refine (rplace1_any _ _ hz).mono ?_; rintro e w' ⟨rfl, rfl⟩)
    | (go_at_call 137; refine (rnumber1_any _ _ hkz).mono ?_; rintro e w' ⟨rfl, rfl⟩))
  generalize hwz : World.alloc _ _ = wz
  have HD := Lib.hid (show D5 w { r with real := MF.bk (MF.key z) } A c (RU.err 0) none 0 wz by rw [← hwz]; exact D5.start { r with real := MF.bk (MF.key z) } A c _ (RU.err 0) none 0 w)
  have HA := Lib.hid (HD.out.old HI.out)
  have HB := Lib.hid (show ∀ wf, Kp (S23 w) wz wf → Its wf none (RU.err 0).rc.list from D5.noL (w := w) (W := wz) none)
  clear hwz
  have HF := Lib.hid (D5.fin HD.out HA.out HB.out)
  generalize ({ r with real := MF.bk (MF.key z) } : RC.Rc) = q at *
  generalize RU.err 0 = xx at *
  have c0 := fun o => cell_of_row wz _ o _ _ (0, 0) HD.out.r0
  have c2 := fun o => cell_of_row wz _ o _ _ (0, 0) HD.out.r2
  have c3 := fun o => cell_of_row wz _ o _ _ (0, 0) HD.out.r3
  have c4 := fun o => cell_of_row wz _ o _ _ (0, 0) HD.out.r4
  have f2 : ∀ o, wz.frozen? ⟨w.heap.size + 1 + 1, o, none⟩ = false := fun o => frozen_of_row _ _ o _ _ HD.out.r2
  have f3 : ∀ o, wz.frozen? ⟨w.heap.size + 1 + 1 + 1, o, none⟩ = false := fun o => frozen_of_row _ _ o _ _ HD.out.r3
  have Q2 := Lib.hid HD.out.r2
  have Q3 := Lib.hid HD.out.r3
  clear HD HA HB
  go_region_with (fail)
  all_goals
    go_wp2_with fail
    generalize hwf : World.drew _ = wf
    have X2 : wf.heap[w.heap.size + 1 + 1]? = some (.cells (recC q.kind q.num q.low q.high q.real q.cap q.text (.slice A q.list.length c)) 25 (0, 0)) := by
      rw [← hwf, heap_drew]
      exact (ans_other (by omega)).trans (rec_stores Q2.out)
    have X3 : wf.heap[w.heap.size + 1 + 1 + 1]? = some (.cells (ansC xx.code xx.num xx.rc none 0) 82 (0, 0)) := by
      rw [← hwf, heap_drew]
      exact ans_all ((rec_stores_other (by omega)).trans Q3.out)
    have hk : Kp (S23 w) wz wf := by
      rw [← hwf]
      exact (kp10 (kp8g (Kp.refl _ _) (Or.inl (Or.inl rfl))) (Or.inl (Or.inr rfl))).drew
    have HP := Lib.hid (HF.out wf hk)
    have q2 := fun o => cell_of_row wf _ o _ _ (0, 0) X2
    have q3 := fun o => cell_of_row wf _ o _ _ (0, 0) X3
    clear hwf X2 X3 hk c0 c2 c3 c4 f2 f3
    exact bodyPost_ret (v := .tuple #[recV q A c, ansV xx.code xx.num xx.rc none 0]) (by simp [results, Tryz.results87, go_sem, q2, q3]) rfl HP.out
set_option maxHeartbeats 4000000 in
set_option maxRecDepth 100000 in
theorem do5_16some (r : RC.Rc) (key : ByteArray) (n : Int) (x : Nat) (s : ByteArray) (m : RC.Rc) (must : Bool) (A L : Option Addr) (c cl : Nat) (w : World) (hA : Its w A r.list) (z : Nat) (hz : MF.W64 z) (hs : Ieee.double.mul r.real x = some z) :
    Calls Tryz.prog 87 #[recV r A c, actV ⟨16, key, n, x, s, m, must⟩ L cl] w (D5Post { r with real := MF.times r.real x } (RU.err 0) w) := by
  have hr := fun w => run_float_arith (P := Tryz.prog) w .mul 22 .f64 r.real x z hs
  have Hm : MF.bk (MF.key z) = MF.times r.real x := by rw [MF.bk_key hz]; unfold MF.times; rw [hs]; rfl
  rw [← Hm]
  have hkz : MF.W64 (MF.key z) := MF.w_key hz
  clear hs Hm
  have HI := Lib.hid hA
  clear hA
  go_enter Tryz.func87, Tryz.ntmps87
  go_wp2_with (first
    | (go_at_call 138; refine (rplace1_any _ _ hz).mono ?_; rintro e w' ⟨rfl, rfl⟩)
    | (go_at_call 137; refine (rnumber1_any _ _ hkz).mono ?_; rintro e w' ⟨rfl, rfl⟩))
  generalize hwz : World.alloc _ _ = wz
  have HD := Lib.hid (show D5 w { r with real := MF.bk (MF.key z) } A c (RU.err 0) none 0 wz by rw [← hwz]; exact D5.start { r with real := MF.bk (MF.key z) } A c _ (RU.err 0) none 0 w)
  have HA := Lib.hid (HD.out.old HI.out)
  have HB := Lib.hid (show ∀ wf, Kp (S23 w) wz wf → Its wf none (RU.err 0).rc.list from D5.noL (w := w) (W := wz) none)
  clear hwz
  have HF := Lib.hid (D5.fin HD.out HA.out HB.out)
  generalize ({ r with real := MF.bk (MF.key z) } : RC.Rc) = q at *
  generalize RU.err 0 = xx at *
  have c0 := fun o => cell_of_row wz _ o _ _ (0, 0) HD.out.r0
  have c2 := fun o => cell_of_row wz _ o _ _ (0, 0) HD.out.r2
  have c3 := fun o => cell_of_row wz _ o _ _ (0, 0) HD.out.r3
  have c4 := fun o => cell_of_row wz _ o _ _ (0, 0) HD.out.r4
  have f2 : ∀ o, wz.frozen? ⟨w.heap.size + 1 + 1, o, none⟩ = false := fun o => frozen_of_row _ _ o _ _ HD.out.r2
  have f3 : ∀ o, wz.frozen? ⟨w.heap.size + 1 + 1 + 1, o, none⟩ = false := fun o => frozen_of_row _ _ o _ _ HD.out.r3
  have Q2 := Lib.hid HD.out.r2
  have Q3 := Lib.hid HD.out.r3
  clear HD HA HB
  go_region_with (fail)
  all_goals
    go_wp2_with fail
    generalize hwf : World.drew _ = wf
    have X2 : wf.heap[w.heap.size + 1 + 1]? = some (.cells (recC q.kind q.num q.low q.high q.real q.cap q.text (.slice A q.list.length c)) 25 (0, 0)) := by
      rw [← hwf, heap_drew]
      exact (ans_other (by omega)).trans (rec_stores Q2.out)
    have X3 : wf.heap[w.heap.size + 1 + 1 + 1]? = some (.cells (ansC xx.code xx.num xx.rc none 0) 82 (0, 0)) := by
      rw [← hwf, heap_drew]
      exact ans_all ((rec_stores_other (by omega)).trans Q3.out)
    have hk : Kp (S23 w) wz wf := by
      rw [← hwf]
      exact (kp10 (kp8g (Kp.refl _ _) (Or.inl (Or.inl rfl))) (Or.inl (Or.inr rfl))).drew
    have HP := Lib.hid (HF.out wf hk)
    have q2 := fun o => cell_of_row wf _ o _ _ (0, 0) X2
    have q3 := fun o => cell_of_row wf _ o _ _ (0, 0) X3
    clear hwf X2 X3 hk c0 c2 c3 c4 f2 f3
    exact bodyPost_ret (v := .tuple #[recV q A c, ansV xx.code xx.num xx.rc none 0]) (by simp [results, Tryz.results87, go_sem, q2, q3]) rfl HP.out
set_option maxHeartbeats 4000000 in
set_option maxRecDepth 100000 in
theorem do5_20no (r : RC.Rc) (key : ByteArray) (n : Int) (x : Nat) (s : ByteArray) (m : RC.Rc) (must : Bool) (A L : Option Addr) (c cl : Nat) (w : World) (hA : Its w A r.list) (hn : Lim r.list.length) (hov : RU.hasN r.list s = false) :
    Calls Tryz.prog 87 #[recV r A c, actV ⟨20, key, n, x, s, m, must⟩ L cl] w (D5Post r (RU.err 11) w) := by
  have HI := Lib.hid hA
  clear hA
  go_enter Tryz.func87, Tryz.ntmps87
  go_wp2_with (first
    | (go_at_call 139; refine (has5_any r.list s A c _ (HI.out.below (below5 w _ _ _ _ _)) hn).mono ?_; rintro e w' ⟨rfl, rfl⟩))
  generalize hwz : World.alloc _ _ = wz
  have HD := Lib.hid (show D5 w r A c (RU.err 11) none 0 wz by rw [← hwz]; exact D5.start r A c _ (RU.err 11) none 0 w)
  have HA := Lib.hid (HD.out.old HI.out)
  have HB := Lib.hid (show ∀ wf, Kp (S23 w) wz wf → Its wf none (RU.err 11).rc.list from D5.noL (w := w) (W := wz) none)
  clear hwz
  have HF := Lib.hid (D5.fin HD.out HA.out HB.out)
  generalize RU.err 11 = xx at *
  have c0 := fun o => cell_of_row wz _ o _ _ (0, 0) HD.out.r0
  have c2 := fun o => cell_of_row wz _ o _ _ (0, 0) HD.out.r2
  have c3 := fun o => cell_of_row wz _ o _ _ (0, 0) HD.out.r3
  have c4 := fun o => cell_of_row wz _ o _ _ (0, 0) HD.out.r4
  have f2 : ∀ o, wz.frozen? ⟨w.heap.size + 1 + 1, o, none⟩ = false := fun o => frozen_of_row _ _ o _ _ HD.out.r2
  have f3 : ∀ o, wz.frozen? ⟨w.heap.size + 1 + 1 + 1, o, none⟩ = false := fun o => frozen_of_row _ _ o _ _ HD.out.r3
  have Q2 := Lib.hid HD.out.r2
  have Q3 := Lib.hid HD.out.r3
  clear HD HA HB
  go_region_with (fail)
  all_goals
    go_wp2_with fail
    generalize hwf : World.drew _ = wf
    have X2 : wf.heap[w.heap.size + 1 + 1]? = some (.cells (recC r.kind r.num r.low r.high r.real r.cap r.text (.slice A r.list.length c)) 25 (0, 0)) := by
      rw [← hwf, heap_drew]
      exact (ans_other (by omega)).trans (rec_stores Q2.out)
    have X3 : wf.heap[w.heap.size + 1 + 1 + 1]? = some (.cells (ansC xx.code xx.num xx.rc none 0) 82 (0, 0)) := by
      rw [← hwf, heap_drew]
      exact ans_all ((rec_stores_other (by omega)).trans Q3.out)
    have hk : Kp (S23 w) wz wf := by
      rw [← hwf]
      exact (kp10 (kp8g (Kp.refl _ _) (Or.inl (Or.inl rfl))) (Or.inl (Or.inr rfl))).drew
    have HP := Lib.hid (HF.out wf hk)
    have q2 := fun o => cell_of_row wf _ o _ _ (0, 0) X2
    have q3 := fun o => cell_of_row wf _ o _ _ (0, 0) X3
    clear hwf X2 X3 hk c0 c2 c3 c4 f2 f3
    exact bodyPost_ret (v := .tuple #[recV r A c, ansV xx.code xx.num xx.rc none 0]) (by simp [results, Tryz.results87, go_sem, q2, q3]) rfl HP.out
set_option maxHeartbeats 4000000 in
set_option maxRecDepth 100000 in
theorem do5_20ok (r : RC.Rc) (key : ByteArray) (n : Int) (x : Nat) (s : ByteArray) (m : RC.Rc) (must : Bool) (A L : Option Addr) (c cl : Nat) (w : World) (hA : Its w A r.list) (hn : Lim r.list.length) (hov : RU.hasN r.list s = true) :
    Calls Tryz.prog 87 #[recV r A c, actV ⟨20, key, n, x, s, m, must⟩ L cl] w (D5Post r (RU.err 0) w) := by
  have HI := Lib.hid hA
  clear hA
  go_enter Tryz.func87, Tryz.ntmps87
  go_wp2_with (first
    | (go_at_call 139; refine (has5_any r.list s A c _ (HI.out.below (below5 w _ _ _ _ _)) hn).mono ?_; rintro e w' ⟨rfl, rfl⟩))
  generalize hwz : World.alloc _ _ = wz
  have HD := Lib.hid (show D5 w r A c (RU.err 0) none 0 wz by rw [← hwz]; exact D5.start r A c _ (RU.err 0) none 0 w)
  have HA := Lib.hid (HD.out.old HI.out)
  have HB := Lib.hid (show ∀ wf, Kp (S23 w) wz wf → Its wf none (RU.err 0).rc.list from D5.noL (w := w) (W := wz) none)
  clear hwz
  have HF := Lib.hid (D5.fin HD.out HA.out HB.out)
  generalize RU.err 0 = xx at *
  have c0 := fun o => cell_of_row wz _ o _ _ (0, 0) HD.out.r0
  have c2 := fun o => cell_of_row wz _ o _ _ (0, 0) HD.out.r2
  have c3 := fun o => cell_of_row wz _ o _ _ (0, 0) HD.out.r3
  have c4 := fun o => cell_of_row wz _ o _ _ (0, 0) HD.out.r4
  have f2 : ∀ o, wz.frozen? ⟨w.heap.size + 1 + 1, o, none⟩ = false := fun o => frozen_of_row _ _ o _ _ HD.out.r2
  have f3 : ∀ o, wz.frozen? ⟨w.heap.size + 1 + 1 + 1, o, none⟩ = false := fun o => frozen_of_row _ _ o _ _ HD.out.r3
  have Q2 := Lib.hid HD.out.r2
  have Q3 := Lib.hid HD.out.r3
  clear HD HA HB
  go_region_with (fail)
  all_goals
    go_wp2_with fail
    generalize hwf : World.drew _ = wf
    have X2 : wf.heap[w.heap.size + 1 + 1]? = some (.cells (recC r.kind r.num r.low r.high r.real r.cap r.text (.slice A r.list.length c)) 25 (0, 0)) := by
      rw [← hwf, heap_drew]
      exact (ans_other (by omega)).trans (rec_stores Q2.out)
    have X3 : wf.heap[w.heap.size + 1 + 1 + 1]? = some (.cells (ansC xx.code xx.num xx.rc none 0) 82 (0, 0)) := by
      rw [← hwf, heap_drew]
      exact ans_all ((rec_stores_other (by omega)).trans Q3.out)
    have hk : Kp (S23 w) wz wf := by
      rw [← hwf]
      exact (kp10 (kp8g (Kp.refl _ _) (Or.inl (Or.inl rfl))) (Or.inl (Or.inr rfl))).drew
    have HP := Lib.hid (HF.out wf hk)
    have q2 := fun o => cell_of_row wf _ o _ _ (0, 0) X2
    have q3 := fun o => cell_of_row wf _ o _ _ (0, 0) X3
    clear hwf X2 X3 hk c0 c2 c3 c4 f2 f3
    exact bodyPost_ret (v := .tuple #[recV r A c, ansV xx.code xx.num xx.rc none 0]) (by simp [results, Tryz.results87, go_sem, q2, q3]) rfl HP.out
end Go.Proofs.YtbkcmnmbcldjoaaGreatDoor

namespace Go.Proofs.YtbkcmnmbcldjoaaGreatDoor
open Go.RowKit MM
theorem D5.rec4 {w W : World} {q : RC.Rc} {A : Option Addr} {c : Nat} (h : D5 w q A c (RU.err 0) none 0 W) (p : RC.Rc) (B : Option Addr) (cb : Nat) : D5 w q A c ⟨0, 0, p⟩ B cb ((((((((W.setCell ⟨w.heap.size + 1 + 1 + 1 + 1, 2, none⟩ (.int .i64 p.kind)).setCell ⟨w.heap.size + 1 + 1 + 1 + 1, 3, none⟩ (.int .i64 p.num)).setCell ⟨w.heap.size + 1 + 1 + 1 + 1, 4, none⟩ (.int .i64 p.low)).setCell ⟨w.heap.size + 1 + 1 + 1 + 1, 5, none⟩ (.int .i64 p.high)).setCell ⟨w.heap.size + 1 + 1 + 1 + 1, 6, none⟩ (.float .f64 p.real)).setCell ⟨w.heap.size + 1 + 1 + 1 + 1, 7, none⟩ (.int .i64 p.cap)).setCell ⟨w.heap.size + 1 + 1 + 1 + 1, 8, none⟩ (.string p.text)).setCell ⟨w.heap.size + 1 + 1 + 1 + 1, 9, none⟩ (.slice B p.list.length cb)) :=
  D5.set4 (o := 9) (v := .slice B p.list.length cb) (x' := ⟨0, 0, p⟩) (B' := B) (cb' := cb) (D5.set4 (o := 8) (v := .string p.text) (x' := ⟨0, 0, { RC.zero with kind := p.kind, num := p.num, low := p.low, high := p.high, real := p.real, cap := p.cap, text := p.text }⟩) (B' := none) (cb' := 0) (D5.set4 (o := 7) (v := .int .i64 p.cap) (x' := ⟨0, 0, { RC.zero with kind := p.kind, num := p.num, low := p.low, high := p.high, real := p.real, cap := p.cap }⟩) (B' := none) (cb' := 0) (D5.set4 (o := 6) (v := .float .f64 p.real) (x' := ⟨0, 0, { RC.zero with kind := p.kind, num := p.num, low := p.low, high := p.high, real := p.real }⟩) (B' := none) (cb' := 0) (D5.set4 (o := 5) (v := .int .i64 p.high) (x' := ⟨0, 0, { RC.zero with kind := p.kind, num := p.num, low := p.low, high := p.high }⟩) (B' := none) (cb' := 0) (D5.set4 (o := 4) (v := .int .i64 p.low) (x' := ⟨0, 0, { RC.zero with kind := p.kind, num := p.num, low := p.low }⟩) (B' := none) (cb' := 0) (D5.set4 (o := 3) (v := .int .i64 p.num) (x' := ⟨0, 0, { RC.zero with kind := p.kind, num := p.num }⟩) (B' := none) (cb' := 0) (D5.set4 (o := 2) (v := .int .i64 p.kind) (x' := ⟨0, 0, { RC.zero with kind := p.kind }⟩) (B' := none) (cb' := 0) (h) (by rfl)) (by rfl)) (by rfl)) (by rfl)) (by rfl)) (by rfl)) (by rfl)) (by rfl)
set_option maxHeartbeats 4000000 in
set_option maxRecDepth 100000 in
theorem do5_6 (r : RC.Rc) (key : ByteArray) (n : Int) (x : Nat) (s : ByteArray) (m : RC.Rc) (must : Bool) (A L : Option Addr) (c cl : Nat) (w : World) (hA : Its w A r.list) (hn : Lim r.list.length) (q : RC.Rc) (xx : RU.Ans) (hq : q = { r with text := s }) (hxx : xx = ⟨0, 0, r⟩) :
    Calls Tryz.prog 87 #[recV r A c, actV ⟨6, key, n, x, s, m, must⟩ L cl] w (D5Post q xx w) := by
  have HQ := Lib.hid hq
  have HX := Lib.hid hxx
  clear hq hxx
  have HI := Lib.hid hA
  clear hA
  go_enter Tryz.func87, Tryz.ntmps87
  go_wp2_with (first
    | (go_at_call 86
       refine (copied_any r A c _ (HI.out.below (below5 w _ _ _ _ _)) hn).mono ?_
       rintro e w2 ⟨A2, k2, rfl, ho, hnw, hb⟩
       have HS := Lib.hid ((D5.start r A c _ (RU.err 0) none 0 w).look hb)
       have ha := (hb.block (w.heap.size + 1) (by simp only [World.size_alloc]; omega)).trans (D5.act0 _ _ _ _ _ w)
       simp only [World.size_alloc] at hnw
       have HO := Lib.hid ho
       have HN := Lib.hid (show ∀ k, ob A2 = some k → w.heap.size + 5 ≤ k from fun k e => hnw k e)
       have d0 := fun o => cell_of_row w2 _ o _ _ (0, 0) HS.out.r0
       have g0 : ∀ o, w2.frozen? ⟨w.heap.size, o, none⟩ = false := fun o => frozen_of_row _ _ o _ _ HS.out.r0
       have d1 := fun o => cell_of_row w2 _ o _ _ (0, 0) ha
       have d4 := fun o => cell_of_row w2 _ o _ _ (0, 0) HS.out.r4
       have g4 : ∀ o, w2.frozen? ⟨w.heap.size + 1 + 1 + 1 + 1, o, none⟩ = false := fun o => frozen_of_row _ _ o _ _ HS.out.r4
       clear ho hnw hb ha))
  generalize hwz : World.setCell _ _ _ = wz
  have HD := Lib.hid (show D5 w q A c xx A2 k2 wz by rw [← hwz, HQ.out, HX.out]; exact D5.set0 (D5.rec4 HS.out r A2 k2) (by rfl))
  have hk : Kp (fun k => k = w.heap.size ∨ k = w.heap.size + 1 + 1 + 1 + 1) w2 wz := by
    rw [← hwz]
    refine Kp.setCell ?_ (Or.inl (Or.inl rfl)) _
    iterate 8 refine Kp.setCell ?_ (Or.inl (Or.inr rfl)) _
    exact Kp.refl _ _
  have HA := Lib.hid (show ∀ wf, Kp (S23 w) wz wf → Its wf A q.list by rw [HQ.out]; exact HD.out.old HI.out)
  have HB := Lib.hid (show ∀ wf, Kp (S23 w) wz wf → Its wf A2 xx.rc.list by rw [HX.out]; exact D5.new ((Its.own HO.out).kp hk (fun ad e x => by subst e; have := HN.out ad.block rfl; rcases x with x | x <;> omega)) HN.out)
  clear hwz d0 g0 d1 d4 g4 hk
  have HF := Lib.hid (D5.fin HD.out HA.out HB.out)
  have c0 := fun o => cell_of_row wz _ o _ _ (0, 0) HD.out.r0
  have c2 := fun o => cell_of_row wz _ o _ _ (0, 0) HD.out.r2
  have c3 := fun o => cell_of_row wz _ o _ _ (0, 0) HD.out.r3
  have c4 := fun o => cell_of_row wz _ o _ _ (0, 0) HD.out.r4
  have f2 : ∀ o, wz.frozen? ⟨w.heap.size + 1 + 1, o, none⟩ = false := fun o => frozen_of_row _ _ o _ _ HD.out.r2
  have f3 : ∀ o, wz.frozen? ⟨w.heap.size + 1 + 1 + 1, o, none⟩ = false := fun o => frozen_of_row _ _ o _ _ HD.out.r3
  have Q2 := Lib.hid HD.out.r2
  have Q3 := Lib.hid HD.out.r3
  clear HD HA HB
  go_region_with (fail)
  all_goals
    go_wp2_with fail
    generalize hwf : World.drew _ = wf
    have X2 : wf.heap[w.heap.size + 1 + 1]? = some (.cells (recC q.kind q.num q.low q.high q.real q.cap q.text (.slice A q.list.length c)) 25 (0, 0)) := by
      rw [← hwf, heap_drew]
      exact (ans_other (by omega)).trans (rec_stores Q2.out)
    have X3 : wf.heap[w.heap.size + 1 + 1 + 1]? = some (.cells (ansC xx.code xx.num xx.rc A2 k2) 82 (0, 0)) := by
      rw [← hwf, heap_drew]
      exact ans_all ((rec_stores_other (by omega)).trans Q3.out)
    have hk : Kp (S23 w) wz wf := by
      rw [← hwf]
      exact (kp10 (kp8g (Kp.refl _ _) (Or.inl (Or.inl rfl))) (Or.inl (Or.inr rfl))).drew
    have HP := Lib.hid (HF.out wf hk)
    have q2 := fun o => cell_of_row wf _ o _ _ (0, 0) X2
    have q3 := fun o => cell_of_row wf _ o _ _ (0, 0) X3
    clear hwf X2 X3 hk c0 c2 c3 c4 f2 f3
    exact bodyPost_ret (v := .tuple #[recV q A c, ansV xx.code xx.num xx.rc A2 k2]) (by simp [results, Tryz.results87, go_sem, q2, q3]) rfl HP.out
/-- How things stand while a list is gone through. -/
structure LvAt (w : World) (r : RC.Rc) (A : Option Addr) (c : Nat) (ac : Array Value) (B : Option Addr) (cb : Nat) (out : List RC.It) (wr : World) : Prop where
  d5 : D5 w r A c (RU.err 0) none 0 wr
  act : wr.heap[w.heap.size + 1]? = some (.cells ac 37 (0, 0))
  own : wr.ownsRow 0 91 2 (.slice B out.length cb) out.length (itCells out)
  new : ∀ k, ob B = some k → w.heap.size + 5 ≤ k
section
variable {w : World} {r : RC.Rc} {A : Option Addr} {c : Nat} {ac : Array Value} {B : Option Addr} {cb : Nat} {out : List RC.It} {wr wx : World}
theorem LvAt.look (h : LvAt w r A c ac B cb out wr) (hb : Below wr.heap.size wr wx) : LvAt w r A c ac B cb out wx :=
  ⟨h.d5.look hb, (hb.block _ (lt_of_heap h.act)).trans h.act, own_below h.own hb, h.new⟩
theorem LvAt.more (h : LvAt w r A c ac B cb out wr) {y : RC.It} {w3 : World} {B2 : Option Addr} {c2 : Nat} {o : Obj} (hg : (wr.alloc o).grownBy w3 (ob B)) (hat : ob B2 = ob B ∨ ob B2 = some (wr.alloc o).heap.size) (ho : w3.ownsRow 0 91 2 (.slice B2 (out.length + 1) c2) (out.length + 1) (itCells out ++ [.float .f64 y.score, .string y.name])) : LvAt w r A c ac B2 c2 (out ++ [y]) w3 := by
  have hk : Kp (fun k => ob B = some k) (wr.alloc o) w3 := Kp.grown (Kp.refl _ _) hg (fun k e => .inl e)
  have s0 := lt_of_heap h.d5.r0
  have s1 := lt_of_heap h.act
  have s2 := lt_of_heap h.d5.r2
  have s3 := lt_of_heap h.d5.r3
  have s4 := lt_of_heap h.d5.r4
  have keep : ∀ k, k < w.heap.size + 5 → k < wr.heap.size → w3.heap[k]? = wr.heap[k]? := fun k h1 h2 => (hk.block k (by simp only [World.size_alloc]; omega) (fun e => by have := h.new _ e; omega)).trans (heap_alloc_old wr o h2)
  refine ⟨⟨(keep _ (by omega) s0).trans h.d5.r0, (keep _ (by omega) s2).trans h.d5.r2, (keep _ (by omega) s3).trans h.d5.r3, (keep _ (by omega) s4).trans h.d5.r4, (h.d5.below.alloc h.d5.below.size o).trans (hk.below (by simp only [World.size_alloc]; have := h.d5.below.size; omega) (fun i hi e => by have := h.new i e; omega))⟩, (keep _ (by omega) s1).trans h.act, ?_, fun k e => ?_⟩
  · rw [itCells_append, show (out ++ [y]).length = out.length + 1 by simp]
    exact ho
  · rcases hat with h1 | h1
    · rw [h1] at e; exact h.new k e
    · rw [h1] at e; injection e with e; simp only [World.size_alloc] at e; omega
end
set_option maxHeartbeats 4000000 in
set_option maxRecDepth 100000 in
theorem do5_19 (r : RC.Rc) (key : ByteArray) (n : Int) (x : Nat) (s : ByteArray) (m : RC.Rc) (must : Bool) (A L : Option Addr) (c cl : Nat) (w : World) (hA : Its w A r.list) (hn : r.list.length ≤ 1000) (q : RC.Rc) (xx : RU.Ans) (hq : q = { r with list := r.list.filter fun y => !RC.strEq y.name s }) (hxx : xx = RU.err 0) :
    Calls Tryz.prog 87 #[recV r A c, actV ⟨19, key, n, x, s, m, must⟩ L cl] w (D5Post q xx w) := by
  have HQ := Lib.hid hq
  have HX := Lib.hid hxx
  clear hq hxx
  have HI := Lib.hid hA
  clear hA
  go_enter Tryz.func87, Tryz.ntmps87
  go_wp2_with fail
  obtain ⟨i0, hi0, hz0, hz1, hz2⟩ := info_parts item_info
  generalize hw1 : World.alloc _ _ = w1
  have H0 := Lib.hid (show LvAt w r A c (actC ⟨19, key, n, x, s, m, must⟩ L cl) (some ⟨w.heap.size + 1 + 1 + 1 + 1 + 1, 0, none⟩) 0 [] w1 by
    rw [← hw1]
    have hs := D5.start r A c (.cells (actC ⟨19, key, n, x, s, m, must⟩ L cl) 37) (RU.err 0) none 0 w
    refine ⟨hs.look (below1 _ _), (heap_alloc_old _ _ (by simp only [World.size_alloc]; omega)).trans (D5.act0 _ _ _ _ _ w), ?_, fun k e => (by injection e with e; have e' : w.heap.size + 1 + 1 + 1 + 1 + 1 = k := e; omega)⟩
    have h := World.ownsRow_lit (base := 0) (e := 91) (size := 2) (((((w.alloc (.cells (recC r.kind r.num r.low r.high r.real r.cap r.text (.slice A r.list.length c)) 25)).alloc (.cells (actC ⟨19, key, n, x, s, m, must⟩ L cl) 37)).alloc (.cells (recC 0 0 0 0 0 0 ⟨#[]⟩ (.slice none 0 0)) 25)).alloc (.cells (ansC 0 0 RC.zero none 0) 82)).alloc (.cells (ansC 0 0 RC.zero none 0) 82)) #[] 0 (Nat.zero_le _) (by unfold maxLen; omega) rfl
    simp only [World.size_alloc] at h
    exact h)
  clear hw1
  go_loopw [7, 8] (fun t7 t8 wr => ∃ (i : Nat) (out : List RC.It) (B : Option Addr) (cb : Nat), t8 = .int .i64 i ∧ t7 = .slice B out.length cb ∧ i ≤ r.list.length ∧ out.length ≤ i ∧ out ++ ((r.list.drop i).filter fun y => !RC.strEq y.name s) = (r.list.filter fun y => !RC.strEq y.name s) ∧ LvAt w r A c (actC ⟨19, key, n, x, s, m, must⟩ L cl) B cb out wr) (fun _ t8 _ => r.list.length - (intOf t8).toNat)
  case atStart => exact ⟨0, [], _, _, rfl, rfl, Nat.zero_le _, Nat.le_refl _, rfl, H0.out⟩
  case round =>
    obtain ⟨i, out, B, cb, rfl, rfl, hi, hol, heq, hv⟩ := hrel
    have HV := Lib.hid hv
    have HEq := Lib.hid heq
    clear hv heq H0
    have b0 := fun o => cell_of_row wr _ o _ _ (0, 0) HV.out.d5.r0
    have b1 := fun o => cell_of_row wr _ o _ _ (0, 0) HV.out.act
    have z0 := lt_of_heap HV.out.d5.r0
    have z1 := lt_of_heap HV.out.act
    by_cases hlt : i < r.list.length
    · have hd := List.drop_eq_getElem_cons hlt
      have HEq2 := HEq
      rw [hd] at HEq2
      have hl1 : r.list.length ≤ 1000 := hn
      rcases HI.out with h0 | ⟨b, off, rfl, hb, hrow⟩
      · rw [h0] at hlt; simp at hlt
      have hc := hrow i r.list[i] (List.getElem?_eq_getElem hlt)
      clear hrow hd
      generalize r.list[i] = y at *
      have y0 := below_keep HV.out.d5.below hc.1
      have y1 := below_keep HV.out.d5.below hc.2
      have HC0 := Lib.hid hc.1
      have HC1 := Lib.hid hc.2
      have hi1 : (i : Int) < (r.list.length : Int) := by omega
      clear hc
      go_wp2_with fail
      go_cut [174] (fun t174 wx => t174 = .bool (!RC.strEq y.name s) ∧ Below wr.heap.size wr wx)
      case first =>
        cases he : RC.strEq y.name s
        · have he' : (y.name.toList == s.toList) = false := he
          have He := Lib.hid he
          clear he
          go_quiet (fail)
          go_wp2_with fail
          go_meet
          exact ⟨by rw [He.out]; rfl, rfl, rfl, rfl, Nat.le_refl _, fun _ _ => rfl⟩
        · have he' : (y.name.toList == s.toList) = true := he
          have He := Lib.hid he
          clear he
          go_quiet (fail)
          go_wp2_with fail
          go_meet
          exact ⟨by rw [He.out]; rfl, rfl, rfl, rfl, Nat.le_refl _, fun _ _ => rfl⟩
      case rest =>
      obtain ⟨rfl, hb2⟩ := hcut
      generalize hwc : wc = w2 at *
      clear hwc
      have HV2 := Lib.hid (HV.out.look hb2)
      clear y0 y1 b0 b1 hb2 z0 z1
      have y0 := below_keep HV2.out.d5.below HC0.out
      have y1 := below_keep HV2.out.d5.below HC1.out
      have b0 := fun o => cell_of_row w2 _ o _ _ (0, 0) HV2.out.d5.r0
      have z0 := lt_of_heap HV2.out.d5.r0
      have HS := Lib.hid (show ((y :: r.list.drop (i + 1)).filter fun y => !RC.strEq y.name s) = if (!RC.strEq y.name s) = true then y :: ((r.list.drop (i + 1)).filter fun y => !RC.strEq y.name s) else ((r.list.drop (i + 1)).filter fun y => !RC.strEq y.name s) from List.filter_cons)
      generalize RC.strEq y.name s = a1 at *
      cases a1
      case true =>
        go_wp2_with fail
        go_roundw
        case rel => exact ⟨i + 1, out, B, cb, by go_num, rfl, by omega, by omega, by rw [← HEq2.out, HS.out]; rfl, HV2.out⟩
        case measure => simp [intOf]; omega
      go_wp2_with (first
        | (at_builtin
           refine wpList_append_at rfl _ _ _ _ rfl 91 i0 _ 2 24 Tryz.underlying23 hi0 hz0 hz1 hz2 rfl B (out.length) cb (itCells (out)) rfl (own_below HV2.out.own (below1 _ _)) _ 1 _ rfl (src_it Tryz.underlying23 _ _ _ _ rfl rfl rfl) (by unfold maxLen; omega) (by omega) ?_
           intro B5 c5 w5 ho hg hat
           have H5 := Lib.hid (HV2.out.more (y := y) hg hat ho)
           clear ho hg hat))
      go_wp2_with fail
      go_roundw
      case rel =>
        refine ⟨i + 1, out ++ [y], B5, c5, by go_num, by simp, by omega, by simp; omega, ?_, H5.out⟩
        rw [List.append_assoc, List.singleton_append, ← HEq2.out, HS.out]
        rfl
      case measure => simp [intOf]; omega
    · have hi' : i = r.list.length := by omega
      subst hi'
      have hi1 : ¬ (r.list.length : Int) < (r.list.length : Int) := by omega
      have HEn := HEq
      rw [List.drop_length] at HEn
      have HT := Lib.hid (show out = r.list.filter fun y => !RC.strEq y.name s by have := HEn.out; rw [List.filter_nil, List.append_nil] at this; exact this)
      have g0 : ∀ o, wr.frozen? ⟨w.heap.size, o, none⟩ = false := fun o => frozen_of_row _ _ o _ _ HV.out.d5.r0
      rw [← HT.out] at HQ
      clear HEn HEq HT
      go_wp2_with fail
      generalize hwz : World.setCell _ _ _ = wz
      have HD := Lib.hid (show D5 w q B cb xx none 0 wz by rw [← hwz, HQ.out, HX.out]; exact D5.set0 HV.out.d5 (by rfl))
      have HA := Lib.hid (show ∀ wf, Kp (S23 w) wz wf → Its wf B q.list by rw [HQ.out]; exact D5.new (by rw [← hwz]; exact (Its.own HV.out.own).kp (Kp.setCell (S := fun k => k = w.heap.size) (Kp.refl _ _) (Or.inl rfl) _) (fun ad e x => by subst e; have := HV.out.new ad.block rfl; omega)) HV.out.new)
      have HB := Lib.hid (show ∀ wf, Kp (S23 w) wz wf → Its wf none xx.rc.list by rw [HX.out]; exact D5.noL (w := w) (W := wz) none)
      clear hwz b0 b1 g0 z0 z1
      have HF := Lib.hid (D5.fin HD.out HA.out HB.out)
      have c0 := fun o => cell_of_row wz _ o _ _ (0, 0) HD.out.r0
      have c2 := fun o => cell_of_row wz _ o _ _ (0, 0) HD.out.r2
      have c3 := fun o => cell_of_row wz _ o _ _ (0, 0) HD.out.r3
      have c4 := fun o => cell_of_row wz _ o _ _ (0, 0) HD.out.r4
      have f2 : ∀ o, wz.frozen? ⟨w.heap.size + 1 + 1, o, none⟩ = false := fun o => frozen_of_row _ _ o _ _ HD.out.r2
      have f3 : ∀ o, wz.frozen? ⟨w.heap.size + 1 + 1 + 1, o, none⟩ = false := fun o => frozen_of_row _ _ o _ _ HD.out.r3
      have Q2 := Lib.hid HD.out.r2
      have Q3 := Lib.hid HD.out.r3
      clear HD HA HB
      go_region_with (fail)
      all_goals
        go_wp2_with fail
        generalize hwf : World.drew _ = wf
        have X2 : wf.heap[w.heap.size + 1 + 1]? = some (.cells (recC q.kind q.num q.low q.high q.real q.cap q.text (.slice B q.list.length cb)) 25 (0, 0)) := by
          rw [← hwf, heap_drew]
          exact (ans_other (by omega)).trans (rec_stores Q2.out)
        have X3 : wf.heap[w.heap.size + 1 + 1 + 1]? = some (.cells (ansC xx.code xx.num xx.rc none 0) 82 (0, 0)) := by
          rw [← hwf, heap_drew]
          exact ans_all ((rec_stores_other (by omega)).trans Q3.out)
        have hk : Kp (S23 w) wz wf := by
          rw [← hwf]
          exact (kp10 (kp8g (Kp.refl _ _) (Or.inl (Or.inl rfl))) (Or.inl (Or.inr rfl))).drew
        have HP := Lib.hid (HF.out wf hk)
        have q2 := fun o => cell_of_row wf _ o _ _ (0, 0) X2
        have q3 := fun o => cell_of_row wf _ o _ _ (0, 0) X3
        clear hwf X2 X3 hk c0 c2 c3 c4 f2 f3
        exact bodyPost_ret (v := .tuple #[recV q B cb, ansV xx.code xx.num xx.rc none 0]) (by simp [results, Tryz.results87, go_sem, q2, q3]) rfl HP.out
end Go.Proofs.YtbkcmnmbcldjoaaGreatDoor

namespace Go.Proofs.YtbkcmnmbcldjoaaGreatDoor
open Go.RowKit MM
set_option linter.unusedVariables false
set_option linter.unusedSimpArgs false
set_option linter.unusedSimpArgs false in
set_option maxHeartbeats 16000000 in
set_option maxRecDepth 100000 in
theorem laid_better (l : List RC.It) (x : RC.It) (A : Option Addr) (c : Nat) (w : World) (hA : Its w A l) (hn : l.length ≤ 1000) (hs : ∀ y ∈ l, MF.W64 y.score) (hx : MF.W64 x.score) :
    Calls Tryz.prog 140 #[.slice A l.length c, itV x, .bool false] w (CPost (RU.laidG (fun y => RC.better y x) (fun y => RU.sameK y x) x l false) w) := by
  obtain ⟨i0, hi0, hz0, hz1, hz2⟩ := info_parts item_info
  have HA := Lib.hid hA
  have HW := Lib.hid hs
  clear hA hs
  go_enter Tryz.func140, Tryz.ntmps140
  go_wp2_with fail
  generalize hw1 : World.alloc (World.alloc w _) _ = w1
  have H0 := Lib.hid (show LdAt w x (some ⟨w.heap.size + 1, 0, none⟩) 0 [] w1 by
    rw [← hw1]
    refine ⟨heap_alloc2_old w _ _, ?_, fun k e => (by injection e with e; have e' : w.heap.size + 1 = k := e; omega), below2 w _ _⟩
    have h := World.ownsRow_lit (base := 0) (e := 91) (size := 2) (w.alloc (.cells #[.float .f64 x.score, .string x.name] 91)) #[] 0 (Nat.zero_le _) (by unfold maxLen; omega) rfl
    rw [World.size_alloc] at h
    exact h)
  clear hw1
  go_loopw [7, 8, 9] (fun t7 t8 t9 wr => ∃ (i : Nat) (d : Bool) (out : List RC.It) (B : Option Addr) (cb : Nat), t9 = .int .i64 i ∧ t8 = .bool d ∧ t7 = .slice B out.length cb ∧ i ≤ l.length ∧ out.length ≤ 2 * i ∧ out ++ RU.laidG (fun y => RC.better y x) (fun y => RU.sameK y x) x (l.drop i) d = RU.laidG (fun y => RC.better y x) (fun y => RU.sameK y x) x l false ∧ LdAt w x B cb out wr) (fun _ _ t9 _ => l.length - (intOf t9).toNat)
  case atStart => exact ⟨0, false, [], _, _, rfl, rfl, rfl, Nat.zero_le _, Nat.le_refl _, rfl, H0.out⟩
  case round =>
    obtain ⟨i, d, out, B, cb, rfl, rfl, rfl, hi, hol, heq, hv⟩ := hrel
    have HV := Lib.hid hv
    have HEq := Lib.hid heq
    clear hv heq H0
    by_cases hlt : i < l.length
    · have hd := List.drop_eq_getElem_cons hlt
      have HEq2 := HEq
      rw [hd] at HEq2
      rcases HA.out with h0 | ⟨b, off, rfl, hb, hrow⟩
      · subst h0; simp at hlt
      have hc := hrow i l[i] (List.getElem?_eq_getElem hlt)
      clear hrow hd
      have hwy := HW.out _ (List.getElem_mem hlt)
      generalize l[i] = y at *
      have y0 := below_keep HV.out.below hc.1
      have y1 := below_keep HV.out.below hc.2
      have HC0 := Lib.hid hc.1
      have HC1 := Lib.hid hc.2
      have x0 := fun o => cell_of_row wr _ o _ _ (0, 0) HV.out.box
      have hi1 : (i : Int) < (l.length : Int) := by omega
      clear hc
      go_wp2_with fail
      go_cut [10] (fun t10 wx => t10 = .bool (RC.better y x) ∧ Below wr.heap.size wr wx)
      case first =>
        have HAh := Lib.hid (fun u => rahead_any y x u hwy hx)
        have x0' : wr.cell? ⟨w.heap.size, 0, none⟩ = some (.float .f64 x.score) := x0 0
        have x1' : wr.cell? ⟨w.heap.size, 1, none⟩ = some (.string x.name) := x0 1
        cases hbt : RC.better y x
        · rw [hbt] at HAh
          have Hb := Lib.hid hbt
          clear hbt
          refine wp_region_held_drew (S := fun W => Below wr.heap.size wr W) (by kernel_rfl) (below_drew (Below.refl _ _)) (fun hHeld => ?_)
          refine wpAnyH_take (i := 0) (oi := ⟨_, _, _, _, _, _⟩) (v := ?_) rfl (by kernel_rfl) (by kernel_rfl) (by kernel_rfl) (fun _ _ _ h => h) (Or.inl ⟨by kernel_rfl, ?_⟩) hHeld ?_
          rotate_left 1
          · intro W hW; first | (go_simp; done) | (go_simp; with_reducible rfl)
          try simp only [Act.put, List.setIfInBounds_toArray, List.set_cons_zero, List.set_cons_succ]
          refine wpAnyH_take (i := 1) (oi := ⟨_, _, _, _, _, _⟩) (v := ?_) rfl (by kernel_rfl) (by kernel_rfl) (by kernel_rfl) (fun _ _ _ h => h) (Or.inl ⟨by kernel_rfl, ?_⟩) hHeld ?_
          rotate_left 1
          · intro W hW; first | (go_simp; done) | (go_simp; with_reducible rfl)
          try simp only [Act.put, List.setIfInBounds_toArray, List.set_cons_zero, List.set_cons_succ]
          refine wpAnyH_take (i := 2) (oi := ⟨_, _, _, _, _, _⟩) (v := ?_) rfl (by kernel_rfl) (by kernel_rfl) (by kernel_rfl) (fun _ _ _ h => h) (Or.inl ⟨by kernel_rfl, ?_⟩) hHeld ?_
          rotate_left 1
          · intro W hW; first | (go_simp; done) | (go_simp; with_reducible rfl)
          try simp only [Act.put, List.setIfInBounds_toArray, List.set_cons_zero, List.set_cons_succ]
          refine wpAnyH_take (i := 3) (oi := ⟨_, _, _, _, _, _⟩) (v := ?_) rfl (by kernel_rfl) (by kernel_rfl) (by kernel_rfl) (fun _ _ _ h => h) (Or.inl ⟨by kernel_rfl, ?_⟩) hHeld ?_
          rotate_left 1
          · intro W hW; first | (go_simp; done) | (go_simp; with_reducible rfl)
          try simp only [Act.put, List.setIfInBounds_toArray, List.set_cons_zero, List.set_cons_succ]
          refine wpAnyH_take (i := 4) (oi := ⟨_, _, _, _, _, _⟩) (v := ?_) rfl (by kernel_rfl) (by kernel_rfl) (by kernel_rfl) (fun _ _ _ h => h) (Or.inl ⟨by kernel_rfl, ?_⟩) hHeld ?_
          rotate_left 1
          · intro W hW; first | (go_simp; done) | (go_simp; with_reducible rfl)
          try simp only [Act.put, List.setIfInBounds_toArray, List.set_cons_zero, List.set_cons_succ]
          refine wpAnyH_take (i := 5) (oi := ⟨_, _, _, _, _, _⟩) (v := ?_) rfl (by kernel_rfl) (by kernel_rfl) (by kernel_rfl) (fun _ _ _ h => h) (Or.inl ⟨by kernel_rfl, ?_⟩) hHeld ?_
          rotate_left 1
          · intro W hW; first | (go_simp; done) | (go_simp; with_reducible rfl)
          try simp only [Act.put, List.setIfInBounds_toArray, List.set_cons_zero, List.set_cons_succ]
          refine wpAnyH_take (i := 6) (oi := ⟨_, _, _, _, _, _⟩) (v := ?_) rfl (by kernel_rfl) (by kernel_rfl) (by kernel_rfl) (fun _ _ _ h => h) (Or.inl ⟨by kernel_rfl, ?_⟩) hHeld ?_
          rotate_left 1
          · intro W hW; have k0 := below_keep hW y0; have k1 := below_keep hW y1; have k2 := below_keep hW x0'; have k3 := below_keep hW x1'; first | (go_simp; done) | (go_simp; with_reducible rfl)
          try simp only [Act.put, List.setIfInBounds_toArray, List.set_cons_zero, List.set_cons_succ]
          refine wpAnyH_take (i := 7) (oi := ⟨_, _, _, _, _, _⟩) (v := ?_) rfl (by kernel_rfl) (by kernel_rfl) (by kernel_rfl) (fun _ _ _ h => h) (Or.inl ⟨by kernel_rfl, ?_⟩) hHeld ?_
          rotate_left 1
          · intro W hW; have k0 := below_keep hW y0; have k1 := below_keep hW y1; have k2 := below_keep hW x0'; have k3 := below_keep hW x1'; first | (go_simp; done) | (go_simp; with_reducible rfl)
          try simp only [Act.put, List.setIfInBounds_toArray, List.set_cons_zero, List.set_cons_succ]
          refine wpAnyH_ready (rs := [8]) (by kernel_rfl) (by simp) ?_
          refine AllReadyH.cons rfl (fun K hK => ?_) AllReadyH.nil
          go_simp
          refine (HAh.out _).mono ?_
          rintro e w2 ⟨rfl, hb2⟩
          go_wp2_with fail
          refine hK.out _ _ ?_ (fun hHeld2 => ?_)
          · exact hHeld.trans (hb2.mono hHeld.size)
          clear hK K
          try simp only [Act.put, List.setIfInBounds_toArray, List.set_cons_zero, List.set_cons_succ]
          refine wpAnyH_take (i := 9) (oi := ⟨_, _, _, _, _, _⟩) (v := ?_) rfl (by kernel_rfl) (by kernel_rfl) (by kernel_rfl) (fun _ _ _ h => h) (Or.inl ⟨by kernel_rfl, ?_⟩) hHeld2 ?_
          rotate_left 1
          · intro W hW; first | (go_simp; done) | (go_simp; with_reducible rfl)
          try simp only [Act.put, List.setIfInBounds_toArray, List.set_cons_zero, List.set_cons_succ]
          refine wpAnyH_take (i := 10) (oi := ⟨_, _, _, _, _, _⟩) (v := ?_) rfl (by kernel_rfl) (by kernel_rfl) (by kernel_rfl) (fun _ _ _ h => h) (Or.inl ⟨by kernel_rfl, ?_⟩) hHeld2 ?_
          rotate_left 1
          · intro W hW; first | (go_simp; done) | (go_simp; with_reducible rfl)
          try simp only [Act.put, List.setIfInBounds_toArray, List.set_cons_zero, List.set_cons_succ]
          refine wpAnyH_take (i := 11) (oi := ⟨_, _, _, _, _, _⟩) (v := ?_) rfl (by kernel_rfl) (by kernel_rfl) (by kernel_rfl) (fun _ _ _ h => h) (Or.inl ⟨by kernel_rfl, ?_⟩) hHeld2 ?_
          rotate_left 1
          · intro W hW; first | (go_simp; done) | (go_simp; with_reducible rfl)
          try simp only [Act.put, List.setIfInBounds_toArray, List.set_cons_zero, List.set_cons_succ]
          refine wpAnyH_take (i := 12) (oi := ⟨_, _, _, _, _, _⟩) (v := ?_) rfl (by kernel_rfl) (by kernel_rfl) (by kernel_rfl) (fun _ _ _ h => h) (Or.inl ⟨by kernel_rfl, ?_⟩) hHeld2 ?_
          rotate_left 1
          · intro W hW; first | (go_simp; done) | (go_simp; with_reducible rfl)
          try simp only [Act.put, List.setIfInBounds_toArray, List.set_cons_zero, List.set_cons_succ]
          refine wpAnyH_take (i := 13) (oi := ⟨_, _, _, _, _, _⟩) (v := undef) rfl (by kernel_rfl) (by kernel_rfl) (by kernel_rfl) (fun _ _ _ h => h) (Or.inr ⟨by kernel_rfl, rfl⟩) hHeld2 ?_
          try simp only [Act.put, List.setIfInBounds_toArray, List.set_cons_zero, List.set_cons_succ]
          refine wpAnyH_take (i := 14) (oi := ⟨_, _, _, _, _, _⟩) (v := undef) rfl (by kernel_rfl) (by kernel_rfl) (by kernel_rfl) (fun _ _ _ h => h) (Or.inr ⟨by kernel_rfl, rfl⟩) hHeld2 ?_
          try simp only [Act.put, List.setIfInBounds_toArray, List.set_cons_zero, List.set_cons_succ]
          refine wpAnyH_take (i := 15) (oi := ⟨_, _, _, _, _, _⟩) (v := undef) rfl (by kernel_rfl) (by kernel_rfl) (by kernel_rfl) (fun _ _ _ h => h) (Or.inr ⟨by kernel_rfl, rfl⟩) hHeld2 ?_
          try simp only [Act.put, List.setIfInBounds_toArray, List.set_cons_zero, List.set_cons_succ]
          refine wpAnyH_take (i := 16) (oi := ⟨_, _, _, _, _, _⟩) (v := undef) rfl (by kernel_rfl) (by kernel_rfl) (by kernel_rfl) (fun _ _ _ h => h) (Or.inr ⟨by kernel_rfl, rfl⟩) hHeld2 ?_
          try simp only [Act.put, List.setIfInBounds_toArray, List.set_cons_zero, List.set_cons_succ]
          refine wpAnyH_take (i := 17) (oi := ⟨_, _, _, _, _, _⟩) (v := undef) rfl (by kernel_rfl) (by kernel_rfl) (by kernel_rfl) (fun _ _ _ h => h) (Or.inr ⟨by kernel_rfl, rfl⟩) hHeld2 ?_
          try simp only [Act.put, List.setIfInBounds_toArray, List.set_cons_zero, List.set_cons_succ]
          refine wpAnyH_take (i := 18) (oi := ⟨_, _, _, _, _, _⟩) (v := undef) rfl (by kernel_rfl) (by kernel_rfl) (by kernel_rfl) (fun _ _ _ h => h) (Or.inr ⟨by kernel_rfl, rfl⟩) hHeld2 ?_
          try simp only [Act.put, List.setIfInBounds_toArray, List.set_cons_zero, List.set_cons_succ]
          refine wpAnyH_take (i := 19) (oi := ⟨_, _, _, _, _, _⟩) (v := undef) rfl (by kernel_rfl) (by kernel_rfl) (by kernel_rfl) (fun _ _ _ h => h) (Or.inr ⟨by kernel_rfl, rfl⟩) hHeld2 ?_
          try simp only [Act.put, List.setIfInBounds_toArray, List.set_cons_zero, List.set_cons_succ]
          refine wpAnyH_take (i := 20) (oi := ⟨_, _, _, _, _, _⟩) (v := undef) rfl (by kernel_rfl) (by kernel_rfl) (by kernel_rfl) (fun _ _ _ h => h) (Or.inr ⟨by kernel_rfl, rfl⟩) hHeld2 ?_
          try simp only [Act.put, List.setIfInBounds_toArray, List.set_cons_zero, List.set_cons_succ]
          refine wpAnyH_take (i := 21) (oi := ⟨_, _, _, _, _, _⟩) (v := ?_) rfl (by kernel_rfl) (by kernel_rfl) (by kernel_rfl) (fun _ _ _ h => h) (Or.inl ⟨by kernel_rfl, ?_⟩) hHeld2 ?_
          rotate_left 1
          · intro W hW; first | (go_simp; done) | (go_simp; with_reducible rfl)
          try simp only [Act.put, List.setIfInBounds_toArray, List.set_cons_zero, List.set_cons_succ]
          refine wpAnyH_take (i := 22) (oi := ⟨_, _, _, _, _, _⟩) (v := ?_) rfl (by kernel_rfl) (by kernel_rfl) (by kernel_rfl) (fun _ _ _ h => h) (Or.inl ⟨by kernel_rfl, ?_⟩) hHeld2 ?_
          rotate_left 1
          · intro W hW; first | (go_simp; done) | (go_simp; with_reducible rfl)
          try simp only [Act.put, List.setIfInBounds_toArray, List.set_cons_zero, List.set_cons_succ]
          refine wpAnyH_take (i := 23) (oi := ⟨_, _, _, _, _, _⟩) (v := ?_) rfl (by kernel_rfl) (by kernel_rfl) (by kernel_rfl) (fun _ _ _ h => h) (Or.inl ⟨by kernel_rfl, ?_⟩) hHeld2 ?_
          rotate_left 1
          · intro W hW; first | (go_simp; done) | (go_simp; with_reducible rfl)
          try simp only [Act.put, List.setIfInBounds_toArray, List.set_cons_zero, List.set_cons_succ]
          refine wpAnyH_done (by kernel_rfl) ?_ _
          go_wp2_with fail
          go_meet
          exact ⟨by rw [Hb.out], hHeld2⟩
        · rw [hbt] at HAh
          have Hb := Lib.hid hbt
          clear hbt
          refine wp_region_held_drew (S := fun W => Below wr.heap.size wr W) (by kernel_rfl) (below_drew (Below.refl _ _)) (fun hHeld => ?_)
          refine wpAnyH_take (i := 0) (oi := ⟨_, _, _, _, _, _⟩) (v := ?_) rfl (by kernel_rfl) (by kernel_rfl) (by kernel_rfl) (fun _ _ _ h => h) (Or.inl ⟨by kernel_rfl, ?_⟩) hHeld ?_
          rotate_left 1
          · intro W hW; first | (go_simp; done) | (go_simp; with_reducible rfl)
          try simp only [Act.put, List.setIfInBounds_toArray, List.set_cons_zero, List.set_cons_succ]
          refine wpAnyH_take (i := 1) (oi := ⟨_, _, _, _, _, _⟩) (v := ?_) rfl (by kernel_rfl) (by kernel_rfl) (by kernel_rfl) (fun _ _ _ h => h) (Or.inl ⟨by kernel_rfl, ?_⟩) hHeld ?_
          rotate_left 1
          · intro W hW; first | (go_simp; done) | (go_simp; with_reducible rfl)
          try simp only [Act.put, List.setIfInBounds_toArray, List.set_cons_zero, List.set_cons_succ]
          refine wpAnyH_take (i := 2) (oi := ⟨_, _, _, _, _, _⟩) (v := ?_) rfl (by kernel_rfl) (by kernel_rfl) (by kernel_rfl) (fun _ _ _ h => h) (Or.inl ⟨by kernel_rfl, ?_⟩) hHeld ?_
          rotate_left 1
          · intro W hW; first | (go_simp; done) | (go_simp; with_reducible rfl)
          try simp only [Act.put, List.setIfInBounds_toArray, List.set_cons_zero, List.set_cons_succ]
          refine wpAnyH_take (i := 3) (oi := ⟨_, _, _, _, _, _⟩) (v := ?_) rfl (by kernel_rfl) (by kernel_rfl) (by kernel_rfl) (fun _ _ _ h => h) (Or.inl ⟨by kernel_rfl, ?_⟩) hHeld ?_
          rotate_left 1
          · intro W hW; first | (go_simp; done) | (go_simp; with_reducible rfl)
          try simp only [Act.put, List.setIfInBounds_toArray, List.set_cons_zero, List.set_cons_succ]
          refine wpAnyH_take (i := 4) (oi := ⟨_, _, _, _, _, _⟩) (v := ?_) rfl (by kernel_rfl) (by kernel_rfl) (by kernel_rfl) (fun _ _ _ h => h) (Or.inl ⟨by kernel_rfl, ?_⟩) hHeld ?_
          rotate_left 1
          · intro W hW; first | (go_simp; done) | (go_simp; with_reducible rfl)
          try simp only [Act.put, List.setIfInBounds_toArray, List.set_cons_zero, List.set_cons_succ]
          refine wpAnyH_take (i := 5) (oi := ⟨_, _, _, _, _, _⟩) (v := ?_) rfl (by kernel_rfl) (by kernel_rfl) (by kernel_rfl) (fun _ _ _ h => h) (Or.inl ⟨by kernel_rfl, ?_⟩) hHeld ?_
          rotate_left 1
          · intro W hW; first | (go_simp; done) | (go_simp; with_reducible rfl)
          try simp only [Act.put, List.setIfInBounds_toArray, List.set_cons_zero, List.set_cons_succ]
          refine wpAnyH_take (i := 6) (oi := ⟨_, _, _, _, _, _⟩) (v := ?_) rfl (by kernel_rfl) (by kernel_rfl) (by kernel_rfl) (fun _ _ _ h => h) (Or.inl ⟨by kernel_rfl, ?_⟩) hHeld ?_
          rotate_left 1
          · intro W hW; have k0 := below_keep hW y0; have k1 := below_keep hW y1; have k2 := below_keep hW x0'; have k3 := below_keep hW x1'; first | (go_simp; done) | (go_simp; with_reducible rfl)
          try simp only [Act.put, List.setIfInBounds_toArray, List.set_cons_zero, List.set_cons_succ]
          refine wpAnyH_take (i := 7) (oi := ⟨_, _, _, _, _, _⟩) (v := ?_) rfl (by kernel_rfl) (by kernel_rfl) (by kernel_rfl) (fun _ _ _ h => h) (Or.inl ⟨by kernel_rfl, ?_⟩) hHeld ?_
          rotate_left 1
          · intro W hW; have k0 := below_keep hW y0; have k1 := below_keep hW y1; have k2 := below_keep hW x0'; have k3 := below_keep hW x1'; first | (go_simp; done) | (go_simp; with_reducible rfl)
          try simp only [Act.put, List.setIfInBounds_toArray, List.set_cons_zero, List.set_cons_succ]
          refine wpAnyH_ready (rs := [8]) (by kernel_rfl) (by simp) ?_
          refine AllReadyH.cons rfl (fun K hK => ?_) AllReadyH.nil
          go_simp
          refine (HAh.out _).mono ?_
          rintro e w2 ⟨rfl, hb2⟩
          go_wp2_with fail
          refine hK.out _ _ ?_ (fun hHeld2 => ?_)
          · exact hHeld.trans (hb2.mono hHeld.size)
          clear hK K
          try simp only [Act.put, List.setIfInBounds_toArray, List.set_cons_zero, List.set_cons_succ]
          refine wpAnyH_take (i := 9) (oi := ⟨_, _, _, _, _, _⟩) (v := ?_) rfl (by kernel_rfl) (by kernel_rfl) (by kernel_rfl) (fun _ _ _ h => h) (Or.inl ⟨by kernel_rfl, ?_⟩) hHeld2 ?_
          rotate_left 1
          · intro W hW; first | (go_simp; done) | (go_simp; with_reducible rfl)
          try simp only [Act.put, List.setIfInBounds_toArray, List.set_cons_zero, List.set_cons_succ]
          refine wpAnyH_take (i := 10) (oi := ⟨_, _, _, _, _, _⟩) (v := ?_) rfl (by kernel_rfl) (by kernel_rfl) (by kernel_rfl) (fun _ _ _ h => h) (Or.inl ⟨by kernel_rfl, ?_⟩) hHeld2 ?_
          rotate_left 1
          · intro W hW; first | (go_simp; done) | (go_simp; with_reducible rfl)
          try simp only [Act.put, List.setIfInBounds_toArray, List.set_cons_zero, List.set_cons_succ]
          refine wpAnyH_take (i := 11) (oi := ⟨_, _, _, _, _, _⟩) (v := undef) rfl (by kernel_rfl) (by kernel_rfl) (by kernel_rfl) (fun _ _ _ h => h) (Or.inr ⟨by kernel_rfl, rfl⟩) hHeld2 ?_
          try simp only [Act.put, List.setIfInBounds_toArray, List.set_cons_zero, List.set_cons_succ]
          refine wpAnyH_take (i := 12) (oi := ⟨_, _, _, _, _, _⟩) (v := undef) rfl (by kernel_rfl) (by kernel_rfl) (by kernel_rfl) (fun _ _ _ h => h) (Or.inr ⟨by kernel_rfl, rfl⟩) hHeld2 ?_
          try simp only [Act.put, List.setIfInBounds_toArray, List.set_cons_zero, List.set_cons_succ]
          refine wpAnyH_take (i := 13) (oi := ⟨_, _, _, _, _, _⟩) (v := undef) rfl (by kernel_rfl) (by kernel_rfl) (by kernel_rfl) (fun _ _ _ h => h) (Or.inr ⟨by kernel_rfl, rfl⟩) hHeld2 ?_
          try simp only [Act.put, List.setIfInBounds_toArray, List.set_cons_zero, List.set_cons_succ]
          refine wpAnyH_take (i := 14) (oi := ⟨_, _, _, _, _, _⟩) (v := undef) rfl (by kernel_rfl) (by kernel_rfl) (by kernel_rfl) (fun _ _ _ h => h) (Or.inr ⟨by kernel_rfl, rfl⟩) hHeld2 ?_
          try simp only [Act.put, List.setIfInBounds_toArray, List.set_cons_zero, List.set_cons_succ]
          refine wpAnyH_take (i := 15) (oi := ⟨_, _, _, _, _, _⟩) (v := undef) rfl (by kernel_rfl) (by kernel_rfl) (by kernel_rfl) (fun _ _ _ h => h) (Or.inr ⟨by kernel_rfl, rfl⟩) hHeld2 ?_
          try simp only [Act.put, List.setIfInBounds_toArray, List.set_cons_zero, List.set_cons_succ]
          refine wpAnyH_take (i := 16) (oi := ⟨_, _, _, _, _, _⟩) (v := undef) rfl (by kernel_rfl) (by kernel_rfl) (by kernel_rfl) (fun _ _ _ h => h) (Or.inr ⟨by kernel_rfl, rfl⟩) hHeld2 ?_
          try simp only [Act.put, List.setIfInBounds_toArray, List.set_cons_zero, List.set_cons_succ]
          refine wpAnyH_take (i := 17) (oi := ⟨_, _, _, _, _, _⟩) (v := undef) rfl (by kernel_rfl) (by kernel_rfl) (by kernel_rfl) (fun _ _ _ h => h) (Or.inr ⟨by kernel_rfl, rfl⟩) hHeld2 ?_
          try simp only [Act.put, List.setIfInBounds_toArray, List.set_cons_zero, List.set_cons_succ]
          refine wpAnyH_take (i := 18) (oi := ⟨_, _, _, _, _, _⟩) (v := undef) rfl (by kernel_rfl) (by kernel_rfl) (by kernel_rfl) (fun _ _ _ h => h) (Or.inr ⟨by kernel_rfl, rfl⟩) hHeld2 ?_
          try simp only [Act.put, List.setIfInBounds_toArray, List.set_cons_zero, List.set_cons_succ]
          refine wpAnyH_take (i := 19) (oi := ⟨_, _, _, _, _, _⟩) (v := undef) rfl (by kernel_rfl) (by kernel_rfl) (by kernel_rfl) (fun _ _ _ h => h) (Or.inr ⟨by kernel_rfl, rfl⟩) hHeld2 ?_
          try simp only [Act.put, List.setIfInBounds_toArray, List.set_cons_zero, List.set_cons_succ]
          refine wpAnyH_take (i := 20) (oi := ⟨_, _, _, _, _, _⟩) (v := undef) rfl (by kernel_rfl) (by kernel_rfl) (by kernel_rfl) (fun _ _ _ h => h) (Or.inr ⟨by kernel_rfl, rfl⟩) hHeld2 ?_
          try simp only [Act.put, List.setIfInBounds_toArray, List.set_cons_zero, List.set_cons_succ]
          refine wpAnyH_take (i := 21) (oi := ⟨_, _, _, _, _, _⟩) (v := undef) rfl (by kernel_rfl) (by kernel_rfl) (by kernel_rfl) (fun _ _ _ h => h) (Or.inr ⟨by kernel_rfl, rfl⟩) hHeld2 ?_
          try simp only [Act.put, List.setIfInBounds_toArray, List.set_cons_zero, List.set_cons_succ]
          refine wpAnyH_take (i := 22) (oi := ⟨_, _, _, _, _, _⟩) (v := ?_) rfl (by kernel_rfl) (by kernel_rfl) (by kernel_rfl) (fun _ _ _ h => h) (Or.inl ⟨by kernel_rfl, ?_⟩) hHeld2 ?_
          rotate_left 1
          · intro W hW; first | (go_simp; done) | (go_simp; with_reducible rfl)
          try simp only [Act.put, List.setIfInBounds_toArray, List.set_cons_zero, List.set_cons_succ]
          refine wpAnyH_take (i := 23) (oi := ⟨_, _, _, _, _, _⟩) (v := ?_) rfl (by kernel_rfl) (by kernel_rfl) (by kernel_rfl) (fun _ _ _ h => h) (Or.inl ⟨by kernel_rfl, ?_⟩) hHeld2 ?_
          rotate_left 1
          · intro W hW; first | (go_simp; done) | (go_simp; with_reducible rfl)
          try simp only [Act.put, List.setIfInBounds_toArray, List.set_cons_zero, List.set_cons_succ]
          refine wpAnyH_done (by kernel_rfl) ?_ _
          go_wp2_with fail
          go_meet
          exact ⟨by rw [Hb.out], hHeld2⟩
      case rest =>
      obtain ⟨rfl, hb2⟩ := hcut
      generalize hwc : wc = w2 at *
      clear hwc
      have HV2 := Lib.hid (HV.out.look hb2)
      clear y0 y1 x0 hb2
      have y0 := below_keep HV2.out.below HC0.out
      have y1 := below_keep HV2.out.below HC1.out
      have x0 := fun o => cell_of_row w2 _ o _ _ (0, 0) HV2.out.box
      go_wp2_with fail
      go_cut [11] (fun t11 wx => t11 = .bool (RU.sameK y x) ∧ Below w2.heap.size w2 wx)
      case first =>
        have HSm := Lib.hid (fun u => (rsame_any y.score x.score u hwy hx).mono (fun e w' h => (⟨h.1, h.2.symm⟩ : e = .returned (.bool (MF.same y.score x.score)) ∧ w' = u)))
        cases he : RC.strEq y.name x.name
        · have he' : (y.name.toList == x.name.toList) = false := he
          have He := Lib.hid (show RU.sameK y x = false by unfold RU.sameK; rw [he]; rfl)
          clear he
          go_quiet (fail)
          go_wp2_with fail
          go_meet
          exact ⟨by rw [He.out], rfl, rfl, rfl, Nat.le_refl _, fun _ _ => rfl⟩
        · have he' : (y.name.toList == x.name.toList) = true := he
          have He := Lib.hid (show RU.sameK y x = MF.same y.score x.score by unfold RU.sameK; rw [he]; rfl)
          clear he
          go_quiet (first | (go_at_call 43; exact Calls.quiet_of_same (HSm.out _)))
          go_wp2_with fail
          go_meet
          exact ⟨by rw [He.out], rfl, rfl, rfl, Nat.le_refl _, fun _ _ => rfl⟩
      case rest =>
      obtain ⟨rfl, hb3⟩ := hcut
      generalize hwc : wc = w3 at *
      clear hwc
      have HV3 := Lib.hid (HV2.out.look hb3)
      clear y0 y1 x0 hb3 HV HV2
      have y0 := below_keep HV3.out.below HC0.out
      have y1 := below_keep HV3.out.below HC1.out
      have x0 := fun o => cell_of_row w3 _ o _ _ (0, 0) HV3.out.box
      have HS := Lib.hid (show RU.laidG (fun y => RC.better y x) (fun y => RU.sameK y x) x (y :: l.drop (i + 1)) d = if !d && !RC.better y x then (if RU.sameK y x then y :: RU.laidG (fun y => RC.better y x) (fun y => RU.sameK y x) x (l.drop (i + 1)) true else x :: y :: RU.laidG (fun y => RC.better y x) (fun y => RU.sameK y x) x (l.drop (i + 1)) true) else y :: RU.laidG (fun y => RC.better y x) (fun y => RU.sameK y x) x (l.drop (i + 1)) d from rfl)
      have hlx := lt_of_heap HV3.out.box
      have HCell := Lib.hid (show ∀ B2 c2 o2 W, LdAt w x B2 c2 o2 W → W.cell? ⟨b, off + i * 2, none⟩ = some (.float .f64 y.score) ∧ W.cell? ⟨b, off + i * 2 + 1, none⟩ = some (.string y.name) from fun _ _ _ _ h => ⟨below_keep h.below HC0.out, below_keep h.below HC1.out⟩)
      generalize RC.better y x = a1 at *
      generalize RU.sameK y x = s1 at *
      have hone : ∀ d', RU.laidG (fun y => RC.better y x) (fun y => RU.sameK y x) x (y :: l.drop (i + 1)) d = y :: RU.laidG (fun y => RC.better y x) (fun y => RU.sameK y x) x (l.drop (i + 1)) d' → (out ++ [y]) ++ RU.laidG (fun y => RC.better y x) (fun y => RU.sameK y x) x (l.drop (i + 1)) d' = RU.laidG (fun y => RC.better y x) (fun y => RU.sameK y x) x l false := fun d' e => by
        rw [List.append_assoc, List.singleton_append, ← e]
        exact HEq2.out
      have HOne := Lib.hid hone
      clear hone
      cases d
      case true =>
        go_wp2_with (first
          | (at_builtin
             refine wpList_append_at rfl _ _ _ _ rfl 91 i0 _ 2 24 Tryz.underlying23 hi0 hz0 hz1 hz2 rfl B (out.length) cb (itCells (out)) rfl (own_below (HV3.out.ownN rfl) (below1 _ _)) _ 1 _ rfl (src_it Tryz.underlying23 _ _ _ _ rfl rfl rfl) (by unfold maxLen; omega) (by omega) ?_
             intro B5 c5 w5 ho hg hat
             have H5 := Lib.hid (HV3.out.more rfl (y := y) hg hat ho)
             clear ho hg hat))
        go_wp2_with fail
        go_roundw
        case rel => exact ⟨i + 1, true, out ++ [y], B5, c5, by go_num, rfl, by simp, by omega, by simp; omega, HOne.out true (by rw [HS.out]; rfl), H5.out⟩
        case measure => simp [intOf]; omega
      cases a1
      case true =>
        go_wp2_with (first
          | (at_builtin
             refine wpList_append_at rfl _ _ _ _ rfl 91 i0 _ 2 24 Tryz.underlying23 hi0 hz0 hz1 hz2 rfl B (out.length) cb (itCells (out)) rfl (own_below (HV3.out.ownN rfl) (below1 _ _)) _ 1 _ rfl (src_it Tryz.underlying23 _ _ _ _ rfl rfl rfl) (by unfold maxLen; omega) (by omega) ?_
             intro B5 c5 w5 ho hg hat
             have H5 := Lib.hid (HV3.out.more rfl (y := y) hg hat ho)
             clear ho hg hat))
        go_wp2_with fail
        go_roundw
        case rel => exact ⟨i + 1, false, out ++ [y], B5, c5, by go_num, rfl, by simp, by omega, by simp; omega, HOne.out false (by rw [HS.out]; rfl), H5.out⟩
        case measure => simp [intOf]; omega
      cases s1
      case true =>
        go_wp2_with (first
          | (at_builtin
             refine wpList_append_at rfl _ _ _ _ rfl 91 i0 _ 2 24 Tryz.underlying23 hi0 hz0 hz1 hz2 rfl B (out.length) cb (itCells (out)) rfl (own_below (HV3.out.ownN rfl) (below1 _ _)) _ 1 _ rfl (src_it Tryz.underlying23 _ _ _ _ rfl rfl rfl) (by unfold maxLen; omega) (by omega) ?_
             intro B5 c5 w5 ho hg hat
             have H5 := Lib.hid (HV3.out.more rfl (y := y) hg hat ho)
             clear ho hg hat))
        go_wp2_with fail
        go_roundw
        case rel => exact ⟨i + 1, true, out ++ [y], B5, c5, by go_num, rfl, by simp, by omega, by simp; omega, HOne.out true (by rw [HS.out]; rfl), H5.out⟩
        case measure => simp [intOf]; omega
      go_wp2_with (first
        | (at_builtin
           refine wpList_append_at rfl _ _ _ _ rfl 91 i0 _ 2 24 Tryz.underlying23 hi0 hz0 hz1 hz2 rfl B (out.length) cb (itCells (out)) rfl (own_below (HV3.out.ownN rfl) (below1 _ _)) _ 1 _ rfl (src_it Tryz.underlying23 _ _ _ _ rfl rfl rfl) (by unfold maxLen; omega) (by omega) ?_
           intro B4 c4 w4 ho hg hat
           have H4 := Lib.hid (HV3.out.more rfl (y := x) hg hat ho)
           clear ho hg hat y0 y1 x0
           obtain ⟨y0, y1⟩ := HCell.out _ _ _ _ H4.out)
        | (at_builtin
           refine wpList_append_at rfl _ _ _ _ rfl 91 i0 _ 2 24 Tryz.underlying23 hi0 hz0 hz1 hz2 rfl B4 (out.length + 1) c4 (itCells (out ++ [x])) rfl (own_below (H4.out.ownN (by simp)) (below1 _ _)) _ 1 _ rfl (src_it Tryz.underlying23 _ _ _ _ rfl rfl rfl) (by unfold maxLen; omega) (by omega) ?_
           intro B5 c5 w5 ho hg hat
           have H5 := Lib.hid (H4.out.more (by simp) (y := y) hg hat ho)
           clear ho hg hat))
      go_wp2_with fail
      go_roundw
      case rel =>
        refine ⟨i + 1, true, (out ++ [x]) ++ [y], B5, c5, by go_num, rfl, by simp, by omega, by simp; omega, ?_, H5.out⟩
        rw [List.append_assoc, List.append_assoc, List.singleton_append, List.singleton_append, ← HEq2.out, HS.out]
        rfl
      case measure => simp [intOf]; omega
    · have hi' : i = l.length := by omega
      subst hi'
      have hi1 : ¬ (l.length : Int) < (l.length : Int) := by omega
      have HEn := HEq
      rw [List.drop_length] at HEn
      have x0 := fun o => cell_of_row wr _ o _ _ (0, 0) HV.out.box
      have hlx := lt_of_heap HV.out.box
      cases d
      · have hT : out ++ [x] = RU.laidG (fun y => RC.better y x) (fun y => RU.sameK y x) x l false := HEn.out
        have HT := Lib.hid hT
        clear hT
        go_wp2_with (first
          | (at_builtin
             refine wpList_append_at rfl _ _ _ _ rfl 91 i0 _ 2 24 Tryz.underlying23 hi0 hz0 hz1 hz2 rfl B (out.length) cb (itCells (out)) rfl (own_below (HV.out.ownN rfl) (below1 _ _)) _ 1 _ rfl (src_it Tryz.underlying23 _ _ _ _ rfl rfl rfl) (by unfold maxLen; omega) (by omega) ?_
             intro B5 c5 w5 ho hg hat
             have H5 := Lib.hid (HV.out.more rfl (y := x) hg hat ho)
             clear ho hg hat))
        go_ret
        rw [← HT.out]
        exact ⟨B5, c5, by simp, H5.out.own, fun k e => by have := H5.out.new k e; omega, H5.out.below⟩
      · have hT : out = RU.laidG (fun y => RC.better y x) (fun y => RU.sameK y x) x l false := by
          have := HEn.out
          rwa [show RU.laidG (fun y => RC.better y x) (fun y => RU.sameK y x) x [] true = [] from rfl, List.append_nil] at this
        have HT := Lib.hid hT
        clear hT
        go_wp2_with fail
        go_ret
        rw [← HT.out]
        exact ⟨B, cb, rfl, HV.out.own, fun k e => by have := HV.out.new k e; omega, HV.out.below⟩
end Go.Proofs.YtbkcmnmbcldjoaaGreatDoor

namespace Go.Proofs.YtbkcmnmbcldjoaaGreatDoor
open Go.RowKit MM
set_option maxHeartbeats 4000000 in
set_option maxRecDepth 100000 in
theorem do5_15none (r : RC.Rc) (key : ByteArray) (n : Int) (x : Nat) (s : ByteArray) (m : RC.Rc) (must : Bool) (A L : Option Addr) (c cl : Nat) (w : World) (hA : Its w A r.list) (hs : Ieee.double.add r.real x = none) (q : RC.Rc) (xx : RU.Ans) (hq : q = { r with real := MF.plus r.real x }) (hxx : xx = RU.err 0) :
    Calls Tryz.prog 87 #[recV r A c, actV ⟨15, key, n, x, s, m, must⟩ L cl] w (D5Post q xx w) := by
  have HQ := Lib.hid hq
  have HX := Lib.hid hxx
  clear hq hxx
  have hr := fun W => MF.run_nb (P := Tryz.prog) .add 22 r.real x W (.inl rfl) hs
  have Hm := Lib.hid (show ∀ W, MF.bk (MF.key (MF.nb W r.real x)) = MF.plus r.real x from fun W => by rw [MF.bk_key (MF.w_nb W _ _)]; unfold MF.plus; rw [hs, MF.canon_eq _ true (MF.nan_nb W _ _)]; rfl)
  clear hs
  have HI := Lib.hid hA
  clear hA
  go_enter Tryz.func87, Tryz.ntmps87
  go_wp2_with (first
    | (go_at_call 138; refine (rplace1_any _ _ (MF.w_nb _ _ _)).mono ?_; rintro e w' ⟨rfl, rfl⟩)
    | (go_at_call 137; refine (rnumber1_any _ _ (MF.w_key (MF.w_nb _ _ _))).mono ?_; rintro e w' ⟨rfl, rfl⟩))
  generalize hz : MF.nb _ r.real x = z
  have hq : MF.bk (MF.key z) = MF.plus r.real x := by rw [← hz]; exact Hm.out _
  rw [← hq] at HQ
  clear hz hq Hm hr
  generalize hwz : World.drew _ = wz
  have HD := Lib.hid (show D5 w q A c xx none 0 wz by rw [← hwz, HQ.out, HX.out]; exact (D5.start { r with real := MF.bk (MF.key z) } A c _ (RU.err 0) none 0 w).look (below_drew (Below.refl _ _)))
  have HA := Lib.hid (show ∀ wf, Kp (S23 w) wz wf → Its wf A q.list by rw [HQ.out]; exact HD.out.old HI.out)
  have HB := Lib.hid (show ∀ wf, Kp (S23 w) wz wf → Its wf none xx.rc.list by rw [HX.out]; exact D5.noL (w := w) (W := wz) none)
  clear hwz
  have HF := Lib.hid (D5.fin HD.out HA.out HB.out)
  have c0 := fun o => cell_of_row wz _ o _ _ (0, 0) HD.out.r0
  have c2 := fun o => cell_of_row wz _ o _ _ (0, 0) HD.out.r2
  have c3 := fun o => cell_of_row wz _ o _ _ (0, 0) HD.out.r3
  have c4 := fun o => cell_of_row wz _ o _ _ (0, 0) HD.out.r4
  have f2 : ∀ o, wz.frozen? ⟨w.heap.size + 1 + 1, o, none⟩ = false := fun o => frozen_of_row _ _ o _ _ HD.out.r2
  have f3 : ∀ o, wz.frozen? ⟨w.heap.size + 1 + 1 + 1, o, none⟩ = false := fun o => frozen_of_row _ _ o _ _ HD.out.r3
  have Q2 := Lib.hid HD.out.r2
  have Q3 := Lib.hid HD.out.r3
  clear HD HA HB
  go_region_with (fail)
  all_goals
    go_wp2_with fail
    generalize hwf : World.drew _ = wf
    have X2 : wf.heap[w.heap.size + 1 + 1]? = some (.cells (recC q.kind q.num q.low q.high q.real q.cap q.text (.slice A q.list.length c)) 25 (0, 0)) := by
      rw [← hwf, heap_drew]
      exact (ans_other (by omega)).trans (rec_stores Q2.out)
    have X3 : wf.heap[w.heap.size + 1 + 1 + 1]? = some (.cells (ansC xx.code xx.num xx.rc none 0) 82 (0, 0)) := by
      rw [← hwf, heap_drew]
      exact ans_all ((rec_stores_other (by omega)).trans Q3.out)
    have hk : Kp (S23 w) wz wf := by
      rw [← hwf]
      exact (kp10 (kp8g (Kp.refl _ _) (Or.inl (Or.inl rfl))) (Or.inl (Or.inr rfl))).drew
    have HP := Lib.hid (HF.out wf hk)
    have q2 := fun o => cell_of_row wf _ o _ _ (0, 0) X2
    have q3 := fun o => cell_of_row wf _ o _ _ (0, 0) X3
    clear hwf X2 X3 hk c0 c2 c3 c4 f2 f3
    exact bodyPost_ret (v := .tuple #[recV q A c, ansV xx.code xx.num xx.rc none 0]) (by simp [results, Tryz.results87, go_sem, q2, q3]) rfl HP.out
set_option maxHeartbeats 4000000 in
set_option maxRecDepth 100000 in
theorem do5_16none (r : RC.Rc) (key : ByteArray) (n : Int) (x : Nat) (s : ByteArray) (m : RC.Rc) (must : Bool) (A L : Option Addr) (c cl : Nat) (w : World) (hA : Its w A r.list) (hs : Ieee.double.mul r.real x = none) (q : RC.Rc) (xx : RU.Ans) (hq : q = { r with real := MF.times r.real x }) (hxx : xx = RU.err 0) :
    Calls Tryz.prog 87 #[recV r A c, actV ⟨16, key, n, x, s, m, must⟩ L cl] w (D5Post q xx w) := by
  have HQ := Lib.hid hq
  have HX := Lib.hid hxx
  clear hq hxx
  have hr := fun W => MF.run_nb (P := Tryz.prog) .mul 22 r.real x W (.inr rfl) hs
  have Hm := Lib.hid (show ∀ W, MF.bk (MF.key (MF.nb W r.real x)) = MF.times r.real x from fun W => by rw [MF.bk_key (MF.w_nb W _ _)]; unfold MF.times; rw [hs, MF.canon_eq _ true (MF.nan_nb W _ _)]; rfl)
  clear hs
  have HI := Lib.hid hA
  clear hA
  go_enter Tryz.func87, Tryz.ntmps87
  go_wp2_with (first
    | (go_at_call 138; refine (rplace1_any _ _ (MF.w_nb _ _ _)).mono ?_; rintro e w' ⟨rfl, rfl⟩)
    | (go_at_call 137; refine (rnumber1_any _ _ (MF.w_key (MF.w_nb _ _ _))).mono ?_; rintro e w' ⟨rfl, rfl⟩))
  generalize hz : MF.nb _ r.real x = z
  have hq : MF.bk (MF.key z) = MF.times r.real x := by rw [← hz]; exact Hm.out _
  rw [← hq] at HQ
  clear hz hq Hm hr
  generalize hwz : World.drew _ = wz
  have HD := Lib.hid (show D5 w q A c xx none 0 wz by rw [← hwz, HQ.out, HX.out]; exact (D5.start { r with real := MF.bk (MF.key z) } A c _ (RU.err 0) none 0 w).look (below_drew (Below.refl _ _)))
  have HA := Lib.hid (show ∀ wf, Kp (S23 w) wz wf → Its wf A q.list by rw [HQ.out]; exact HD.out.old HI.out)
  have HB := Lib.hid (show ∀ wf, Kp (S23 w) wz wf → Its wf none xx.rc.list by rw [HX.out]; exact D5.noL (w := w) (W := wz) none)
  clear hwz
  have HF := Lib.hid (D5.fin HD.out HA.out HB.out)
  have c0 := fun o => cell_of_row wz _ o _ _ (0, 0) HD.out.r0
  have c2 := fun o => cell_of_row wz _ o _ _ (0, 0) HD.out.r2
  have c3 := fun o => cell_of_row wz _ o _ _ (0, 0) HD.out.r3
  have c4 := fun o => cell_of_row wz _ o _ _ (0, 0) HD.out.r4
  have f2 : ∀ o, wz.frozen? ⟨w.heap.size + 1 + 1, o, none⟩ = false := fun o => frozen_of_row _ _ o _ _ HD.out.r2
  have f3 : ∀ o, wz.frozen? ⟨w.heap.size + 1 + 1 + 1, o, none⟩ = false := fun o => frozen_of_row _ _ o _ _ HD.out.r3
  have Q2 := Lib.hid HD.out.r2
  have Q3 := Lib.hid HD.out.r3
  clear HD HA HB
  go_region_with (fail)
  all_goals
    go_wp2_with fail
    generalize hwf : World.drew _ = wf
    have X2 : wf.heap[w.heap.size + 1 + 1]? = some (.cells (recC q.kind q.num q.low q.high q.real q.cap q.text (.slice A q.list.length c)) 25 (0, 0)) := by
      rw [← hwf, heap_drew]
      exact (ans_other (by omega)).trans (rec_stores Q2.out)
    have X3 : wf.heap[w.heap.size + 1 + 1 + 1]? = some (.cells (ansC xx.code xx.num xx.rc none 0) 82 (0, 0)) := by
      rw [← hwf, heap_drew]
      exact ans_all ((rec_stores_other (by omega)).trans Q3.out)
    have hk : Kp (S23 w) wz wf := by
      rw [← hwf]
      exact (kp10 (kp8g (Kp.refl _ _) (Or.inl (Or.inl rfl))) (Or.inl (Or.inr rfl))).drew
    have HP := Lib.hid (HF.out wf hk)
    have q2 := fun o => cell_of_row wf _ o _ _ (0, 0) X2
    have q3 := fun o => cell_of_row wf _ o _ _ (0, 0) X3
    clear hwf X2 X3 hk c0 c2 c3 c4 f2 f3
    exact bodyPost_ret (v := .tuple #[recV q A c, ansV xx.code xx.num xx.rc none 0]) (by simp [results, Tryz.results87, go_sem, q2, q3]) rfl HP.out
set_option maxHeartbeats 4000000 in
set_option maxRecDepth 100000 in
theorem do5_18no (r : RC.Rc) (key : ByteArray) (n : Int) (x : Nat) (s : ByteArray) (m : RC.Rc) (must : Bool) (A L : Option Addr) (c cl : Nat) (w : World) (hA : Its w A r.list) (hn : Lim r.list.length) (hov : RU.hasN r.list s = false) (hlen : r.cap ≤ (r.list.length : Int)) (q : RC.Rc) (xx : RU.Ans) (hq : q = r) (hxx : xx = RU.err 8) :
    Calls Tryz.prog 87 #[recV r A c, actV ⟨18, key, n, x, s, m, must⟩ L cl] w (D5Post q xx w) := by
  have HQ := Lib.hid hq
  have HX := Lib.hid hxx
  clear hq hxx
  have HI := Lib.hid hA
  clear hA
  go_enter Tryz.func87, Tryz.ntmps87
  go_wp2_with (first
    | (go_at_call 139; refine (has5_any r.list s A c _ (HI.out.below (below5 w _ _ _ _ _)) hn).mono ?_; rintro e w' ⟨rfl, rfl⟩))
  generalize hwz : World.alloc _ _ = wz
  have HD := Lib.hid (show D5 w q A c xx none 0 wz by rw [← hwz, HQ.out, HX.out]; exact D5.start r A c _ (RU.err 8) none 0 w)
  have HA := Lib.hid (show ∀ wf, Kp (S23 w) wz wf → Its wf A q.list by rw [HQ.out]; exact HD.out.old HI.out)
  have HB := Lib.hid (show ∀ wf, Kp (S23 w) wz wf → Its wf none xx.rc.list by rw [HX.out]; exact D5.noL (w := w) (W := wz) none)
  clear hwz
  have HF := Lib.hid (D5.fin HD.out HA.out HB.out)
  have c0 := fun o => cell_of_row wz _ o _ _ (0, 0) HD.out.r0
  have c2 := fun o => cell_of_row wz _ o _ _ (0, 0) HD.out.r2
  have c3 := fun o => cell_of_row wz _ o _ _ (0, 0) HD.out.r3
  have c4 := fun o => cell_of_row wz _ o _ _ (0, 0) HD.out.r4
  have f2 : ∀ o, wz.frozen? ⟨w.heap.size + 1 + 1, o, none⟩ = false := fun o => frozen_of_row _ _ o _ _ HD.out.r2
  have f3 : ∀ o, wz.frozen? ⟨w.heap.size + 1 + 1 + 1, o, none⟩ = false := fun o => frozen_of_row _ _ o _ _ HD.out.r3
  have Q2 := Lib.hid HD.out.r2
  have Q3 := Lib.hid HD.out.r3
  clear HD HA HB
  go_region_with (fail)
  all_goals
    go_wp2_with fail
    generalize hwf : World.drew _ = wf
    have X2 : wf.heap[w.heap.size + 1 + 1]? = some (.cells (recC q.kind q.num q.low q.high q.real q.cap q.text (.slice A q.list.length c)) 25 (0, 0)) := by
      rw [← hwf, heap_drew]
      exact (ans_other (by omega)).trans (rec_stores Q2.out)
    have X3 : wf.heap[w.heap.size + 1 + 1 + 1]? = some (.cells (ansC xx.code xx.num xx.rc none 0) 82 (0, 0)) := by
      rw [← hwf, heap_drew]
      exact ans_all ((rec_stores_other (by omega)).trans Q3.out)
    have hk : Kp (S23 w) wz wf := by
      rw [← hwf]
      exact (kp10 (kp8g (Kp.refl _ _) (Or.inl (Or.inl rfl))) (Or.inl (Or.inr rfl))).drew
    have HP := Lib.hid (HF.out wf hk)
    have q2 := fun o => cell_of_row wf _ o _ _ (0, 0) X2
    have q3 := fun o => cell_of_row wf _ o _ _ (0, 0) X3
    clear hwf X2 X3 hk c0 c2 c3 c4 f2 f3
    exact bodyPost_ret (v := .tuple #[recV q A c, ansV xx.code xx.num xx.rc none 0]) (by simp [results, Tryz.results87, go_sem, q2, q3]) rfl HP.out
set_option maxHeartbeats 4000000 in
set_option maxRecDepth 100000 in
theorem do5_18has (r : RC.Rc) (key : ByteArray) (n : Int) (x : Nat) (s : ByteArray) (m : RC.Rc) (must : Bool) (A L : Option Addr) (c cl : Nat) (w : World) (hA : Its w A r.list) (hn : r.list.length ≤ 1000) (hov : RU.hasN r.list s = true) (q : RC.Rc) (xx : RU.Ans) (hq : q = { r with list := (RU.laidG (fun y => RC.strLt y.name s) (fun y => RC.strEq y.name s) ⟨0, s⟩ r.list false) }) (hxx : xx = RU.err 0) :
    Calls Tryz.prog 87 #[recV r A c, actV ⟨18, key, n, x, s, m, must⟩ L cl] w (D5Post q xx w) := by
  have HQ := Lib.hid hq
  have HX := Lib.hid hxx
  clear hq hxx
  have HI := Lib.hid hA
  clear hA
  go_enter Tryz.func87, Tryz.ntmps87
  go_wp2_with (first
    | (go_at_call 139; refine (has5_any r.list s A c _ (HI.out.below (below5 w _ _ _ _ _)) (show r.list.length < 4294967296 by omega)).mono ?_; rintro e w' ⟨rfl, rfl⟩)
    | (go_at_call 140
       refine (laid_names r.list ⟨0, s⟩ A c _ (HI.out.below (below5 w _ _ _ _ _)) hn).mono ?_
       rintro e w2 ⟨A2, k2, rfl, ho, hnw, hb⟩
       have HS := Lib.hid ((D5.start r A c _ (RU.err 0) none 0 w).look hb)
       simp only [World.size_alloc] at hnw
       have HO := Lib.hid ho
       have HN := Lib.hid (show ∀ k, ob A2 = some k → w.heap.size + 5 ≤ k from fun k e => hnw k e)
       have d0 := fun o => cell_of_row w2 _ o _ _ (0, 0) HS.out.r0
       have g0 : ∀ o, w2.frozen? ⟨w.heap.size, o, none⟩ = false := fun o => frozen_of_row _ _ o _ _ HS.out.r0
       clear ho hnw hb))
  generalize hwz : World.setCell _ _ _ = wz
  have HD := Lib.hid (show D5 w q A2 k2 xx none 0 wz by rw [← hwz, HQ.out, HX.out]; exact D5.set0 HS.out (by rfl))
  have HA := Lib.hid (show ∀ wf, Kp (S23 w) wz wf → Its wf A2 q.list by rw [HQ.out]; exact D5.new (by rw [← hwz]; exact (Its.own HO.out).kp (Kp.setCell (S := fun k => k = w.heap.size) (Kp.refl _ _) (Or.inl rfl) _) (fun ad e x => by subst e; have := HN.out ad.block rfl; omega)) HN.out)
  have HB := Lib.hid (show ∀ wf, Kp (S23 w) wz wf → Its wf none xx.rc.list by rw [HX.out]; exact D5.noL (w := w) (W := wz) none)
  clear hwz d0 g0
  have HF := Lib.hid (D5.fin HD.out HA.out HB.out)
  have c0 := fun o => cell_of_row wz _ o _ _ (0, 0) HD.out.r0
  have c2 := fun o => cell_of_row wz _ o _ _ (0, 0) HD.out.r2
  have c3 := fun o => cell_of_row wz _ o _ _ (0, 0) HD.out.r3
  have c4 := fun o => cell_of_row wz _ o _ _ (0, 0) HD.out.r4
  have f2 : ∀ o, wz.frozen? ⟨w.heap.size + 1 + 1, o, none⟩ = false := fun o => frozen_of_row _ _ o _ _ HD.out.r2
  have f3 : ∀ o, wz.frozen? ⟨w.heap.size + 1 + 1 + 1, o, none⟩ = false := fun o => frozen_of_row _ _ o _ _ HD.out.r3
  have Q2 := Lib.hid HD.out.r2
  have Q3 := Lib.hid HD.out.r3
  clear HD HA HB
  go_region_with (fail)
  all_goals
    go_wp2_with fail
    generalize hwf : World.drew _ = wf
    have X2 : wf.heap[w.heap.size + 1 + 1]? = some (.cells (recC q.kind q.num q.low q.high q.real q.cap q.text (.slice A2 q.list.length k2)) 25 (0, 0)) := by
      rw [← hwf, heap_drew]
      exact (ans_other (by omega)).trans (rec_stores Q2.out)
    have X3 : wf.heap[w.heap.size + 1 + 1 + 1]? = some (.cells (ansC xx.code xx.num xx.rc none 0) 82 (0, 0)) := by
      rw [← hwf, heap_drew]
      exact ans_all ((rec_stores_other (by omega)).trans Q3.out)
    have hk : Kp (S23 w) wz wf := by
      rw [← hwf]
      exact (kp10 (kp8g (Kp.refl _ _) (Or.inl (Or.inl rfl))) (Or.inl (Or.inr rfl))).drew
    have HP := Lib.hid (HF.out wf hk)
    have q2 := fun o => cell_of_row wf _ o _ _ (0, 0) X2
    have q3 := fun o => cell_of_row wf _ o _ _ (0, 0) X3
    clear hwf X2 X3 hk c0 c2 c3 c4 f2 f3
    exact bodyPost_ret (v := .tuple #[recV q A2 k2, ansV xx.code xx.num xx.rc none 0]) (by simp [results, Tryz.results87, go_sem, q2, q3]) rfl HP.out
set_option maxHeartbeats 4000000 in
set_option maxRecDepth 100000 in
theorem do5_18ok (r : RC.Rc) (key : ByteArray) (n : Int) (x : Nat) (s : ByteArray) (m : RC.Rc) (must : Bool) (A L : Option Addr) (c cl : Nat) (w : World) (hA : Its w A r.list) (hn : r.list.length ≤ 1000) (hov : RU.hasN r.list s = false) (hlen : ¬ r.cap ≤ (r.list.length : Int)) (q : RC.Rc) (xx : RU.Ans) (hq : q = { r with list := (RU.laidG (fun y => RC.strLt y.name s) (fun y => RC.strEq y.name s) ⟨0, s⟩ r.list false) }) (hxx : xx = RU.err 0) :
    Calls Tryz.prog 87 #[recV r A c, actV ⟨18, key, n, x, s, m, must⟩ L cl] w (D5Post q xx w) := by
  have HQ := Lib.hid hq
  have HX := Lib.hid hxx
  clear hq hxx
  have HI := Lib.hid hA
  clear hA
  go_enter Tryz.func87, Tryz.ntmps87
  go_wp2_with (first
    | (go_at_call 139; refine (has5_any r.list s A c _ (HI.out.below (below5 w _ _ _ _ _)) (show r.list.length < 4294967296 by omega)).mono ?_; rintro e w' ⟨rfl, rfl⟩)
    | (go_at_call 140
       refine (laid_names r.list ⟨0, s⟩ A c _ (HI.out.below (below5 w _ _ _ _ _)) hn).mono ?_
       rintro e w2 ⟨A2, k2, rfl, ho, hnw, hb⟩
       have HS := Lib.hid ((D5.start r A c _ (RU.err 0) none 0 w).look hb)
       simp only [World.size_alloc] at hnw
       have HO := Lib.hid ho
       have HN := Lib.hid (show ∀ k, ob A2 = some k → w.heap.size + 5 ≤ k from fun k e => hnw k e)
       have d0 := fun o => cell_of_row w2 _ o _ _ (0, 0) HS.out.r0
       have g0 : ∀ o, w2.frozen? ⟨w.heap.size, o, none⟩ = false := fun o => frozen_of_row _ _ o _ _ HS.out.r0
       clear ho hnw hb))
  generalize hwz : World.setCell _ _ _ = wz
  have HD := Lib.hid (show D5 w q A2 k2 xx none 0 wz by rw [← hwz, HQ.out, HX.out]; exact D5.set0 HS.out (by rfl))
  have HA := Lib.hid (show ∀ wf, Kp (S23 w) wz wf → Its wf A2 q.list by rw [HQ.out]; exact D5.new (by rw [← hwz]; exact (Its.own HO.out).kp (Kp.setCell (S := fun k => k = w.heap.size) (Kp.refl _ _) (Or.inl rfl) _) (fun ad e x => by subst e; have := HN.out ad.block rfl; omega)) HN.out)
  have HB := Lib.hid (show ∀ wf, Kp (S23 w) wz wf → Its wf none xx.rc.list by rw [HX.out]; exact D5.noL (w := w) (W := wz) none)
  clear hwz d0 g0
  have HF := Lib.hid (D5.fin HD.out HA.out HB.out)
  have c0 := fun o => cell_of_row wz _ o _ _ (0, 0) HD.out.r0
  have c2 := fun o => cell_of_row wz _ o _ _ (0, 0) HD.out.r2
  have c3 := fun o => cell_of_row wz _ o _ _ (0, 0) HD.out.r3
  have c4 := fun o => cell_of_row wz _ o _ _ (0, 0) HD.out.r4
  have f2 : ∀ o, wz.frozen? ⟨w.heap.size + 1 + 1, o, none⟩ = false := fun o => frozen_of_row _ _ o _ _ HD.out.r2
  have f3 : ∀ o, wz.frozen? ⟨w.heap.size + 1 + 1 + 1, o, none⟩ = false := fun o => frozen_of_row _ _ o _ _ HD.out.r3
  have Q2 := Lib.hid HD.out.r2
  have Q3 := Lib.hid HD.out.r3
  clear HD HA HB
  go_region_with (fail)
  all_goals
    go_wp2_with fail
    generalize hwf : World.drew _ = wf
    have X2 : wf.heap[w.heap.size + 1 + 1]? = some (.cells (recC q.kind q.num q.low q.high q.real q.cap q.text (.slice A2 q.list.length k2)) 25 (0, 0)) := by
      rw [← hwf, heap_drew]
      exact (ans_other (by omega)).trans (rec_stores Q2.out)
    have X3 : wf.heap[w.heap.size + 1 + 1 + 1]? = some (.cells (ansC xx.code xx.num xx.rc none 0) 82 (0, 0)) := by
      rw [← hwf, heap_drew]
      exact ans_all ((rec_stores_other (by omega)).trans Q3.out)
    have hk : Kp (S23 w) wz wf := by
      rw [← hwf]
      exact (kp10 (kp8g (Kp.refl _ _) (Or.inl (Or.inl rfl))) (Or.inl (Or.inr rfl))).drew
    have HP := Lib.hid (HF.out wf hk)
    have q2 := fun o => cell_of_row wf _ o _ _ (0, 0) X2
    have q3 := fun o => cell_of_row wf _ o _ _ (0, 0) X3
    clear hwf X2 X3 hk c0 c2 c3 c4 f2 f3
    exact bodyPost_ret (v := .tuple #[recV q A2 k2, ansV xx.code xx.num xx.rc none 0]) (by simp [results, Tryz.results87, go_sem, q2, q3]) rfl HP.out
end Go.Proofs.YtbkcmnmbcldjoaaGreatDoor

namespace Go.Proofs.YtbkcmnmbcldjoaaGreatDoor
open Go.RowKit MM
set_option linter.unusedVariables false
set_option linter.unusedSimpArgs false
theorem own_addr {w : World} {A : Option Addr} {n c : Nat} {cs : List Value} (ho : w.ownsRow 0 91 2 (.slice A n c) n cs) (hn : 0 < n) : ∃ g, A = some ⟨g, 0, none⟩ := by
  rcases ho.2 with ⟨h1, h2⟩ | ⟨g, cap, cur, h1, _⟩
  · omega
  · injection h1 with h2 _ _
    exact ⟨g, h2⟩
theorem Its.take {w : World} {A : Option Addr} {xs : List RC.It} (h : Its w A xs) (n : Nat) : Its w A (xs.take n) := by
  rcases h with rfl | ⟨b, off, rfl, hb, hc⟩
  · exact .inl (by simp)
  · refine .inr ⟨b, off, rfl, hb, fun i x hx => hc i x ?_⟩
    rw [List.getElem?_take] at hx
    split at hx
    · exact hx
    · cases hx
set_option maxHeartbeats 4000000 in
set_option maxRecDepth 100000 in
theorem do5_21ok (r : RC.Rc) (key : ByteArray) (n : Int) (x : Nat) (s : ByteArray) (m : RC.Rc) (must : Bool) (A L : Option Addr) (c cl : Nat) (w : World) (hA : Its w A r.list) (hn : r.list.length ≤ 1000) (hs : ∀ y ∈ r.list, MF.W64 y.score) (hx : MF.W64 x) (l2 : List RC.It) (hl2 : RU.laidG (fun y => RC.better y ⟨x, s⟩) (fun y => RU.sameK y ⟨x, s⟩) ⟨x, s⟩ r.list false = l2) (hle : ¬ r.cap < (l2.length : Int)) (q : RC.Rc) (xx : RU.Ans) (hq : q = { r with list := l2 }) (hxx : xx = RU.err 0) :
    Calls Tryz.prog 87 #[recV r A c, actV ⟨21, key, n, x, s, m, must⟩ L cl] w (D5Post q xx w) := by
  have HQ := Lib.hid hq
  have HX := Lib.hid hxx
  clear hq hxx
  have HL := Lib.hid (fun u (h : Its u A r.list) => (show Calls Tryz.prog 140 #[.slice A r.list.length c, itV ⟨x, s⟩, .bool false] u (CPost l2 u) by rw [← hl2]; exact laid_better r.list ⟨x, s⟩ A c u h hn hs hx))
  clear hl2 hs hx
  have HI := Lib.hid hA
  clear hA
  go_enter Tryz.func87, Tryz.ntmps87
  go_wp2_with (first
    | (go_at_call 140
       refine (HL.out _ (HI.out.below (below5 w _ _ _ _ _))).mono ?_
       rintro e w2 ⟨A2, k2, rfl, ho, hnw, hb⟩
       have HS := Lib.hid ((D5.start r A c _ (RU.err 0) none 0 w).look hb)
       simp only [World.size_alloc] at hnw
       have HO := Lib.hid ho
       have HN := Lib.hid (show ∀ k, ob A2 = some k → w.heap.size + 5 ≤ k from fun k e => hnw k e)
       have d0 := fun o => cell_of_row w2 _ o _ _ (0, 0) HS.out.r0
       have g0 : ∀ o, w2.frozen? ⟨w.heap.size, o, none⟩ = false := fun o => frozen_of_row _ _ o _ _ HS.out.r0
       clear ho hnw hb))
  generalize hwz : World.setCell _ _ _ = wz
  have HD := Lib.hid (show D5 w q A2 k2 xx none 0 wz by rw [← hwz, HQ.out, HX.out]; exact D5.set0 HS.out (by rfl))
  have HA := Lib.hid (show ∀ wf, Kp (S23 w) wz wf → Its wf A2 q.list by rw [HQ.out]; exact D5.new (by rw [← hwz]; exact (Its.own HO.out).kp (Kp.setCell (S := fun k => k = w.heap.size) (Kp.refl _ _) (Or.inl rfl) _) (fun ad e x => by subst e; have := HN.out ad.block rfl; omega)) HN.out)
  have HB := Lib.hid (show ∀ wf, Kp (S23 w) wz wf → Its wf none xx.rc.list by rw [HX.out]; exact D5.noL (w := w) (W := wz) none)
  clear hwz d0 g0
  have HF := Lib.hid (D5.fin HD.out HA.out HB.out)
  have c0 := fun o => cell_of_row wz _ o _ _ (0, 0) HD.out.r0
  have c2 := fun o => cell_of_row wz _ o _ _ (0, 0) HD.out.r2
  have c3 := fun o => cell_of_row wz _ o _ _ (0, 0) HD.out.r3
  have c4 := fun o => cell_of_row wz _ o _ _ (0, 0) HD.out.r4
  have f2 : ∀ o, wz.frozen? ⟨w.heap.size + 1 + 1, o, none⟩ = false := fun o => frozen_of_row _ _ o _ _ HD.out.r2
  have f3 : ∀ o, wz.frozen? ⟨w.heap.size + 1 + 1 + 1, o, none⟩ = false := fun o => frozen_of_row _ _ o _ _ HD.out.r3
  have Q2 := Lib.hid HD.out.r2
  have Q3 := Lib.hid HD.out.r3
  clear HD HA HB
  go_region_with (fail)
  all_goals
    go_wp2_with fail
    generalize hwf : World.drew _ = wf
    have X2 : wf.heap[w.heap.size + 1 + 1]? = some (.cells (recC q.kind q.num q.low q.high q.real q.cap q.text (.slice A2 q.list.length k2)) 25 (0, 0)) := by
      rw [← hwf, heap_drew]
      exact (ans_other (by omega)).trans (rec_stores Q2.out)
    have X3 : wf.heap[w.heap.size + 1 + 1 + 1]? = some (.cells (ansC xx.code xx.num xx.rc none 0) 82 (0, 0)) := by
      rw [← hwf, heap_drew]
      exact ans_all ((rec_stores_other (by omega)).trans Q3.out)
    have hk : Kp (S23 w) wz wf := by
      rw [← hwf]
      exact (kp10 (kp8g (Kp.refl _ _) (Or.inl (Or.inl rfl))) (Or.inl (Or.inr rfl))).drew
    have HP := Lib.hid (HF.out wf hk)
    have q2 := fun o => cell_of_row wf _ o _ _ (0, 0) X2
    have q3 := fun o => cell_of_row wf _ o _ _ (0, 0) X3
    clear hwf X2 X3 hk c0 c2 c3 c4 f2 f3
    exact bodyPost_ret (v := .tuple #[recV q A2 k2, ansV xx.code xx.num xx.rc none 0]) (by simp [results, Tryz.results87, go_sem, q2, q3]) rfl HP.out
set_option maxHeartbeats 4000000 in
set_option maxRecDepth 100000 in
theorem do5_21cut (r : RC.Rc) (key : ByteArray) (n : Int) (x : Nat) (s : ByteArray) (m : RC.Rc) (must : Bool) (A L : Option Addr) (c cl : Nat) (w : World) (hA : Its w A r.list) (hn : r.list.length ≤ 1000) (hs : ∀ y ∈ r.list, MF.W64 y.score) (hx : MF.W64 x) (l2 : List RC.It) (hl2 : RU.laidG (fun y => RC.better y ⟨x, s⟩) (fun y => RU.sameK y ⟨x, s⟩) ⟨x, s⟩ r.list false = l2) (h0 : 0 ≤ r.cap) (hle : r.cap < (l2.length : Int)) (q : RC.Rc) (xx : RU.Ans) (hq : q = { r with list := l2.take r.cap.toNat }) (hxx : xx = RU.err 0) :
    Calls Tryz.prog 87 #[recV r A c, actV ⟨21, key, n, x, s, m, must⟩ L cl] w (D5Post q xx w) := by
  have HQ := Lib.hid hq
  have HX := Lib.hid hxx
  clear hq hxx
  have HL := Lib.hid (fun u (h : Its u A r.list) => (show Calls Tryz.prog 140 #[.slice A r.list.length c, itV ⟨x, s⟩, .bool false] u (CPost l2 u) by rw [← hl2]; exact laid_better r.list ⟨x, s⟩ A c u h hn hs hx))
  clear hl2 hs hx
  have HI := Lib.hid hA
  clear hA
  go_enter Tryz.func87, Tryz.ntmps87
  go_wp2_with (first
    | (go_at_call 140
       refine (HL.out _ (HI.out.below (below5 w _ _ _ _ _))).mono ?_
       rintro e w2 ⟨A2, k2, rfl, ho, hnw, hb⟩
       have HS := Lib.hid ((D5.start r A c _ (RU.err 0) none 0 w).look hb)
       simp only [World.size_alloc] at hnw
       have HO := Lib.hid ho
       have HN := Lib.hid (show ∀ k, ob A2 = some k → w.heap.size + 5 ≤ k from fun k e => hnw k e)
       have d0 := fun o => cell_of_row w2 _ o _ _ (0, 0) HS.out.r0
       have g0 : ∀ o, w2.frozen? ⟨w.heap.size, o, none⟩ = false := fun o => frozen_of_row _ _ o _ _ HS.out.r0
       obtain ⟨g, rfl⟩ := own_addr ho (by omega)
       have hcc := cap_of_own ho
       have hc2 : r.cap ≤ (k2 : Int) := by omega
       clear ho hnw hb hcc))
  generalize hwz : World.setCell _ _ _ = wz
  have HD := Lib.hid (show D5 w q (some ⟨g, 0, none⟩) k2 xx none 0 wz by rw [← hwz, HQ.out, HX.out]; exact D5.set0 HS.out (by show _ = recC r.kind r.num r.low r.high r.real r.cap r.text (.slice (some ⟨g, 0, none⟩) (l2.take r.cap.toNat).length k2); rw [List.length_take, Nat.min_eq_left (by omega)]; rfl))
  have HA := Lib.hid (show ∀ wf, Kp (S23 w) wz wf → Its wf (some ⟨g, 0, none⟩) q.list by rw [HQ.out]; exact D5.new (by rw [← hwz]; exact ((Its.own HO.out).take r.cap.toNat).kp (Kp.setCell (S := fun k => k = w.heap.size) (Kp.refl _ _) (Or.inl rfl) _) (fun ad e x => by injection e with e; subst e; have := HN.out g rfl; have x : g = w.heap.size := x; omega)) HN.out)
  have HB := Lib.hid (show ∀ wf, Kp (S23 w) wz wf → Its wf none xx.rc.list by rw [HX.out]; exact D5.noL (w := w) (W := wz) none)
  clear hwz d0 g0
  have HF := Lib.hid (D5.fin HD.out HA.out HB.out)
  have c0 := fun o => cell_of_row wz _ o _ _ (0, 0) HD.out.r0
  have c2 := fun o => cell_of_row wz _ o _ _ (0, 0) HD.out.r2
  have c3 := fun o => cell_of_row wz _ o _ _ (0, 0) HD.out.r3
  have c4 := fun o => cell_of_row wz _ o _ _ (0, 0) HD.out.r4
  have f2 : ∀ o, wz.frozen? ⟨w.heap.size + 1 + 1, o, none⟩ = false := fun o => frozen_of_row _ _ o _ _ HD.out.r2
  have f3 : ∀ o, wz.frozen? ⟨w.heap.size + 1 + 1 + 1, o, none⟩ = false := fun o => frozen_of_row _ _ o _ _ HD.out.r3
  have Q2 := Lib.hid HD.out.r2
  have Q3 := Lib.hid HD.out.r3
  clear HD HA HB
  go_region_with (fail)
  all_goals
    go_wp2_with fail
    generalize hwf : World.drew _ = wf
    have X2 : wf.heap[w.heap.size + 1 + 1]? = some (.cells (recC q.kind q.num q.low q.high q.real q.cap q.text (.slice (some ⟨g, 0, none⟩) q.list.length k2)) 25 (0, 0)) := by
      rw [← hwf, heap_drew]
      exact (ans_other (by omega)).trans (rec_stores Q2.out)
    have X3 : wf.heap[w.heap.size + 1 + 1 + 1]? = some (.cells (ansC xx.code xx.num xx.rc none 0) 82 (0, 0)) := by
      rw [← hwf, heap_drew]
      exact ans_all ((rec_stores_other (by omega)).trans Q3.out)
    have hk : Kp (S23 w) wz wf := by
      rw [← hwf]
      exact (kp10 (kp8g (Kp.refl _ _) (Or.inl (Or.inl rfl))) (Or.inl (Or.inr rfl))).drew
    have HP := Lib.hid (HF.out wf hk)
    have q2 := fun o => cell_of_row wf _ o _ _ (0, 0) X2
    have q3 := fun o => cell_of_row wf _ o _ _ (0, 0) X3
    clear hwf X2 X3 hk c0 c2 c3 c4 f2 f3
    exact bodyPost_ret (v := .tuple #[recV q (some ⟨g, 0, none⟩) k2, ansV xx.code xx.num xx.rc none 0]) (by simp [results, Tryz.results87, go_sem, q2, q3]) rfl HP.out
end Go.Proofs.YtbkcmnmbcldjoaaGreatDoor

namespace Go.Proofs.YtbkcmnmbcldjoaaGreatDoor
open Go.RowKit MM
set_option linter.unusedVariables false
set_option linter.unusedSimpArgs false
/-- What the document's own Apply answers. -/
def R5Post (p : RC.Rc) (t : Bool) (x : RU.Ans) (w : World) (e : Ending) (w' : World) : Prop :=
  ∃ A' c' B cb, e = .returned (.tuple #[recV p A' c', .bool t, ansV x.code x.num x.rc B cb]) ∧ Its w' A' p.list ∧ Its w' B x.rc.list ∧ Below w.heap.size w w'
/-- How things stand while it goes on. -/
structure A5 (w : World) (q : RC.Rc) (A : Option Addr) (c : Nat) (ac : Array Value) (W : World) : Prop where
  r0 : W.heap[w.heap.size]? = some (.cells (recC q.kind q.num q.low q.high q.real q.cap q.text (.slice A q.list.length c)) 25 (0, 0))
  r1 : W.heap[w.heap.size + 1]? = some (.cells ac 37 (0, 0))
  r2 : W.heap[w.heap.size + 1 + 1]? = some (.cells (recC 0 0 0 0 0 0 ⟨#[]⟩ (.slice none 0 0)) 25 (0, 0))
  r3 : W.heap[w.heap.size + 1 + 1 + 1]? = some (.cells (ansC 0 0 RC.zero none 0) 82 (0, 0))
  its : Its W A q.list
  new : ∀ k, ob A = some k → w.heap.size + 4 ≤ k
  below : Below w.heap.size w W
section
variable {w W W' : World} {q : RC.Rc} {A : Option Addr} {c : Nat} {ac : Array Value}
theorem A5.look (h : A5 w q A c ac W) (hb : Below W.heap.size W W') : A5 w q A c ac W' :=
  ⟨(hb.block _ (lt_of_heap h.r0)).trans h.r0, (hb.block _ (lt_of_heap h.r1)).trans h.r1, (hb.block _ (lt_of_heap h.r2)).trans h.r2, (hb.block _ (lt_of_heap h.r3)).trans h.r3, h.its.below hb, h.new, h.below.trans (hb.mono h.below.size)⟩
/-- Both results' places alone turned, or such as are new. -/
theorem A5.fin (h : A5 w q A c ac W) {wf : World} (hk : Kp (fun k => k = w.heap.size + 1 + 1 ∨ k = w.heap.size + 1 + 1 + 1) W wf) {l : List RC.It} {B : Option Addr} (hB : Its W B l) (hn : ∀ k, ob B = some k → w.heap.size + 4 ≤ k) : Its wf B l :=
  hB.kp hk (fun ad e x => by subst e; have := hn ad.block rfl; rcases x with x | x <;> omega)
theorem A5.bel (h : A5 w q A c ac W) {wf : World} (hk : Kp (fun k => k = w.heap.size + 1 + 1 ∨ k = w.heap.size + 1 + 1 + 1) W wf) : Below w.heap.size w wf :=
  h.below.trans (hk.below h.below.size (fun i hi x => by rcases x with x | x <;> omega))
end
/-- A list that reads as items doesn't lie in a row in which no text is behind a floating number. -/
theorem its_apart {w : World} {A : Option Addr} {l : List RC.It} {k : Nat} {cs : Array Value} {t : TypeId} (h : Its w A l) (hr : w.heap[k]? = some (.cells cs t (0, 0))) (hno : ∀ o x s, cs[o]? = some (.float .f64 x) → cs[o + 1]? = some (.string s) → False) : l = [] ∨ ∀ ad, A = some ad → ad.block ≠ k := by
  rcases h with h | ⟨b, off, rfl, hb, hc⟩
  · exact .inl h
  · cases l with
    | nil => exact .inl rfl
    | cons y l =>
      refine .inr fun ad e hk => ?_
      injection e with e
      subst e
      have hk : b = k := hk
      subst hk
      obtain ⟨h1, h2⟩ := hc 0 y rfl
      rw [cell_of_row _ _ _ _ _ (0, 0) hr] at h1 h2
      simp only [Nat.zero_mul, Nat.add_zero] at h1 h2
      exact hno _ _ _ h1 h2
theorem rec_no (k n lo hi : Int) (x : Nat) (c : Int) (tx : ByteArray) (A : Option Addr) (m cc : Nat) : ∀ o y s, (recC k n lo hi x c tx (.slice A m cc))[o]? = some (.float .f64 y) → (recC k n lo hi x c tx (.slice A m cc))[o + 1]? = some (.string s) → False := by
  intro o y s h1 h2
  rcases o with _ | _ | _ | _ | _ | _ | _ | _ | o
  · simp at h1
  · simp at h1
  · simp at h1
  · simp at h1
  · simp at h2
  · simp at h1
  · simp at h1
  · simp at h1
  · simp at h1
theorem ans_no (cd : Nat) (n : Int) (r : RC.Rc) (A : Option Addr) (cc : Nat) : ∀ o y s, (ansC cd n r A cc)[o]? = some (.float .f64 y) → (ansC cd n r A cc)[o + 1]? = some (.string s) → False := by
  intro o y s h1 h2
  rcases o with _ | _ | _ | _ | _ | _ | _ | _ | _ | _ | o
  · simp at h1
  · simp at h1
  · simp at h1
  · simp at h1
  · simp at h1
  · simp at h1
  · simp at h2
  · simp at h1
  · simp at h1
  · simp at h1
  · simp at h1
theorem its_keep {w w' : World} {A : Option Addr} {l : List RC.It} {S : Nat → Prop} (h : Its w A l) (hk : Kp S w w') (hn : l = [] ∨ ∀ ad, A = some ad → ¬ S ad.block) : Its w' A l := by
  rcases hn with rfl | hn
  · exact Its.nil _ _
  · exact h.kp hk hn
section
variable {w W : World} {q : RC.Rc} {A : Option Addr} {c : Nat} {ac : Array Value}
/-- A list of one knows not where. -/
theorem A5.lay (h : A5 w q A c ac W) {wf : World} (hk : Kp (fun k => k = w.heap.size + 1 + 1 ∨ k = w.heap.size + 1 + 1 + 1) W wf) {l : List RC.It} {B : Option Addr} (hB : Its W B l) : Its wf B l := by
  refine its_keep hB hk ?_
  rcases its_apart hB h.r2 (rec_no 0 0 0 0 0 0 ⟨#[]⟩ none 0 0) with h1 | h1
  · exact .inl h1
  rcases its_apart hB h.r3 (ans_no 0 0 RC.zero none 0) with h2 | h2
  · exact .inl h2
  exact .inr fun ad e x => by rcases x with x | x; exact h1 ad e x; exact h2 ad e x
end
theorem A5.row0 (o0 o1 o2 o3 : Obj) (w : World) : ((((w.alloc o0).alloc o1).alloc o2).alloc o3).heap[w.heap.size]? = some o0 := (heap_alloc_old _ _ (by simp only [World.size_alloc]; omega)).trans ((heap_alloc_old _ _ (by simp only [World.size_alloc]; omega)).trans (heap_alloc2_old w _ _))
theorem A5.row1 (o0 o1 o2 o3 : Obj) (w : World) : ((((w.alloc o0).alloc o1).alloc o2).alloc o3).heap[w.heap.size + 1]? = some o1 := (heap_alloc_old _ _ (by simp only [World.size_alloc]; omega)).trans ((heap_alloc_old _ _ (by simp only [World.size_alloc]; omega)).trans (heap_alloc2_new w _ _))
theorem A5.row2 (o0 o1 o2 o3 : Obj) (w : World) : ((((w.alloc o0).alloc o1).alloc o2).alloc o3).heap[w.heap.size + 1 + 1]? = some o2 := (heap_alloc_old _ _ (by simp only [World.size_alloc]; omega)).trans (heap_new _ _ _ (by simp))
theorem A5.row3 (o0 o1 o2 o3 : Obj) (w : World) : ((((w.alloc o0).alloc o1).alloc o2).alloc o3).heap[w.heap.size + 1 + 1 + 1]? = some o3 := heap_new _ _ _ (by simp)
end Go.Proofs.YtbkcmnmbcldjoaaGreatDoor
