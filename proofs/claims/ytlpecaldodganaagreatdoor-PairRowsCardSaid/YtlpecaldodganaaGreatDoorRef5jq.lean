/- Contracts of the document's own answers for layer 5: what an act does: Swap; Leave. -/
import Derived.Test.YtlpecaldodganaaGreatDoorRef5cq
import Derived.Test.YtlpecaldodganaaGreatDoorRef5hq
namespace Go.Proofs.YtlpecaldodganaaGreatDoor
open Go.RowKit MM
theorem D5.rec4 {w W : World} {q : RC.Rc} {A : Option Addr} {c : Nat} (h : D5 w q A c (RU.err 0) none 0 W) (p : RC.Rc) (B : Option Addr) (cb : Nat) : D5 w q A c ⟨0, 0, p⟩ B cb ((((((((W.setCell ⟨w.heap.size + 1 + 1 + 1 + 1, 2, none⟩ (.int .i64 p.kind)).setCell ⟨w.heap.size + 1 + 1 + 1 + 1, 3, none⟩ (.int .i64 p.num)).setCell ⟨w.heap.size + 1 + 1 + 1 + 1, 4, none⟩ (.int .i64 p.low)).setCell ⟨w.heap.size + 1 + 1 + 1 + 1, 5, none⟩ (.int .i64 p.high)).setCell ⟨w.heap.size + 1 + 1 + 1 + 1, 6, none⟩ (.float .f64 p.real)).setCell ⟨w.heap.size + 1 + 1 + 1 + 1, 7, none⟩ (.int .i64 p.cap)).setCell ⟨w.heap.size + 1 + 1 + 1 + 1, 8, none⟩ (.string p.text)).setCell ⟨w.heap.size + 1 + 1 + 1 + 1, 9, none⟩ (.slice B p.list.length cb)) :=
  D5.set4 (o := 9) (v := .slice B p.list.length cb) (x' := ⟨0, 0, p⟩) (B' := B) (cb' := cb) (D5.set4 (o := 8) (v := .string p.text) (x' := ⟨0, 0, { RC.zero with kind := p.kind, num := p.num, low := p.low, high := p.high, real := p.real, cap := p.cap, text := p.text }⟩) (B' := none) (cb' := 0) (D5.set4 (o := 7) (v := .int .i64 p.cap) (x' := ⟨0, 0, { RC.zero with kind := p.kind, num := p.num, low := p.low, high := p.high, real := p.real, cap := p.cap }⟩) (B' := none) (cb' := 0) (D5.set4 (o := 6) (v := .float .f64 p.real) (x' := ⟨0, 0, { RC.zero with kind := p.kind, num := p.num, low := p.low, high := p.high, real := p.real }⟩) (B' := none) (cb' := 0) (D5.set4 (o := 5) (v := .int .i64 p.high) (x' := ⟨0, 0, { RC.zero with kind := p.kind, num := p.num, low := p.low, high := p.high }⟩) (B' := none) (cb' := 0) (D5.set4 (o := 4) (v := .int .i64 p.low) (x' := ⟨0, 0, { RC.zero with kind := p.kind, num := p.num, low := p.low }⟩) (B' := none) (cb' := 0) (D5.set4 (o := 3) (v := .int .i64 p.num) (x' := ⟨0, 0, { RC.zero with kind := p.kind, num := p.num }⟩) (B' := none) (cb' := 0) (D5.set4 (o := 2) (v := .int .i64 p.kind) (x' := ⟨0, 0, { RC.zero with kind := p.kind }⟩) (B' := none) (cb' := 0) (h) (by rfl)) (by rfl)) (by rfl)) (by rfl)) (by rfl)) (by rfl)) (by rfl)) (by rfl)
set_option maxHeartbeats 4000000 in
set_option maxRecDepth 100000 in
theorem do5_6 (r : RC.Rc) (key : ByteArray) (n : Int) (x : Nat) (s : ByteArray) (m : RC.Rc) (must : Bool) (A L : Option Addr) (c cl : Nat) (w : World) (hA : Its w A r.list) (hn : Lim r.list.length) (q : RC.Rc) (xx : RU.Ans) (hq : q = { r with text := s }) (hxx : xx = ⟨0, 0, r⟩) :
    Calls Tryz.prog 103 #[recV r A c, actV ⟨6, key, n, x, s, m, must⟩ L cl] w (D5Post q xx w) := by
  have HQ := Lib.hid hq
  have HX := Lib.hid hxx
  clear hq hxx
  have HI := Lib.hid hA
  clear hA
  go_enter Tryz.func103, Tryz.ntmps103
  go_wp2_with (first
    | (go_at_call 102
       refine (copied_any r A c _ (HI.out.below (below5 w _ _ _ _ _)) hn).mono ?_
       rintro e w2 ⟨A2, k2, rfl, ho, hnw, hb⟩
       have HS := Lib.hid ((D5.start r A c _ (RU.err 0) none 0 w).look hb)
       have ha := (hb.block (w.heap.size + 1) (by simp only [World.size_alloc]; omega)).trans (D5.act0 _ _ _ _ _ w)
       simp only [World.size_alloc] at hnw
       have HO := Lib.hid ho
       have HN := Lib.hid (show ∀ k, ob A2 = some k → w.heap.size + 5 ≤ k from fun k e => hnw k e)
       have d0 := fun o => cell_of_row w2 _ o _ _ (0, 0) HS.out.r0
       have g0 : ∀ o, w2.frozen? ⟨w.heap.size, o, none⟩ = false := fun o => frozen_of_row _ _ o _ _ HS.out.r0
       have d1 := fun o => cell_of_row w2 _ o _ _ (0, 0) ha
       have d4 := fun o => cell_of_row w2 _ o _ _ (0, 0) HS.out.r4
       have g4 : ∀ o, w2.frozen? ⟨w.heap.size + 1 + 1 + 1 + 1, o, none⟩ = false := fun o => frozen_of_row _ _ o _ _ HS.out.r4
       clear ho hnw hb ha))
  generalize hwz : World.setCell _ _ _ = wz
  have HD := Lib.hid (show D5 w q A c xx A2 k2 wz by rw [← hwz, HQ.out, HX.out]; exact D5.set0 (D5.rec4 HS.out r A2 k2) (by rfl))
  have hk : Kp (fun k => k = w.heap.size ∨ k = w.heap.size + 1 + 1 + 1 + 1) w2 wz := by
    rw [← hwz]
    refine Kp.setCell ?_ (Or.inl (Or.inl rfl)) _
    iterate 8 refine Kp.setCell ?_ (Or.inl (Or.inr rfl)) _
    exact Kp.refl _ _
  have HA := Lib.hid (show ∀ wf, Kp (S23 w) wz wf → Its wf A q.list by rw [HQ.out]; exact HD.out.old HI.out)
  have HB := Lib.hid (show ∀ wf, Kp (S23 w) wz wf → Its wf A2 xx.rc.list by rw [HX.out]; exact D5.new ((Its.own HO.out).kp hk (fun ad e x => by subst e; have := HN.out ad.block rfl; rcases x with x | x <;> omega)) HN.out)
  clear hwz d0 g0 d1 d4 g4 hk
  have HF := Lib.hid (D5.fin HD.out HA.out HB.out)
  have c0 := fun o => cell_of_row wz _ o _ _ (0, 0) HD.out.r0
  have c2 := fun o => cell_of_row wz _ o _ _ (0, 0) HD.out.r2
  have c3 := fun o => cell_of_row wz _ o _ _ (0, 0) HD.out.r3
  have c4 := fun o => cell_of_row wz _ o _ _ (0, 0) HD.out.r4
  have f2 : ∀ o, wz.frozen? ⟨w.heap.size + 1 + 1, o, none⟩ = false := fun o => frozen_of_row _ _ o _ _ HD.out.r2
  have f3 : ∀ o, wz.frozen? ⟨w.heap.size + 1 + 1 + 1, o, none⟩ = false := fun o => frozen_of_row _ _ o _ _ HD.out.r3
  have Q2 := Lib.hid HD.out.r2
  have Q3 := Lib.hid HD.out.r3
  clear HD HA HB
  go_region_with (fail)
  all_goals
    go_wp2_with fail
    generalize hwf : World.drew _ = wf
    have X2 : wf.heap[w.heap.size + 1 + 1]? = some (.cells (recC q.kind q.num q.low q.high q.real q.cap q.text (.slice A q.list.length c)) 25 (0, 0)) := by
      rw [← hwf, heap_drew]
      exact (ans_other (by omega)).trans (rec_stores Q2.out)
    have X3 : wf.heap[w.heap.size + 1 + 1 + 1]? = some (.cells (ansC xx.code xx.num xx.rc A2 k2) 49 (0, 0)) := by
      rw [← hwf, heap_drew]
      exact ans_all ((rec_stores_other (by omega)).trans Q3.out)
    have hk : Kp (S23 w) wz wf := by
      rw [← hwf]
      exact (kp10 (kp8g (Kp.refl _ _) (Or.inl (Or.inl rfl))) (Or.inl (Or.inr rfl))).drew
    have HP := Lib.hid (HF.out wf hk)
    have q2 := fun o => cell_of_row wf _ o _ _ (0, 0) X2
    have q3 := fun o => cell_of_row wf _ o _ _ (0, 0) X3
    clear hwf X2 X3 hk c0 c2 c3 c4 f2 f3
    exact bodyPost_ret (v := .tuple #[recV q A c, ansV xx.code xx.num xx.rc A2 k2]) (by simp [results, Tryz.results103, go_sem, q2, q3]) rfl HP.out
/-- How things stand while a list is gone through. -/
structure LvAt (w : World) (r : RC.Rc) (A : Option Addr) (c : Nat) (ac : Array Value) (B : Option Addr) (cb : Nat) (out : List RC.It) (wr : World) : Prop where
  d5 : D5 w r A c (RU.err 0) none 0 wr
  act : wr.heap[w.heap.size + 1]? = some (.cells ac 27 (0, 0))
  own : wr.ownsRow 0 108 2 (.slice B out.length cb) out.length (itCells out)
  new : ∀ k, ob B = some k → w.heap.size + 5 ≤ k
section
variable {w : World} {r : RC.Rc} {A : Option Addr} {c : Nat} {ac : Array Value} {B : Option Addr} {cb : Nat} {out : List RC.It} {wr wx : World}
theorem LvAt.look (h : LvAt w r A c ac B cb out wr) (hb : Below wr.heap.size wr wx) : LvAt w r A c ac B cb out wx :=
  ⟨h.d5.look hb, (hb.block _ (lt_of_heap h.act)).trans h.act, own_below h.own hb, h.new⟩
theorem LvAt.more (h : LvAt w r A c ac B cb out wr) {y : RC.It} {w3 : World} {B2 : Option Addr} {c2 : Nat} {o : Obj} (hg : (wr.alloc o).grownBy w3 (ob B)) (hat : ob B2 = ob B ∨ ob B2 = some (wr.alloc o).heap.size) (ho : w3.ownsRow 0 108 2 (.slice B2 (out.length + 1) c2) (out.length + 1) (itCells out ++ [.float .f64 y.score, .string y.name])) : LvAt w r A c ac B2 c2 (out ++ [y]) w3 := by
  have hk : Kp (fun k => ob B = some k) (wr.alloc o) w3 := Kp.grown (Kp.refl _ _) hg (fun k e => .inl e)
  have s0 := lt_of_heap h.d5.r0
  have s1 := lt_of_heap h.act
  have s2 := lt_of_heap h.d5.r2
  have s3 := lt_of_heap h.d5.r3
  have s4 := lt_of_heap h.d5.r4
  have keep : ∀ k, k < w.heap.size + 5 → k < wr.heap.size → w3.heap[k]? = wr.heap[k]? := fun k h1 h2 => (hk.block k (by simp only [World.size_alloc]; omega) (fun e => by have := h.new _ e; omega)).trans (heap_alloc_old wr o h2)
  refine ⟨⟨(keep _ (by omega) s0).trans h.d5.r0, (keep _ (by omega) s2).trans h.d5.r2, (keep _ (by omega) s3).trans h.d5.r3, (keep _ (by omega) s4).trans h.d5.r4, (h.d5.below.alloc h.d5.below.size o).trans (hk.below (by simp only [World.size_alloc]; have := h.d5.below.size; omega) (fun i hi e => by have := h.new i e; omega))⟩, (keep _ (by omega) s1).trans h.act, ?_, fun k e => ?_⟩
  · rw [itCells_append, show (out ++ [y]).length = out.length + 1 by simp]
    exact ho
  · rcases hat with h1 | h1
    · rw [h1] at e; exact h.new k e
    · rw [h1] at e; injection e with e; simp only [World.size_alloc] at e; omega
end
set_option maxHeartbeats 4000000 in
set_option maxRecDepth 100000 in
theorem do5_19 (r : RC.Rc) (key : ByteArray) (n : Int) (x : Nat) (s : ByteArray) (m : RC.Rc) (must : Bool) (A L : Option Addr) (c cl : Nat) (w : World) (hA : Its w A r.list) (hn : r.list.length ≤ 1000) (q : RC.Rc) (xx : RU.Ans) (hq : q = { r with list := r.list.filter fun y => !RC.strEq y.name s }) (hxx : xx = RU.err 0) :
    Calls Tryz.prog 103 #[recV r A c, actV ⟨19, key, n, x, s, m, must⟩ L cl] w (D5Post q xx w) := by
  have HQ := Lib.hid hq
  have HX := Lib.hid hxx
  clear hq hxx
  have HI := Lib.hid hA
  clear hA
  go_enter Tryz.func103, Tryz.ntmps103
  go_wp2_with fail
  obtain ⟨i0, hi0, hz0, hz1, hz2⟩ := info_parts item_info
  generalize hw1 : World.alloc _ _ = w1
  have H0 := Lib.hid (show LvAt w r A c (actC ⟨19, key, n, x, s, m, must⟩ L cl) (some ⟨w.heap.size + 1 + 1 + 1 + 1 + 1, 0, none⟩) 0 [] w1 by
    rw [← hw1]
    have hs := D5.start r A c (.cells (actC ⟨19, key, n, x, s, m, must⟩ L cl) 27) (RU.err 0) none 0 w
    refine ⟨hs.look (below1 _ _), (heap_alloc_old _ _ (by simp only [World.size_alloc]; omega)).trans (D5.act0 _ _ _ _ _ w), ?_, fun k e => (by injection e with e; have e' : w.heap.size + 1 + 1 + 1 + 1 + 1 = k := e; omega)⟩
    have h := World.ownsRow_lit (base := 0) (e := 108) (size := 2) (((((w.alloc (.cells (recC r.kind r.num r.low r.high r.real r.cap r.text (.slice A r.list.length c)) 25)).alloc (.cells (actC ⟨19, key, n, x, s, m, must⟩ L cl) 27)).alloc (.cells (recC 0 0 0 0 0 0 ⟨#[]⟩ (.slice none 0 0)) 25)).alloc (.cells (ansC 0 0 RC.zero none 0) 49)).alloc (.cells (ansC 0 0 RC.zero none 0) 49)) #[] 0 (Nat.zero_le _) (by unfold maxLen; omega) rfl
    simp only [World.size_alloc] at h
    exact h)
  clear hw1
  go_loopw [7, 8] (fun t7 t8 wr => ∃ (i : Nat) (out : List RC.It) (B : Option Addr) (cb : Nat), t8 = .int .i64 i ∧ t7 = .slice B out.length cb ∧ i ≤ r.list.length ∧ out.length ≤ i ∧ out ++ ((r.list.drop i).filter fun y => !RC.strEq y.name s) = (r.list.filter fun y => !RC.strEq y.name s) ∧ LvAt w r A c (actC ⟨19, key, n, x, s, m, must⟩ L cl) B cb out wr) (fun _ t8 _ => r.list.length - (intOf t8).toNat)
  case atStart => exact ⟨0, [], _, _, rfl, rfl, Nat.zero_le _, Nat.le_refl _, rfl, H0.out⟩
  case round =>
    obtain ⟨i, out, B, cb, rfl, rfl, hi, hol, heq, hv⟩ := hrel
    have HV := Lib.hid hv
    have HEq := Lib.hid heq
    clear hv heq H0
    have b0 := fun o => cell_of_row wr _ o _ _ (0, 0) HV.out.d5.r0
    have b1 := fun o => cell_of_row wr _ o _ _ (0, 0) HV.out.act
    have z0 := lt_of_heap HV.out.d5.r0
    have z1 := lt_of_heap HV.out.act
    by_cases hlt : i < r.list.length
    · have hd := List.drop_eq_getElem_cons hlt
      have HEq2 := HEq
      rw [hd] at HEq2
      have hl1 : r.list.length ≤ 1000 := hn
      rcases HI.out with h0 | ⟨b, off, rfl, hb, hrow⟩
      · rw [h0] at hlt; simp at hlt
      have hc := hrow i r.list[i] (List.getElem?_eq_getElem hlt)
      clear hrow hd
      generalize r.list[i] = y at *
      have y0 := below_keep HV.out.d5.below hc.1
      have y1 := below_keep HV.out.d5.below hc.2
      have HC0 := Lib.hid hc.1
      have HC1 := Lib.hid hc.2
      have hi1 : (i : Int) < (r.list.length : Int) := by omega
      clear hc
      go_wp2_with fail
      go_cut [174] (fun t174 wx => t174 = .bool (!RC.strEq y.name s) ∧ Below wr.heap.size wr wx)
      case first =>
        cases he : RC.strEq y.name s
        · have he' : (y.name.toList == s.toList) = false := he
          have He := Lib.hid he
          clear he
          go_quiet (fail)
          go_wp2_with fail
          go_meet
          exact ⟨by rw [He.out]; rfl, rfl, rfl, rfl, Nat.le_refl _, fun _ _ => rfl⟩
        · have he' : (y.name.toList == s.toList) = true := he
          have He := Lib.hid he
          clear he
          go_quiet (fail)
          go_wp2_with fail
          go_meet
          exact ⟨by rw [He.out]; rfl, rfl, rfl, rfl, Nat.le_refl _, fun _ _ => rfl⟩
      case rest =>
      obtain ⟨rfl, hb2⟩ := hcut
      generalize hwc : wc = w2 at *
      clear hwc
      have HV2 := Lib.hid (HV.out.look hb2)
      clear y0 y1 b0 b1 hb2 z0 z1
      have y0 := below_keep HV2.out.d5.below HC0.out
      have y1 := below_keep HV2.out.d5.below HC1.out
      have b0 := fun o => cell_of_row w2 _ o _ _ (0, 0) HV2.out.d5.r0
      have z0 := lt_of_heap HV2.out.d5.r0
      have HS := Lib.hid (show ((y :: r.list.drop (i + 1)).filter fun y => !RC.strEq y.name s) = if (!RC.strEq y.name s) = true then y :: ((r.list.drop (i + 1)).filter fun y => !RC.strEq y.name s) else ((r.list.drop (i + 1)).filter fun y => !RC.strEq y.name s) from List.filter_cons)
      generalize RC.strEq y.name s = a1 at *
      cases a1
      case true =>
        go_wp2_with fail
        go_roundw
        case rel => exact ⟨i + 1, out, B, cb, by go_num, rfl, by omega, by omega, by rw [← HEq2.out, HS.out]; rfl, HV2.out⟩
        case measure => simp [intOf]; omega
      go_wp2_with (first
        | (at_builtin
           refine wpList_append_at rfl _ _ _ _ rfl 108 i0 _ 2 24 Tryz.underlying23 hi0 hz0 hz1 hz2 rfl B (out.length) cb (itCells (out)) rfl (own_below HV2.out.own (below1 _ _)) _ 1 _ rfl (src_it Tryz.underlying23 _ _ _ _ rfl rfl rfl) (by unfold maxLen; omega) (by omega) ?_
           intro B5 c5 w5 ho hg hat
           have H5 := Lib.hid (HV2.out.more (y := y) hg hat ho)
           clear ho hg hat))
      go_wp2_with fail
      go_roundw
      case rel =>
        refine ⟨i + 1, out ++ [y], B5, c5, by go_num, by simp, by omega, by simp; omega, ?_, H5.out⟩
        rw [List.append_assoc, List.singleton_append, ← HEq2.out, HS.out]
        rfl
      case measure => simp [intOf]; omega
    · have hi' : i = r.list.length := by omega
      subst hi'
      have hi1 : ¬ (r.list.length : Int) < (r.list.length : Int) := by omega
      have HEn := HEq
      rw [List.drop_length] at HEn
      have HT := Lib.hid (show out = r.list.filter fun y => !RC.strEq y.name s by have := HEn.out; rw [List.filter_nil, List.append_nil] at this; exact this)
      have g0 : ∀ o, wr.frozen? ⟨w.heap.size, o, none⟩ = false := fun o => frozen_of_row _ _ o _ _ HV.out.d5.r0
      rw [← HT.out] at HQ
      clear HEn HEq HT
      go_wp2_with fail
      generalize hwz : World.setCell _ _ _ = wz
      have HD := Lib.hid (show D5 w q B cb xx none 0 wz by rw [← hwz, HQ.out, HX.out]; exact D5.set0 HV.out.d5 (by rfl))
      have HA := Lib.hid (show ∀ wf, Kp (S23 w) wz wf → Its wf B q.list by rw [HQ.out]; exact D5.new (by rw [← hwz]; exact (Its.own HV.out.own).kp (Kp.setCell (S := fun k => k = w.heap.size) (Kp.refl _ _) (Or.inl rfl) _) (fun ad e x => by subst e; have := HV.out.new ad.block rfl; omega)) HV.out.new)
      have HB := Lib.hid (show ∀ wf, Kp (S23 w) wz wf → Its wf none xx.rc.list by rw [HX.out]; exact D5.noL (w := w) (W := wz) none)
      clear hwz b0 b1 g0 z0 z1
      have HF := Lib.hid (D5.fin HD.out HA.out HB.out)
      have c0 := fun o => cell_of_row wz _ o _ _ (0, 0) HD.out.r0
      have c2 := fun o => cell_of_row wz _ o _ _ (0, 0) HD.out.r2
      have c3 := fun o => cell_of_row wz _ o _ _ (0, 0) HD.out.r3
      have c4 := fun o => cell_of_row wz _ o _ _ (0, 0) HD.out.r4
      have f2 : ∀ o, wz.frozen? ⟨w.heap.size + 1 + 1, o, none⟩ = false := fun o => frozen_of_row _ _ o _ _ HD.out.r2
      have f3 : ∀ o, wz.frozen? ⟨w.heap.size + 1 + 1 + 1, o, none⟩ = false := fun o => frozen_of_row _ _ o _ _ HD.out.r3
      have Q2 := Lib.hid HD.out.r2
      have Q3 := Lib.hid HD.out.r3
      clear HD HA HB
      go_region_with (fail)
      all_goals
        go_wp2_with fail
        generalize hwf : World.drew _ = wf
        have X2 : wf.heap[w.heap.size + 1 + 1]? = some (.cells (recC q.kind q.num q.low q.high q.real q.cap q.text (.slice B q.list.length cb)) 25 (0, 0)) := by
          rw [← hwf, heap_drew]
          exact (ans_other (by omega)).trans (rec_stores Q2.out)
        have X3 : wf.heap[w.heap.size + 1 + 1 + 1]? = some (.cells (ansC xx.code xx.num xx.rc none 0) 49 (0, 0)) := by
          rw [← hwf, heap_drew]
          exact ans_all ((rec_stores_other (by omega)).trans Q3.out)
        have hk : Kp (S23 w) wz wf := by
          rw [← hwf]
          exact (kp10 (kp8g (Kp.refl _ _) (Or.inl (Or.inl rfl))) (Or.inl (Or.inr rfl))).drew
        have HP := Lib.hid (HF.out wf hk)
        have q2 := fun o => cell_of_row wf _ o _ _ (0, 0) X2
        have q3 := fun o => cell_of_row wf _ o _ _ (0, 0) X3
        clear hwf X2 X3 hk c0 c2 c3 c4 f2 f3
        exact bodyPost_ret (v := .tuple #[recV q B cb, ansV xx.code xx.num xx.rc none 0]) (by simp [results, Tryz.results103, go_sem, q2, q3]) rfl HP.out
end Go.Proofs.YtlpecaldodganaaGreatDoor
