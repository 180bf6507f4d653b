/- Contracts of package share: the acts by which a Set, or a Top, gets what is in its slices. -/
import Derived.Test.YtbkcmnmbcldjoaaGreatDoorSh2P7d
import Derived.Test.YtbkcmnmbcldjoaaGreatDoorOpnMP7d
import Derived.Test.YtbkcmnmbcldjoaaGreatDoorOpn4rmP7d
import Derived.Test.YtbkcmnmbcldjoaaGreatDoorPlMP7d
namespace Go.Proofs.YtbkcmnmbcldjoaaGreatDoor
open Go.RowKit MM
set_option linter.unusedVariables false
set_option linter.unusedSimpArgs false
theorem item_inf7 : (Tryz.prog.info? 91).map (fun i => i.size) = some 2 := by kernel_rfl
/-- A record, and where its list lies. -/
structure Rl where
  r : RC.Rc
  A : Option Addr
  c : Nat
def Rl.cells (x : Rl) : Array Value := recC x.r.kind x.r.num x.r.low x.r.high x.r.real x.r.cap x.r.text (.slice x.A x.r.list.length x.c)
/-- A slice that reads as records. -/
structure RecsIn (w : World) (A : Option Addr) (l : List Rl) : Prop where
  rows : l = [] ∨ ∃ b off, A = some ⟨b, off, none⟩ ∧ b < w.heap.size ∧ ∀ i x, l[i]? = some x → ∀ j v, x.cells[j]? = some v → w.cell? ⟨b, off + i * 8 + j, none⟩ = some v
  all : ∀ x ∈ l, RecIn w x.r x.A x.c
  len : l.length ≤ maxLen
theorem RecsIn.keep {w w' : World} {L : Option Addr} {l : List Rl} (h : RecsIn w L l) (hb : Below w.heap.size w w') : RecsIn w' L l := by
  refine ⟨?_, fun x hx => (h.all x hx).keep hb, h.len⟩
  rcases h.rows with h1 | ⟨b, off, h1, h2, h3⟩
  · exact .inl h1
  · exact .inr ⟨b, off, h1, Nat.lt_of_lt_of_le h2 hb.size, fun i x hi j v hv => below_keep hb (h3 i x hi j v hv)⟩
theorem recs_range7 {w : World} {L : Option Addr} {P : List Rl} (h : RecsIn w L P) {i : Nat} (hi : i < P.length) : ∃ b off, L = some ⟨b, off, none⟩ ∧ w.rangeAt b (off + i * 8) P[i].cells.toList := by
  rcases h.rows with h0 | ⟨b, off, rfl, hb, hr⟩
  · subst h0
    simp at hi
  · exact ⟨b, off, rfl, fun j v hv => hr i P[i] (List.getElem?_eq_getElem hi) j v (by rw [← Array.getElem?_toList]; exact hv)⟩
def SH.sA : ByteArray := ⟨#[97]⟩
/-- The act by which a list gets an item. -/
def SH.regain (kind : Int) (x : RC.It) : AC.Ac := if kind = 8 then ⟨18, SH.sA, 0, 0, x.name, RC.zero, false⟩ else ⟨21, SH.sA, 0, x.score, x.name, RC.zero, false⟩
def SH.regains (kind : Int) (l : List RC.Rc) : List AC.Ac := if kind = 8 ∨ kind = 9 then l.flatMap fun p => p.list.map (SH.regain kind) else []
def SH.al (a : AC.Ac) : Al := ⟨a, none, 0⟩
theorem SH.regain_in (kind : Int) {x : RC.It} (w : World) (hx : MF.W64 x.score) (hn : x.name.size ≤ maxLen) : ActIn w (SH.regain kind x) none 0 := by
  unfold SH.regain
  split
  · exact ⟨⟨show (Lit.int .i64 18).wf = true by decide, show (Lit.int .i64 0).wf = true by decide, show MF.W64 0 by unfold MF.W64; decide, RC.zero_ok⟩, ⟨RC.zero_ok, .inl rfl, Nat.zero_le _, Nat.zero_le _, fun y hy => by cases hy⟩, show SH.sA.size ≤ maxLen by unfold maxLen; decide, hn⟩
  · exact ⟨⟨show (Lit.int .i64 21).wf = true by decide, show (Lit.int .i64 0).wf = true by decide, hx, RC.zero_ok⟩, ⟨RC.zero_ok, .inl rfl, Nat.zero_le _, Nat.zero_le _, fun y hy => by cases hy⟩, show SH.sA.size ≤ maxLen by unfold maxLen; decide, hn⟩
set_option maxHeartbeats 4000000 in
set_option maxRecDepth 100000 in
theorem sregain_any (kind : Int) (x : RC.It) (w : World) :
    Calls Tryz.prog 82 #[.int .i64 kind, itV x] w fun e w' => e = .returned (actV (SH.regain kind x) none 0) ∧ Below w.heap.size w w' := by
  have HV := Lib.hid (show SH.regain kind x = if kind = 8 then ⟨18, SH.sA, 0, 0, x.name, RC.zero, false⟩ else ⟨21, SH.sA, 0, x.score, x.name, RC.zero, false⟩ from rfl)
  generalize SH.regain kind x = v at *
  go_enter Tryz.func82, Tryz.ntmps82
  go_upto_region 1 with fail
  generalize hw1 : World.alloc (World.alloc w _) _ = w1
  have HB := Lib.hid (show Below w.heap.size w w1 by rw [← hw1]; exact below2 w _ _)
  have E1 := Lib.hid (show w1.heap[w.heap.size]? = some (.cells #[.float .f64 x.score, .string x.name] 91 (0, 0)) by rw [← hw1]; exact heap_alloc2_old w _ _)
  have E2 := Lib.hid (show w1.heap[w.heap.size + 1]? = some (.cells (actC AC.zero none 0) 37 (0, 0)) by rw [← hw1]; exact heap_alloc2_new w _ _)
  have d0 := cell_of_row w1 _ 0 _ _ (0, 0) E1.out
  have d1 := cell_of_row w1 _ 1 _ _ (0, 0) E1.out
  clear hw1
  by_cases h8 : kind = 8
  · subst h8
    have HW := Lib.hid (show v = ⟨18, SH.sA, 0, 0, x.name, RC.zero, false⟩ by rw [HV.out] <;> rfl)
    go_wp2_with (first
      | (refine wpList_store_row rfl _ _ _ rfl (w.heap.size + 1) (actC ⟨18, SH.sA, 0, 0, x.name, RC.zero, false⟩ none 0) rfl rfl 37 _ E2.out act_inf9 rfl (by kernel_rfl) ?_))
    generalize hwf : World.setRow w1 _ _ = wf
    have hkf : Kp (fun j => j = w.heap.size + 1) w1 wf := by rw [← hwf]; exact kpRow7 (S := fun j => j = w.heap.size + 1) (Kp.refl _ _) (.inl rfl) _
    have X2 : wf.heap[w.heap.size + 1]? = some (.cells (actC ⟨18, SH.sA, 0, 0, x.name, RC.zero, false⟩ none 0) 37 (0, 0)) := by rw [← hwf]; exact setRow_heap w1 _ _ _ _ _ E2.out
    have k2 := fun o => cell_of_row wf _ o _ _ (0, 0) X2
    have HBf := Lib.hid (HB.out.trans (hkf.below HB.out.size (fun i hi x => by omega)))
    clear hwf X2 hkf
    exact bodyPost_ret (v := actV ⟨18, SH.sA, 0, 0, x.name, RC.zero, false⟩ none 0) (by simp [results, Tryz.results82, go_sem, k2]) rfl ⟨by rw [HW.out], HBf.out⟩
  have HW := Lib.hid (show v = ⟨21, SH.sA, 0, x.score, x.name, RC.zero, false⟩ by rw [HV.out, if_neg h8])
  go_wp2_with (first
    | (refine wpList_store_row rfl _ _ _ rfl (w.heap.size + 1) (actC ⟨21, SH.sA, 0, x.score, x.name, RC.zero, false⟩ none 0) rfl rfl 37 _ E2.out act_inf9 rfl (by kernel_rfl) ?_))
  generalize hwf : World.setRow w1 _ _ = wf
  have hkf : Kp (fun j => j = w.heap.size + 1) w1 wf := by rw [← hwf]; exact kpRow7 (S := fun j => j = w.heap.size + 1) (Kp.refl _ _) (.inl rfl) _
  have X2 : wf.heap[w.heap.size + 1]? = some (.cells (actC ⟨21, SH.sA, 0, x.score, x.name, RC.zero, false⟩ none 0) 37 (0, 0)) := by rw [← hwf]; exact setRow_heap w1 _ _ _ _ _ E2.out
  have k2 := fun o => cell_of_row wf _ o _ _ (0, 0) X2
  have HBf := Lib.hid (HB.out.trans (hkf.below HB.out.size (fun i hi x => by omega)))
  clear hwf X2 hkf
  exact bodyPost_ret (v := actV ⟨21, SH.sA, 0, x.score, x.name, RC.zero, false⟩ none 0) (by simp [results, Tryz.results82, go_sem, k2]) rfl ⟨by rw [HW.out], HBf.out⟩
theorem grown_keep7 {B : Nat} {w wa w4 : World} {A : Option Addr} (hb : Below B w wa) (hB : ∀ k, ob A = some k → B ≤ k) (hg : wa.grownBy w4 (ob A)) (hz : B ≤ w.heap.size) : Below B w w4 :=
  hb.trans ((Kp.grown (S := fun k => ob A = some k) (Kp.refl _ _) hg (fun k e => .inl e)).below (by have := hb.size; omega) (fun i hi x => by have := hB i x; omega))
theorem grown_new7 {B : Nat} {wa : World} {A A4 : Option Addr} (hB : ∀ k, ob A = some k → B ≤ k) (hat : ob A4 = ob A ∨ ob A4 = some wa.heap.size) (hz : B ≤ wa.heap.size) : ∀ k, ob A4 = some k → B ≤ k := fun k e => by
  rcases hat with h | h
  · exact hB k (h ▸ e)
  · rw [h] at e; injection e with e; omega
/-- How things stand while acts are gathered. -/
structure RgAt (w : World) (ys : List AC.Ac) (B : Option Addr) (n cb : Nat) (wr : World) : Prop where
  own : wr.ownsRow 0 37 14 (.slice B n cb) n (acCells (ys.map SH.al))
  newB : ∀ k, ob B = some k → w.heap.size ≤ k
  below : Below w.heap.size w wr
  len : ys.length = n
theorem RgAt.keep {w wr w' : World} {ys : List AC.Ac} {B : Option Addr} {n cb : Nat} (h : RgAt w ys B n cb wr) (hb : Below wr.heap.size wr w') : RgAt w ys B n cb w' :=
  ⟨own_below h.own hb, h.newB, h.below.trans (hb.mono h.below.size), h.len⟩
theorem RgAt.next {w wr w4 : World} {ys : List AC.Ac} {a : AC.Ac} {B B' : Option Addr} {n cb cb' : Nat} (h : RgAt w ys B n cb wr) (hg : wr.grownBy w4 (ob B)) (hat : ob B' = ob B ∨ ob B' = some wr.heap.size) (ho : w4.ownsRow 0 37 14 (.slice B' (n + 1) cb') (n + 1) (acCells (ys.map SH.al) ++ (actC a none 0).toList)) : RgAt w (ys ++ [a]) B' (n + 1) cb' w4 := by
  refine ⟨?_, grown_new7 h.newB hat h.below.size, grown_keep7 h.below h.newB hg (Nat.le_refl _), by simp [h.len]⟩
  rw [List.map_append, acCells_append]
  show w4.ownsRow _ _ _ _ _ (acCells _ ++ ((actC a none 0).toList ++ []))
  rw [List.append_nil]
  exact ho
/-- What regains answers. -/
def RgPost (l : List AC.Ac) (w : World) (e : Ending) (w' : World) : Prop := ∃ B cb, e = .returned (.slice B l.length cb) ∧ ActsIn w' B (l.map SH.al) ∧ Below w.heap.size w w'
theorem flat_step {α β : Type} (f : α → List β) (l : List α) (i : Nat) (hi : i < l.length) : l.flatMap f = (l.take i).flatMap f ++ (f l[i] ++ (l.drop (i + 1)).flatMap f) := by
  conv => lhs; rw [← List.take_append_drop i l, List.drop_eq_getElem_cons hi]
  rw [List.flatMap_append, List.flatMap_cons]
theorem flat_take {α β : Type} (f : α → List β) (l : List α) (i : Nat) (hi : i < l.length) : (l.take (i + 1)).flatMap f = (l.take i).flatMap f ++ f l[i] := by
  rw [List.take_add_one, List.getElem?_eq_getElem hi, List.flatMap_append]
  simp
set_option maxHeartbeats 8000000 in
set_option maxRecDepth 100000 in
theorem sregains_any (kind : Int) (l : List Rl) (L : Option Addr) (cl : Nat) (w : World) (hl : RecsIn w L l) (hn : (SH.regains kind (l.map (·.r))).length ≤ 100000) (hk : l.length ≤ 1000) (hk2 : ∀ p ∈ l, p.r.list.length ≤ 100000) :
    Calls Tryz.prog 45 #[.int .i64 kind, .slice L l.length cl] w (RgPost (SH.regains kind (l.map (·.r))) w) := by
  obtain ⟨i0, hi0, hz0, hz1, hz2⟩ := info_parts act_info6
  have HL := Lib.hid hl
  have HK := Lib.hid hk2
  have HN := Lib.hid hn
  have HV := Lib.hid (show SH.regains kind (l.map (·.r)) = if kind = 8 ∨ kind = 9 then l.flatMap (fun p => p.r.list.map (SH.regain kind)) else [] by unfold SH.regains; rw [List.flatMap_map])
  generalize SH.regains kind (l.map (·.r)) = V at *
  clear hl hk2 hn
  go_enter Tryz.func45, Tryz.ntmps45
  by_cases h : kind = 8 ∨ kind = 9
  case neg =>
    have b8 : (kind != 8) = true := bne_iff_ne.2 (fun e => h (.inl e))
    have b9 : (kind != 9) = true := bne_iff_ne.2 (fun e => h (.inr e))
    have HV := Lib.hid (show V = [] by rw [HV.out, if_neg h])
    clear h
    go_wp2_with fail
    go_ret
    refine ⟨none, 0, by rw [HV.out]; rfl, ?_, Below.refl _ _⟩
    rw [HV.out]
    exact ⟨.inl rfl, fun x hx => (by cases hx), Nat.zero_le _⟩
  have HV := Lib.hid (show V = l.flatMap (fun p => p.r.list.map (SH.regain kind)) by rw [HV.out, if_pos h])
  have HR := Lib.hid (fun x u => sregain_any kind x u)
  generalize hff : (fun p : Rl => p.r.list.map (SH.regain kind)) = f at *
  have HF := Lib.hid (show ∀ p : Rl, f p = p.r.list.map (SH.regain kind) from fun p => by rw [← hff])
  clear hff
  go_upto_region 1 with fail
  go_cut [15] (fun t15 wx => t15 = .bool false ∧ wx = w)
  case first =>
    rcases h with rfl | rfl
    all_goals
      go_wp2_with fail
      go_meet
      exact ⟨rfl, rfl⟩
  case rest =>
  obtain ⟨rfl, rfl⟩ := hcut
  clear h
  generalize hwc : wc = w at *
  clear hwc
  go_wp2_with fail
  go_loopw [5, 18] (fun t5 t18 wr => ∃ (i : Nat) (ys : List AC.Ac) (B : Option Addr) (cb : Nat), t18 = .int .i64 i ∧ i ≤ l.length ∧ ys = (l.take i).flatMap f ∧ t5 = .slice B ys.length cb ∧ RgAt w ys B ys.length cb wr) (fun _ t18 _ => l.length - (intOf t18).toNat)
  case atStart => exact ⟨0, [], none, 0, rfl, Nat.zero_le _, rfl, rfl, ⟨World.ownsRow_nil _ _ _ _, fun k e => (by cases e), Below.refl _ _, rfl⟩⟩
  case round =>
    obtain ⟨i, ys, B, cb, rfl, hi, hys, rfl, hv⟩ := hrel
    have HVv := Lib.hid hv
    have HYS := Lib.hid hys
    clear hv hys
    by_cases hlt : i < l.length
    · have hin := HL.out.all _ (List.getElem_mem hlt)
      have hk3 := HK.out _ (List.getElem_mem hlt)
      have hst := flat_step f l i hlt
      have htk := flat_take f l i hlt
      have hfi := HF.out l[i]
      obtain ⟨b1, o1, hLe, hr1⟩ := recs_range7 HL.out hlt
      subst hLe
      obtain ⟨p, hp⟩ : ∃ p, p = l[i] := ⟨_, rfl⟩
      rw [← hp] at hin hk3 hst htk hfi hr1
      clear hp
      have HIN := Lib.hid hin
      have HTK := Lib.hid htk
      have HFI := Lib.hid hfi
      have HTOT := Lib.hid (show ys.length + p.r.list.length ≤ 100000 by
        have h1 := HN.out
        rw [HV.out, hst, List.length_append, List.length_append, ← HYS.out, hfi, List.length_map] at h1
        omega)
      have HR1 := Lib.hid (range_keep9 HVv.out.below hr1)
      have hi1 : (i : Int) < (l.length : Int) := by omega
      clear hin hk3 hst htk hfi hr1
      go_upto_region 7 with (first
        | (refine wpList_load_mid rfl _ _ rfl b1 (o1 + i * 8) rfl p.cells.toList _ HR1.out Tryz.underlying25 rfl rec_inf7 ?_)
        | (refine wpList_store_row rfl _ _ _ rfl _ p.cells rfl rfl 25 _ (heap_alloc_new _ _) rec_inf7 rfl (by kernel_rfl) ?_))
      rw [World.setRow_alloc_new]
      generalize hwb : World.alloc wr _ = wb
      have hbb : Below wr.heap.size wr wb := by rw [← hwb]; exact below1 wr _
      have R7 := (show wb.heap[wr.heap.size]? = some (.cells p.cells 25 (0, 0)) by rw [← hwb]; exact heap_alloc_new wr _)
      have c7 : wb.cell? ⟨wr.heap.size, 7, none⟩ = some (.slice p.A p.r.list.length p.c) := cell_of_row wb _ 7 _ _ (0, 0) R7
      have HVb := Lib.hid (HVv.out.keep hbb)
      generalize hg7 : wr.heap.size = g7 at *
      clear hwb hbb R7 HR1 hg7 HVv
      go_wp2_with fail
      go_loopw [5, 25] (fun t5 t25 wr => ∃ (j : Nat) (zs : List AC.Ac) (B : Option Addr) (cb : Nat), t25 = .int .i64 j ∧ j ≤ p.r.list.length ∧ zs = ys ++ (p.r.list.take j).map (SH.regain kind) ∧ t5 = .slice B zs.length cb ∧ RgAt w zs B zs.length cb wr) (fun _ t25 _ => p.r.list.length - (intOf t25).toNat)
      case atStart => exact ⟨0, ys, B, cb, rfl, Nat.zero_le _, by simp, rfl, HVb.out⟩
      case round =>
        obtain ⟨j, zs, B, cb, rfl, hj, hzs, rfl, hv⟩ := hrel
        generalize wr = ws at *
        have HVv := Lib.hid hv
        have HZS := Lib.hid hzs
        have HZL := Lib.hid (show zs.length = ys.length + j by rw [hzs, List.length_append, List.length_map, List.length_take]; omega)
        clear hv hzs c7
        by_cases hlt2 : j < p.r.list.length
        · have hj1 : (j : Int) < (p.r.list.length : Int) := by omega
          rcases HIN.out.its with h0 | ⟨b2, o2, hpA, hbl, hits⟩
          · rw [h0] at hlt2; simp at hlt2
          have hx := hits j _ (List.getElem?_eq_getElem hlt2)
          obtain ⟨x, hxe⟩ : ∃ x, x = p.r.list[j] := ⟨_, rfl⟩
          have HTA := Lib.hid (show zs ++ [SH.regain kind x] = ys ++ (p.r.list.take (j + 1)).map (SH.regain kind) by rw [HZS.out, hxe, List.append_assoc, List.take_add_one, List.getElem?_eq_getElem hlt2, List.map_append]; rfl)
          rw [← hxe] at hx
          obtain ⟨hx0, hx1⟩ := hx
          have HR2 := Lib.hid (show ws.rangeAt b2 (o2 + j * 2) (#[.float .f64 x.score, .string x.name] : Array Value).toList from fun k v hv => by
            rcases k with _ | _ | k
            · simp at hv; subst hv; exact below_keep HVv.out.below hx0
            · simp at hv; subst hv; exact below_keep HVv.out.below hx1
            · simp at hv)
          have hzl : zs.length < 100000 := by have h1 := HZL.out; have h2 := HTOT.out; omega
          have hjn : p.r.list.length ≤ 100000 := by have := HTOT.out; omega
          clear hits hx0 hx1 hxe
          rw [hpA]
          go_upto_region 10 with (first
            | (refine wpList_load_mid rfl _ _ rfl b2 (o2 + j * 2) rfl (#[.float .f64 x.score, .string x.name] : Array Value).toList _ HR2.out Tryz.underlying91 rfl item_inf7 ?_)
            | (refine wpList_store_row rfl _ _ _ rfl _ #[.float .f64 x.score, .string x.name] rfl rfl 91 _ (heap_alloc_new _ _) item_inf7 rfl (by kernel_rfl) ?_))
          rw [World.setRow_alloc_new]
          generalize hwd : World.alloc ws _ = wd
          have hbd : Below ws.heap.size ws wd := by rw [← hwd]; exact below1 ws _
          have R9 : wd.heap[ws.heap.size]? = some (.cells #[.float .f64 x.score, .string x.name] 91 (0, 0)) := by rw [← hwd]; exact heap_alloc_new ws _
          have e0 := cell_of_row wd _ 0 _ _ (0, 0) R9
          have e1 := cell_of_row wd _ 1 _ _ (0, 0) R9
          have HVd := Lib.hid (HVv.out.keep hbd)
          clear hwd hbd R9 HR2
          go_wp2_with fail
          refine (HR.out x _).mono ?_
          rintro e w9 ⟨rfl, hb9⟩
          have HV9 := Lib.hid (HVd.out.keep hb9)
          have KO := Lib.hid (fun X => HV9.out.keep (below1 w9 X))
          clear hb9 e0 e1
          generalize hav : SH.regain kind x = av at *
          clear hav
          go_wp2_with (first
            | (at_builtin
               refine wpList_append_at rfl _ _ _ _ rfl 37 i0 _ 14 152 Tryz.underlying51 hi0 hz0 hz1 hz2 rfl B zs.length cb (acCells (zs.map SH.al)) rfl (KO.out _).own _ 1 _ rfl (src_row Tryz.underlying51 _ (actC av none 0) _ (by simp) rfl (List.all_eq_true.1 rfl)) (by unfold maxLen; omega) (by omega) ?_
               intro B' cb' w10 ho10 hg10 hat10))
          have HT := Lib.hid ((KO.out _).next hg10 hat10 ho10)
          clear ho10 hg10 hat10
          go_wp2_with fail
          go_roundw
          case rel => exact ⟨j + 1, zs ++ [av], B', cb', by go_num, by omega, HTA.out, by simp, by have := HT.out; simpa using this⟩
          case measure => simp [intOf]; omega
        · have hj' : j = p.r.list.length := by omega
          have hj1 : ¬ (j : Int) < (p.r.list.length : Int) := by omega
          have HE := Lib.hid (show zs = (l.take (i + 1)).flatMap f by rw [HZS.out, hj', List.take_length, HTK.out, HFI.out, HYS.out])
          clear hlt2 hj hj'
          go_wp2_with fail
          go_roundw
          case rel => exact ⟨i + 1, zs, B, cb, by go_num, by omega, HE.out, rfl, HVv.out⟩
          case measure => simp [intOf]; omega
    · have hi' : i = l.length := by omega
      have hi1 : ¬ (i : Int) < (l.length : Int) := by omega
      have HE := Lib.hid (show ys = V by rw [HYS.out, HV.out, hi', List.take_length])
      have HP := Lib.hid (show RgPost V w (.returned (.slice B ys.length cb)) wr from ⟨B, cb, by rw [HE.out], acts_own (n := V.length) (c := cb) (by rw [List.length_map]) (by have h := HVv.out.own; rw [HE.out] at h; exact h) (fun x hx => by
        obtain ⟨a, ha, rfl⟩ := List.mem_map.1 hx
        rw [HV.out] at ha
        obtain ⟨p, hp, ha⟩ := List.mem_flatMap.1 ha
        rw [HF.out] at ha
        obtain ⟨y, hy, rfl⟩ := List.mem_map.1 ha
        have h1 := HL.out.all p hp
        exact SH.regain_in kind wr (h1.ok.list y hy) (h1.names y hy)) (by rw [List.length_map, ← HE.out]; have h1 := HN.out; rw [← HE.out] at h1; unfold maxLen; omega), HVv.out.below⟩)
      clear hlt hi hi'
      go_wp2_with fail
      go_ret
      exact HP.out
end Go.Proofs.YtbkcmnmbcldjoaaGreatDoor
