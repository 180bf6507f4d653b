/- Contracts of the library's slices.Delete at items: one item is taken out of a list of one's own. -/
import Derived.Test.YtbkcmnmbcldjoaaGreatDoorRcMP7d
import Derived.Test.YtbkcmnmbcldjoaaGreatDoorRecNP7d
import Derived.Laws.IdiomCopy
import Derived.Deep.RegionLaw
import Derived.Deep.AppendSrc
import Derived.Laws.Cells
import Derived.Lib.Overlaps
import Derived.Lib.AppendZerosOnto
import Derived.Laws.NewBlocks
namespace Go.Proofs.YtbkcmnmbcldjoaaGreatDoor
open Go.RowKit MM
/-- Cells laid over others. -/
def layAt (cur : Array Value) : Nat → List Value → Array Value
  | _, [] => cur
  | o, v :: r => layAt (cur.setIfInBounds o v) (o + 1) r
theorem layAt_size : ∀ (vs : List Value) (o : Nat) (cur : Array Value), (layAt cur o vs).size = cur.size
  | [], _, _ => rfl
  | v :: r, o, cur => by rw [layAt, layAt_size r]; simp
theorem layAt_list : ∀ (vs : List Value) (o : Nat) (cur : Array Value), o + vs.length ≤ cur.size → (layAt cur o vs).toList = cur.toList.take o ++ vs ++ cur.toList.drop (o + vs.length)
  | [], o, cur, _ => by simp [layAt]
  | v :: r, o, cur, h => by
    simp only [List.length_cons] at h
    rw [layAt, layAt_list r (o + 1) _ (by simp; omega)]
    have ho : o < cur.toList.length := by simp; omega
    have e1 : (cur.setIfInBounds o v).toList = cur.toList.set o v := by simp
    rw [e1]
    have e2 : (cur.toList.set o v).take (o + 1) = cur.toList.take o ++ [v] := by
      rw [List.take_succ_eq_append_getElem (by simpa using ho)]
      simp
      exact List.take_set_of_le (Nat.le_refl o)
    have e3 : (cur.toList.set o v).drop (o + 1 + r.length) = cur.toList.drop (o + (v :: r).length) := by
      rw [List.drop_set_of_lt (by omega)]
      congr 1
      simp; omega
    rw [e2, e3]
    simp
theorem heap_setCells_row {t : TypeId} (g : Nat) : ∀ (vs : List Value) (o : Nat) (w : World) (cur : Array Value), w.heap[g]? = some (.cells cur t (0, 0)) → (w.setCells g o vs).heap[g]? = some (.cells (layAt cur o vs) t (0, 0))
  | [], _, _, _, h => h
  | _ :: r, o, _, _, h => heap_setCells_row g r (o + 1) _ _ (heap_setCell_same _ _ _ _ _ _ h)
theorem kpSetCells {S : Nat → Prop} {w0 : World} (b : Nat) (hb : S b ∨ w0.heap.size ≤ b) : ∀ (vs : List Value) (o : Nat) (w : World), Kp S w0 w → Kp S w0 (w.setCells b o vs)
  | [], _, _, h => h
  | _ :: r, o, _, h => kpSetCells b hb r (o + 1) _ (Kp.setCell h hb _)
theorem itCells_take (l : List RC.It) (i : Nat) : itCells (l.take i) = (itCells l).take (i * 2) := by
  induction l generalizing i with
  | nil => simp [itCells]
  | cons x l ih =>
    cases i with
    | zero => simp [itCells]
    | succ i =>
      have e : itCells (x :: l) = .float .f64 x.score :: .string x.name :: itCells l := by simp [itCells]
      have e2 : itCells (x :: l.take i) = .float .f64 x.score :: .string x.name :: itCells (l.take i) := by simp [itCells]
      rw [List.take_succ_cons, e2, e, ih, show (i + 1) * 2 = i * 2 + 1 + 1 by omega, List.take_succ_cons, List.take_succ_cons]
theorem itCells_drop (l : List RC.It) (i : Nat) : itCells (l.drop i) = (itCells l).drop (i * 2) := by
  induction l generalizing i with
  | nil => simp [itCells]
  | cons x l ih =>
    cases i with
    | zero => simp
    | succ i =>
      have e : itCells (x :: l) = .float .f64 x.score :: .string x.name :: itCells l := by simp [itCells]
      rw [List.drop_succ_cons, e, ih, show (i + 1) * 2 = i * 2 + 1 + 1 by omega, List.drop_succ_cons, List.drop_succ_cons]
theorem itCells_append (a b : List RC.It) : itCells (a ++ b) = itCells a ++ itCells b := by simp [itCells]
theorem itCells_one (l : List RC.It) : ∀ u ∈ itCells l, u.oneCell' = true := by
  intro u hu
  simp only [itCells, List.mem_flatMap] at hu
  obtain ⟨x, _, hu⟩ := hu
  simp at hu
  rcases hu with rfl | rfl <;> rfl
/-- The cells behind one item was taken out. -/
theorem gone_cells (l : List RC.It) (i : Nat) (hi : i < l.length) (c : Nat) (cur : Array Value) (hc : l.length ≤ c) (hcs : cur.size = c * 2) (hcl : cur.toList.take (l.length * 2) = itCells l) (z : List Value) (hz : z.length = 2) :
    (layAt (layAt cur (i * 2) (itCells (l.drop (i + 1)))) ((l.length - 1) * 2) z).toList.take ((l.length - 1) * 2) = itCells (l.take i ++ l.drop (i + 1)) := by
  have hd : (itCells (l.drop (i + 1))).length = (l.length - (i + 1)) * 2 := by rw [itCells_length, List.length_drop]
  have h1 := layAt_list (itCells (l.drop (i + 1))) (i * 2) cur (by rw [hd, hcs]; omega)
  rw [layAt_list z _ _ (by rw [layAt_size, hz, hcs]; omega), h1, itCells_append, itCells_take]
  have e0 : cur.toList.take (i * 2) = (itCells l).take (i * 2) := by
    rw [← hcl, List.take_take]; congr 1; omega
  have hl : ((itCells l).take (i * 2)).length = i * 2 := by rw [List.length_take, itCells_length]; omega
  rw [e0]
  have e1 : ((itCells l).take (i * 2) ++ itCells (l.drop (i + 1)) ++ cur.toList.drop (i * 2 + (itCells (l.drop (i + 1))).length)).take ((l.length - 1) * 2) = (itCells l).take (i * 2) ++ itCells (l.drop (i + 1)) := by
    rw [List.take_append_of_le_length (by rw [List.length_append, hl, hd]; omega), List.take_of_length_le (by rw [List.length_append, hl, hd]; omega)]
  rw [e1, List.append_assoc, List.take_append_of_le_length (by rw [List.length_append, hl, hd]; omega), List.take_of_length_le (by rw [List.length_append, hl, hd]; omega)]
/-- One item's cells are cleared. -/
theorem clear_item (ty : TypeId) (g o n c : Nat) (W : World) (cur : Array Value) (hn : n = 1) (hg : W.heap[g]? = some (.cells cur 91 (0, 0))) (ho : o + 2 ≤ cur.size) :
    Sem.run Tryz.prog (Builtin.clear_ #[23] ty #[.slice (some ⟨g, o, none⟩) n c]) W = .ok (.tuple #[]) (W.setCells g o [.float .f64 0, .string ⟨#[]⟩]) := by
  subst hn
  have hst := run_storeCells_cells (P := Tryz.prog) g o [.float .f64 0, .string ⟨#[]⟩] 0 W
    (fun j hj => by
      have hj' : j < 2 := by simpa using hj
      rw [cell_of_row W g _ cur _ (0, 0) hg, Array.getElem?_eq_getElem (by omega)]; rfl)
    (fun j _ => frozen_of_row W g _ cur _ hg)
    (by intro v hv; simp at hv; rcases hv with rfl | rfl <;> rfl)
  simp only [Nat.add_zero] at hst
  have hzc : (Builtin.zeroCells #[.float .f64 0, .string ⟨#[]⟩] 1).toList = [.float .f64 0, .string ⟨#[]⟩] := by first | kernel_rfl | (simp [Builtin.zeroCells]; rfl)
  simp [Builtin.clear_, run_underlying Tryz.underlying23, Tryz.zeroValue91, Value.cells, hzc, hst]
set_option maxHeartbeats 4000000 in
set_option maxRecDepth 100000 in
theorem delete_any (l : List RC.It) (i : Nat) (hi : i < l.length) (g c : Nat) (cur : Array Value) (w : World) (hg : w.heap[g]? = some (.cells cur 91 (0, 0))) (hc : l.length ≤ c) (hm : c ≤ maxLen) (hcs : cur.size = c * 2) (hcl : cur.toList.take (l.length * 2) = itCells l) :
    Calls Tryz.prog 152 #[.slice (some ⟨g, 0, none⟩) l.length c, .int .i64 (i : Nat), .int .i64 ((i + 1 : Nat) : Int)] w fun e w' => e = .returned (.slice (some ⟨g, 0, none⟩) (l.length - 1) c) ∧ w'.ownsRow 0 91 2 (.slice (some ⟨g, 0, none⟩) (l.length - 1) c) (l.length - 1) (itCells (l.take i ++ l.drop (i + 1))) ∧ Kp (fun k => k = g) w w' := by
  obtain ⟨i0, hi0, hz0, hz1, hz2⟩ := info_parts item_info
  obtain ⟨news, hnews⟩ : ∃ news, news = itCells (l.drop (i + 1)) := ⟨_, rfl⟩
  have hlen : news.length = (l.length - (i + 1)) * 2 := by rw [hnews, itCells_length, List.length_drop]
  have hcell : ∀ j v, cur[j]? = some v → w.drew.cell? ⟨g, j, none⟩ = some v := fun j v h => (cell_of_row w g j cur _ (0, 0) hg).trans h
  obtain ⟨Ad, hAd, hsrc⟩ : ∃ Ad : Addr, (if c = i + 1 then some (⟨g, 0, none⟩ : Addr) else some ⟨g, (i + 1) * 2, none⟩) = some Ad ∧ (∀ t u, news[t]? = some u → w.drew.cell? (Ad.add t) = some u) := by
    by_cases h : c = i + 1
    · refine ⟨⟨g, 0, none⟩, by simp [h], fun t u hu => ?_⟩
      have h0 : news.length = 0 := by rw [hlen]; omega
      rw [List.length_eq_zero_iff.1 h0] at hu
      simp at hu
    · refine ⟨⟨g, (i + 1) * 2, none⟩, by simp [h], fun t u hu => ?_⟩
      rw [show (⟨g, (i + 1) * 2, none⟩ : Addr).add t = ⟨g, (i + 1) * 2 + t, none⟩ from by unfold Addr.add; split <;> simp_all]
      refine hcell _ _ ?_
      rw [hnews, itCells_drop, ← hcl, List.getElem?_drop, List.getElem?_take] at hu
      split at hu
      · simpa using hu
      · cases hu
  have hspare : ∀ t, t < news.length → (w.drew.cell? ⟨g, 0 + i * 2 + t, none⟩).isSome = true ∧ w.drew.frozen? ⟨g, 0 + i * 2 + t, none⟩ = false := by
    intro t ht
    rw [hlen] at ht
    have hj : 0 + i * 2 + t < cur.size := by rw [hcs]; omega
    exact ⟨by rw [hcell _ cur[0 + i * 2 + t] (Array.getElem?_eq_getElem hj)]; rfl, frozen_of_row w g _ cur _ hg⟩
  have h1 : ∀ u ∈ news, u.oneCell' = true := by rw [hnews]; exact itCells_one _
  obtain ⟨W1, hW1⟩ : ∃ W1, W1 = w.drew.setCells g (0 + i * 2) news := ⟨_, rfl⟩
  have hr1 : W1.heap[g]? = some (.cells (layAt cur (i * 2) news) 91 (0, 0)) := by rw [hW1, Nat.zero_add]; exact heap_setCells_row g news (i * 2) w.drew cur hg
  have hk1 : Kp (fun k => k = g) w W1 := by rw [hW1]; exact kpSetCells (S := fun k => k = g) g (.inl rfl) news _ _ ((Kp.refl _ w).drew)
  have hcr := fun ty => clear_item ty g ((i + (l.length - (i + 1))) * 2) (l.length - (i + (l.length - (i + 1)))) (c - (i + (l.length - (i + 1)))) W1 _ (by omega) hr1 (by rw [layAt_size, hcs]; omega)
  obtain ⟨W2, hW2⟩ : ∃ W2, W2 = W1.setCells g ((i + (l.length - (i + 1))) * 2) [.float .f64 0, .string ⟨#[]⟩] := ⟨_, rfl⟩
  rw [← hW2] at hcr
  have hr2 : W2.heap[g]? = some (.cells (layAt (layAt cur (i * 2) news) ((i + (l.length - (i + 1))) * 2) [.float .f64 0, .string ⟨#[]⟩]) 91 (0, 0)) := by rw [hW2]; exact heap_setCells_row g _ _ W1 _ hr1
  have hk2 : Kp (fun k => k = g) w W2 := by rw [hW2]; exact kpSetCells (S := fun k => k = g) g (.inl rfl) _ _ _ hk1
  have HR2 := Lib.hid hr2
  have HK2 := Lib.hid hk2
  clear hW2 hr2 hk2
  have HN := Lib.hid hnews
  have HS := Lib.hid hsrc
  have HP := Lib.hid hspare
  have HL := Lib.hid hlen
  have HO := Lib.hid h1
  have HW1 := Lib.hid hW1
  have HR1 := Lib.hid hr1
  have HK1 := Lib.hid hk1
  have HCL := Lib.hid hcl
  have hne : ((i : Int) == ((i + 1 : Nat) : Int)) = false := by simp; omega
  unfold maxLen at hm
  have hic : i ≤ c := by omega
  have hjc : i + 1 ≤ c := by omega
  have hjn : i + 1 ≤ l.length := by omega
  have hjni : (i : Int) + 1 ≤ (l.length : Int) := by omega
  have hjci : (i : Int) + 1 ≤ (c : Int) := by omega
  have hj0 : (0 : Int) ≤ (i : Int) + 1 := by omega
  clear hnews hsrc hspare hlen h1 hW1 hr1 hk1 hcl hcell hg
  go_enter Tryz.func152, Tryz.ntmps152
  go_wp2_with fail
  go_region_law (refine step_append_room rfl (.tmp 22) (.tmp 25) 23 rfl 91 i0 2 Tryz.underlying23 hi0 hz1 g 0 i c (by simp [Act.eval, Act.put]) Ad (l.length - (i + 1)) (c - (i + 1)) news (by simp [Act.eval, Act.put]) HL.out HS.out HO.out (by omega) HP.out ?_; rw [← HW1.out])
  go_wp2_with fail
  go_ret
  have hn1 : i + (l.length - (i + 1)) = l.length - 1 := by omega
  refine ⟨by rw [← hn1]; rfl, ⟨?_, .inr ⟨g, c, _, rfl, Nat.zero_le _, HR2.out, by omega, by unfold maxLen; omega, by rw [layAt_size, layAt_size, hcs], ?_⟩⟩, HK2.out⟩
  · rw [itCells_length, List.length_append, List.length_take, List.length_drop]; omega
  · rw [hn1, HN.out]
    exact gone_cells l i hi c cur hc hcs HCL.out _ rfl
end Go.Proofs.YtbkcmnmbcldjoaaGreatDoor
namespace Go.Proofs.YtbkcmnmbcldjoaaGreatDoor
open Go.RowKit MM
/-- What Insert answers: the list, in its own block or in a new one. -/
def InPost (l : List RC.It) (A : Option Addr) (w : World) (e : Ending) (w' : World) : Prop :=
  ∃ A' c', e = .returned (.slice A' l.length c') ∧ w'.ownsRow 0 91 2 (.slice A' l.length c') l.length (itCells l) ∧ (∀ k, ob A' = some k → ob A = some k ∨ w.heap.size ≤ k) ∧ Kp (fun k => ob A = some k) w w'
set_option maxHeartbeats 4000000 in
set_option maxRecDepth 100000 in
theorem insert_end (l : List RC.It) (x : RC.It) (gv : Nat) (A : Option Addr) (c : Nat) (w : World) (ho : w.ownsRow 0 91 2 (.slice A l.length c) l.length (itCells l)) (hcap : l.length ≤ c) (hn : l.length ≤ 1000) (hv : w.heap[gv]? = some (.cells #[.float .f64 x.score, .string x.name] 91 (0, 0))) :
    Calls Tryz.prog 151 #[.slice A l.length c, .int .i64 (l.length : Nat), .slice (some ⟨gv, 0, none⟩) 1 1] w (InPost (l ++ [x]) A w) := by
  obtain ⟨i0, hi0, hz0, hz1, hz2⟩ := info_parts item_info
  have hsrc : Src Tryz.prog 2 23 (.slice (some ⟨gv, 0, none⟩) 1 1) 1 [.float .f64 x.score, .string x.name] w := Src.ofSlice _ Tryz.underlying23 _ 1 1 _ rfl (fun j u hu => by
    rw [show (⟨gv, 0, none⟩ : Addr).add j = ⟨gv, j, none⟩ from by unfold Addr.add; split <;> simp_all]
    rw [cell_of_row w gv j _ _ (0, 0) hv]
    simpa using hu) (by intro u hu; simp at hu; rcases hu with rfl | rfl <;> rfl)
  have HS := Lib.hid hsrc
  have HO := Lib.hid ho
  have hcapi : (l.length : Int) ≤ (c : Int) := by omega
  clear hsrc ho hv
  go_enter Tryz.func151, Tryz.ntmps151
  go_wp2_with (first
    | (at_builtin
       refine wpList_append_at rfl _ _ _ _ rfl 91 i0 _ 2 24 Tryz.underlying23 hi0 hz0 hz1 hz2 rfl A l.length c _ rfl HO.out _ 1 _ rfl HS.out (by unfold maxLen; omega) (by omega) ?_
       intro A3 c3 w3 ho3 hg3 hat3))
  all_goals
    go_ret
    refine ⟨A3, c3, by rw [List.length_append]; rfl, ?_, fun k e => ?_, (Kp.refl _ w).grown hg3 (fun k e => .inl e)⟩
    · rw [List.length_append, itCells_snoc]; exact ho3
    · rcases hat3 with h | h
      · exact .inl (h ▸ e)
      · rw [h] at e; injection e with e; exact .inr (by omega)
theorem copy_items (W : World) (ty : TypeId) (g o dLen dCap : Nat) (a : Addr) (sLen sCap m : Nat) (cs : List Value) (hm : Nat.min sLen dLen = m) (hl : cs.length = m * 2)
    (hsrc : ∀ j v, cs[j]? = some v → W.cell? (a.add j) = some v) (hin : ∀ j, j < cs.length → (W.cell? ⟨g, o + j, none⟩).isSome = true) (hf : ∀ j, j < cs.length → W.frozen? ⟨g, o + j, none⟩ = false) (h1 : ∀ v ∈ cs, v.oneCell' = true) :
    Sem.run Tryz.prog (Builtin.copy_ #[23, 23] ty #[.slice (some ⟨g, o, none⟩) dLen dCap, .slice (some a) sLen sCap]) W = .ok (goInt m) (W.setCells g o cs) := by
  obtain ⟨i0, hi0, hz0, hz1, hz2⟩ := info_parts item_info
  have hld := run_loadCells_list (P := Tryz.prog) W a cs hsrc
  rw [hl] at hld
  have hst := run_storeCells_cells (P := Tryz.prog) g o cs 0 W (by simpa using hin) (by simpa using hf) h1
  simp only [Nat.add_zero] at hst
  simp [Builtin.copy_, run_underlying Tryz.underlying23, Builtin.lenOf, Builtin.firstCells, sizeOf, typeInfo, hi0, hz1, hm, hld, hst]
end Go.Proofs.YtbkcmnmbcldjoaaGreatDoor
namespace Go.Proofs.YtbkcmnmbcldjoaaGreatDoor
open Go.RowKit MM
theorem wp_copy_runJ {P : Program} (w : World) {o : Oper} {a : Act} {K : Act → World → Prop} {Q : Exit → Act → World → Prop} (d s : Operand) (t t' : TypeId)
    (ho : o.op = .call { callee := .builtin .copy, args := #[d, s], argTypes := #[t, t'] }) (v u : Value) (hd : a.eval d = v) (hs : a.eval s = u) {v' : Value} {w' : World}
    (hr : (Builtin.copy_ #[t, t'] o.type #[v, u]).run P w = .ok v' w') (h : K (a.put o.dst v') w') : o.wp P a w K Q := by
  unfold Oper.wp
  simp [execOp, ho, resolve, invoke, builtin, hd, hs, hr, Result.andThen]
  exact h
theorem wpList_copy_runJ {P : Program} (w : World) {ops : Array Oper} {rest : List Oper} {o : Oper} {a : Act} {Q : Exit → Act → World → Prop} (hgd : o.guard = none) (d s : Operand) (t t' : TypeId)
    (ho : o.op = .call { callee := .builtin .copy, args := #[d, s], argTypes := #[t, t'] }) (v u : Value) (hd : a.eval d = v) (hs : a.eval s = u) {v' : Value} {w' : World}
    (hr : (Builtin.copy_ #[t, t'] o.type #[v, u]).run P w = .ok v' w') (h : wpList P ops Q rest (a.put o.dst v') w') : wpList P ops Q (o :: rest) a w :=
  wpList_plain hgd fun _ hK => wp_copy_runJ w d s t t' ho v u hd hs hr (hK _ _ h)
theorem step_copy_runJ {P : Program} {ops : Array Oper} {o : Oper} {a : Act} {w : World} {K : Act → World → Prop} {Q : Exit → Act → World → Prop} {E : Prop}
    (hg : o.guard = none) (d x : Operand) (dT sT : TypeId) (hop : o.op = Op.call { callee := Callee.builtin Builtin.copy, args := #[d, x], argTypes := #[dT, sT] })
    (v u : Value) (hd : a.eval d = v) (hx : a.eval x = u) {v' : Value} {w' : World} (hr : (Builtin.copy_ #[dT, sT] o.type #[v, u]).run P w = .ok v' w') (hK : K (a.put o.dst v') w') :
    if Region.wanted o (yielded ops a.tmps) = true then Oper.wp P o a w K Q else E := by
  have hw : Region.wanted o (yielded ops a.tmps) = true := by simp [Region.wanted, hg]
  rw [if_pos hw]
  exact wp_copy_runJ w d x dT sT hop v u hd hx hr hK
/-- The cells behind an item was laid in. -/
theorem laid_cells (l : List RC.It) (x : RC.It) (i : Nat) (hi : i < l.length) (c : Nat) (cur : Array Value) (hc : l.length + 1 ≤ c) (hcs : cur.size = c * 2) (hcl : cur.toList.take (l.length * 2) = itCells l) :
    (layAt (layAt cur ((i + 1) * 2) (itCells (l.drop i))) (i * 2) [.float .f64 x.score, .string x.name]).toList.take ((l.length + 1) * 2) = itCells (l.take i ++ x :: l.drop i) := by
  have hd : (itCells (l.drop i)).length = (l.length - i) * 2 := by rw [itCells_length, List.length_drop]
  have h1 := layAt_list (itCells (l.drop i)) ((i + 1) * 2) cur (by rw [hd, hcs]; omega)
  have e : itCells (l.take i ++ x :: l.drop i) = (itCells l).take (i * 2) ++ ([.float .f64 x.score, .string x.name] ++ itCells (l.drop i)) := by
    rw [itCells_append, itCells_take]; congr 1
  have e0 : cur.toList.take (i * 2) = (itCells l).take (i * 2) := by
    rw [← hcl, List.take_take]; congr 1; omega
  have hl : ((itCells l).take (i * 2)).length = i * 2 := by rw [List.length_take, itCells_length]; omega
  have hcz : cur.toList.length = c * 2 := by simp [hcs]
  rw [layAt_list _ _ _ (by rw [layAt_size, hcs]; simp; omega), h1, e]
  have f1 : (cur.toList.take ((i + 1) * 2) ++ itCells (l.drop i) ++ cur.toList.drop ((i + 1) * 2 + (itCells (l.drop i)).length)).take (i * 2) = (itCells l).take (i * 2) := by
    rw [List.append_assoc, List.take_append_of_le_length (by rw [List.length_take, hcz]; omega), List.take_take, ← e0]; congr 1; omega
  have f2 : (cur.toList.take ((i + 1) * 2) ++ itCells (l.drop i) ++ cur.toList.drop ((i + 1) * 2 + (itCells (l.drop i)).length)).drop (i * 2 + [Value.float .f64 x.score, Value.string x.name].length) = itCells (l.drop i) ++ cur.toList.drop ((i + 1) * 2 + (itCells (l.drop i)).length) := by
    rw [List.append_assoc, List.drop_append_of_le_length (by rw [List.length_take, hcz]; simp; omega), List.drop_of_length_le (by rw [List.length_take, hcz]; simp; omega), List.nil_append]
  rw [f1, f2, List.append_assoc, List.take_append, hl, List.take_of_length_le (by rw [hl]; omega), List.append_cancel_left_eq]
  rw [← List.append_assoc, List.take_append_of_le_length (by rw [List.length_append, hd]; simp; omega), List.take_of_length_le (by rw [List.length_append, hd]; simp; omega)]
set_option maxHeartbeats 4000000 in
set_option maxRecDepth 100000 in
theorem insert_shift (l : List RC.It) (x : RC.It) (i gv : Nat) (hi : i < l.length) (g c : Nat) (cur : Array Value) (w : World) (hg : w.heap[g]? = some (.cells cur 91 (0, 0))) (hc : l.length + 1 ≤ c) (hm : c ≤ maxLen) (hcs : cur.size = c * 2) (hcl : cur.toList.take (l.length * 2) = itCells l) (hv : w.heap[gv]? = some (.cells #[.float .f64 x.score, .string x.name] 91 (0, 0))) (hne : gv ≠ g) :
    Calls Tryz.prog 151 #[.slice (some ⟨g, 0, none⟩) l.length c, .int .i64 (i : Nat), .slice (some ⟨gv, 0, none⟩) 1 1] w (InPost (l.take i ++ x :: l.drop i) (some ⟨g, 0, none⟩) w) := by
  have hdl : (itCells (l.drop i)).length = (l.length - i) * 2 := by rw [itCells_length, List.length_drop]
  have hcell : ∀ j v, cur[j]? = some v → w.drew.cell? ⟨g, j, none⟩ = some v := fun j v h => (cell_of_row w g j cur _ (0, 0) hg).trans h
  have hsome : ∀ j, j < c * 2 → (w.drew.cell? ⟨g, j, none⟩).isSome = true := fun j hj => by rw [hcell j cur[j] (Array.getElem?_eq_getElem (by omega))]; rfl
  have hadd : ∀ (b o j : Nat), (⟨b, o, none⟩ : Addr).add j = ⟨b, o + j, none⟩ := fun b o j => by unfold Addr.add; split <;> simp_all
  have hsz49 := fun u : World => Tryz.sizeOf91 u
  have hov : ∀ lb cb, (callFunc 155 #[.slice (some ⟨gv, 0, none⟩) 1 1, .slice (some ⟨g, (i + 1) * 2, none⟩) lb cb]).run Tryz.prog w = .ok (.value (.bool false)) w := fun lb cb => by
    rw [run_callFunc_extern Tryz.func155 (by kernel_rfl) (by kernel_rfl) (by kernel_rfl) (e := Extern.SlicesOverlaps.overlaps #[23, 23] #[4]) (by kernel_rfl),
      Lib.run_overlaps_apart w 23 4 91 Tryz.underlying23 2 hsz49 ⟨gv, 0, none⟩ ⟨g, (i + 1) * 2, none⟩ 1 1 lb cb hne 91 91 2 (c * 2) (by simp [World.shape?, hv]) (by simp [World.shape?, hg, hcs]) (by omega) (frozen_of_row w gv _ _ _ hv) (frozen_of_row w gv _ _ _ hv)]
    rfl
  have hit : ∀ j v, (itCells (l.drop i))[j]? = some v → w.drew.cell? ⟨g, i * 2 + j, none⟩ = some v := fun j v h => by
    refine hcell _ _ ?_
    rw [itCells_drop, ← hcl, List.getElem?_drop, List.getElem?_take] at h
    split at h
    · simpa using h
    · cases h
  have hcp1 : ∀ ty dc sc, Sem.run Tryz.prog (Builtin.copy_ #[23, 23] ty #[.slice (some ⟨g, (i + 1) * 2, none⟩) (l.length - i) dc, .slice (some ⟨g, i * 2, none⟩) (l.length + 1 - i) sc]) w.drew = .ok (goInt ((l.length - i : Nat) : Int)) (w.drew.setCells g ((i + 1) * 2) (itCells (l.drop i))) := fun ty dc sc =>
    copy_items w.drew ty g ((i + 1) * 2) (l.length - i) dc ⟨g, i * 2, none⟩ (l.length + 1 - i) sc (l.length - i) (itCells (l.drop i)) (by simp only [Nat.min_def]; split <;> omega) hdl (fun j v h => by rw [hadd]; exact hit j v h)
      (fun j hj => hsome _ (by rw [hdl] at hj; omega)) (fun j _ => frozen_of_row w g _ cur _ hg) (itCells_one _)
  obtain ⟨W1, hW1⟩ : ∃ W1, W1 = w.drew.setCells g ((i + 1) * 2) (itCells (l.drop i)) := ⟨_, rfl⟩
  have hr1 : W1.heap[g]? = some (.cells (layAt cur ((i + 1) * 2) (itCells (l.drop i))) 91 (0, 0)) := by rw [hW1]; exact heap_setCells_row g _ _ w.drew cur hg
  have hk1 : Kp (fun k => k = g) w W1 := by rw [hW1]; exact kpSetCells (S := fun k => k = g) g (.inl rfl) _ _ _ ((Kp.refl _ w).drew)
  have hv1 : W1.heap[gv]? = some (.cells #[.float .f64 x.score, .string x.name] 91 (0, 0)) := (hk1.block _ (lt_of_heap hv) hne).trans hv
  have hcp2 : ∀ ty dc, Sem.run Tryz.prog (Builtin.copy_ #[23, 23] ty #[.slice (some ⟨g, i * 2, none⟩) (l.length + 1 - i) dc, .slice (some ⟨gv, 0, none⟩) 1 1]) W1 = .ok (goInt 1) (W1.setCells g (i * 2) [.float .f64 x.score, .string x.name]) := fun ty dc =>
    copy_items W1 ty g (i * 2) (l.length + 1 - i) dc ⟨gv, 0, none⟩ 1 1 1 [.float .f64 x.score, .string x.name] (by simp only [Nat.min_def]; split <;> omega) rfl (fun j v h => by rw [hadd, Nat.zero_add, cell_of_row W1 gv j _ _ (0, 0) hv1]; simpa using h)
      (fun j hj => by
        have hj' : j < 2 := by simpa using hj
        rw [cell_of_row W1 g _ _ _ (0, 0) hr1, Array.getElem?_eq_getElem (by rw [layAt_size, hcs]; omega)]; rfl)
      (fun j _ => frozen_of_row W1 g _ _ _ hr1) (by intro u hu; simp at hu; rcases hu with rfl | rfl <;> rfl)
  rw [← hW1] at hcp1
  obtain ⟨W2, hW2⟩ : ∃ W2, W2 = W1.setCells g (i * 2) [.float .f64 x.score, .string x.name] := ⟨_, rfl⟩
  rw [← hW2] at hcp2
  have HR2 := Lib.hid (show W2.heap[g]? = some (.cells (layAt (layAt cur ((i + 1) * 2) (itCells (l.drop i))) (i * 2) [.float .f64 x.score, .string x.name]) 91 (0, 0)) by rw [hW2]; exact heap_setCells_row g _ _ W1 _ hr1)
  have HK2 := Lib.hid (show Kp (fun k => k = g) w W2 by rw [hW2]; exact kpSetCells (S := fun k => k = g) g (.inl rfl) _ _ _ hk1)
  have HCL := Lib.hid hcl
  have hz2 : ((i : Int) == (l.length : Int)) = false := by simp; omega
  have hz3 : ¬ (c : Int) < (l.length : Int) + 1 := by omega
  have hz4 : (l.length : Int) + 1 ≤ (c : Int) := by omega
  have hz5 : (i : Int) + 1 ≤ (l.length : Int) + 1 := by omega
  have hz6 : (i : Int) ≤ (l.length : Int) := by omega
  have hz7 : (i : Int) ≤ (l.length : Int) + 1 := by omega
  have hz8 : (0 : Int) ≤ (i : Int) + 1 := by omega
  have hz9 : i ≤ l.length := by omega
  have hza : l.length + 1 ≤ c := by omega
  have hb2 : ¬ (c = i + 1) := by omega
  have hb4 : ¬ (c = i) := by omega
  unfold maxLen at hm
  have hwr : IntKind.i64.wrap ((i : Int) + 1) = (i : Int) + 1 := by rw [IntKind.wrap_i64]; omega
  have hnt : ((i : Int) + 1).toNat = i + 1 := by omega
  clear hW1 hW2 hr1 hk1 hv1 hit hcell hsome hadd hsz49 hdl hcl hg hv
  go_enter Tryz.func151, Tryz.ntmps151
  go_wp2_with (simp only [hov])
  go_region_law (refine step_copy_runJ rfl _ _ 23 23 rfl _ _ (by simp [Act.eval, Act.put]) (by simp [Act.eval, Act.put]) (hcp1 _ _ _) ?_)
  go_wp2_with (at_builtin; refine wpList_copy_runJ _ rfl _ _ 23 23 rfl _ _ rfl rfl (hcp2 _ _) ?_)
  go_ret
  have hlen : (l.take i ++ x :: l.drop i).length = l.length + 1 := by rw [List.length_append, List.length_take, List.length_cons, List.length_drop]; omega
  refine ⟨some ⟨g, 0, none⟩, c, by rw [hlen]; rfl, ⟨?_, .inr ⟨g, c, _, by rw [hlen], Nat.zero_le _, HR2.out, by rw [hlen]; omega, by unfold maxLen; omega, by rw [layAt_size, layAt_size, hcs], ?_⟩⟩, fun k e => .inl e, HK2.out.mono (fun k _ e => by have e' : k = g := e; rw [e']; rfl)⟩
  · rw [itCells_length]
  · rw [hlen]
    exact laid_cells l x i hi c cur hc hcs HCL.out
end Go.Proofs.YtbkcmnmbcldjoaaGreatDoor
namespace Go.Proofs.YtbkcmnmbcldjoaaGreatDoor
open Go.RowKit MM
theorem laid_cells2 (l : List RC.It) (x : RC.It) (i : Nat) (hi : i < l.length) (c : Nat) (cur : Array Value) (hc : l.length + 1 ≤ c) (hcs : cur.size = c * 2) (hcl : cur.toList.take (i * 2) = (itCells l).take (i * 2)) :
    (layAt (layAt cur (i * 2) [.float .f64 x.score, .string x.name]) ((i + 1) * 2) (itCells (l.drop i))).toList.take ((l.length + 1) * 2) = itCells (l.take i ++ x :: l.drop i) := by
  have hd : (itCells (l.drop i)).length = (l.length - i) * 2 := by rw [itCells_length, List.length_drop]
  have hl : ((itCells l).take (i * 2)).length = i * 2 := by rw [List.length_take, itCells_length]; omega
  have e : itCells (l.take i ++ x :: l.drop i) = (itCells l).take (i * 2) ++ [.float .f64 x.score, .string x.name] ++ itCells (l.drop i) := by
    rw [itCells_append, itCells_take, List.append_assoc]; congr 1
  have h1 := layAt_list [.float .f64 x.score, .string x.name] (i * 2) cur (by rw [hcs]; simp; omega)
  have hp : ((itCells l).take (i * 2) ++ [Value.float .f64 x.score, Value.string x.name]).length = (i + 1) * 2 := by rw [List.length_append, hl]; simp; omega
  rw [layAt_list _ _ _ (by rw [layAt_size, hcs, hd]; omega), h1, hcl, e, List.take_append_of_le_length (Nat.le_of_eq hp.symm), List.take_of_length_le (Nat.le_of_eq hp)]
  rw [List.take_append_of_le_length (by rw [List.length_append, hp, hd]; omega), List.take_of_length_le (by rw [List.length_append, hp, hd]; omega)]
set_option maxHeartbeats 4000000 in
set_option maxRecDepth 100000 in
theorem insert_grow (l : List RC.It) (x : RC.It) (i gv : Nat) (hi : i < l.length) (hn : l.length ≤ 1000) (g c : Nat) (cur : Array Value) (w : World) (hg : w.heap[g]? = some (.cells cur 91 (0, 0))) (hc : c = l.length) (hcl : cur.toList.take (l.length * 2) = itCells l) (hv : w.heap[gv]? = some (.cells #[.float .f64 x.score, .string x.name] 91 (0, 0))) :
    Calls Tryz.prog 151 #[.slice (some ⟨g, 0, none⟩) l.length c, .int .i64 (i : Nat), .slice (some ⟨gv, 0, none⟩) 1 1] w (InPost (l.take i ++ x :: l.drop i) (some ⟨g, 0, none⟩) w) := by
  obtain ⟨i0, hi0, hz0, hz1, hz2⟩ := info_parts item_info
  have hdl : (itCells (l.drop i)).length = (l.length - i) * 2 := by rw [itCells_length, List.length_drop]
  have htl : ((itCells l).take (i * 2)).length = i * 2 := by rw [List.length_take, itCells_length]; omega
  have hcell : ∀ j v, cur[j]? = some v → w.drew.cell? ⟨g, j, none⟩ = some v := fun j v h => (cell_of_row w g j cur _ (0, 0) hg).trans h
  have hadd : ∀ (b o j : Nat), (⟨b, o, none⟩ : Addr).add j = ⟨b, o + j, none⟩ := fun b o j => by unfold Addr.add; split <;> simp_all
  have hlt : g < w.heap.size := lt_of_heap hg
  have hvt : gv < w.heap.size := lt_of_heap hv
  have hold : (Builtin.firstCells i0.size i (.slice (some ⟨g, 0, none⟩) i c)).run Tryz.prog w.drew = .ok ((itCells l).take (i * 2)).toArray w.drew := by
    rw [hz1]
    exact run_firstCells_some w.drew 2 i ⟨g, 0, none⟩ i c ((itCells l).take (i * 2)) htl (fun j v hj => by
      rw [hadd, Nat.zero_add]
      rw [← hcl, List.getElem?_take, List.getElem?_take] at hj
      split at hj
      · split at hj
        · exact hcell j v (by simpa using hj)
        · cases hj
      · cases hj)
  have hkk : (l.length : Int) + 1 - (i : Int) = ((l.length + 1 - i : Nat) : Int) := by omega
  have hik : i + (l.length + 1 - i) = l.length + 1 := by omega
  obtain ⟨G, hG⟩ : ∃ G, G = grownCap w (l.length + 1) c 91 := ⟨_, rfl⟩
  have hGn : l.length + 1 ≤ G := by rw [hG]; exact grownCap_ge w _ _ _
  have hG63 : G ≤ maxLen := by rw [hG]; exact grownCap_le_maxLen w (l.length + 1) c 91 (by unfold maxLen; omega)
  obtain ⟨ROW, hR1, hR2, hrz⟩ : ∃ ROW : Array Value, ROW.size = G * 2 ∧ ROW.toList.take (i * 2) = (itCells l).take (i * 2) ∧ ∀ ty, (Builtin.append_ #[23, 3] ty #[.slice (some ⟨g, 0, none⟩) i c, .int .i64 ((l.length : Int) + 1 - (i : Int))]).run Tryz.prog w = .ok (.slice (some ⟨w.heap.size, 0, none⟩) (l.length + 1) G) (w.drew.alloc (.cells ROW 91)) := by
    refine ⟨_, ?_, ?_, fun ty => by
      have h := Lib.run_append_grow_zeros w 23 3 ty 91 i0 _ .i64 .i64 Tryz.underlying23 Tryz.underlying3 hi0 hz0 (some ⟨g, 0, none⟩) i c ((itCells l).take (i * 2)) hold (l.length + 1 - i) (by omega) (by omega) (by omega) (by omega) (by rw [hz2]; omega) (by rw [hz2, hik]; exact growslice_fits (by omega) (by omega))
      rw [hik, ← hG] at h
      rw [hkk]
      exact h⟩
    · simp [Builtin.zeroCells, Value.cells, htl]
      omega
    · simp only [Array.toList_append, List.append_assoc]
      rw [List.take_append_of_le_length (by rw [htl]; omega), List.take_of_length_le (by rw [htl]; omega)]
  obtain ⟨W1, hW1⟩ : ∃ W1, W1 = w.drew.alloc (.cells ROW 91) := ⟨_, rfl⟩
  rw [← hW1] at hrz
  have hk1 : Kp (fun k => k = w.heap.size) w W1 := by rw [hW1]; exact (Kp.refl _ w).drew.alloc _
  have hr1 : W1.heap[w.heap.size]? = some (.cells ROW 91 (0, 0)) := by rw [hW1]; show (w.heap.push _)[w.heap.size]? = _; exact Array.getElem?_push_size
  have hv1 : W1.heap[gv]? = some (.cells #[.float .f64 x.score, .string x.name] 91 (0, 0)) := (hk1.block _ hvt (by omega)).trans hv
  have hcp1 : ∀ ty dc, Sem.run Tryz.prog (Builtin.copy_ #[23, 23] ty #[.slice (some ⟨w.heap.size, i * 2, none⟩) (l.length + 1 - i) dc, .slice (some ⟨gv, 0, none⟩) 1 1]) W1 = .ok (goInt 1) (W1.setCells w.heap.size (i * 2) [.float .f64 x.score, .string x.name]) := fun ty dc =>
    copy_items W1 ty w.heap.size (i * 2) (l.length + 1 - i) dc ⟨gv, 0, none⟩ 1 1 1 [.float .f64 x.score, .string x.name] (by simp only [Nat.min_def]; split <;> omega) rfl (fun j v h => by rw [hadd, Nat.zero_add, cell_of_row W1 gv j _ _ (0, 0) hv1]; simpa using h)
      (fun j hj => by
        have hj' : j < 2 := by simpa using hj
        rw [cell_of_row W1 w.heap.size _ _ _ (0, 0) hr1, Array.getElem?_eq_getElem (by rw [hR1]; omega)]; rfl)
      (fun j _ => frozen_of_row W1 w.heap.size _ _ _ hr1) (by intro u hu; simp at hu; rcases hu with rfl | rfl <;> rfl)
  obtain ⟨W2, hW2⟩ : ∃ W2, W2 = W1.setCells w.heap.size (i * 2) [.float .f64 x.score, .string x.name] := ⟨_, rfl⟩
  rw [← hW2] at hcp1
  have hr2 : W2.heap[w.heap.size]? = some (.cells (layAt ROW (i * 2) [.float .f64 x.score, .string x.name]) 91 (0, 0)) := by rw [hW2]; exact heap_setCells_row w.heap.size _ _ W1 _ hr1
  have hk2 : Kp (fun k => k = w.heap.size) w W2 := by rw [hW2]; exact kpSetCells (S := fun k => k = w.heap.size) w.heap.size (.inl rfl) _ _ _ hk1
  have hg2 : W2.heap[g]? = some (.cells cur 91 (0, 0)) := (hk2.block _ hlt (by omega)).trans hg
  have hcp2 : ∀ ty dc sc, Sem.run Tryz.prog (Builtin.copy_ #[23, 23] ty #[.slice (some ⟨w.heap.size, (i + 1) * 2, none⟩) (l.length - i) dc, .slice (some ⟨g, i * 2, none⟩) (l.length - i) sc]) W2.drew = .ok (goInt ((l.length - i : Nat) : Int)) (W2.drew.setCells w.heap.size ((i + 1) * 2) (itCells (l.drop i))) := fun ty dc sc =>
    copy_items W2.drew ty w.heap.size ((i + 1) * 2) (l.length - i) dc ⟨g, i * 2, none⟩ (l.length - i) sc (l.length - i) (itCells (l.drop i)) (by simp only [Nat.min_def]; split <;> omega) hdl
      (fun j v h => by
        rw [hadd]
        refine (cell_of_row W2 g _ cur _ (0, 0) hg2).trans ?_
        rw [itCells_drop, ← hcl, List.getElem?_drop, List.getElem?_take] at h
        split at h
        · simpa using h
        · cases h)
      (fun j hj => by
        rw [hdl] at hj
        refine (congrArg Option.isSome (cell_of_row W2 w.heap.size _ _ _ (0, 0) hr2)).trans ?_
        rw [Array.getElem?_eq_getElem (by rw [layAt_size, hR1]; omega)]; rfl)
      (fun j _ => frozen_of_row W2 w.heap.size _ _ _ hr2) (itCells_one _)
  obtain ⟨W3, hW3⟩ : ∃ W3, W3 = W2.drew.setCells w.heap.size ((i + 1) * 2) (itCells (l.drop i)) := ⟨_, rfl⟩
  rw [← hW3] at hcp2
  have HR3 := Lib.hid (show W3.heap[w.heap.size]? = some (.cells (layAt (layAt ROW (i * 2) [.float .f64 x.score, .string x.name]) ((i + 1) * 2) (itCells (l.drop i))) 91 (0, 0)) by rw [hW3]; exact heap_setCells_row w.heap.size _ _ W2.drew _ hr2)
  have HK3 := Lib.hid (show Kp (fun k => k = w.heap.size) w W3 by rw [hW3]; exact kpSetCells (S := fun k => k = w.heap.size) w.heap.size (.inl rfl) _ _ _ hk2.drew)
  have HR1 := Lib.hid hR1
  have HR2 := Lib.hid hR2
  have HGM := Lib.hid hG63
  have HGN := Lib.hid hGn
  have hz2' : ((i : Int) == (l.length : Int)) = false := by simp; omega
  have hz3 : (c : Int) < (l.length : Int) + 1 := by omega
  have hz5 : (i : Int) + 1 ≤ (l.length : Int) + 1 := by omega
  have hz6 : (i : Int) ≤ (l.length : Int) := by omega
  have hz7 : (i : Int) ≤ (l.length : Int) + 1 := by omega
  have hz8 : (0 : Int) ≤ (i : Int) + 1 := by omega
  have hz9 : i ≤ l.length := by omega
  have hza : (i : Int) ≤ (c : Int) := by omega
  have hb2 : ¬ (c = i) := by omega
  have hb3 : ¬ (G = i) := by omega
  have hb4 : ¬ (G = i + 1) := by omega
  have hwr : IntKind.i64.wrap ((i : Int) + 1) = (i : Int) + 1 := by rw [IntKind.wrap_i64]; omega
  have hnt : ((i : Int) + 1).toNat = i + 1 := by omega
  unfold maxLen at hG63
  have hws := Lib.hid (Nat.lt_irrefl w.heap.size)
  clear hc hW1 hW2 hW3 hr1 hr2 hk1 hk2 hg2 hv1 hcell hadd hdl htl hcl hg hv hold hkk hik hG hR1 hR2 hlt hvt
  go_enter Tryz.func151, Tryz.ntmps151
  go_wp2_with (first
    | (at_builtin; refine Lib.wpList_append_run _ rfl _ _ _ _ rfl _ _ rfl rfl _ _ (hrz _) ?_)
    | (at_builtin; refine wpList_copy_runJ _ rfl _ _ 23 23 rfl _ _ rfl rfl (hcp1 _ _) ?_))
  go_region_law (refine step_copy_runJ rfl _ _ 23 23 rfl _ _ (by simp [Act.eval, Act.put]) (by simp [Act.eval, Act.put]) (hcp2 _ _ _) ?_)
  go_wp2
  go_ret
  have hlen : (l.take i ++ x :: l.drop i).length = l.length + 1 := by rw [List.length_append, List.length_take, List.length_cons, List.length_drop]; omega
  refine ⟨some ⟨w.heap.size, 0, none⟩, G, by rw [hlen]; rfl, ⟨?_, .inr ⟨w.heap.size, G, _, by rw [hlen], Nat.zero_le _, HR3.out, by rw [hlen]; exact HGN.out, HGM.out, by rw [layAt_size, layAt_size, HR1.out], ?_⟩⟩, fun k e => .inr (by have e' : w.heap.size = k := Option.some.inj e; omega), HK3.out.mono (fun k h e => by have e' : k = w.heap.size := e; omega)⟩
  · rw [itCells_length]
  · rw [hlen]
    exact laid_cells2 l x i hi G ROW HGN.out HR1.out HR2.out
/-- One item is laid into a list of one's own at any place. -/
theorem insert_any (l : List RC.It) (x : RC.It) (i gv : Nat) (hi : i ≤ l.length) (hn : l.length ≤ 1000) (A : Option Addr) (c : Nat) (w : World) (ho : w.ownsRow 0 91 2 (.slice A l.length c) l.length (itCells l)) (hcap : l.length ≤ c) (hv : w.heap[gv]? = some (.cells #[.float .f64 x.score, .string x.name] 91 (0, 0))) (hne : ob A ≠ some gv) :
    Calls Tryz.prog 151 #[.slice A l.length c, .int .i64 (i : Nat), .slice (some ⟨gv, 0, none⟩) 1 1] w (InPost (l.take i ++ x :: l.drop i) A w) := by
  by_cases hi' : i = l.length
  · subst hi'
    have := insert_end l x gv A c w ho hcap hn hv
    rw [List.take_of_length_le (Nat.le_refl _), List.drop_of_length_le (Nat.le_refl _)]
    exact this
  · rcases ho with ⟨hlen, ⟨hA, hz⟩ | ⟨g, c', cur, e, _, hr, hc1, hc2, hc3, hc4⟩⟩
    · omega
    · injection e with e1 e2 e3
      subst e1 e3
      have hng : gv ≠ g := fun h => hne (by rw [h]; rfl)
      by_cases hroom : l.length + 1 ≤ c
      · exact insert_shift l x i gv (by omega) g c cur w hr hroom hc2 hc3 hc4 hv hng
      · exact insert_grow l x i gv (by omega) hn g c cur w hr (by omega) hc4 hv
end Go.Proofs.YtbkcmnmbcldjoaaGreatDoor
