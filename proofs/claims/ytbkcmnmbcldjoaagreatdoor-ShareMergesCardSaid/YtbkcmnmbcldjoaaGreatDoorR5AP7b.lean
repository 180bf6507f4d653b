/- Contracts of the document's own answers for layer 5: a record with a list of its own; has a list a name; is a sum beyond what 64 bits hold; are two answers the same? -/
import Derived.Test.YtbkcmnmbcldjoaaGreatDoorRuNP7b
import Derived.Test.YtbkcmnmbcldjoaaGreatDoorRef3gmP7b
namespace Go.Proofs.YtbkcmnmbcldjoaaGreatDoor
open Go.RowKit MM
theorem its_srcA {w : World} {A : Option Addr} {c : Nat} {xs : List RC.It} {tx e' : TypeId} (hk : Tryz.prog.underlying tx = some (.slice e')) (h : Its w A xs) : Src Tryz.prog 2 tx (.slice A xs.length c) xs.length (itCells xs) w := by
  cases A with
  | none =>
    have hx : xs = [] := by rcases h with h | ⟨b, off, h, _⟩; exact h; cases h
    subst hx
    exact Src.ofNil w hk c
  | some ad => exact its_src hk h rfl
theorem own_empty (w : World) (o1 o2 : Obj) : (((w.alloc o1).alloc o2).alloc (.cells #[] 91)).ownsRow 0 91 2 (.slice (some ⟨w.heap.size + 1 + 1, 0, none⟩) 0 0) 0 [] := by
  have h := World.ownsRow_lit (base := 0) (e := 91) (size := 2) ((w.alloc o1).alloc o2) #[] 0 (Nat.zero_le _) (by unfold maxLen; omega) rfl
  rw [World.size_alloc, World.size_alloc] at h
  exact h
theorem copied_rows {w w2 : World} {x y : Array Value} {A2 : Option Addr} {t : TypeId} (hg : (((w.alloc (.cells x t)).alloc (.cells y t)).alloc (.cells #[] 91)).grownBy w2 (ob (some ⟨w.heap.size + 1 + 1, 0, none⟩))) (hat : ob A2 = ob (some ⟨w.heap.size + 1 + 1, 0, none⟩) ∨ ob A2 = some (((w.alloc (.cells x t)).alloc (.cells y t)).alloc (.cells #[] 91)).heap.size) :
    w2.heap[w.heap.size]? = some (.cells x t (0, 0)) ∧ w2.heap[w.heap.size + 1]? = some (.cells y t (0, 0)) ∧ (∀ k, ob A2 = some k → w.heap.size + 2 ≤ k) ∧ Below w.heap.size w w2 := by
  have hk : Kp (fun k => k = w.heap.size + 1 + 1) (((w.alloc (.cells x t)).alloc (.cells y t)).alloc (.cells #[] 91)) w2 := Kp.grown (Kp.refl _ _) hg (fun k e => .inl (by injection e with e; exact e.symm))
  refine ⟨(hk.block _ (by simp only [World.size_alloc]; omega) (by omega)).trans ((heap_alloc_old _ _ (by simp only [World.size_alloc]; omega)).trans (heap_alloc2_old w _ _)), (hk.block _ (by simp only [World.size_alloc]; omega) (by omega)).trans ((heap_alloc_old _ _ (by simp only [World.size_alloc]; omega)).trans (heap_alloc2_new w _ _)), fun k e => ?_, (below3 w _ _ _).trans (hk.below (by simp only [World.size_alloc]; omega) (fun i hi x => by omega))⟩
  rcases hat with h | h
  · rw [h] at e; injection e with e; have e' : w.heap.size + 1 + 1 = k := e; omega
  · rw [h] at e; injection e with e; simp only [World.size_alloc] at e; omega
set_option maxHeartbeats 2000000 in
set_option maxRecDepth 100000 in
theorem copied_any (r : RC.Rc) (A : Option Addr) (c : Nat) (w : World) (hA : Its w A r.list) (hn : Lim r.list.length) :
    Calls Tryz.prog 86 #[recV r A c] w (OwnPost r w) := by
  obtain ⟨i0, hi0, hz0, hz1, hz2⟩ := info_parts item_info
  have HA := Lib.hid (fun u (b : Below w.heap.size w u) => its_srcA (c := c) Tryz.underlying23 (hA.below b))
  have hn1 : Lim (0 + r.list.length) := by rw [Nat.zero_add]; exact hn
  have HN := Lib.hid hn1
  clear hA hn hn1
  go_enter Tryz.func86, Tryz.ntmps86
  go_wp2_with (first
    | (at_builtin
       refine wpList_append_at rfl _ _ _ _ rfl 91 i0 _ 2 24 Tryz.underlying23 hi0 hz0 hz1 hz2 rfl (some ⟨w.heap.size + 1 + 1, 0, none⟩) 0 0 [] rfl (own_empty w _ _) _ r.list.length _ rfl (HA.out _ (below3 w _ _ _)) (Lim.len HN.out) (Lim.fit HN.out 24 (by omega)) ?_
       intro A2 c2 w2 ho2 hg2 hat2
       obtain ⟨e0, e1, hnew, hbel⟩ := copied_rows hg2 hat2
       have d0 := fun o => cell_of_row w2 _ o _ _ (0, 0) e0
       have d1 := fun o => cell_of_row w2 _ o _ _ (0, 0) e1
       have f0 : ∀ o, w2.frozen? ⟨w.heap.size, o, none⟩ = false := fun o => frozen_of_row _ _ o _ _ e0
       have f1 : ∀ o, w2.frozen? ⟨w.heap.size + 1, o, none⟩ = false := fun o => frozen_of_row _ _ o _ _ e1
       have E0 := Lib.hid e0
       have E1 := Lib.hid e1
       have HO := Lib.hid ho2
       have HNw := Lib.hid hnew
       have HBl := Lib.hid hbel
       clear e0 e1 hnew hbel ho2 hg2 hat2))
  generalize hwf : World.setCell _ _ _ = wf
  have ho : w2.ownsRow 0 91 2 (.slice A2 r.list.length c2) r.list.length (itCells r.list) := by
    have h := HO.out
    rw [Nat.zero_add, List.nil_append] at h
    exact h
  have X1 : wf.heap[w.heap.size + 1]? = some (.cells (recC r.kind r.num r.low r.high r.real r.cap r.text (.slice A2 r.list.length c2)) 25 (0, 0)) := by
    rw [← hwf]
    exact rec_stores ((heap_setCell_other _ _ _ _ (by simp)).trans E1.out)
  have hk : Kp (fun k => k = w.heap.size ∨ k = w.heap.size + 1) w2 wf := by
    rw [← hwf]
    exact kp8g (Kp.setCell (p := ⟨w.heap.size, 7, none⟩) (Kp.refl _ _) (Or.inl (Or.inl rfl)) _) (Or.inl (Or.inr rfl))
  have k1 := fun o => cell_of_row wf _ o _ _ (0, 0) X1
  have HP := Lib.hid (show OwnPost r w (.returned (recV r A2 c2)) wf from ⟨A2, c2, rfl, hk.own ho (fun k e x => by
      rw [ownBlock_slice] at e
      have h1 := HNw.out k e
      rcases x with x | x <;> omega), fun k e => by have := HNw.out k e; omega, HBl.out.trans (hk.below HBl.out.size (fun i hi x => by rcases x with x | x <;> omega))⟩)
  clear hwf X1 hk d0 d1 f0 f1 ho
  exact bodyPost_ret (v := recV r A2 c2) (by simp [results, Tryz.results86, go_sem, k1]) rfl HP.out
def RU.hasN (l : List RC.It) (s : ByteArray) : Bool := l.any fun x => RC.strEq x.name s
set_option maxHeartbeats 2000000 in
set_option maxRecDepth 100000 in
theorem has5_any (l : List RC.It) (s : ByteArray) (A : Option Addr) (c : Nat) (w : World) (hA : Its w A l) (hn : Lim l.length) :
    Calls Tryz.prog 139 #[.slice A l.length c, .string s] w fun e w' => e = .returned (.bool (RU.hasN l s)) ∧ w = w' := by
  have HA := Lib.hid hA
  have hl : l.length < 4294967296 := hn
  clear hA hn
  go_enter Tryz.func139, Tryz.ntmps139
  go_wp2_with fail
  go_loopw [5] (fun t5 wr => ∃ (i : Nat), t5 = .int .i64 i ∧ i ≤ l.length ∧ (∀ x ∈ l.take i, RC.strEq x.name s = false) ∧ wr = w) (fun t5 _ => l.length - (intOf t5).toNat)
  case atStart => exact ⟨0, rfl, Nat.zero_le _, (fun x hx => by cases hx), rfl⟩
  case round =>
    obtain ⟨i, rfl, hi, hno, rfl⟩ := hrel
    have HNo := Lib.hid hno
    clear hno
    by_cases hlt : i < l.length
    · have HMem := Lib.hid (List.getElem_mem hlt)
      have HTk := Lib.hid (List.take_succ_eq_append_getElem hlt)
      rcases HA.out with h0 | ⟨b, off, rfl, hb, hrow⟩
      · subst h0; simp at hlt
      have hc1 := (hrow i l[i] (List.getElem?_eq_getElem hlt)).2
      generalize l[i] = y at *
      have hi1 : (i : Int) < (l.length : Int) := by omega
      clear hrow
      cases he : RC.strEq y.name s
      · have he' : (y.name.toList == s.toList) = false := he
        have He := Lib.hid he
        clear he
        go_wp2_with fail
        go_roundw
        case rel =>
          refine ⟨i + 1, by go_num, by omega, fun z hz => ?_, trivial⟩
          rw [HTk.out] at hz
          rcases List.mem_append.1 hz with hz | hz
          · exact HNo.out z hz
          · simp at hz; subst hz; exact He.out
        case measure => simp [intOf]; omega
      · have he' : (y.name.toList == s.toList) = true := he
        have He := Lib.hid he
        clear he
        go_wp2_with fail
        go_ret
        exact ⟨ret_bool (by unfold RU.hasN; rw [List.any_eq_true.2 ⟨_, HMem.out, He.out⟩]), rfl⟩
    · have hi1 : ¬ (i : Int) < (l.length : Int) := by omega
      go_wp2_with fail
      go_ret
      refine ⟨ret_bool ?_, rfl⟩
      symm
      unfold RU.hasN
      rw [List.any_eq_false]
      intro x hx
      have := HNo.out x (by rw [List.take_of_length_le (by omega)]; exact hx)
      simpa using this
/-- Is a sum beyond what 64 bits hold? -/
def RU.overN (a b : Int) : Bool := (decide (0 < a) && decide (0 < b) && decide (RU.w64 (a + b) < 0)) || (decide (a < 0) && decide (b < 0) && decide (0 ≤ RU.w64 (a + b)))
theorem overN_plus (r : RC.Rc) (n : Int) (h1 : RC.I64 r.num) (h2 : RC.I64 n) (b1 : -9223372036854775808 ≤ r.num ∧ r.num ≤ 9223372036854775807) (b2 : -9223372036854775808 ≤ n ∧ n ≤ 9223372036854775807) : RU.overN r.num n = RU.plusOver r n := by
  have _x := And.intro h1 h2
  unfold RU.overN RU.plusOver RU.w64 wrap64
  rw [Bool.eq_iff_iff]
  simp only [Bool.or_eq_true, Bool.and_eq_true, decide_eq_true_eq, bne_iff_ne, ne_eq, decide_eq_decide]
  omega
end Go.Proofs.YtbkcmnmbcldjoaaGreatDoor
namespace Go.Proofs.YtbkcmnmbcldjoaaGreatDoor
open Go.RowKit MM
set_option maxHeartbeats 4000000 in
set_option maxRecDepth 100000 in
theorem over_any (a b : Int) (w : World) :
    Calls Tryz.prog 136 #[.int .i64 a, .int .i64 b] w fun e w' => e = .returned (.bool (RU.overN a b)) ∧ w = w' := by
  have HO := Lib.hid (show ∀ z, wrap64 (a + b) = z → RU.overN a b = ((decide (0 < a) && decide (0 < b) && decide (z < 0)) || (decide (a < 0) && decide (b < 0) && decide (0 ≤ z))) from fun z h => by unfold RU.overN RU.w64; rw [h])
  by_cases a1 : 0 < a
  · have a2 : ¬ a < 0 := by omega
    by_cases b1 : 0 < b
    · by_cases s1 : wrap64 (a + b) < 0
      · have Hr := Lib.hid (show RU.overN a b = true by rw [HO.out _ rfl]; simp [a1, b1, s1])
        clear HO
        go_enter Tryz.func136, Tryz.ntmps136
        go_wp2_with fail
        go_ret
        exact ⟨ret_bool Hr.out.symm, rfl⟩
      · have Hr := Lib.hid (show RU.overN a b = false by rw [HO.out _ rfl]; simp [a2, s1])
        clear HO
        go_enter Tryz.func136, Tryz.ntmps136
        go_wp2_with fail
        go_ret
        exact ⟨ret_bool Hr.out.symm, rfl⟩
    · have Hr := Lib.hid (show RU.overN a b = false by rw [HO.out _ rfl]; simp [a2, b1])
      clear HO
      go_enter Tryz.func136, Tryz.ntmps136
      go_wp2_with fail
      go_ret
      exact ⟨ret_bool Hr.out.symm, rfl⟩
  · by_cases a2 : a < 0
    · by_cases b1 : b < 0
      · by_cases s1 : 0 ≤ wrap64 (a + b)
        · have Hr := Lib.hid (show RU.overN a b = true by rw [HO.out _ rfl]; simp [a2, b1, s1])
          clear HO
          go_enter Tryz.func136, Tryz.ntmps136
          go_wp2_with fail
          go_ret
          exact ⟨ret_bool Hr.out.symm, rfl⟩
        · have Hr := Lib.hid (show RU.overN a b = false by rw [HO.out _ rfl]; simp [a1, s1])
          clear HO
          go_enter Tryz.func136, Tryz.ntmps136
          go_wp2_with fail
          go_ret
          exact ⟨ret_bool Hr.out.symm, rfl⟩
      · have Hr := Lib.hid (show RU.overN a b = false by rw [HO.out _ rfl]; simp [a1, b1])
        clear HO
        go_enter Tryz.func136, Tryz.ntmps136
        go_wp2_with fail
        go_ret
        exact ⟨ret_bool Hr.out.symm, rfl⟩
    · have Hr := Lib.hid (show RU.overN a b = false by rw [HO.out _ rfl]; simp [a1, a2])
      clear HO
      go_enter Tryz.func136, Tryz.ntmps136
      go_wp2_with fail
      go_ret
      exact ⟨ret_bool Hr.out.symm, rfl⟩
end Go.Proofs.YtbkcmnmbcldjoaaGreatDoor
namespace Go.Proofs.YtbkcmnmbcldjoaaGreatDoor
open Go.RowKit MM
/-- What the document's own doing answers: a record and an answer, whose lists read as theirs. -/
def D5Post (p : RC.Rc) (x : RU.Ans) (w : World) (e : Ending) (w' : World) : Prop :=
  ∃ A' c' B cb, e = .returned (.tuple #[recV p A' c', ansV x.code x.num x.rc B cb]) ∧ Its w' A' p.list ∧ Its w' B x.rc.list ∧ Below w.heap.size w w'
/-- How things stand while it goes on: the record, what is answered, and the places of both results. -/
structure D5 (w : World) (q : RC.Rc) (A : Option Addr) (c : Nat) (x : RU.Ans) (B : Option Addr) (cb : Nat) (W : World) : Prop where
  r0 : W.heap[w.heap.size]? = some (.cells (recC q.kind q.num q.low q.high q.real q.cap q.text (.slice A q.list.length c)) 25 (0, 0))
  r2 : W.heap[w.heap.size + 1 + 1]? = some (.cells (recC 0 0 0 0 0 0 ⟨#[]⟩ (.slice none 0 0)) 25 (0, 0))
  r3 : W.heap[w.heap.size + 1 + 1 + 1]? = some (.cells (ansC 0 0 RC.zero none 0) 82 (0, 0))
  r4 : W.heap[w.heap.size + 1 + 1 + 1 + 1]? = some (.cells (ansC x.code x.num x.rc B cb) 82 (0, 0))
  below : Below w.heap.size w W
/-- The places of both results. -/
def S23 (w : World) (k : Nat) : Prop := k = w.heap.size + 1 + 1 ∨ k = w.heap.size + 1 + 1 + 1
section
variable {w W W' : World} {q : RC.Rc} {A B : Option Addr} {c cb : Nat} {x : RU.Ans}
theorem D5.start (q : RC.Rc) (A : Option Addr) (c : Nat) (oa : Obj) (x : RU.Ans) (B : Option Addr) (cb : Nat) (w : World) : D5 w q A c x B cb (((((w.alloc (.cells (recC q.kind q.num q.low q.high q.real q.cap q.text (.slice A q.list.length c)) 25)).alloc oa).alloc (.cells (recC 0 0 0 0 0 0 ⟨#[]⟩ (.slice none 0 0)) 25)).alloc (.cells (ansC 0 0 RC.zero none 0) 82)).alloc (.cells (ansC x.code x.num x.rc B cb) 82)) :=
  ⟨(heap_alloc_old _ _ (by simp only [World.size_alloc]; omega)).trans ((heap_alloc_old _ _ (by simp only [World.size_alloc]; omega)).trans ((heap_alloc_old _ _ (by simp only [World.size_alloc]; omega)).trans (heap_alloc2_old w _ _))), (heap_alloc_old _ _ (by simp only [World.size_alloc]; omega)).trans ((heap_alloc_old _ _ (by simp only [World.size_alloc]; omega)).trans (heap_new _ _ _ (by simp))), (heap_alloc_old _ _ (by simp only [World.size_alloc]; omega)).trans (heap_new _ _ _ (by simp)), heap_new _ _ _ (by simp), (below4 w _ _ _ _).alloc (by simp only [World.size_alloc]; omega) _⟩
theorem D5.act0 (o0 oa o2 o3 o4 : Obj) (w : World) : (((((w.alloc o0).alloc oa).alloc o2).alloc o3).alloc o4).heap[w.heap.size + 1]? = some oa := (heap_alloc_old _ _ (by simp only [World.size_alloc]; omega)).trans ((heap_alloc_old _ _ (by simp only [World.size_alloc]; omega)).trans ((heap_alloc_old _ _ (by simp only [World.size_alloc]; omega)).trans (heap_alloc2_new w _ _)))
/-- A cell of the record is set. -/
theorem D5.set0 (h : D5 w q A c x B cb W) {o : Nat} {v : Value} {q' : RC.Rc} {A' : Option Addr} {c' : Nat} (e : (recC q.kind q.num q.low q.high q.real q.cap q.text (.slice A q.list.length c)).setIfInBounds o v = recC q'.kind q'.num q'.low q'.high q'.real q'.cap q'.text (.slice A' q'.list.length c')) : D5 w q' A' c' x B cb (W.setCell ⟨w.heap.size, o, none⟩ v) :=
  ⟨(heap_setCell_same _ _ _ _ _ _ h.r0).trans (by rw [← e]), (heap_setCell_other _ _ _ _ (by show w.heap.size + 1 + 1 ≠ w.heap.size; omega)).trans h.r2, (heap_setCell_other _ _ _ _ (by show w.heap.size + 1 + 1 + 1 ≠ w.heap.size; omega)).trans h.r3, (heap_setCell_other _ _ _ _ (by show w.heap.size + 1 + 1 + 1 + 1 ≠ w.heap.size; omega)).trans h.r4, h.below.setCell (Nat.le_refl _) _⟩
/-- A cell of what is answered is set. -/
theorem D5.set4 (h : D5 w q A c x B cb W) {o : Nat} {v : Value} {x' : RU.Ans} {B' : Option Addr} {cb' : Nat} (e : (ansC x.code x.num x.rc B cb).setIfInBounds o v = ansC x'.code x'.num x'.rc B' cb') : D5 w q A c x' B' cb' (W.setCell ⟨w.heap.size + 1 + 1 + 1 + 1, o, none⟩ v) :=
  ⟨(heap_setCell_other _ _ _ _ (by show w.heap.size ≠ w.heap.size + 1 + 1 + 1 + 1; omega)).trans h.r0, (heap_setCell_other _ _ _ _ (by show w.heap.size + 1 + 1 ≠ w.heap.size + 1 + 1 + 1 + 1; omega)).trans h.r2, (heap_setCell_other _ _ _ _ (by show w.heap.size + 1 + 1 + 1 ≠ w.heap.size + 1 + 1 + 1 + 1; omega)).trans h.r3, (heap_setCell_same _ _ _ _ _ _ h.r4).trans (by rw [← e]), h.below.setCell (by show w.heap.size ≤ w.heap.size + 1 + 1 + 1 + 1; omega) _⟩
/-- Nothing of all that turns. -/
theorem D5.look (h : D5 w q A c x B cb W) (hb : Below W.heap.size W W') : D5 w q A c x B cb W' :=
  ⟨(hb.block _ (lt_of_heap h.r0)).trans h.r0, (hb.block _ (lt_of_heap h.r2)).trans h.r2, (hb.block _ (lt_of_heap h.r3)).trans h.r3, (hb.block _ (lt_of_heap h.r4)).trans h.r4, h.below.trans (hb.mono h.below.size)⟩
/-- A list that was handed in. -/
theorem D5.old (h : D5 w q A c x B cb W) {l : List RC.It} {L : Option Addr} (hL : Its w L l) : ∀ wf, Kp (S23 w) W wf → Its wf L l := fun wf hk =>
  hL.below (h.below.trans (hk.below h.below.size (fun i hi x => by rcases x with x | x <;> omega)))
theorem D5.noL (L : Option Addr) : ∀ wf, Kp (S23 w) W wf → Its wf L [] := fun wf _ => Its.nil wf L
/-- A list that was made meanwhile. -/
theorem D5.new {l : List RC.It} {L : Option Addr} (hL : Its W L l) (hn : ∀ k, ob L = some k → w.heap.size + 5 ≤ k) : ∀ wf, Kp (S23 w) W wf → Its wf L l := fun wf hk =>
  hL.kp hk (fun ad e x => by subst e; have := hn ad.block rfl; rcases x with x | x <;> omega)
theorem D5.fin (h : D5 w q A c x B cb W) (hA : ∀ wf, Kp (S23 w) W wf → Its wf A q.list) (hB : ∀ wf, Kp (S23 w) W wf → Its wf B x.rc.list) : ∀ wf, Kp (S23 w) W wf → D5Post q x w (.returned (.tuple #[recV q A c, ansV x.code x.num x.rc B cb])) wf := fun wf hk =>
  ⟨A, c, B, cb, rfl, hA wf hk, hB wf hk, h.below.trans (hk.below h.below.size (fun i hi x => by rcases x with x | x <;> omega))⟩
end
end Go.Proofs.YtbkcmnmbcldjoaaGreatDoor
