/- Contracts of package rule: Apply. -/
import Derived.Test.YtofaonknfihaiaaDoorRuP
import Derived.Test.YtofaonknfihaiaaDoorRule11m
import Derived.Test.YtofaonknfihaiaaDoorRuQ
import Derived.Test.YtofaonknfihaiaaDoorRuN
import Derived.Test.YtofaonknfihaiaaDoorRule3m
namespace Go.Proofs.YtofaonknfihaiaaDoor
open Go.RowKit MM

/-- What Apply answers: the record and the answer's record are lists of their own. -/
def ApPost (q : RC.Rc) (th : Bool) (x : RU.Ans) (w : World) (e : Ending) (w' : World) : Prop :=
  ∃ A' c' B cb, e = .returned (.tuple #[recV q A' c', .bool th, ansV x.code x.num x.rc B cb]) ∧ w'.ownsRow 0 49 2 (.slice A' q.list.length c') q.list.length (itCells q.list) ∧ w'.ownsRow 0 49 2 (.slice B x.rc.list.length cb) x.rc.list.length (itCells x.rc.list) ∧ (∀ k, ob A' = some k → w.heap.size ≤ k) ∧ (∀ k, ob B = some k → w.heap.size ≤ k ∧ ob A' ≠ some k) ∧ Below w.heap.size w w'

set_option maxHeartbeats 2000000 in
set_option maxRecDepth 100000 in
theorem apply_refused (r : RC.Rc) (there : Bool) (a : AC.Ac) (A L : Option Addr) (c cl : Nat) (w : World) (hr : (ownR r there).ok) (ha : a.ok) (hR : RowsAt w) (hA : Its w A r.list) (hL : Its w L a.make.list) (n1 : Lim r.list.length) (n1' : Lim (ownR r there).list.length) (n2 : Lim a.make.list.length) (n3 : Lim a.key.size) (n4 : Lim a.s.size) (h : refE (ownR r there) there a ≠ 0) :
    Calls Tryd.prog 10 #[recV r A c, .bool there, actV a L cl] w (ApPost (ownR r there) there (RU.err (refE (ownR r there) there a)) w) := by
  have HO := Lib.hid (fun u (b : Below w.heap.size w u) => ruleOwn_any r there A c u (hA.below b) n1)
  have HF := Lib.hid (fun u A' c' (b : Below w.heap.size w u) hA' => refusal_any (ownR r there) there a A' L c' cl u hr ha (hR.below b) hA' (hL.below b) n1' n2 n3 n4)
  clear hr ha hR hA hL n1 n1' n2 n3 n4
  generalize refE (ownR r there) there a = E at *
  generalize ownR r there = q at *
  have hE : ((E : Int) != 0) = true := by simp; omega
  go_enter Tryd.func10, Tryd.ntmps10
  go_wp2_with fail
  refine (HO.out _ (below4 w _ _ _ _)).mono ?_
  rintro e w1 ⟨A', c', rfl, ho, hn, hb⟩
  have hs1 := hb.size
  simp only [World.size_alloc] at hs1 hn
  have e1 := (hb.block (w.heap.size + 1) (by simp only [World.size_alloc]; omega)).trans ((heap_alloc_old _ _ (by simp only [World.size_alloc]; omega)).trans ((heap_alloc_old _ _ (by simp only [World.size_alloc]; omega)).trans (heap_new _ _ _ (by simp))))
  have e2 := (hb.block (w.heap.size + 1 + 1) (by simp only [World.size_alloc]; omega)).trans ((heap_alloc_old _ _ (by simp only [World.size_alloc]; omega)).trans (heap_new _ _ _ (by simp)))
  have e3 := (hb.block (w.heap.size + 1 + 1 + 1) (by simp only [World.size_alloc]; omega)).trans (heap_new _ _ _ (by simp))
  have HB1 := Lib.hid (show Below w.heap.size w w1 from (below4 w _ _ _ _).trans (hb.mono (by simp only [World.size_alloc]; omega)))
  have c1 := fun o => cell_of_row w1 _ o _ _ (0, 0) e1
  have z1 : w.heap.size + 1 < w1.heap.size := by omega
  have z2 : w.heap.size + 1 + 1 < w1.heap.size := by omega
  have z3 : w.heap.size + 1 + 1 + 1 < w1.heap.size := by omega
  have R1 := Lib.hid e1
  have R2 := Lib.hid e2
  have R3 := Lib.hid e3
  have HW := Lib.hid ho
  have HN := Lib.hid hn
  clear hb e1 e2 e3 ho hn
  go_wp2_with fail
  have hB1w : Below w.heap.size w (w1.alloc (.cells (recC q.kind q.num q.low q.high q.real q.cap q.text (.slice A' q.list.length c')) 25)) := HB1.out.trans ((below1 w1 _).mono (by omega))
  refine (HF.out _ A' c' hB1w (Its.own (own_below HW.out (below1 w1 _)))).mono ?_
  rintro e w2 ⟨rfl, hb2⟩
  have hs2 := hb2.size
  simp only [World.size_alloc] at hs2
  have e2 := (hb2.block (w.heap.size + 1 + 1) (by simp only [World.size_alloc]; omega)).trans ((heap_alloc_old _ _ (by omega)).trans R2.out)
  have e3 := (hb2.block (w.heap.size + 1 + 1 + 1) (by simp only [World.size_alloc]; omega)).trans ((heap_alloc_old _ _ (by omega)).trans R3.out)
  have e5 := (hb2.block w1.heap.size (by simp only [World.size_alloc]; omega)).trans (heap_alloc_new w1 _)
  have HB2 := Lib.hid (hB1w.trans (hb2.mono (by simp only [World.size_alloc]; omega)))
  have HW2 := Lib.hid (own_below (own_below HW.out (below1 w1 _)) hb2)
  have c2 := fun o => cell_of_row w2 _ o _ _ (0, 0) e2
  have c3 := fun o => cell_of_row w2 _ o _ _ (0, 0) e3
  have c5 := fun o => cell_of_row w2 _ o _ _ (0, 0) e5
  have f2 : ∀ o, w2.frozen? ⟨w.heap.size + 1 + 1, o, none⟩ = false := fun o => frozen_of_row _ _ o _ _ e2
  have f3 : ∀ o, w2.frozen? ⟨w.heap.size + 1 + 1 + 1, o, none⟩ = false := fun o => frozen_of_row _ _ o _ _ e3
  have S2 := Lib.hid e2
  have S3 := Lib.hid e3
  have y2 : w.heap.size + 1 + 1 < w2.heap.size := by omega
  have y3 : w.heap.size + 1 + 1 + 1 < w2.heap.size := by omega
  have y5 : w1.heap.size < w2.heap.size := by omega
  clear hb2 e2 e3 e5 hB1w c1 R1 R2 R3 HW HF HO
  go_wp2_with fail
  generalize hwf : World.setCell _ _ _ = wf
  have X2 : wf.heap[w.heap.size + 1 + 1]? = some (.cells (recC q.kind q.num q.low q.high q.real q.cap q.text (.slice A' q.list.length c')) 25 (0, 0)) := by
    rw [← hwf]
    exact (ans_other (by omega)).trans (rec_stores S2.out)
  have X3 : wf.heap[w.heap.size + 1 + 1 + 1]? = some (.cells (ansC E 0 RC.zero none 0) 34 (0, 0)) := by
    rw [← hwf]
    exact ans_all ((rec_stores_other (by omega)).trans S3.out)
  have hk : Kp (fun k => k = w.heap.size + 1 + 1 ∨ k = w.heap.size + 1 + 1 + 1) w2 wf := by
    rw [← hwf]
    exact kp10 (kp8g (Kp.refl _ w2) (Or.inl (Or.inl rfl))) (Or.inl (Or.inr rfl))
  have HOf := Lib.hid (hk.own HW2.out (fun k e x => by
    rw [ownBlock_slice] at e
    have := HN.out k e
    rcases x with x | x <;> omega))
  have HNf := Lib.hid (show ∀ k, ob A' = some k → w.heap.size ≤ k from fun k e => by have := HN.out k e; omega)
  have HBf := Lib.hid (show Below w.heap.size w wf from HB2.out.trans (hk.below (by omega) (fun i hi x => by rcases x with x | x <;> omega)))
  have k2 := fun o => cell_of_row wf _ o _ _ (0, 0) X2
  have k3 := fun o => cell_of_row wf _ o _ _ (0, 0) X3
  clear hwf X2 X3 c2 c3 c5 f2 f3 hk
  exact bodyPost_ret (v := .tuple #[recV q A' c', .bool there, ansV E 0 RC.zero none 0]) (by simp [results, Tryd.results10, go_sem, k2, k3]) rfl ⟨A', c', none, 0, rfl, HOf.out, World.ownsRow_nil _ _ _ _, HNf.out, (fun k e => by cases e), HBf.out⟩

end Go.Proofs.YtofaonknfihaiaaDoor
