/- Contracts of the document's own answers for layer 5: what an act does: Offer. -/
import Derived.Test.YtlpecaldodganaaGreatDoorRef5dq
import Derived.Test.YtlpecaldodganaaGreatDoorRef5iq
namespace Go.Proofs.YtlpecaldodganaaGreatDoor
open Go.RowKit MM
set_option linter.unusedVariables false
set_option linter.unusedSimpArgs false
theorem own_addr {w : World} {A : Option Addr} {n c : Nat} {cs : List Value} (ho : w.ownsRow 0 108 2 (.slice A n c) n cs) (hn : 0 < n) : ∃ g, A = some ⟨g, 0, none⟩ := by
  rcases ho.2 with ⟨h1, h2⟩ | ⟨g, cap, cur, h1, _⟩
  · omega
  · injection h1 with h2 _ _
    exact ⟨g, h2⟩
theorem Its.take {w : World} {A : Option Addr} {xs : List RC.It} (h : Its w A xs) (n : Nat) : Its w A (xs.take n) := by
  rcases h with rfl | ⟨b, off, rfl, hb, hc⟩
  · exact .inl (by simp)
  · refine .inr ⟨b, off, rfl, hb, fun i x hx => hc i x ?_⟩
    rw [List.getElem?_take] at hx
    split at hx
    · exact hx
    · cases hx
set_option maxHeartbeats 4000000 in
set_option maxRecDepth 100000 in
theorem do5_21ok (r : RC.Rc) (key : ByteArray) (n : Int) (x : Nat) (s : ByteArray) (m : RC.Rc) (must : Bool) (A L : Option Addr) (c cl : Nat) (w : World) (hA : Its w A r.list) (hn : r.list.length ≤ 1000) (hs : ∀ y ∈ r.list, MF.W64 y.score) (hx : MF.W64 x) (l2 : List RC.It) (hl2 : RU.laidG (fun y => RC.better y ⟨x, s⟩) (fun y => RU.sameK y ⟨x, s⟩) ⟨x, s⟩ r.list false = l2) (hle : ¬ r.cap < (l2.length : Int)) (q : RC.Rc) (xx : RU.Ans) (hq : q = { r with list := l2 }) (hxx : xx = RU.err 0) :
    Calls Tryz.prog 103 #[recV r A c, actV ⟨21, key, n, x, s, m, must⟩ L cl] w (D5Post q xx w) := by
  have HQ := Lib.hid hq
  have HX := Lib.hid hxx
  clear hq hxx
  have HL := Lib.hid (fun u (h : Its u A r.list) => (show Calls Tryz.prog 134 #[.slice A r.list.length c, itV ⟨x, s⟩, .bool false] u (CPost l2 u) by rw [← hl2]; exact laid_better r.list ⟨x, s⟩ A c u h hn hs hx))
  clear hl2 hs hx
  have HI := Lib.hid hA
  clear hA
  go_enter Tryz.func103, Tryz.ntmps103
  go_wp2_with (first
    | (go_at_call 134
       refine (HL.out _ (HI.out.below (below5 w _ _ _ _ _))).mono ?_
       rintro e w2 ⟨A2, k2, rfl, ho, hnw, hb⟩
       have HS := Lib.hid ((D5.start r A c _ (RU.err 0) none 0 w).look hb)
       simp only [World.size_alloc] at hnw
       have HO := Lib.hid ho
       have HN := Lib.hid (show ∀ k, ob A2 = some k → w.heap.size + 5 ≤ k from fun k e => hnw k e)
       have d0 := fun o => cell_of_row w2 _ o _ _ (0, 0) HS.out.r0
       have g0 : ∀ o, w2.frozen? ⟨w.heap.size, o, none⟩ = false := fun o => frozen_of_row _ _ o _ _ HS.out.r0
       clear ho hnw hb))
  generalize hwz : World.setCell _ _ _ = wz
  have HD := Lib.hid (show D5 w q A2 k2 xx none 0 wz by rw [← hwz, HQ.out, HX.out]; exact D5.set0 HS.out (by rfl))
  have HA := Lib.hid (show ∀ wf, Kp (S23 w) wz wf → Its wf A2 q.list by rw [HQ.out]; exact D5.new (by rw [← hwz]; exact (Its.own HO.out).kp (Kp.setCell (S := fun k => k = w.heap.size) (Kp.refl _ _) (Or.inl rfl) _) (fun ad e x => by subst e; have := HN.out ad.block rfl; omega)) HN.out)
  have HB := Lib.hid (show ∀ wf, Kp (S23 w) wz wf → Its wf none xx.rc.list by rw [HX.out]; exact D5.noL (w := w) (W := wz) none)
  clear hwz d0 g0
  have HF := Lib.hid (D5.fin HD.out HA.out HB.out)
  have c0 := fun o => cell_of_row wz _ o _ _ (0, 0) HD.out.r0
  have c2 := fun o => cell_of_row wz _ o _ _ (0, 0) HD.out.r2
  have c3 := fun o => cell_of_row wz _ o _ _ (0, 0) HD.out.r3
  have c4 := fun o => cell_of_row wz _ o _ _ (0, 0) HD.out.r4
  have f2 : ∀ o, wz.frozen? ⟨w.heap.size + 1 + 1, o, none⟩ = false := fun o => frozen_of_row _ _ o _ _ HD.out.r2
  have f3 : ∀ o, wz.frozen? ⟨w.heap.size + 1 + 1 + 1, o, none⟩ = false := fun o => frozen_of_row _ _ o _ _ HD.out.r3
  have Q2 := Lib.hid HD.out.r2
  have Q3 := Lib.hid HD.out.r3
  clear HD HA HB
  go_region_with (fail)
  all_goals
    go_wp2_with fail
    generalize hwf : World.drew _ = wf
    have X2 : wf.heap[w.heap.size + 1 + 1]? = some (.cells (recC q.kind q.num q.low q.high q.real q.cap q.text (.slice A2 q.list.length k2)) 25 (0, 0)) := by
      rw [← hwf, heap_drew]
      exact (ans_other (by omega)).trans (rec_stores Q2.out)
    have X3 : wf.heap[w.heap.size + 1 + 1 + 1]? = some (.cells (ansC xx.code xx.num xx.rc none 0) 49 (0, 0)) := by
      rw [← hwf, heap_drew]
      exact ans_all ((rec_stores_other (by omega)).trans Q3.out)
    have hk : Kp (S23 w) wz wf := by
      rw [← hwf]
      exact (kp10 (kp8g (Kp.refl _ _) (Or.inl (Or.inl rfl))) (Or.inl (Or.inr rfl))).drew
    have HP := Lib.hid (HF.out wf hk)
    have q2 := fun o => cell_of_row wf _ o _ _ (0, 0) X2
    have q3 := fun o => cell_of_row wf _ o _ _ (0, 0) X3
    clear hwf X2 X3 hk c0 c2 c3 c4 f2 f3
    exact bodyPost_ret (v := .tuple #[recV q A2 k2, ansV xx.code xx.num xx.rc none 0]) (by simp [results, Tryz.results103, go_sem, q2, q3]) rfl HP.out
set_option maxHeartbeats 4000000 in
set_option maxRecDepth 100000 in
theorem do5_21cut (r : RC.Rc) (key : ByteArray) (n : Int) (x : Nat) (s : ByteArray) (m : RC.Rc) (must : Bool) (A L : Option Addr) (c cl : Nat) (w : World) (hA : Its w A r.list) (hn : r.list.length ≤ 1000) (hs : ∀ y ∈ r.list, MF.W64 y.score) (hx : MF.W64 x) (l2 : List RC.It) (hl2 : RU.laidG (fun y => RC.better y ⟨x, s⟩) (fun y => RU.sameK y ⟨x, s⟩) ⟨x, s⟩ r.list false = l2) (h0 : 0 ≤ r.cap) (hle : r.cap < (l2.length : Int)) (q : RC.Rc) (xx : RU.Ans) (hq : q = { r with list := l2.take r.cap.toNat }) (hxx : xx = RU.err 0) :
    Calls Tryz.prog 103 #[recV r A c, actV ⟨21, key, n, x, s, m, must⟩ L cl] w (D5Post q xx w) := by
  have HQ := Lib.hid hq
  have HX := Lib.hid hxx
  clear hq hxx
  have HL := Lib.hid (fun u (h : Its u A r.list) => (show Calls Tryz.prog 134 #[.slice A r.list.length c, itV ⟨x, s⟩, .bool false] u (CPost l2 u) by rw [← hl2]; exact laid_better r.list ⟨x, s⟩ A c u h hn hs hx))
  clear hl2 hs hx
  have HI := Lib.hid hA
  clear hA
  go_enter Tryz.func103, Tryz.ntmps103
  go_wp2_with (first
    | (go_at_call 134
       refine (HL.out _ (HI.out.below (below5 w _ _ _ _ _))).mono ?_
       rintro e w2 ⟨A2, k2, rfl, ho, hnw, hb⟩
       have HS := Lib.hid ((D5.start r A c _ (RU.err 0) none 0 w).look hb)
       simp only [World.size_alloc] at hnw
       have HO := Lib.hid ho
       have HN := Lib.hid (show ∀ k, ob A2 = some k → w.heap.size + 5 ≤ k from fun k e => hnw k e)
       have d0 := fun o => cell_of_row w2 _ o _ _ (0, 0) HS.out.r0
       have g0 : ∀ o, w2.frozen? ⟨w.heap.size, o, none⟩ = false := fun o => frozen_of_row _ _ o _ _ HS.out.r0
       obtain ⟨g, rfl⟩ := own_addr ho (by omega)
       have hcc := cap_of_own ho
       have hc2 : r.cap ≤ (k2 : Int) := by omega
       clear ho hnw hb hcc))
  generalize hwz : World.setCell _ _ _ = wz
  have HD := Lib.hid (show D5 w q (some ⟨g, 0, none⟩) k2 xx none 0 wz by rw [← hwz, HQ.out, HX.out]; exact D5.set0 HS.out (by show _ = recC r.kind r.num r.low r.high r.real r.cap r.text (.slice (some ⟨g, 0, none⟩) (l2.take r.cap.toNat).length k2); rw [List.length_take, Nat.min_eq_left (by omega)]; rfl))
  have HA := Lib.hid (show ∀ wf, Kp (S23 w) wz wf → Its wf (some ⟨g, 0, none⟩) q.list by rw [HQ.out]; exact D5.new (by rw [← hwz]; exact ((Its.own HO.out).take r.cap.toNat).kp (Kp.setCell (S := fun k => k = w.heap.size) (Kp.refl _ _) (Or.inl rfl) _) (fun ad e x => by injection e with e; subst e; have := HN.out g rfl; have x : g = w.heap.size := x; omega)) HN.out)
  have HB := Lib.hid (show ∀ wf, Kp (S23 w) wz wf → Its wf none xx.rc.list by rw [HX.out]; exact D5.noL (w := w) (W := wz) none)
  clear hwz d0 g0
  have HF := Lib.hid (D5.fin HD.out HA.out HB.out)
  have c0 := fun o => cell_of_row wz _ o _ _ (0, 0) HD.out.r0
  have c2 := fun o => cell_of_row wz _ o _ _ (0, 0) HD.out.r2
  have c3 := fun o => cell_of_row wz _ o _ _ (0, 0) HD.out.r3
  have c4 := fun o => cell_of_row wz _ o _ _ (0, 0) HD.out.r4
  have f2 : ∀ o, wz.frozen? ⟨w.heap.size + 1 + 1, o, none⟩ = false := fun o => frozen_of_row _ _ o _ _ HD.out.r2
  have f3 : ∀ o, wz.frozen? ⟨w.heap.size + 1 + 1 + 1, o, none⟩ = false := fun o => frozen_of_row _ _ o _ _ HD.out.r3
  have Q2 := Lib.hid HD.out.r2
  have Q3 := Lib.hid HD.out.r3
  clear HD HA HB
  go_region_with (fail)
  all_goals
    go_wp2_with fail
    generalize hwf : World.drew _ = wf
    have X2 : wf.heap[w.heap.size + 1 + 1]? = some (.cells (recC q.kind q.num q.low q.high q.real q.cap q.text (.slice (some ⟨g, 0, none⟩) q.list.length k2)) 25 (0, 0)) := by
      rw [← hwf, heap_drew]
      exact (ans_other (by omega)).trans (rec_stores Q2.out)
    have X3 : wf.heap[w.heap.size + 1 + 1 + 1]? = some (.cells (ansC xx.code xx.num xx.rc none 0) 49 (0, 0)) := by
      rw [← hwf, heap_drew]
      exact ans_all ((rec_stores_other (by omega)).trans Q3.out)
    have hk : Kp (S23 w) wz wf := by
      rw [← hwf]
      exact (kp10 (kp8g (Kp.refl _ _) (Or.inl (Or.inl rfl))) (Or.inl (Or.inr rfl))).drew
    have HP := Lib.hid (HF.out wf hk)
    have q2 := fun o => cell_of_row wf _ o _ _ (0, 0) X2
    have q3 := fun o => cell_of_row wf _ o _ _ (0, 0) X3
    clear hwf X2 X3 hk c0 c2 c3 c4 f2 f3
    exact bodyPost_ret (v := .tuple #[recV q (some ⟨g, 0, none⟩) k2, ansV xx.code xx.num xx.rc none 0]) (by simp [results, Tryz.results103, go_sem, q2, q3]) rfl HP.out
end Go.Proofs.YtlpecaldodganaaGreatDoor
