/- Contracts of the document's own answers for layer 6: does it matter which of two acts is first? -/
import Derived.Test.YtlpecaldodganaaGreatDoorPair3
import Derived.Test.YtlpecaldodganaaGreatDoorR5E
namespace Go.Proofs.YtlpecaldodganaaGreatDoor
open Go.RowKit MM
set_option linter.unusedVariables false
set_option linter.unusedSimpArgs false

theorem apart2 {w w' : World} {A : Option Addr} {l : List RC.It} {g k : Nat} {q : RC.Rc} {B : Option Addr} {c : Nat} {t1 t2 : TypeId} (hI : Its w A l) (hr : w.heap[g]? = some (.cells (recC q.kind q.num q.low q.high q.real q.cap q.text (.slice B q.list.length c)) t1 (0, 0))) (hk : w.heap[k]? = some (.cells (ansC 0 0 RC.zero none 0) t2 (0, 0))) (h : Kp (fun j => j = g ∨ j = k) w w') : Its w' A l := by
  refine its_keep hI h ?_
  rcases its_apart hI hr (rec_no _ _ _ _ _ _ _ _ _ _) with h1 | h1
  · exact .inl h1
  rcases its_apart hI hk (ans_no 0 0 RC.zero none 0) with h2 | h2
  · exact .inl h2
  exact .inr fun ad e x => by rcases x with x | x; exact h1 ad e x; exact h2 ad e x

set_option maxHeartbeats 16000000 in
set_option maxRecDepth 100000 in
theorem r6differs_any (r : RC.Rc) (t : Bool) (a b : AC.Ac) (A La Lb : Option Addr) (c ca cb : Nat) (w : World) (hr : r.ok) (hA : Its w A r.list) (n1 : Lim r.list.length) (ha : ActIn w a La ca) (hb : ActIn w b Lb cb) (sa : Lim a.make.list.length ∧ Lim a.key.size ∧ Lim a.s.size) (sb : Lim b.make.list.length ∧ Lim b.key.size ∧ Lim b.s.size) :
    Calls Tryz.prog 16 #[recV r A c, .bool t, actV a La ca, actV b Lb cb] w fun e w' => e = .returned (.bool (RU.differs r t a b)) ∧ Below w.heap.size w w' := by
  have HI := Lib.hid hA
  have HD := Lib.hid (show RU.differs r t a b = (((RU.apply (RU.apply r t a).1 (RU.apply r t a).2.1 b).2.1 != (RU.apply (RU.apply r t b).1 (RU.apply r t b).2.1 a).2.1) || !RC.same (RU.apply (RU.apply r t a).1 (RU.apply r t a).2.1 b).1 (RU.apply (RU.apply r t b).1 (RU.apply r t b).2.1 a).1 || !RU.sameAns (RU.apply r t a).2.2 (RU.apply (RU.apply r t b).1 (RU.apply r t b).2.1 a).2.2 || !RU.sameAns (RU.apply (RU.apply r t a).1 (RU.apply r t a).2.1 b).2.2 (RU.apply r t b).2.2) from rfl)
  have HPa := Lib.hid (fun (q : RC.Rc) (s : Bool) (B : Option Addr) (d : Nat) u (h : Below w.heap.size w u) (hq : q.ok) (hl : Lim q.list.length) (hB : Its u B q.list) => r5apply_any q s a B La d ca u hq ha.ok hB (ha.make.its.below h) hl sa.1 sa.2.1 sa.2.2)
  have HPb := Lib.hid (fun (q : RC.Rc) (s : Bool) (B : Option Addr) (d : Nat) u (h : Below w.heap.size w u) (hq : q.ok) (hl : Lim q.list.length) (hB : Its u B q.list) => r5apply_any q s b B Lb d cb u hq hb.ok hB (hb.make.its.below h) hl sb.1 sb.2.1 sb.2.2)
  have HQa := Lib.hid (fun (q : RC.Rc) (s : Bool) (hq : q.ok) (hl : Lim q.list.length) => And.intro (apply_ok (there := s) hq ha.ok) (apply_lim (there := s) hq ha.ok hl))
  have HQb := Lib.hid (fun (q : RC.Rc) (s : Bool) (hq : q.ok) (hl : Lim q.list.length) => And.intro (apply_ok (there := s) hq hb.ok) (apply_lim (there := s) hq hb.ok hl))
  have HR := Lib.hid (And.intro hr n1)
  clear hr hA n1 ha hb sa sb
  generalize RU.differs r t a b = V at *
  go_enter Tryz.func16, Tryz.ntmps16
  go_wp2_with fail
  generalize hw0 : World.alloc _ _ = w0
  have R4 := Lib.hid (show w0.heap[w.heap.size]? = some (.cells (recC r.kind r.num r.low r.high r.real r.cap r.text (.slice A r.list.length c)) 25 (0, 0)) by rw [← hw0]; exact (heap_alloc_old _ _ (by simp only [World.size_alloc]; omega)).trans (heap_alloc2_old w _ _))
  have R6 := Lib.hid (show w0.heap[w.heap.size + 1]? = some (.cells (actC a La ca) 27 (0, 0)) by rw [← hw0]; exact (heap_alloc_old _ _ (by simp only [World.size_alloc]; omega)).trans (heap_alloc2_new w _ _))
  have R7 := Lib.hid (show w0.heap[w.heap.size + 1 + 1]? = some (.cells (actC b Lb cb) 27 (0, 0)) by rw [← hw0]; exact heap_new _ _ _ (by simp))
  have B := Lib.hid (show Below w.heap.size w w0 by rw [← hw0]; exact (below2 w _ _).alloc (by simp only [World.size_alloc]; omega) _)
  have HI := Lib.hid (HI.out.below B.out)
  clear hw0
  have HO1 := Lib.hid (HQa.out r t HR.out.1 HR.out.2)
  refine (HPa.out r t A c _ B.out HR.out.1 HR.out.2 HI.out).mono ?_
  generalize hap : RU.apply r t a = out at *
  obtain ⟨p1, ty1, x1⟩ := out
  clear hap
  rintro e w1 ⟨A1, c1, C1, d1, rfl, hi1, hi2, hb⟩
  have I1 := Lib.hid (show Its w1 A1 p1.list from hi1)
  have J1 := Lib.hid (show Its w1 C1 x1.rc.list from hi2)
  clear hi1 hi2
  have R4 := Lib.hid ((hb.block _ (lt_of_heap R4.out)).trans R4.out)
  have R6 := Lib.hid ((hb.block _ (lt_of_heap R6.out)).trans R6.out)
  have R7 := Lib.hid ((hb.block _ (lt_of_heap R7.out)).trans R7.out)
  have HI := Lib.hid (HI.out.below hb)
  have B := Lib.hid (B.out.trans (hb.mono B.out.size))
  clear hb
  have S9 := Lib.hid (show w.heap.size + 1 + 1 < w1.heap.size from lt_of_heap R7.out)
  have kR7 := fun p q o => cell_of_row ((w1.alloc p).alloc q) _ o _ _ (0, 0) ((heap_alloc_old (w1.alloc p) q (by simp; have := lt_of_heap R7.out; omega)).trans ((heap_alloc_old w1 p (lt_of_heap R7.out)).trans R7.out))
  go_wp2_with fail
  generalize hw : World.alloc (World.alloc w1 _) _ = w2
  have hb : Below w1.heap.size w1 w2 := by rw [← hw]; exact below2 w1 _ _
  have R9 := Lib.hid (show w2.heap[w1.heap.size]? = some (.cells (recC p1.kind p1.num p1.low p1.high p1.real p1.cap p1.text (.slice A1 p1.list.length c1)) 25 (0, 0)) by rw [← hw]; exact heap_alloc2_old w1 _ _)
  have R11 := Lib.hid (show w2.heap[w1.heap.size + 1]? = some (.cells (ansC x1.code x1.num x1.rc C1 d1) 49 (0, 0)) by rw [← hw]; exact heap_alloc2_new w1 _ _)
  have R4 := Lib.hid ((hb.block _ (lt_of_heap R4.out)).trans R4.out)
  have R6 := Lib.hid ((hb.block _ (lt_of_heap R6.out)).trans R6.out)
  have R7 := Lib.hid ((hb.block _ (lt_of_heap R7.out)).trans R7.out)
  have HI := Lib.hid (HI.out.below hb)
  have I1 := Lib.hid (I1.out.below hb)
  have J1 := Lib.hid (J1.out.below hb)
  have B := Lib.hid (B.out.trans (hb.mono B.out.size))
  generalize hg9 : w1.heap.size = g9 at *
  clear hw hb kR7 hg9
  have HO2 := Lib.hid (HQb.out p1 ty1 HO1.out.1.1 HO1.out.2.1)
  refine (HPb.out p1 ty1 A1 c1 _ B.out HO1.out.1.1 HO1.out.2.1 I1.out).mono ?_
  generalize hap : RU.apply p1 ty1 b = out at *
  obtain ⟨p2, ty2, x2⟩ := out
  clear hap
  rintro e w3 ⟨A2, c2, C2, d2, rfl, hi1, hi2, hb⟩
  have I2 := Lib.hid (show Its w3 A2 p2.list from hi1)
  have J2 := Lib.hid (show Its w3 C2 x2.rc.list from hi2)
  clear hi1 hi2
  have R4 := Lib.hid ((hb.block _ (lt_of_heap R4.out)).trans R4.out)
  have R6 := Lib.hid ((hb.block _ (lt_of_heap R6.out)).trans R6.out)
  have R7 := Lib.hid ((hb.block _ (lt_of_heap R7.out)).trans R7.out)
  have R9 := Lib.hid ((hb.block _ (lt_of_heap R9.out)).trans R9.out)
  have R11 := Lib.hid ((hb.block _ (lt_of_heap R11.out)).trans R11.out)
  have HI := Lib.hid (HI.out.below hb)
  have I1 := Lib.hid (I1.out.below hb)
  have J1 := Lib.hid (J1.out.below hb)
  have B := Lib.hid (B.out.trans (hb.mono B.out.size))
  clear hb
  have hlt := lt_of_heap R9.out
  have e0 := fun o => cell_of_row w3 _ o _ _ (0, 0) R9.out
  have f0 : ∀ o, w3.frozen? ⟨g9, o, none⟩ = false := fun o => frozen_of_row _ _ o _ _ R9.out
  have z1 : g9 ≠ w3.heap.size := by omega
  have z2 : w3.heap.size ≠ g9 := by omega
  go_upto_region 3 with fail
  generalize hw : World.alloc (World.setCell _ _ _) _ = w4
  have hk : Kp (fun j => j = g9) w3 w4 := by rw [← hw]; exact (kp8g (S := fun j => j = g9) (Kp.refl _ _) (Or.inl rfl)).alloc _
  have Q := Lib.hid (show w4.heap[g9]? = some (.cells (recC p2.kind p2.num p2.low p2.high p2.real p2.cap p2.text (.slice A2 p2.list.length c2)) 25 (0, 0)) by rw [← hw]; exact (heap_alloc_old _ _ (by simp; exact hlt)).trans (rec_stores R9.out))
  have R12 := Lib.hid (show w4.heap[w3.heap.size]? = some (.cells (ansC x2.code x2.num x2.rc C2 d2) 49 (0, 0)) by rw [← hw]; exact heap_new _ _ _ (by simp))
  have R4 := Lib.hid ((hk.block _ (lt_of_heap R4.out) (by have := S9.out;  omega)).trans R4.out)
  have R6 := Lib.hid ((hk.block _ (lt_of_heap R6.out) (by have := S9.out;  omega)).trans R6.out)
  have R7 := Lib.hid ((hk.block _ (lt_of_heap R7.out) (by have := S9.out;  omega)).trans R7.out)
  have R11 := Lib.hid ((hk.block _ (lt_of_heap R11.out) (by have := S9.out;  omega)).trans R11.out)
  have HI := Lib.hid (its_keep HI.out hk (by rcases its_apart HI.out R9.out (rec_no _ _ _ _ _ _ _ _ _ _) with h1 | h1; exact .inl h1; exact .inr h1))
  have J1 := Lib.hid (its_keep J1.out hk (by rcases its_apart J1.out R9.out (rec_no _ _ _ _ _ _ _ _ _ _) with h1 | h1; exact .inl h1; exact .inr h1))
  have I2 := Lib.hid (its_keep I2.out hk (by rcases its_apart I2.out R9.out (rec_no _ _ _ _ _ _ _ _ _ _) with h1 | h1; exact .inl h1; exact .inr h1))
  have J2 := Lib.hid (its_keep J2.out hk (by rcases its_apart J2.out R9.out (rec_no _ _ _ _ _ _ _ _ _ _) with h1 | h1; exact .inl h1; exact .inr h1))
  have B := Lib.hid (B.out.trans (hk.below B.out.size (fun i hi x => by have := S9.out; omega)))
  have R9 := Q
  clear hw hk e0 f0 z1 z2 hlt Q
  generalize hg12 : w3.heap.size = g12 at *
  clear hg12
  have kR4 := fun o => cell_of_row w4 _ o _ _ (0, 0) R4.out
  have kR7 := fun o => cell_of_row w4 _ o _ _ (0, 0) R7.out
  go_wp2_with fail
  have HO3 := Lib.hid (HQb.out r t HR.out.1 HR.out.2)
  refine (HPb.out r t A c _ B.out HR.out.1 HR.out.2 HI.out).mono ?_
  generalize hap : RU.apply r t b = out at *
  obtain ⟨p3, ty3, x3⟩ := out
  clear hap
  rintro e w5 ⟨A3, c3, C3, d3, rfl, hi1, hi2, hb⟩
  have I3 := Lib.hid (show Its w5 A3 p3.list from hi1)
  have J3 := Lib.hid (show Its w5 C3 x3.rc.list from hi2)
  clear hi1 hi2
  have R4 := Lib.hid ((hb.block _ (lt_of_heap R4.out)).trans R4.out)
  have R6 := Lib.hid ((hb.block _ (lt_of_heap R6.out)).trans R6.out)
  have R7 := Lib.hid ((hb.block _ (lt_of_heap R7.out)).trans R7.out)
  have R9 := Lib.hid ((hb.block _ (lt_of_heap R9.out)).trans R9.out)
  have R11 := Lib.hid ((hb.block _ (lt_of_heap R11.out)).trans R11.out)
  have R12 := Lib.hid ((hb.block _ (lt_of_heap R12.out)).trans R12.out)
  have HI := Lib.hid (HI.out.below hb)
  have J1 := Lib.hid (J1.out.below hb)
  have I2 := Lib.hid (I2.out.below hb)
  have J2 := Lib.hid (J2.out.below hb)
  have B := Lib.hid (B.out.trans (hb.mono B.out.size))
  clear hb kR4 kR7
  have Sa := Lib.hid (show g9 + 1 < w5.heap.size from lt_of_heap R11.out)
  have Sb := Lib.hid (show g12 < w5.heap.size from lt_of_heap R12.out)
  have kR6 := fun p q o => cell_of_row ((w5.alloc p).alloc q) _ o _ _ (0, 0) ((heap_alloc_old (w5.alloc p) q (by simp; have := lt_of_heap R6.out; omega)).trans ((heap_alloc_old w5 p (lt_of_heap R6.out)).trans R6.out))
  go_wp2_with fail
  generalize hw : World.alloc (World.alloc w5 _) _ = w6
  have hb : Below w5.heap.size w5 w6 := by rw [← hw]; exact below2 w5 _ _
  have R13 := Lib.hid (show w6.heap[w5.heap.size]? = some (.cells (recC p3.kind p3.num p3.low p3.high p3.real p3.cap p3.text (.slice A3 p3.list.length c3)) 25 (0, 0)) by rw [← hw]; exact heap_alloc2_old w5 _ _)
  have R15 := Lib.hid (show w6.heap[w5.heap.size + 1]? = some (.cells (ansC x3.code x3.num x3.rc C3 d3) 49 (0, 0)) by rw [← hw]; exact heap_alloc2_new w5 _ _)
  have R4 := Lib.hid ((hb.block _ (lt_of_heap R4.out)).trans R4.out)
  have R6 := Lib.hid ((hb.block _ (lt_of_heap R6.out)).trans R6.out)
  have R7 := Lib.hid ((hb.block _ (lt_of_heap R7.out)).trans R7.out)
  have R9 := Lib.hid ((hb.block _ (lt_of_heap R9.out)).trans R9.out)
  have R11 := Lib.hid ((hb.block _ (lt_of_heap R11.out)).trans R11.out)
  have R12 := Lib.hid ((hb.block _ (lt_of_heap R12.out)).trans R12.out)
  have HI := Lib.hid (HI.out.below hb)
  have J1 := Lib.hid (J1.out.below hb)
  have I2 := Lib.hid (I2.out.below hb)
  have J2 := Lib.hid (J2.out.below hb)
  have I3 := Lib.hid (I3.out.below hb)
  have J3 := Lib.hid (J3.out.below hb)
  have B := Lib.hid (B.out.trans (hb.mono B.out.size))
  generalize hg13 : w5.heap.size = g13 at *
  clear hw hb kR6 hg13
  have HO4 := Lib.hid (HQa.out p3 ty3 HO3.out.1.1 HO3.out.2.1)
  refine (HPa.out p3 ty3 A3 c3 _ B.out HO3.out.1.1 HO3.out.2.1 I3.out).mono ?_
  generalize hap : RU.apply p3 ty3 a = out at *
  obtain ⟨p4, ty4, x4⟩ := out
  clear hap
  rintro e w7 ⟨A4, c4, C4, d4, rfl, hi1, hi2, hb⟩
  have I4 := Lib.hid (show Its w7 A4 p4.list from hi1)
  have J4 := Lib.hid (show Its w7 C4 x4.rc.list from hi2)
  clear hi1 hi2
  have R4 := Lib.hid ((hb.block _ (lt_of_heap R4.out)).trans R4.out)
  have R6 := Lib.hid ((hb.block _ (lt_of_heap R6.out)).trans R6.out)
  have R7 := Lib.hid ((hb.block _ (lt_of_heap R7.out)).trans R7.out)
  have R9 := Lib.hid ((hb.block _ (lt_of_heap R9.out)).trans R9.out)
  have R11 := Lib.hid ((hb.block _ (lt_of_heap R11.out)).trans R11.out)
  have R12 := Lib.hid ((hb.block _ (lt_of_heap R12.out)).trans R12.out)
  have R13 := Lib.hid ((hb.block _ (lt_of_heap R13.out)).trans R13.out)
  have R15 := Lib.hid ((hb.block _ (lt_of_heap R15.out)).trans R15.out)
  have HI := Lib.hid (HI.out.below hb)
  have J1 := Lib.hid (J1.out.below hb)
  have I2 := Lib.hid (I2.out.below hb)
  have J2 := Lib.hid (J2.out.below hb)
  have I3 := Lib.hid (I3.out.below hb)
  have J3 := Lib.hid (J3.out.below hb)
  have B := Lib.hid (B.out.trans (hb.mono B.out.size))
  clear hb
  have hlt := lt_of_heap R13.out
  have e0 := fun o => cell_of_row w7 _ o _ _ (0, 0) R13.out
  have f0 : ∀ o, w7.frozen? ⟨g13, o, none⟩ = false := fun o => frozen_of_row _ _ o _ _ R13.out
  have z1 : g13 ≠ w7.heap.size := by omega
  have z2 : w7.heap.size ≠ g13 := by omega
  go_upto_region 5 with fail
  generalize hw : World.alloc (World.setCell _ _ _) _ = w8
  have hk : Kp (fun j => j = g13) w7 w8 := by rw [← hw]; exact (kp8g (S := fun j => j = g13) (Kp.refl _ _) (Or.inl rfl)).alloc _
  have Q := Lib.hid (show w8.heap[g13]? = some (.cells (recC p4.kind p4.num p4.low p4.high p4.real p4.cap p4.text (.slice A4 p4.list.length c4)) 25 (0, 0)) by rw [← hw]; exact (heap_alloc_old _ _ (by simp; exact hlt)).trans (rec_stores R13.out))
  have R16 := Lib.hid (show w8.heap[w7.heap.size]? = some (.cells (ansC x4.code x4.num x4.rc C4 d4) 49 (0, 0)) by rw [← hw]; exact heap_new _ _ _ (by simp))
  have R4 := Lib.hid ((hk.block _ (lt_of_heap R4.out) (by have := S9.out; have := Sa.out; have := Sb.out; omega)).trans R4.out)
  have R6 := Lib.hid ((hk.block _ (lt_of_heap R6.out) (by have := S9.out; have := Sa.out; have := Sb.out; omega)).trans R6.out)
  have R7 := Lib.hid ((hk.block _ (lt_of_heap R7.out) (by have := S9.out; have := Sa.out; have := Sb.out; omega)).trans R7.out)
  have R9 := Lib.hid ((hk.block _ (lt_of_heap R9.out) (by have := S9.out; have := Sa.out; have := Sb.out; omega)).trans R9.out)
  have R11 := Lib.hid ((hk.block _ (lt_of_heap R11.out) (by have := S9.out; have := Sa.out; have := Sb.out; omega)).trans R11.out)
  have R12 := Lib.hid ((hk.block _ (lt_of_heap R12.out) (by have := S9.out; have := Sa.out; have := Sb.out; omega)).trans R12.out)
  have R15 := Lib.hid ((hk.block _ (lt_of_heap R15.out) (by have := S9.out; have := Sa.out; have := Sb.out; omega)).trans R15.out)
  have HI := Lib.hid (its_keep HI.out hk (by rcases its_apart HI.out R13.out (rec_no _ _ _ _ _ _ _ _ _ _) with h1 | h1; exact .inl h1; exact .inr h1))
  have J1 := Lib.hid (its_keep J1.out hk (by rcases its_apart J1.out R13.out (rec_no _ _ _ _ _ _ _ _ _ _) with h1 | h1; exact .inl h1; exact .inr h1))
  have I2 := Lib.hid (its_keep I2.out hk (by rcases its_apart I2.out R13.out (rec_no _ _ _ _ _ _ _ _ _ _) with h1 | h1; exact .inl h1; exact .inr h1))
  have J2 := Lib.hid (its_keep J2.out hk (by rcases its_apart J2.out R13.out (rec_no _ _ _ _ _ _ _ _ _ _) with h1 | h1; exact .inl h1; exact .inr h1))
  have J3 := Lib.hid (its_keep J3.out hk (by rcases its_apart J3.out R13.out (rec_no _ _ _ _ _ _ _ _ _ _) with h1 | h1; exact .inl h1; exact .inr h1))
  have I4 := Lib.hid (its_keep I4.out hk (by rcases its_apart I4.out R13.out (rec_no _ _ _ _ _ _ _ _ _ _) with h1 | h1; exact .inl h1; exact .inr h1))
  have J4 := Lib.hid (its_keep J4.out hk (by rcases its_apart J4.out R13.out (rec_no _ _ _ _ _ _ _ _ _ _) with h1 | h1; exact .inl h1; exact .inr h1))
  have B := Lib.hid (B.out.trans (hk.below B.out.size (fun i hi x => by have := S9.out; have := Sa.out; have := Sb.out; omega)))
  have R13 := Q
  clear hw hk e0 f0 z1 z2 hlt Q
  have hd := HD.out
  have HD := Lib.hid (show V = ((ty2 != ty4) || !RC.same p2 p4 || !RU.sameAns x1 x4 || !RU.sameAns x2 x3) from hd)
  clear hd
  generalize hg16 : w7.heap.size = g16 at *
  clear hg16
  by_cases hu : ty2 = ty4
  case neg =>
    have HV := Lib.hid (show V = true by rw [HD.out, show (ty2 != ty4) = true by simpa using hu]; rfl)
    clear HD
    cases ty2
    · cases ty4
      · exact absurd rfl hu
      · clear hu
        go_wp2_with fail
        go_ret
        exact ⟨by rw [HV.out]; rfl, B.out⟩
    · cases ty4
      · clear hu
        go_wp2_with fail
        go_ret
        exact ⟨by rw [HV.out]; rfl, B.out⟩
      · exact absurd rfl hu
  subst hu
  have HD := Lib.hid (show V = (!RC.same p2 p4 || !RU.sameAns x1 x4 || !RU.sameAns x2 x3) by rw [HD.out, show (ty2 != ty2) = false by simp]; rfl)
  have k9 := fun o => cell_of_row w8 _ o _ _ (0, 0) R9.out
  have k13 := fun o => cell_of_row w8 _ o _ _ (0, 0) R13.out
  go_wp2_with fail
  have HS3 := Lib.hid (show Calls Tryz.prog 21 #[recV p2 A2 c2, recV p4 A4 c4] w8 (fun e w' => e = .returned (.bool (RC.same p2 p4)) ∧ Below w8.heap.size w8 w') from rsame3_any p2 p4 A2 A4 c2 c4 _ HO2.out.1.1 HO4.out.1.1 I2.out I4.out HO2.out.2.1 HO4.out.2.1)
  generalize RC.same p2 p4 = s1 at *
  refine HS3.out.mono ?_
  rintro e w9 ⟨rfl, hb⟩
  have R11 := Lib.hid ((hb.block _ (lt_of_heap R11.out)).trans R11.out)
  have R12 := Lib.hid ((hb.block _ (lt_of_heap R12.out)).trans R12.out)
  have R15 := Lib.hid ((hb.block _ (lt_of_heap R15.out)).trans R15.out)
  have R16 := Lib.hid ((hb.block _ (lt_of_heap R16.out)).trans R16.out)
  have J1 := Lib.hid (J1.out.below hb)
  have J2 := Lib.hid (J2.out.below hb)
  have J3 := Lib.hid (J3.out.below hb)
  have J4 := Lib.hid (J4.out.below hb)
  have B := Lib.hid (B.out.trans (hb.mono B.out.size))
  clear hb k9 k13
  cases s1
  case false =>
    go_wp2_with fail
    go_ret
    exact ⟨by rw [HD.out]; rfl, B.out⟩
  have k11 := fun o => cell_of_row w9 _ o _ _ (0, 0) R11.out
  have k16 := fun o => cell_of_row w9 _ o _ _ (0, 0) R16.out
  go_wp2_with fail
  refine (rsame5_any x1 x4 C1 C4 d1 d4 _ HO1.out.1.2 HO4.out.1.2 J1.out J4.out HO1.out.2.2 HO4.out.2.2).mono ?_
  generalize RU.sameAns x1 x4 = s2 at *
  rintro e w10 ⟨rfl, hb⟩
  have R12 := Lib.hid ((hb.block _ (lt_of_heap R12.out)).trans R12.out)
  have R15 := Lib.hid ((hb.block _ (lt_of_heap R15.out)).trans R15.out)
  have J2 := Lib.hid (J2.out.below hb)
  have J3 := Lib.hid (J3.out.below hb)
  have B := Lib.hid (B.out.trans (hb.mono B.out.size))
  clear hb k11 k16
  cases s2
  case false =>
    go_wp2_with fail
    go_ret
    exact ⟨by rw [HD.out]; rfl, B.out⟩
  have k12 := fun o => cell_of_row w10 _ o _ _ (0, 0) R12.out
  have k15 := fun o => cell_of_row w10 _ o _ _ (0, 0) R15.out
  go_wp2_with fail
  refine (rsame5_any x2 x3 C2 C3 d2 d3 _ HO2.out.1.2 HO3.out.1.2 J2.out J3.out HO2.out.2.2 HO3.out.2.2).mono ?_
  generalize RU.sameAns x2 x3 = s3 at *
  rintro e w11 ⟨rfl, hb⟩
  have B := Lib.hid (B.out.trans (hb.mono B.out.size))
  clear hb k12 k15
  go_wp2_with fail
  go_ret
  exact ⟨by rw [HD.out]; rfl, B.out⟩

end Go.Proofs.YtlpecaldodganaaGreatDoor
