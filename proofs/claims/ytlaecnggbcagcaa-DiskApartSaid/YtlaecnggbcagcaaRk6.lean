/- Contract of moietylaw17.same. -/
import Derived.Test.YtlaecnggbcagcaaRk5
import Derived.Test.YtlaecnggbcagcaaKs2
import Derived.BigQuiet
namespace Go.Proofs.Ytlaecnggbcagcaa
open Go.RowKit MM
set_option linter.unusedVariables false
set_option linter.unusedSimpArgs false

theorem below_one (w : World) (o : Obj) : Below w.heap.size w (w.alloc o) := (Below.refl _ w).alloc (Nat.le_refl _) o

theorem wpListG_row_at {P : Program} {ops : Array Oper} {rest : List Oper} {o : Oper} {a : Act} {w : World} {Q : Exit → Act → World → Prop} (gd : Nat × Bool) (hgd : o.guard = some gd) (hw : Region.wanted o (yielded ops a.tmps) = true) (ty : TypeId) (x : Operand) (ho : o.op = .load ty x)
    (g : Nat) (hx : a.eval x = .pointer (some ⟨g, 0, none⟩)) (t : TypeId) (cs : Array Value) (fr : Nat × Nat) (d : TypeDesc) (hg : w.heap[g]? = some (.cells cs t fr))
    (hu : P.underlying ty = some d) (hd : (match d with | .struct _ | .array _ _ => true | _ => false) = true) (hi : (P.info? ty).map (·.size) = some cs.size)
    (h : wpList P ops Q rest (a.put o.dst (.agg cs)) w) : wpList P ops Q (o :: rest) a w := wpListG_load_row hw ty x ho g hx t cs fr d hg hu hd hi h
theorem Dsk.drewN {w : World} {p : Nat} {d : Dk} {B : Nat → Prop} (h : Dsk w p B d) (n : Nat) : Dsk (w.drewN n) p B d := h.below (below_drewN (Below.refl _ w) n)

set_option maxHeartbeats 4000000 in
set_option maxRecDepth 100000 in
theorem same17_any (p q : Nat) (B C : Nat → Prop) (d : Dk) (w : World) (h1 : Dsk w p B d) (h2 : Rsk w q C d) :
    Calls Try.prog 21 #[.pointer (some ⟨p, 0, none⟩), .pointer (some ⟨q, 0, none⟩)] w fun e w' => e = .returned (.bool true) ∧ Below w.heap.size w w' := by
  have H1 := Lib.hid h1
  have H2 := Lib.hid h2
  have HOK := Lib.hid h1.ok
  obtain ⟨F, N, A, H, h2, _⟩ := h2
  obtain ⟨Na, nc, rfl⟩ := own_sl h2.now
  obtain ⟨Aa, ac, rfl⟩ := own_sl h2.ats
  rw [atV_len] at h2
  have HR := Lib.hid h2
  have HN := Lib.hid (show ((d.now.length : Nat) : Int) ≤ 4096 by have := h1.ok.lim; have := h1.ok.len; omega)
  clear h1 h2
  go_enter Try.func21, Try.ntmps21
  go_wp2_with fail
  have k1 := HR.out.c1
  have k2 := HR.out.c2
  have k5 := HR.out.c5
  have k6 := HR.out.c6
  go_quiet (first
    | (go_at_call 18; refine Calls.quiet_of_same (dLen_any p B d _ (H1.out.drewN _)))
    | (go_at_call 28; refine Calls.quiet_of_same (dPending_any p B d _ (H1.out.drewN _)))
    | (go_at_call 36; refine Calls.quiet_of_same (dWrites_any p B d _ (H1.out.drewN _)))
    | (go_at_call 27; refine Calls.quiet_of_same (dDown_any p B d _ (H1.out.drewN _))))
  clear k1 k2 k5 k6
  generalize hw0 : World.drewN w _ = w0
  have HD := Lib.hid (show Dsk w0 p B d by rw [← hw0]; exact H1.out.drewN _)
  have HQ := Lib.hid (show Rsk w0 q C d by rw [← hw0]; exact H2.out.below (below_drewN (Below.refl _ w) _))
  have HB := Lib.hid (show Below w.heap.size w w0 by rw [← hw0]; exact below_drewN (Below.refl _ w) _)
  clear hw0 H1 H2 HR
  go_wp2_with (first
    | (go_at_call 18; refine (dLen_any p B d _ HD.out).mono ?_; rintro e w' ⟨rfl, rfl⟩))
  go_loopw [48] (fun t wr => ∃ i : Nat, t = .int .i64 i ∧ i ≤ d.now.length ∧ Dsk wr p B d ∧ Rsk wr q C d ∧ Below w.heap.size w wr) (fun t _ => d.now.length - (intOf t).toNat)
  case atStart => exact ⟨0, rfl, Nat.zero_le _, HD.out, HQ.out, HB.out⟩
  case round =>
    obtain ⟨i, rfl, hi, h1, h2, h3⟩ := hrel
    have H1 := Lib.hid h1
    have H2 := Lib.hid h2
    have H3 := Lib.hid h3
    clear h1 h2 h3 HD HQ HB
    by_cases hlt : i < d.now.length
    · have hlt' : (i : Int) < ((d.now.length : Nat) : Int) := by omega
      have hil := HN.out
      have HX := Lib.hid (show (d.readS (i : Int)).length = 64 from Dk.readS_len HOK.out _)
      have HR1 := Lib.hid (dRead_any p B d (i : Int) wr H1.out)
      have HR2 := Lib.hid (fun w9 h9 => rRead_any q C d (i : Int) w9 h9)
      unfold ReadPost at HR1 HR2
      generalize d.readS (i : Int) = x at *
      generalize d.err (i : Int) = er at *
      go_wp2_with (first
        | (go_at_call 25; refine HR1.out.mono ?_; rintro e w1 ⟨rfl, hb1⟩; have HB1 := Lib.hid hb1; clear hb1)
        | (refine wpList_alloc_row rfl _ rfl (secv zs) (bc zs).toArray sec_zero rfl ?_)
        | (refine wpList_store_row rfl _ _ _ rfl _ (bc x).toArray rfl rfl 40 (bc zs).toArray (heap_alloc_new _ _) (sec_info' x HX.out) (by rw [bc_size, bc_size, HX.out]; rfl) (bc_all x) ?_
           rw [World.setRow_alloc_new]))
      have hA1 : Below wr.heap.size wr (w1.alloc (.cells (bc x).toArray 40)) := HB1.out.alloc HB1.out.size _
      have H1b := Lib.hid (H1.out.below hA1)
      have H2b := Lib.hid (H2.out.below hA1)
      have H3b := Lib.hid (H3.out.trans (hA1.mono H3.out.size))
      have HXa := Lib.hid (heap_alloc_new w1 (.cells (bc x).toArray 40))
      have HXs := Lib.hid (show w1.heap.size < (w1.alloc (.cells (bc x).toArray 40)).heap.size by simp)
      clear hA1 H1 H2 H3 HB1
      generalize hw2 : World.alloc w1 _ = w2 at *
      refine (HR2.out w2 H2b.out).mono ?_
      rintro e w3 ⟨rfl, hb3⟩
      have H1c := Lib.hid (H1b.out.below hb3)
      have H2c := Lib.hid (H2b.out.below hb3)
      have H3c := Lib.hid (H3b.out.trans (hb3.mono H3b.out.size))
      have HXc := Lib.hid ((hb3.block _ HXs.out).trans HXa.out)
      have HSc := Lib.hid (Nat.lt_of_lt_of_le HXs.out hb3.size)
      clear hb3 H1b H2b H3b HXa HXs hw2
      generalize w1.heap.size = g1 at *
      have hA3 : Below w3.heap.size w3 (w3.alloc (.cells (bc x).toArray 40)) := below_one _ _
      have H1d := Lib.hid (H1c.out.below hA3)
      have H2d := Lib.hid (H2c.out.below hA3)
      have H3d := Lib.hid (H3c.out.trans (hA3.mono H3c.out.size))
      have HXd := Lib.hid ((hA3.block _ HSc.out).trans HXc.out)
      clear hA3
      have heq : ∀ w, (binOp .neq 40 (secv x) (secv x)).run Try.prog w = .ok (.bool false) w := fun w => by rw [sec_ne x x HX.out HX.out w]; simp
      go_wp2_with (first
        | (refine wpList_alloc_row rfl _ rfl (secv zs) (bc zs).toArray sec_zero rfl ?_)
        | (refine wpList_store_row rfl _ _ _ rfl _ (bc x).toArray rfl rfl 40 (bc zs).toArray (heap_alloc_new _ _) (sec_info' x HX.out) (by rw [bc_size, bc_size, HX.out]; rfl) (bc_all x) ?_
           rw [World.setRow_alloc_new])
        | (refine wpListG_row_at (3, false) rfl (by kernel_rfl) _ _ rfl g1 rfl 40 _ (0, 0) _ HXd.out Try.underlying40 rfl (sec_info' _ HX.out) ?_)
        | (refine wpListG_row_at (3, false) rfl (by kernel_rfl) _ _ rfl w3.heap.size rfl 40 _ (0, 0) _ (heap_alloc_new _ _) Try.underlying40 rfl (sec_info' _ HX.out) ?_))
      go_roundw
      case rel => exact ⟨i + 1, by go_num, by omega, H1d.out, H2d.out, H3d.out⟩
      case measure => simp [intOf]; omega
    · obtain rfl : i = d.now.length := by omega
      go_wp2_with fail
      go_ret
      exact ⟨rfl, H3.out⟩

end Go.Proofs.Ytlaecnggbcagcaa
