/- Contracts of package rule: functions that make functions; the table of doings. -/
import Derived.Test.YtbkcmnmbcldjoaaGreatDoorRuMP7d
import Derived.Laws.EntriesVeiled
import Derived.Laws.IdiomCopy
import Derived.Laws.Cells
import Derived.Laws.Tables
import Derived.Laws.Rows
import Derived.Laws.ResultCell
namespace Go.Proofs.YtbkcmnmbcldjoaaGreatDoor
open Go.RowKit MM
@[go_sem] theorem store_nilFunc (P : Program) (w : World) (a : Addr) (m : Mode) : (store a .nilFunc m).run P w = stored P w a .nilFunc m := run_store P w a _ m rfl
/-- A function that keeps another one in a new cell. -/
def MkPost (K : FuncId) (v : Value) (w : World) (e : Ending) (w' : World) : Prop :=
  e = .returned (.func (.func K) #[] #[.pointer (some ⟨w.heap.size, 0, none⟩)]) ∧ w'.cell? ⟨w.heap.size, 0, none⟩ = some v ∧ Below w.heap.size w w' ∧ w.heap.size < w'.heap.size
set_option maxHeartbeats 1000000 in
set_option maxRecDepth 100000 in
theorem change_mk (K : FuncId) (caps : Array Value) (w : World) :
    Calls Tryz.prog 115 #[.func (.func K) #[] caps] w (MkPost 147 (.func (.func K) #[] caps) w) := by
  have hmf : ∀ (fn : Fn) (first cap : Array Value) (w : World), (Instr.makeFunc fn first cap).run Tryz.prog w = .ok (.func fn first cap) w := fun _ _ _ _ => rfl
  go_enter Tryz.func115, Tryz.ntmps115
  go_wp2_with fail
  go_ret
  exact ⟨rfl, by simp [go_sem], below1 w _, by simp⟩
set_option maxHeartbeats 1000000 in
set_option maxRecDepth 100000 in
theorem test_mk (K : FuncId) (caps : Array Value) (w : World) :
    Calls Tryz.prog 124 #[.func (.func K) #[] caps] w (MkPost 148 (.func (.func K) #[] caps) w) := by
  have hmf : ∀ (fn : Fn) (first cap : Array Value) (w : World), (Instr.makeFunc fn first cap).run Tryz.prog w = .ok (.func fn first cap) w := fun _ _ _ _ => rfl
  go_enter Tryz.func124, Tryz.ntmps124
  go_wp2_with fail
  go_ret
  exact ⟨rfl, by simp [go_sem], below1 w _, by simp⟩
set_option maxHeartbeats 1000000 in
set_option maxRecDepth 100000 in
theorem onReal_mk (K : FuncId) (caps : Array Value) (w : World) :
    Calls Tryz.prog 128 #[.func (.func K) #[] caps] w (MkPost 149 (.func (.func K) #[] caps) w) := by
  have hmf : ∀ (fn : Fn) (first cap : Array Value) (w : World), (Instr.makeFunc fn first cap).run Tryz.prog w = .ok (.func fn first cap) w := fun _ _ _ _ => rfl
  go_enter Tryz.func128, Tryz.ntmps128
  go_wp2_with fail
  go_ret
  exact ⟨rfl, by simp [go_sem], below1 w _, by simp⟩
end Go.Proofs.YtbkcmnmbcldjoaaGreatDoor
namespace Go.Proofs.YtbkcmnmbcldjoaaGreatDoor
open Go.RowKit MM
abbrev mkV (K : FuncId) (x : Nat) : Value := .func (.func K) #[] #[.pointer (some ⟨x, 0, none⟩)]
abbrev fnV (K : FuncId) : Value := .func (.func K) #[] #[]
/-- Where the functions of the table keep what they are made of. -/
structure DB where
  b1 : Nat
  b2 : Nat
  b3 : Nat
  b4 : Nat
  b5 : Nat
  b6 : Nat
  b7 : Nat
  b8 : Nat
  b9 : Nat
  b10 : Nat
  b11 : Nat
  b12 : Nat
  b13 : Nat
  b14 : Nat
  b15 : Nat
  b16 : Nat
  b17 : Nat
  b18 : Nat
  b19 : Nat
  b20 : Nat
  b21 : Nat
  b22 : Nat
  b23 : Nat
/-- The table. -/
def doingsV (b : DB) : Array Value := #[.nilFunc, mkV 147 b.b1, mkV 147 b.b2, fnV 118, fnV 119, mkV 147 b.b3, fnV 121, mkV 147 b.b4, mkV 147 b.b5, mkV 148 b.b6, mkV 147 b.b7, mkV 147 b.b8, mkV 148 b.b9, mkV 147 b.b11, mkV 147 b.b13, mkV 147 b.b15, mkV 147 b.b17, mkV 147 b.b19, mkV 147 b.b20, mkV 147 b.b21, mkV 148 b.b22, mkV 147 b.b23]
/-- What its functions keep. -/
structure Doings (b : DB) (w w' : World) : Prop where
  c1 : w'.cell? ⟨b.b1, 0, none⟩ = some (fnV 116)
  c2 : w'.cell? ⟨b.b2, 0, none⟩ = some (fnV 117)
  c3 : w'.cell? ⟨b.b3, 0, none⟩ = some (fnV 120)
  c4 : w'.cell? ⟨b.b4, 0, none⟩ = some (fnV 122)
  c5 : w'.cell? ⟨b.b5, 0, none⟩ = some (fnV 123)
  c6 : w'.cell? ⟨b.b6, 0, none⟩ = some (fnV 125)
  c7 : w'.cell? ⟨b.b7, 0, none⟩ = some (fnV 126)
  c8 : w'.cell? ⟨b.b8, 0, none⟩ = some (fnV 127)
  c9 : w'.cell? ⟨b.b9, 0, none⟩ = some (fnV 125)
  c10 : w'.cell? ⟨b.b10, 0, none⟩ = some (fnV 46)
  c11 : w'.cell? ⟨b.b11, 0, none⟩ = some (mkV 149 b.b10)
  c12 : w'.cell? ⟨b.b12, 0, none⟩ = some (fnV 47)
  c13 : w'.cell? ⟨b.b13, 0, none⟩ = some (mkV 149 b.b12)
  c14 : w'.cell? ⟨b.b14, 0, none⟩ = some (fnV 129)
  c15 : w'.cell? ⟨b.b15, 0, none⟩ = some (mkV 149 b.b14)
  c16 : w'.cell? ⟨b.b16, 0, none⟩ = some (fnV 130)
  c17 : w'.cell? ⟨b.b17, 0, none⟩ = some (mkV 149 b.b16)
  c18 : w'.cell? ⟨b.b18, 0, none⟩ = some (fnV 131)
  c19 : w'.cell? ⟨b.b19, 0, none⟩ = some (mkV 149 b.b18)
  c20 : w'.cell? ⟨b.b20, 0, none⟩ = some (fnV 132)
  c21 : w'.cell? ⟨b.b21, 0, none⟩ = some (fnV 133)
  c22 : w'.cell? ⟨b.b22, 0, none⟩ = some (fnV 134)
  c23 : w'.cell? ⟨b.b23, 0, none⟩ = some (fnV 135)
  below : Below w.heap.size w w'
theorem wpList_buildD {P : Program} {ops : Array Oper} {rest : List Oper} {o : Oper} {a : Act} {w : World} {Q : Exit → Act → World → Prop} (hg : o.guard = none) (t : TypeId) (parts : Array (Nat × Operand)) (ho : o.op = .build t parts) (cells : Array Value) (hf : P.built t (parts.map fun (i, x) => (i, a.eval x)).toList = some cells) (h : wpList P ops Q rest (a.put o.dst (.agg cells)) w) : wpList P ops Q (o :: rest) a w :=
  wpList_build hg t parts ho (by rw [hf]; rfl) (by rw [hf]; exact h)
theorem results_one {fn : Func} {p : Tmp} {ty : TypeId} (h : fn.results = #[.cell p ty]) (tmps : Array Value) (P : Program) (w : World) : (results fn tmps).run P w = ((asAddr (tmps.getD p undef)).run P w).andThen fun a w₁ => (loadVar ty a).run P w₁ := by
  simp only [results, h]
  simp [Sem.run_bind, Result.andThen]
set_option maxHeartbeats 8000000 in
set_option maxRecDepth 100000 in
theorem doings_any (w : World) :
    Calls Tryz.prog 85 #[] w fun e w' => ∃ b, e = .returned (.agg (doingsV b)) ∧ Doings b w w' := by
  go_enter Tryz.func85, Tryz.ntmps85
  go_wp2_with fail
  generalize hw0 : World.alloc _ _ = w0
  have HB0 := Lib.hid (show Below w.heap.size w w0 by rw [← hw0]; exact below1 w _)
  have R0 := Lib.hid (show w0.heap[w.heap.size]? = some (.cells (Array.replicate 22 .nilFunc) 133 (0, 0)) by rw [← hw0]; exact heap_alloc_new w _)
  clear hw0
  refine (change_mk 116 #[] w0).mono ?_
  rintro e w1 ⟨rfl, hc, hb, hl⟩
  have C1 := Lib.hid hc
  have S1 := Lib.hid hb
  have HB1 := Lib.hid (HB0.out.trans (hb.mono HB0.out.size))
  have R1 := Lib.hid ((hb.block _ (lt_of_heap R0.out)).trans R0.out)
  clear hc hb hl
  go_wp2_with fail
  refine (change_mk 117 #[] w1).mono ?_
  rintro e w2 ⟨rfl, hc, hb, hl⟩
  have C2 := Lib.hid hc
  have S2 := Lib.hid hb
  have HB2 := Lib.hid (HB1.out.trans (hb.mono HB1.out.size))
  have R2 := Lib.hid ((hb.block _ (lt_of_heap R1.out)).trans R1.out)
  clear hc hb hl
  go_wp2_with fail
  refine (change_mk 120 #[] w2).mono ?_
  rintro e w3 ⟨rfl, hc, hb, hl⟩
  have C3 := Lib.hid hc
  have S3 := Lib.hid hb
  have HB3 := Lib.hid (HB2.out.trans (hb.mono HB2.out.size))
  have R3 := Lib.hid ((hb.block _ (lt_of_heap R2.out)).trans R2.out)
  clear hc hb hl
  go_wp2_with fail
  refine (change_mk 122 #[] w3).mono ?_
  rintro e w4 ⟨rfl, hc, hb, hl⟩
  have C4 := Lib.hid hc
  have S4 := Lib.hid hb
  have HB4 := Lib.hid (HB3.out.trans (hb.mono HB3.out.size))
  have R4 := Lib.hid ((hb.block _ (lt_of_heap R3.out)).trans R3.out)
  clear hc hb hl
  go_wp2_with fail
  refine (change_mk 123 #[] w4).mono ?_
  rintro e w5 ⟨rfl, hc, hb, hl⟩
  have C5 := Lib.hid hc
  have S5 := Lib.hid hb
  have HB5 := Lib.hid (HB4.out.trans (hb.mono HB4.out.size))
  have R5 := Lib.hid ((hb.block _ (lt_of_heap R4.out)).trans R4.out)
  clear hc hb hl
  go_wp2_with fail
  refine (test_mk 125 #[] w5).mono ?_
  rintro e w6 ⟨rfl, hc, hb, hl⟩
  have C6 := Lib.hid hc
  have S6 := Lib.hid hb
  have HB6 := Lib.hid (HB5.out.trans (hb.mono HB5.out.size))
  have R6 := Lib.hid ((hb.block _ (lt_of_heap R5.out)).trans R5.out)
  clear hc hb hl
  go_wp2_with fail
  refine (change_mk 126 #[] w6).mono ?_
  rintro e w7 ⟨rfl, hc, hb, hl⟩
  have C7 := Lib.hid hc
  have S7 := Lib.hid hb
  have HB7 := Lib.hid (HB6.out.trans (hb.mono HB6.out.size))
  have R7 := Lib.hid ((hb.block _ (lt_of_heap R6.out)).trans R6.out)
  clear hc hb hl
  go_wp2_with fail
  refine (change_mk 127 #[] w7).mono ?_
  rintro e w8 ⟨rfl, hc, hb, hl⟩
  have C8 := Lib.hid hc
  have S8 := Lib.hid hb
  have HB8 := Lib.hid (HB7.out.trans (hb.mono HB7.out.size))
  have R8 := Lib.hid ((hb.block _ (lt_of_heap R7.out)).trans R7.out)
  clear hc hb hl
  go_wp2_with fail
  refine (test_mk 125 #[] w8).mono ?_
  rintro e w9 ⟨rfl, hc, hb, hl⟩
  have C9 := Lib.hid hc
  have S9 := Lib.hid hb
  have HB9 := Lib.hid (HB8.out.trans (hb.mono HB8.out.size))
  have R9 := Lib.hid ((hb.block _ (lt_of_heap R8.out)).trans R8.out)
  clear hc hb hl
  go_wp2_with fail
  refine (onReal_mk 46 #[] w9).mono ?_
  rintro e w10 ⟨rfl, hc, hb, hl⟩
  have C10 := Lib.hid hc
  have S10 := Lib.hid hb
  have HB10 := Lib.hid (HB9.out.trans (hb.mono HB9.out.size))
  have R10 := Lib.hid ((hb.block _ (lt_of_heap R9.out)).trans R9.out)
  clear hc hb hl
  go_wp2_with fail
  refine (change_mk 149 #[.pointer (some ⟨w9.heap.size, 0, none⟩)] w10).mono ?_
  rintro e w11 ⟨rfl, hc, hb, hl⟩
  have C11 := Lib.hid hc
  have S11 := Lib.hid hb
  have HB11 := Lib.hid (HB10.out.trans (hb.mono HB10.out.size))
  have R11 := Lib.hid ((hb.block _ (lt_of_heap R10.out)).trans R10.out)
  clear hc hb hl
  go_wp2_with fail
  refine (onReal_mk 47 #[] w11).mono ?_
  rintro e w12 ⟨rfl, hc, hb, hl⟩
  have C12 := Lib.hid hc
  have S12 := Lib.hid hb
  have HB12 := Lib.hid (HB11.out.trans (hb.mono HB11.out.size))
  have R12 := Lib.hid ((hb.block _ (lt_of_heap R11.out)).trans R11.out)
  clear hc hb hl
  go_wp2_with fail
  refine (change_mk 149 #[.pointer (some ⟨w11.heap.size, 0, none⟩)] w12).mono ?_
  rintro e w13 ⟨rfl, hc, hb, hl⟩
  have C13 := Lib.hid hc
  have S13 := Lib.hid hb
  have HB13 := Lib.hid (HB12.out.trans (hb.mono HB12.out.size))
  have R13 := Lib.hid ((hb.block _ (lt_of_heap R12.out)).trans R12.out)
  clear hc hb hl
  go_wp2_with fail
  refine (onReal_mk 129 #[] w13).mono ?_
  rintro e w14 ⟨rfl, hc, hb, hl⟩
  have C14 := Lib.hid hc
  have S14 := Lib.hid hb
  have HB14 := Lib.hid (HB13.out.trans (hb.mono HB13.out.size))
  have R14 := Lib.hid ((hb.block _ (lt_of_heap R13.out)).trans R13.out)
  clear hc hb hl
  go_wp2_with fail
  refine (change_mk 149 #[.pointer (some ⟨w13.heap.size, 0, none⟩)] w14).mono ?_
  rintro e w15 ⟨rfl, hc, hb, hl⟩
  have C15 := Lib.hid hc
  have S15 := Lib.hid hb
  have HB15 := Lib.hid (HB14.out.trans (hb.mono HB14.out.size))
  have R15 := Lib.hid ((hb.block _ (lt_of_heap R14.out)).trans R14.out)
  clear hc hb hl
  go_wp2_with fail
  refine (onReal_mk 130 #[] w15).mono ?_
  rintro e w16 ⟨rfl, hc, hb, hl⟩
  have C16 := Lib.hid hc
  have S16 := Lib.hid hb
  have HB16 := Lib.hid (HB15.out.trans (hb.mono HB15.out.size))
  have R16 := Lib.hid ((hb.block _ (lt_of_heap R15.out)).trans R15.out)
  clear hc hb hl
  go_wp2_with fail
  refine (change_mk 149 #[.pointer (some ⟨w15.heap.size, 0, none⟩)] w16).mono ?_
  rintro e w17 ⟨rfl, hc, hb, hl⟩
  have C17 := Lib.hid hc
  have S17 := Lib.hid hb
  have HB17 := Lib.hid (HB16.out.trans (hb.mono HB16.out.size))
  have R17 := Lib.hid ((hb.block _ (lt_of_heap R16.out)).trans R16.out)
  clear hc hb hl
  go_wp2_with fail
  refine (onReal_mk 131 #[] w17).mono ?_
  rintro e w18 ⟨rfl, hc, hb, hl⟩
  have C18 := Lib.hid hc
  have S18 := Lib.hid hb
  have HB18 := Lib.hid (HB17.out.trans (hb.mono HB17.out.size))
  have R18 := Lib.hid ((hb.block _ (lt_of_heap R17.out)).trans R17.out)
  clear hc hb hl
  go_wp2_with fail
  refine (change_mk 149 #[.pointer (some ⟨w17.heap.size, 0, none⟩)] w18).mono ?_
  rintro e w19 ⟨rfl, hc, hb, hl⟩
  have C19 := Lib.hid hc
  have S19 := Lib.hid hb
  have HB19 := Lib.hid (HB18.out.trans (hb.mono HB18.out.size))
  have R19 := Lib.hid ((hb.block _ (lt_of_heap R18.out)).trans R18.out)
  clear hc hb hl
  go_wp2_with fail
  refine (change_mk 132 #[] w19).mono ?_
  rintro e w20 ⟨rfl, hc, hb, hl⟩
  have C20 := Lib.hid hc
  have S20 := Lib.hid hb
  have HB20 := Lib.hid (HB19.out.trans (hb.mono HB19.out.size))
  have R20 := Lib.hid ((hb.block _ (lt_of_heap R19.out)).trans R19.out)
  clear hc hb hl
  go_wp2_with fail
  refine (change_mk 133 #[] w20).mono ?_
  rintro e w21 ⟨rfl, hc, hb, hl⟩
  have C21 := Lib.hid hc
  have S21 := Lib.hid hb
  have HB21 := Lib.hid (HB20.out.trans (hb.mono HB20.out.size))
  have R21 := Lib.hid ((hb.block _ (lt_of_heap R20.out)).trans R20.out)
  clear hc hb hl
  go_wp2_with fail
  refine (test_mk 134 #[] w21).mono ?_
  rintro e w22 ⟨rfl, hc, hb, hl⟩
  have C22 := Lib.hid hc
  have S22 := Lib.hid hb
  have HB22 := Lib.hid (HB21.out.trans (hb.mono HB21.out.size))
  have R22 := Lib.hid ((hb.block _ (lt_of_heap R21.out)).trans R21.out)
  clear hc hb hl
  go_wp2_with fail
  refine (change_mk 135 #[] w22).mono ?_
  rintro e w23 ⟨rfl, hc, hb, hl⟩
  have C23 := Lib.hid hc
  have S23 := Lib.hid hb
  have HB23 := Lib.hid (HB22.out.trans (hb.mono HB22.out.size))
  have R23 := Lib.hid ((hb.block _ (lt_of_heap R22.out)).trans R22.out)
  clear hc hb hl
  obtain ⟨b, hbb⟩ : ∃ b : DB, b = ⟨w0.heap.size, w1.heap.size, w2.heap.size, w3.heap.size, w4.heap.size, w5.heap.size, w6.heap.size, w7.heap.size, w8.heap.size, w9.heap.size, w10.heap.size, w11.heap.size, w12.heap.size, w13.heap.size, w14.heap.size, w15.heap.size, w16.heap.size, w17.heap.size, w18.heap.size, w19.heap.size, w20.heap.size, w21.heap.size, w22.heap.size⟩ := ⟨_, rfl⟩
  have HV := Lib.hid hbb
  have hsz : (doingsV b).size = 22 := rfl
  have hone : (doingsV b).all (fun v => v.oneCell') = true := by first | kernel_rfl | (unfold doingsV; simp [Value.oneCell'])
  have hinf : (Tryz.prog.info? 133).map (fun i => i.size) = some 22 := by kernel_rfl
  have hld : (loadVar 133 ⟨w.heap.size, 0, none⟩).run Tryz.prog (w23.setRow w.heap.size (doingsV b)) = .ok (.agg (doingsV b)) (w23.setRow w.heap.size (doingsV b)) :=
    run_loadVar_row _ _ 133 133 (doingsV b) (0, 0) _ (setRow_heap w23 w.heap.size _ _ 133 _ R23.out) Tryz.underlying133 rfl hinf
  clear hbb
  go_wp2_with (first
    | (refine wpList_buildD rfl _ _ rfl (doingsV b) (by rw [HV.out]; kernel_rfl) ?_)
    | (refine wpList_store_row rfl _ _ _ rfl w.heap.size (doingsV b) rfl rfl 133 _ R23.out hinf rfl hone ?_))
  refine bodyPost_ret (v := .agg (doingsV b)) ?_ rfl ⟨b, rfl, ?_⟩
  · rw [results_one rfl]
    exact hld
  · have hb := HV.out
    subst hb
    have Hcl := Lib.hid (show ∀ (x : Nat) (v : Value), w.heap.size < x → w23.cell? ⟨x, 0, none⟩ = some v → (w23.setRow w.heap.size (doingsV ⟨w0.heap.size, w1.heap.size, w2.heap.size, w3.heap.size, w4.heap.size, w5.heap.size, w6.heap.size, w7.heap.size, w8.heap.size, w9.heap.size, w10.heap.size, w11.heap.size, w12.heap.size, w13.heap.size, w14.heap.size, w15.heap.size, w16.heap.size, w17.heap.size, w18.heap.size, w19.heap.size, w20.heap.size, w21.heap.size, w22.heap.size⟩)).cell? ⟨x, 0, none⟩ = some v from fun x v hx h => (World.cell?_of_block (a := ⟨x, 0, none⟩) (setRow_other w23 w.heap.size x _ (by omega))).trans h)
    have T23 := Lib.hid (Below.refl w23.heap.size w23)
    have T22 := Lib.hid (S23.out.trans (T23.out.mono S23.out.size))
    have T21 := Lib.hid (S22.out.trans (T22.out.mono S22.out.size))
    have T20 := Lib.hid (S21.out.trans (T21.out.mono S21.out.size))
    have T19 := Lib.hid (S20.out.trans (T20.out.mono S20.out.size))
    have T18 := Lib.hid (S19.out.trans (T19.out.mono S19.out.size))
    have T17 := Lib.hid (S18.out.trans (T18.out.mono S18.out.size))
    have T16 := Lib.hid (S17.out.trans (T17.out.mono S17.out.size))
    have T15 := Lib.hid (S16.out.trans (T16.out.mono S16.out.size))
    have T14 := Lib.hid (S15.out.trans (T15.out.mono S15.out.size))
    have T13 := Lib.hid (S14.out.trans (T14.out.mono S14.out.size))
    have T12 := Lib.hid (S13.out.trans (T13.out.mono S13.out.size))
    have T11 := Lib.hid (S12.out.trans (T12.out.mono S12.out.size))
    have T10 := Lib.hid (S11.out.trans (T11.out.mono S11.out.size))
    have T9 := Lib.hid (S10.out.trans (T10.out.mono S10.out.size))
    have T8 := Lib.hid (S9.out.trans (T9.out.mono S9.out.size))
    have T7 := Lib.hid (S8.out.trans (T8.out.mono S8.out.size))
    have T6 := Lib.hid (S7.out.trans (T7.out.mono S7.out.size))
    have T5 := Lib.hid (S6.out.trans (T6.out.mono S6.out.size))
    have T4 := Lib.hid (S5.out.trans (T5.out.mono S5.out.size))
    have T3 := Lib.hid (S4.out.trans (T4.out.mono S4.out.size))
    have T2 := Lib.hid (S3.out.trans (T3.out.mono S3.out.size))
    have T1 := Lib.hid (S2.out.trans (T2.out.mono S2.out.size))
    have T0 := Lib.hid (S1.out.trans (T1.out.mono S1.out.size))
    refine ⟨?_, ?_, ?_, ?_, ?_, ?_, ?_, ?_, ?_, ?_, ?_, ?_, ?_, ?_, ?_, ?_, ?_, ?_, ?_, ?_, ?_, ?_, ?_, HB23.out.trans ⟨rfl, rfl, rfl, by simp, fun k hk => setRow_other w23 w.heap.size k _ (by omega)⟩⟩
    · exact Hcl.out _ _ (by have := HB0.out.size; have := lt_of_heap R0.out; omega) (below_keep T1.out C1.out)
    · exact Hcl.out _ _ (by have := HB1.out.size; have := lt_of_heap R1.out; omega) (below_keep T2.out C2.out)
    · exact Hcl.out _ _ (by have := HB2.out.size; have := lt_of_heap R2.out; omega) (below_keep T3.out C3.out)
    · exact Hcl.out _ _ (by have := HB3.out.size; have := lt_of_heap R3.out; omega) (below_keep T4.out C4.out)
    · exact Hcl.out _ _ (by have := HB4.out.size; have := lt_of_heap R4.out; omega) (below_keep T5.out C5.out)
    · exact Hcl.out _ _ (by have := HB5.out.size; have := lt_of_heap R5.out; omega) (below_keep T6.out C6.out)
    · exact Hcl.out _ _ (by have := HB6.out.size; have := lt_of_heap R6.out; omega) (below_keep T7.out C7.out)
    · exact Hcl.out _ _ (by have := HB7.out.size; have := lt_of_heap R7.out; omega) (below_keep T8.out C8.out)
    · exact Hcl.out _ _ (by have := HB8.out.size; have := lt_of_heap R8.out; omega) (below_keep T9.out C9.out)
    · exact Hcl.out _ _ (by have := HB9.out.size; have := lt_of_heap R9.out; omega) (below_keep T10.out C10.out)
    · exact Hcl.out _ _ (by have := HB10.out.size; have := lt_of_heap R10.out; omega) (below_keep T11.out C11.out)
    · exact Hcl.out _ _ (by have := HB11.out.size; have := lt_of_heap R11.out; omega) (below_keep T12.out C12.out)
    · exact Hcl.out _ _ (by have := HB12.out.size; have := lt_of_heap R12.out; omega) (below_keep T13.out C13.out)
    · exact Hcl.out _ _ (by have := HB13.out.size; have := lt_of_heap R13.out; omega) (below_keep T14.out C14.out)
    · exact Hcl.out _ _ (by have := HB14.out.size; have := lt_of_heap R14.out; omega) (below_keep T15.out C15.out)
    · exact Hcl.out _ _ (by have := HB15.out.size; have := lt_of_heap R15.out; omega) (below_keep T16.out C16.out)
    · exact Hcl.out _ _ (by have := HB16.out.size; have := lt_of_heap R16.out; omega) (below_keep T17.out C17.out)
    · exact Hcl.out _ _ (by have := HB17.out.size; have := lt_of_heap R17.out; omega) (below_keep T18.out C18.out)
    · exact Hcl.out _ _ (by have := HB18.out.size; have := lt_of_heap R18.out; omega) (below_keep T19.out C19.out)
    · exact Hcl.out _ _ (by have := HB19.out.size; have := lt_of_heap R19.out; omega) (below_keep T20.out C20.out)
    · exact Hcl.out _ _ (by have := HB20.out.size; have := lt_of_heap R20.out; omega) (below_keep T21.out C21.out)
    · exact Hcl.out _ _ (by have := HB21.out.size; have := lt_of_heap R21.out; omega) (below_keep T22.out C22.out)
    · exact Hcl.out _ _ (by have := HB22.out.size; have := lt_of_heap R22.out; omega) (below_keep T23.out C23.out)
end Go.Proofs.YtbkcmnmbcldjoaaGreatDoor
