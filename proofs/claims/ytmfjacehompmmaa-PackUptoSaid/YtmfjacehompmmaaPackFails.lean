/- The walk of PackFails. -/
import Derived.Test.YtmfjacehompmmaaOpen2
import Derived.Test.YtmfjacehompmmaaCatch
namespace Go.Proofs.Ytmfjacehompmmaa
open Go.RowKit MM

/-- What holds while a function reads that will catch: its reader, and where its Fault is to lie. -/
structure DefInv (w : World) (q : Nat) (A1 : Option Addr) (c1 : Nat) (bs : List UInt8) (at_ : Nat) (wr : World) : Prop where
  rd : Rd 5 wr q A1 c1 bs at_
  res : wr.heap[w.heap.size]? = some (.cells #[.int .i64 0, .int .i64 0] 30 (0, 0))
  below : Below w.heap.size w wr
  q : w.heap.size < q
section
variable {w wr w2 : World} {q : Nat} {A1 : Option Addr} {c1 : Nat} {bs : List UInt8} {at_ at2 : Nat}
theorem DefInv.lt (hv : DefInv w q A1 c1 bs at_ wr) : w.heap.size < wr.heap.size := by
  have h := hv.res
  rcases Nat.lt_or_ge w.heap.size wr.heap.size with x | x
  · exact x
  · rw [Array.getElem?_eq_none x] at h; cases h
theorem DefInv.next (hv : DefInv w q A1 c1 bs at_ wr) (hr : Rd 5 w2 q A1 c1 bs at2) (hk : Kp (fun k => k = q) wr w2) : DefInv w q A1 c1 bs at2 w2 :=
  ⟨hr, (hk.block _ hv.lt (fun e => by have h1 : w.heap.size = q := e; have := hv.q; omega)).trans hv.res,
    hv.below.trans (hk.below (Nat.le_of_lt hv.lt) (fun j hj e => by have h1 : j = q := e; have := hv.q; omega)), hv.q⟩
theorem DefInv.cells (hv : DefInv w q A1 c1 bs at_ wr) :
    wr.cell? ⟨w.heap.size, 0, none⟩ = some (.int .i64 0) ∧ wr.cell? ⟨w.heap.size, 1, none⟩ = some (.int .i64 0) ∧ ∀ o, wr.frozen? ⟨w.heap.size, o, none⟩ = false :=
  ⟨(cell_of_row _ _ 0 _ _ (0, 0) hv.res).trans rfl, (cell_of_row _ _ 1 _ _ (0, 0) hv.res).trans rfl, fun o => frozen_of_row _ _ o _ _ hv.res⟩
theorem DefInv.start {w1 : World} (hr : Rd 5 w1 q A1 c1 bs 0) (hq : (w.alloc (.cells #[.int .i64 0, .int .i64 0] 30)).heap.size ≤ q) (hb : Below (w.alloc (.cells #[.int .i64 0, .int .i64 0] 30)).heap.size (w.alloc (.cells #[.int .i64 0, .int .i64 0] 30)) w1) : DefInv w q A1 c1 bs 0 w1 := by
  have hsz : (w.alloc (.cells #[.int .i64 0, .int .i64 0] 30)).heap.size = w.heap.size + 1 := by simp
  rw [hsz] at hq hb
  exact ⟨hr, (hb.block _ (by omega)).trans (heap_alloc_new w _), ((Below.refl _ w).alloc (Nat.le_refl _) _).trans (hb.mono (by omega)), hq⟩
end

def flagsB (ys : List Bool) : List UInt8 := ys.map fun y => if y then 1 else 0
theorem flagsB_length (ys : List Bool) : (flagsB ys).length = ys.length := by simp [flagsB]
theorem flagsB_take (ys : List Bool) (i : Nat) (h : i < ys.length) : flagsB (ys.take (i + 1)) = flagsB (ys.take i) ++ PK.flagB ys[i] := by
  rw [List.take_succ_eq_append_getElem h]
  unfold flagsB PK.flagB
  rw [List.map_append]
  rfl
theorem flagR_flags (ys : List Bool) (i : Nat) (h : i < ys.length) : ∃ y, flagR ((flagsB ys).drop i) = .ok y 1 := by
  rw [List.drop_eq_getElem_cons (by rw [flagsB_length]; exact h)]
  show ∃ y, (if 1 < ((flagsB ys)[i]'(by rw [flagsB_length]; exact h)).toNat then Res.bad 4 1 else Res.ok _ 1) = .ok y 1
  have : ((flagsB ys)[i]'(by rw [flagsB_length]; exact h)).toNat ≤ 1 := by
    simp only [flagsB, List.getElem_map]
    cases ys[i] <;> decide
  rw [if_neg (by omega)]
  exact ⟨_, rfl⟩

set_option maxHeartbeats 1000000 in
set_option maxRecDepth 100000 in
theorem failed_any (A : Option Addr) (c : Nat) (ys : List Bool) (code : Nat) (w : World) (hb : Bts w A (flagsB ys)) (hl : Lim ys.length) :
    Calls Try.prog 30 #[.slice A ys.length c, .int .i64 ys.length, .int .i64 code] w fun e w' => e = .returned (fltV code ys.length) ∧ Below w.heap.size w w' := by
  have hmf : ∀ (fn : Fn) (first cap : Array Value) (w : World), (Instr.makeFunc fn first cap).run Try.prog w = .ok (.func fn first cap) w := fun _ _ _ _ => rfl
  have hN := fun (wx : World) (hx : Bts wx A (flagsB ys)) => new_any A c (flagsB ys) wx hx (by rw [flagsB_length]; exact hl)
  rw [flagsB_length] at hN
  have HN := Lib.hid hN
  have HB := Lib.hid hb
  have hi := hl
  unfold Lim at hi
  have hi' : (ys.length : Int) ≤ 4294967296 := by omega
  clear hN hb hi
  go_enter_defers Try.func30, Try.ntmps30
  go_wp2_with fail
  refine (HN.out _ (HB.out.alloc _)).mono ?_
  rintro e w1 ⟨q, A1, c1, rfl, hr1, hq1, ha1, hb1⟩
  have hv0 := DefInv.start hr1 hq1 hb1
  clear hr1 hq1 ha1 hb1
  go_wp2_with fail
  go_loopw [12] (fun t wr => ∃ i : Nat, t = .int .i64 i ∧ i ≤ ys.length ∧ DefInv w q A1 c1 (flagsB ys) i wr) (fun t _ => ys.length - (intOf t).toNat)
  case atStart => exact ⟨0, rfl, Nat.zero_le _, hv0⟩
  case round =>
    obtain ⟨i, rfl, hil, hv⟩ := hrel
    by_cases hlt : i < ys.length
    · have hx := rflag_any q A1 c1 (flagsB ys) i wr hv.rd
      obtain ⟨y, hy⟩ := flagR_flags ys i hlt
      rw [hy] at hx
      have Hx := Lib.hid hx
      clear hx hy
      go_wp2_with (go_at_call 48; refine Hx.out.mono ?_; rintro e w2 ⟨rfl, hr2, hk2⟩)
      go_roundw
      case rel => exact ⟨i + 1, by go_num, by omega, hv.next hr2 hk2⟩
      case measure => simp [intOf]; omega
    · have hie : i = ys.length := by omega
      subst hie
      obtain ⟨hc0, hc1, hf0⟩ := hv.cells
      go_wp2_with (go_at_call 49; refine (fail_any q A1 c1 (flagsB ys) ys.length code _ hv.rd).mono ?_; rintro e w2 ⟨rfl, rfl⟩)
      refine leaves_cons (f := 47) (args := #[.pointer (some ⟨w.heap.size, 0, none⟩)]) (by simp) (by simp [go_sem]) ?_
      refine (catch_fault_failed w.heap.size _ _ code ys.length [] _ hc0 hc1 hf0).mono ?_
      rintro e u' w'' ⟨rfl, rfl, w5, hb5, rfl⟩
      have hc0' := (hb5.cell (p := ⟨w.heap.size, 0, none⟩) hv.lt).trans hc0
      have hc1' := (hb5.cell (p := ⟨w.heap.size, 1, none⟩) hv.lt).trans hc1
      simp [Leaves, settle, results, Try.results30, go_sem, hc0', hc1']
      exact ((hv.below.trans (hb5.mono (Nat.le_of_lt hv.lt))).setCell (Nat.le_refl _) _).setCell (Nat.le_refl _) _

set_option maxHeartbeats 1000000 in
set_option maxRecDepth 100000 in
theorem packFails_any (A : Option Addr) (c : Nat) (ys : List Bool) (z : Int) (w : World) (hy : Bls w A ys) (hz : (Lit.int .u8 z).wf = true) :
    Calls Try.prog 10 #[.slice A ys.length c, .int .u8 z] w fun e w' => e = .returned (.bool true) ∧ Below w.heap.size w w' := by
  have hz' : 0 ≤ z ∧ z ≤ 255 := by simpa [Lit.wf, IntKind.min, IntKind.max, IntKind.signed, IntKind.bits] using hz
  obtain ⟨hz0, hz1⟩ := hz'
  clear hz
  by_cases hlen : 100 < ys.length
  · have hd : decide ((100 : Int) < (ys.length : Int)) = true := by simp; omega
    go_enter Try.func10, Try.ntmps10
    go_wp2_with (go_at_call 12; refine (speaks_any _).mono ?_; rintro e w1 ⟨rfl, hb1⟩)
    go_ret
    exact ⟨rfl, hb1⟩
  · have hd : decide ((100 : Int) < (ys.length : Int)) = false := by simp; omega
    go_enter Try.func10, Try.ntmps10
    go_wp2_with (go_at_call 12; refine (speaks_any _).mono ?_; rintro e w1 ⟨rfl, hb1⟩)
    go_loopw [7, 17] (fun _ t wr => ∃ (i : Nat) (A1 : Option Addr) (c1 : Nat), t = .int .i64 i ∧ i ≤ ys.length ∧ Wr 5 wr w1.heap.size A1 c1 (flagsB (ys.take i)) ∧ Below w1.heap.size w1 wr ∧ (∀ k, ob A1 = some k → w1.heap.size ≤ k)) (fun _ t _ => ys.length - (intOf t).toNat)
    case atStart => exact ⟨0, none, 0, rfl, Nat.zero_le _, Wr.new _ _ w1, (Below.refl _ w1).alloc (Nat.le_refl _) _, (fun k e => by cases e)⟩
    case round =>
      obtain ⟨i, A1, c1, rfl, hi, hw1, hb2, ha1⟩ := hrel
      by_cases hlt : i < ys.length
      · rcases hy with rfl | ⟨b, off, rfl, hbl, hcell⟩
        · simp at hlt
        have hc : wr.cell? ⟨b, off + i, none⟩ = some (.bool ys[i]) := ((hb2.cell (p := ⟨b, off + i, none⟩) (Nat.lt_of_lt_of_le hbl hb1.size)).trans (hb1.cell (p := ⟨b, off + i, none⟩) hbl)).trans (hcell i ys[i] (List.getElem?_eq_getElem hlt))
        have htk : flagsB (ys.take (i + 1)) = flagsB (ys.take i) ++ PK.flagB ys[i] := flagsB_take ys i hlt
        have Htk := Lib.hid htk
        generalize ys[i] = y at *
        have hl1 : Lim ((flagsB (ys.take i)).length + 1) := by rw [flagsB_length, List.length_take]; unfold Lim; omega
        clear htk hcell
        go_wp2_with fail
        refine (flag_any w1.heap.size A1 c1 (flagsB (ys.take i)) y _ hw1 hl1).mono ?_
        rintro e w2 ⟨rfl, A2, c2, hw2, hs2⟩
        obtain ⟨hb3, ha2⟩ := hs2.below (B := w1.heap.size) hb2.size (Nat.le_refl _) ha1
        go_wp2
        go_roundw
        case rel => exact ⟨i + 1, A2, c2, by go_num, by omega, by rw [Htk.out]; exact hw2, hb2.trans hb3, ha2⟩
        case measure => simp [intOf]; omega
      · have hie : i = ys.length := by omega
        subst hie
        rw [List.take_length] at hw1
        have hl1 : Lim (flagsB ys).length := by rw [flagsB_length]; unfold Lim; omega
        have hl2 : Lim ys.length := by unfold Lim; omega
        go_wp2_with fail
        refine (bytes_any w1.heap.size A1 c1 (flagsB ys) _ hw1 hl1).mono ?_
        rintro e w2 ⟨A2, c2, rfl, ho2, hn2, hb3⟩
        rw [flagsB_length]
        have hB := Bts.own ho2
        clear ho2
        obtain ⟨n, hn⟩ : ∃ n : Nat, 1 + z % 16 = (n : Int) := ⟨(1 + z % 16).toNat, by omega⟩
        have Hn := Lib.hid hn
        clear hn
        go_wp2_with fail
        rw [Hn.out]
        refine (failed_any A2 c2 ys n _ hB hl2).mono ?_
        rintro e w3 ⟨rfl, hb4⟩
        go_wp2_with (go_at_call 31; refine (caught_nil _).mono ?_; rintro e w4 ⟨rfl, hb5⟩)
        go_ret
        have h12 : Below w.heap.size w wr := hb1.trans (hb2.mono hb1.size)
        have h13 : Below w.heap.size w w2 := h12.trans (hb3.mono h12.size)
        have h14 : Below w.heap.size w w3 := h13.trans (hb4.mono h13.size)
        exact ⟨rfl, (h14.alloc h14.size _).trans (hb5.mono (Nat.le_trans h14.size (by simp)))⟩

end Go.Proofs.Ytmfjacehompmmaa
