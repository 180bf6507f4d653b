/- Contract of moietylaw17.big: are there more than are looked at? -/
import Derived.Test.YtlaecnggbcagcaaOpK
import Derived.Deep.MidRow
namespace Go.Proofs.Ytlaecnggbcagcaa
open Go.RowKit MM
set_option linter.unusedVariables false
set_option linter.unusedSimpArgs false

def bigB (l : List Od) : Bool := decide (100 < l.length) || l.any fun o => decide (100 < o.kept.length)
theorem od_inf : (Try.prog.info? 34).map (·.size) = some 4 := by kernel_rfl
def odZ : List Value := [.int .i64 0, .int .i64 0, .int .u8 0, .slice none 0 0]
theorem od_zero : (Try.prog.info? 34).bind (·.zero) = some (.agg odZ.toArray) := by kernel_rfl
theorem ods_at {w : World} {A : Option Addr} {l : List Od} (h : OdsIn w A l) {i : Nat} (hlt : i < l.length) :
    ∃ b off, A = some ⟨b, off, none⟩ ∧ b < w.heap.size ∧ ∀ j x, l[j]? = some x → w.rangeAt b (off + j * 4) x.cells := by
  rcases h.rows with h0 | ⟨b, off, he, hb, hc⟩
  · subst h0
    simp at hlt
  · exact ⟨b, off, he, hb, fun j x hx k v hv => hc j x hx k v hv⟩

set_option maxHeartbeats 1000000 in
set_option maxRecDepth 100000 in
theorem big_any (A : Option Addr) (c : Nat) (l : List Od) (w : World) (h : OdsIn w A l) :
    Calls Try.prog 16 #[.slice A l.length c] w fun e w' => e = .returned (.bool (bigB l)) ∧ Below w.heap.size w w' := by
  have HL := Lib.hid h
  have hlen := h.len
  clear h
  go_enter Try.func16, Try.ntmps16
  by_cases hb : 100 < l.length
  · have hb' : (100 : Int) < (l.length : Int) := by omega
    go_wp2
    go_ret
    exact ⟨by simp [bigB, hb], Below.refl _ _⟩
  · have hb' : ¬ (100 : Int) < (l.length : Int) := by omega
    go_wp2
    go_loopw [10] (fun t wr => ∃ i : Nat, t = .int .i64 i ∧ i ≤ l.length ∧ (∀ o ∈ l.take i, ¬ 100 < o.kept.length) ∧ Below w.heap.size w wr) (fun t _ => l.length - (intOf t).toNat)
    case atStart => exact ⟨0, rfl, by omega, fun o ho => by simp at ho, Below.refl _ _⟩
    case round =>
      obtain ⟨i, rfl, hi, hno, hbw⟩ := hrel
      have HN := Lib.hid hno
      have HB := Lib.hid hbw
      clear hno hbw
      by_cases hlt : i < l.length
      · have hlt' : (i : Int) < (l.length : Int) := by omega
        obtain ⟨b, off, rfl, hbl, hrow⟩ := ods_at (HL.out.below HB.out) hlt
        obtain ⟨o, ho⟩ : ∃ o, o = l[i] := ⟨_, rfl⟩
        have HR := Lib.hid (hrow i o (by rw [List.getElem?_eq_getElem hlt, ho]))
        clear hrow
        have HO := Lib.hid ho
        clear ho
        by_cases hk : 100 < o.kept.length
        · have hk' : (100 : Int) < (o.kept.length : Int) := by omega
          go_wp2_with (first
            | (refine wpList_load_mid rfl _ _ rfl b (off + i * 4) rfl [.int .i64 o.kind, .int .i64 o.n, .int .u8 o.fill.toNat, .slice o.A o.kept.length o.c] _ HR.out Try.underlying34 rfl od_inf ?_)
            | (refine wpList_alloc_row rfl _ rfl (.agg odZ.toArray) odZ.toArray od_zero rfl ?_)
            | (refine wpList_store_row rfl _ _ _ rfl _ #[.int .i64 o.kind, .int .i64 o.n, .int .u8 o.fill.toNat, .slice o.A o.kept.length o.c] rfl rfl 34 _ (heap_alloc_new _ _) od_inf rfl (by kernel_rfl) ?_
               rw [World.setRow_alloc_new]))
          go_ret
          have hm : o ∈ l := by rw [HO.out]; exact List.getElem_mem hlt
          have hT : bigB l = true := by
            unfold bigB
            rw [Bool.or_eq_true, List.any_eq_true] 
            exact .inr ⟨o, hm, by simp [hk]⟩
          rw [hT]
          exact ⟨rfl, HB.out.alloc HB.out.size _⟩
        · have hk' : ¬ (100 : Int) < (o.kept.length : Int) := by omega
          go_wp2_with (first
            | (refine wpList_load_mid rfl _ _ rfl b (off + i * 4) rfl [.int .i64 o.kind, .int .i64 o.n, .int .u8 o.fill.toNat, .slice o.A o.kept.length o.c] _ HR.out Try.underlying34 rfl od_inf ?_)
            | (refine wpList_alloc_row rfl _ rfl (.agg odZ.toArray) odZ.toArray od_zero rfl ?_)
            | (refine wpList_store_row rfl _ _ _ rfl _ #[.int .i64 o.kind, .int .i64 o.n, .int .u8 o.fill.toNat, .slice o.A o.kept.length o.c] rfl rfl 34 _ (heap_alloc_new _ _) od_inf rfl (by kernel_rfl) ?_
               rw [World.setRow_alloc_new]))
          go_roundw
          case rel =>
            refine ⟨i + 1, by go_num, by omega, fun q hq => ?_, HB.out.alloc HB.out.size _⟩
            rw [List.take_succ_eq_append_getElem hlt, List.mem_append, List.mem_singleton] at hq
            rcases hq with hq | rfl
            · exact HN.out q hq
            · rw [← HO.out]
              exact hk
          case measure => simp [intOf]; omega
      · obtain rfl : i = l.length := by omega
        go_wp2
        go_ret
        have hf : l.any (fun o => decide (100 < o.kept.length)) = false := by
          rw [List.any_eq_false]
          intro o ho
          have := HN.out o (by rw [List.take_length]; exact ho)
          simp; omega
        have hT : bigB l = false := by
          unfold bigB
          rw [hf]
          simp; omega
        rw [hT]
        exact ⟨rfl, HB.out⟩

end Go.Proofs.Ytlaecnggbcagcaa
