/- Contracts: a slice of bytes cloned; what a writer hands out. -/
import Derived.Test.YtmfjacehompmmaaWriteF
import Derived.Lib.SliceRun
namespace Go.Proofs.Ytmfjacehompmmaa
open Go.RowKit MM

set_option maxHeartbeats 1000000 in
set_option maxRecDepth 100000 in
theorem clone_any (A : Option Addr) (c : Nat) (xs : List UInt8) (w : World) (hb : Bts w A xs) (hl : Lim xs.length) :
    Calls Try.prog 44 #[.slice A xs.length c] w (Fresh 5 xs w) := by
  obtain ⟨i0, hi0, hz0, hz1, hz2⟩ := info_parts byte_info
  have hnil := fun n w => Lib.run_eql_slice_nil (P := Try.prog) w 26 5 A n c 0 0 Try.underlying26
  cases A with
  | none =>
    have hx : xs = [] := hb
    subst hx
    go_enter Try.func44, Try.ntmps44
    go_wp2
    go_ret
    exact ⟨none, 0, rfl, World.ownsRow_nil _ _ _ _, (fun k h => by cases h), Below.refl _ _⟩
  | some ad =>
    go_enter Try.func44, Try.ntmps44
    go_wp2_with (first
      | (at_builtin
         refine wpList_append_at rfl (.tmp 5) (.tmp 6) _ _ rfl 5 i0 _ 1 1 Try.underlying26 hi0 hz0 hz1 hz2 rfl (some ⟨w.heap.size, 0, none⟩) 0 0 [] rfl (World.ownsRow_lit w #[] 0 (Nat.zero_le _) (by unfold maxLen; omega) rfl) _ xs.length _ rfl ((hb.alloc _).src Try.underlying26 (fun e => by cases e)) (Lim.len (by simpa using hl)) (Lim.fits (by simpa using hl)) ?_
         intro A2 c2 w2 ho2 hg2 hat2))
    go_ret
    rw [Nat.zero_add, List.nil_append] at ho2
    have hbw : Below w.heap.size w w2 := ((Below.refl w.heap.size w).alloc (Nat.le_refl _) _).grown hg2 (by simp) (fun k e => by injection e with e; simp at e; omega)
    refine ⟨A2, c2, rfl, ho2, fun k e => ?_, hbw⟩
    rcases hat2 with h | h
    · rw [h] at e; injection e with e; simp at e; omega
    · rw [h] at e; injection e with e; simp at e; omega

set_option maxHeartbeats 1000000 in
set_option maxRecDepth 100000 in
theorem bytes_any (p : Nat) (A : Option Addr) (c : Nat) (xs : List UInt8) (w : World) (hw : Wr 5 w p A c xs) (hl : Lim xs.length) :
    Calls Try.prog 27 #[.pointer (some ⟨p, 0, none⟩)] w (Fresh 5 xs w) := by
  have hc := hw.cell
  have hb := Bts.own hw.own
  have HB := Lib.hid hb
  clear hb
  go_enter Try.func27, Try.ntmps27
  go_wp2_with fail
  refine (clone_any A c xs _ HB.out hl).mono ?_
  rintro e w1 ⟨A1, c1, rfl, ho1, hk1, hb1⟩
  go_wp2
  go_ret
  exact ⟨A1, c1, rfl, ho1, hk1, hb1⟩

end Go.Proofs.Ytmfjacehompmmaa
