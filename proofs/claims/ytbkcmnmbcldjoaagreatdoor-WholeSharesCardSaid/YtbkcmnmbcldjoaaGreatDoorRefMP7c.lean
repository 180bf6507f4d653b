/- Layer 3's statements' own head: a few records there and back. -/
import Derived.Test.YtbkcmnmbcldjoaaGreatDoorRecNP7c
import Derived.Test.YtbkcmnmbcldjoaaGreatDoorRecMP7c
import Derived.Deep.RegionHeld3
namespace Go.Proofs.YtbkcmnmbcldjoaaGreatDoor
open Go.RowKit MM
end Go.Proofs.YtbkcmnmbcldjoaaGreatDoor
namespace RC
theorem less_same {a b : Nat} (h : MF.same a b = true) : MF.less a b = false := by
  unfold MF.same at h; unfold MF.less
  have h := of_decide_eq_true h
  simp; omega
theorem better_eq (a b : It) : better a b = (MF.less b.score a.score || (MF.same a.score b.score && strLt a.name b.name)) := by
  unfold better
  cases hs : MF.same a.score b.score
  · simp
  · rw [less_same (by rw [same_comm]; exact hs)]; simp
theorem better_iff (a b : It) : better a b = true ↔ (MF.key b.score < MF.key a.score ∨ (MF.key a.score = MF.key b.score ∧ strLt a.name b.name = true)) := by
  rw [better_eq]; unfold MF.less MF.same; simp
end RC
namespace Go.Proofs.YtbkcmnmbcldjoaaGreatDoor
open Go.RowKit MM
end Go.Proofs.YtbkcmnmbcldjoaaGreatDoor
namespace RC
end RC
namespace Go.Proofs.YtbkcmnmbcldjoaaGreatDoor
open Go.RowKit MM
end Go.Proofs.YtbkcmnmbcldjoaaGreatDoor
namespace Go.Proofs.YtbkcmnmbcldjoaaGreatDoor
open Go.RowKit MM
def OPost (v : Bool) (w : World) (e : Ending) (w' : World) : Prop := e = .returned (.bool v) ∧ Below w.heap.size w w'
theorem OPost.mk {v b : Bool} {w w' : World} (h : v = b) (hb : Below w.heap.size w w') : OPost v w (.returned (.bool b)) w' := by subst h; exact ⟨rfl, hb⟩
end Go.Proofs.YtbkcmnmbcldjoaaGreatDoor
namespace RC
end RC
namespace Go.Proofs.YtbkcmnmbcldjoaaGreatDoor
open Go.RowKit MM
end Go.Proofs.YtbkcmnmbcldjoaaGreatDoor
namespace Go.Proofs.YtbkcmnmbcldjoaaGreatDoor
open Go.RowKit MM
end Go.Proofs.YtbkcmnmbcldjoaaGreatDoor
namespace RC
end RC
namespace Go.Proofs.YtbkcmnmbcldjoaaGreatDoor
open Go.RowKit MM
end Go.Proofs.YtbkcmnmbcldjoaaGreatDoor
namespace RC
/-- More than is looked at. -/
def big (r : Rc) : Bool := decide (100 < r.list.length) || (decide (1000 < r.text.size) || r.list.any fun x => decide (100 < x.name.size))
theorem any_step {l : List It} {i : Nat} (hi : i < l.length) (h : l.any (fun x => decide (100 < x.name.size)) = (l.drop i).any fun x => decide (100 < x.name.size)) (hx : ¬ 100 < l[i].name.size) :
    l.any (fun x => decide (100 < x.name.size)) = (l.drop (i + 1)).any fun x => decide (100 < x.name.size) := by
  rw [h, List.drop_eq_getElem_cons hi, List.any_cons, decide_eq_false hx, Bool.false_or]
theorem any_stop {l : List It} {i : Nat} (hi : i < l.length) (hx : 100 < l[i].name.size) : l.any (fun x => decide (100 < x.name.size)) = true :=
  List.any_eq_true.2 ⟨l[i], List.getElem_mem hi, decide_eq_true hx⟩
end RC
namespace Go.Proofs.YtbkcmnmbcldjoaaGreatDoor
open Go.RowKit MM
/-- What Big answers. -/
def GPost (b : Bool) (w : World) (e : Ending) (w' : World) : Prop := e = .returned (.int .i64 (if b then 1 else 0)) ∧ Below w.heap.size w w'
theorem GPost.yes {b : Bool} {w w' : World} (h : b = true) (hb : Below w.heap.size w w') : GPost b w (.returned (.int .i64 1)) w' := by subst h; exact ⟨rfl, hb⟩
theorem GPost.no {b : Bool} {w w' : World} (h : b = false) (hb : Below w.heap.size w w') : GPost b w (.returned (.int .i64 0)) w' := by subst h; exact ⟨rfl, hb⟩
set_option maxHeartbeats 1000000 in
set_option maxRecDepth 100000 in
theorem big3_any (r : RC.Rc) (A : Option Addr) (c : Nat) (w : World) (hA : Its w A r.list) (hn : r.list.length ≤ maxLen) :
    Calls Tryz.prog 33 #[recV r A c] w (GPost (RC.big r) w) := by
  have HA := Lib.hid hA
  have Hb := Lib.hid (show RC.big r = (decide (100 < r.list.length) || (decide (1000 < r.text.size) || r.list.any fun x => decide (100 < x.name.size))) from rfl)
  obtain ⟨k, n, l, h, x, cap, t, s⟩ := r
  replace hn : s.length ≤ maxLen := hn
  unfold maxLen at hn
  clear hA
  by_cases h1 : 100 < s.length
  · go_enter Tryz.func33, Tryz.ntmps33
    go_wp2_with fail
    go_ret
    exact GPost.yes (by rw [Hb.out, decide_eq_true h1]; rfl) (below1 w _)
  by_cases h2 : 1000 < t.size
  · go_enter Tryz.func33, Tryz.ntmps33
    go_wp2_with fail
    go_ret
    exact GPost.yes (by rw [Hb.out, decide_eq_true h2]; simp) (below1 w _)
  have Hc := Lib.hid (show RC.big ⟨k, n, l, h, x, cap, t, s⟩ = s.any fun x => decide (100 < x.name.size) by rw [Hb.out, decide_eq_false h1, decide_eq_false h2]; rfl)
  clear Hb
  go_enter Tryz.func33, Tryz.ntmps33
  go_wp2_with fail
  go_loopw [18] (fun t18 wr => ∃ i : Nat, t18 = .int .i64 i ∧ i ≤ s.length ∧ (s.any fun x => decide (100 < x.name.size)) = ((s.drop i).any fun x => decide (100 < x.name.size)) ∧ Below w.heap.size w wr) (fun t18 _ => s.length - (intOf t18).toNat)
  case atStart => exact ⟨0, rfl, Nat.zero_le _, rfl, below1 w _⟩
  case round =>
    obtain ⟨i, rfl, hi, hs, hbr⟩ := hrel
    by_cases hlt : i < s.length
    · rcases HA.out.below hbr with hA | ⟨b, off, rfl, hb, hc⟩
      · have hA : s = [] := hA
        subst hA; simp at hlt
      replace hc : ∀ (i : Nat) (x : RC.It), s[i]? = some x → wr.cell? ⟨b, off + i * 2, none⟩ = some (.float .f64 x.score) ∧ wr.cell? ⟨b, off + i * 2 + 1, none⟩ = some (.string x.name) := hc
      obtain ⟨a0, a1⟩ := hc i s[i] (List.getElem?_eq_getElem hlt)
      have Hst := Lib.hid (fun h => RC.any_step hlt hs h)
      have Hsp := Lib.hid (fun h => RC.any_stop hlt h)
      generalize s[i] = y at *
      obtain ⟨ys, yn⟩ := y
      replace a0 : wr.cell? ⟨b, off + i * 2, none⟩ = some (.float .f64 ys) := a0
      replace a1 : wr.cell? ⟨b, off + i * 2 + 1, none⟩ = some (.string yn) := a1
      have hi1 : (i : Int) < (s.length : Int) := by omega
      have Hbr := Lib.hid hbr
      clear hs hbr hc
      by_cases h3 : 100 < yn.size
      · have He := Lib.hid (Hsp.out h3)
        go_wp2_with fail
        go_ret
        exact GPost.yes (by rw [Hc.out, He.out]) (Hbr.out.alloc Hbr.out.size _)
      · have He := Lib.hid (Hst.out h3)
        go_wp2_with fail
        go_roundw
        case rel => exact ⟨i + 1, by go_num, by omega, He.out, Hbr.out.alloc Hbr.out.size _⟩
        case measure => simp [intOf]; omega
    · have He := Lib.hid (show (s.any fun x => decide (100 < x.name.size)) = false by rw [hs, List.drop_eq_nil_of_le (by omega)]; rfl)
      have Hbr := Lib.hid hbr
      have hi' : i = s.length := by omega
      subst hi'
      clear hs hbr
      go_wp2_with fail
      go_ret
      exact GPost.no (by rw [Hc.out, He.out]) Hbr.out
theorem big_not {r : RC.Rc} (h : RC.big r = false) : r.list.length ≤ 100 ∧ r.text.size ≤ 1000 ∧ ∀ x ∈ r.list, x.name.size ≤ 100 := by
  unfold RC.big at h
  simp only [Bool.or_eq_false_iff, decide_eq_false_iff_not, List.any_eq_false, decide_eq_true_eq] at h
  exact ⟨by omega, by omega, fun x hx => by have := h.2.2 x hx; omega⟩
end Go.Proofs.YtbkcmnmbcldjoaaGreatDoor
