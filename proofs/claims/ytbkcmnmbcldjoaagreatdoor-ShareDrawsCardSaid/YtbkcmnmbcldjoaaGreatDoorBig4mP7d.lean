/- Layer 4's statements: acts of more bytes than are looked at. -/
import Derived.Test.YtbkcmnmbcldjoaaGreatDoorRefMP7d
import Derived.Test.YtbkcmnmbcldjoaaGreatDoorActMP7d
namespace AC
def big (a : Ac) : Bool := decide (200 < a.key.size) || (decide (1000 < a.s.size) || RC.big a.make)
theorem big_not {a : Ac} (h : big a = false) : a.key.size ≤ 200 ∧ a.s.size ≤ 1000 ∧ RC.big a.make = false := by
  unfold big at h
  simp only [Bool.or_eq_false_iff, decide_eq_false_iff_not] at h
  exact ⟨by omega, by omega, h.2.2⟩
end AC
namespace Go.Proofs.YtbkcmnmbcldjoaaGreatDoor
open Go.RowKit MM
set_option maxHeartbeats 1000000 in
set_option maxRecDepth 100000 in
theorem big4_any (a : AC.Ac) (A : Option Addr) (c : Nat) (w : World) (hI : Its w A a.make.list) (hL : a.make.list.length ≤ maxLen) :
    Calls Tryz.prog 34 #[actV a A c] w (GPost (AC.big a) w) := by
  have B := Lib.hid (AB.new 37 w (actC a A c))
  have HG := Lib.hid (fun u (h : Its u A a.make.list) => big3_any a.make A c u h hL)
  have HI := Lib.hid hI
  clear hI hL
  obtain ⟨k, key, n, x, s, m, must⟩ := a
  by_cases h1 : 200 < key.size
  · have Hr := Lib.hid (show AC.big ⟨k, key, n, x, s, m, must⟩ = true by simp [AC.big, h1])
    have q1 : (200 : Int) < (key.size : Int) := by omega
    clear h1
    go_enter Tryz.func34, Tryz.ntmps34
    go_wp2_with fail
    go_ret
    exact GPost.yes Hr.out B.out.bel
  have q1 : ¬ (200 : Int) < (key.size : Int) := by omega
  by_cases h2 : 1000 < s.size
  · have Hr := Lib.hid (show AC.big ⟨k, key, n, x, s, m, must⟩ = true by simp [AC.big, h2])
    have q2 : (1000 : Int) < (s.size : Int) := by omega
    clear h1 h2
    go_enter Tryz.func34, Tryz.ntmps34
    go_wp2_with fail
    go_ret
    exact GPost.yes Hr.out B.out.bel
  have q2 : ¬ (1000 : Int) < (s.size : Int) := by omega
  have Hr := Lib.hid (show AC.big ⟨k, key, n, x, s, m, must⟩ = RC.big m by simp [AC.big, h1, h2])
  clear h1 h2
  go_enter Tryz.func34, Tryz.ntmps34
  go_wp2_with fail
  refine (HG.out _ (HI.out.below B.out.bel)).mono ?_
  rintro e w1 ⟨rfl, hb⟩
  have B1 := Lib.hid (B.out.next hb)
  clear hb
  cases hb : RC.big m
  · have Hb := Lib.hid (Hr.out.trans hb)
    clear hb
    go_wp2_with fail
    go_ret
    exact GPost.no Hb.out B1.out.bel
  · have Hb := Lib.hid (Hr.out.trans hb)
    clear hb
    go_wp2_with fail
    go_ret
    exact GPost.yes Hb.out B1.out.bel
end Go.Proofs.YtbkcmnmbcldjoaaGreatDoor
