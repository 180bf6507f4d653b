/- Contracts of the document's own answers for layer 4: an act as bytes. -/
import Derived.Test.YtaaeefndhmfceaaGreatDoorRef4h
namespace Go.Proofs.YtaaeefndhmfceaaGreatDoor
open Go.RowKit MM

theorem rparts4_any (a : AC.Ac) (A : Option Addr) (c : Nat) (w : World) (ha : a.ok) (hm : AC.May a) (hI : Its w A a.make.list) :
    Calls Tryz.prog 43 #[actV a A c] w (FreshR (actP a) w) := by
  obtain ⟨k, key, n, x, s, m, must⟩ := a
  have hk : 0 < k ∧ k < 22 := hm.known
  obtain ⟨j, rfl⟩ : ∃ j : Nat, k = (j : Int) := ⟨k.toNat, by omega⟩
  have hj : j ≤ 21 := by omega
  rcases AC.kinds6 hk with ⟨a, b, d, e⟩ | ⟨a, b, d, e⟩ | ⟨a, b, d, e⟩ | ⟨a, b, d, e⟩ | ⟨a, b, d, e⟩ | ⟨a, b, d, e⟩
  · exact rparts4_0 j key n x s m must A c w hj a b d e
  · exact rparts4_n j key n x s m must A c w hj a b d e
  · exact rparts4_x j key n x s m must A c w hj a b d e ha.x
  · exact rparts4_s j key n x s m must A c w hj a b d e
  · exact rparts4_xs j key n x s m must A c w hj a b d e ha.x
  · exact rparts4_m j key n x s m must A c w hj a b d e ha.make (RC.chk_may ha.make (hm.made e)) hI

set_option maxHeartbeats 1000000 in
set_option maxRecDepth 100000 in
theorem rbytes4_any (a : AC.Ac) (A : Option Addr) (c : Nat) (w : World) (ha : a.ok) (hc : AC.chk a = 0) (hI : Its w A a.make.list) :
    Calls Tryz.prog 12 #[actV a A c] w (Fresh 5 (AC.actB a) w) := by
  have hm := AC.chk_may ha hc
  have hmm : AC.hasM a.kind = true → RC.May a.make := fun h => RC.chk_may ha.make (hm.made h)
  have HP := Lib.hid (fun w hA => rparts4_any a A c w ha hm hA)
  have HW := Lib.hid (fun w A' c' (ho : w.ownsRow 0 115 6 (.slice A' (actP a).length c') (actP a).length (rpCells (actP a))) => rwrite_any A' c' (actP a) w (actP_ok a ha (by have := hm.known; omega) hmm) (Rps.own ho) (by have := actP_len a hmm; unfold Lim; omega) (by rw [refsB_act a (fun h => (hmm h).known)]; have := actB_len a ha hm; unfold Lim; omega))
  have HA := Lib.hid hI
  rw [refsB_act a (fun h => (hmm h).known)] at HW
  have B := Lib.hid (AB.new 27 w (actC a A c))
  clear hI hc hm hmm
  generalize actP a = qs at *
  generalize AC.actB a = bs at *
  obtain ⟨k, key, n, x, s, m, must⟩ := a
  go_enter Tryz.func12, Tryz.ntmps12
  go_wp2_with fail
  refine (HP.out _ (HA.out.alloc _)).mono ?_
  rintro e w1 ⟨A1, c1, rfl, ho1, hn1, hb1⟩
  go_wp2_with fail
  refine (HW.out _ A1 c1 ho1).mono ?_
  rintro e w2 ⟨A2, c2, rfl, ho2, hn2, hb2⟩
  have hB1 : Below w.heap.size w w1 := (below1 w _).trans (hb1.mono (by simp))
  go_wp2_with fail
  go_ret
  exact ⟨A2, c2, rfl, ho2, fun k e => Nat.le_trans hB1.size (hn2 k e), hB1.trans (hb2.mono hB1.size)⟩

end Go.Proofs.YtaaeefndhmfceaaGreatDoor
