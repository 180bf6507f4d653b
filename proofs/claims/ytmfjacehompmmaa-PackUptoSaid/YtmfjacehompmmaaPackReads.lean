/- The walk of PackReads: any bytes are parts of any kinds, or it is told why not. -/
import Derived.Test.YtmfjacehompmmaaRRead
namespace Go.Proofs.Ytmfjacehompmmaa
open Go.RowKit MM

theorem plain_nil (w : World) : Calls Try.prog 17 #[.slice none 0 0] w (FreshR [] w) :=
  plain_at none 0 [] [] w (.inl rfl) (fun _ h => by cases h) (by show Lim 0; unfold Lim; omega) rfl
theorem same_nil (A : Option Addr) (c : Nat) (w : World) : Calls Try.prog 18 #[.slice A 0 c, .slice none 0 0] w fun e w' => e = .returned (.bool true) ∧ ∃ n, w' = w.drewN n :=
  same_eq A none c 0 [] w (.inl rfl) (.inl rfl) (by show Lim 0; unfold Lim; omega)

set_option maxHeartbeats 1000000 in
set_option maxRecDepth 100000 in
theorem packReads_any (A : Option Addr) (c : Nat) (xs : List UInt8) (s : ByteArray) (m : Int) (w : World) (hb : Bts w A xs) (hcap : xs.length ≤ c) (_hs : s.size ≤ maxLen) (hm : (Lit.int .i64 m).wf = true) :
    Calls Try.prog 4 #[.slice A xs.length c, .string s, .int .i64 m] w fun e w' => e = .returned (.bool true) ∧ Below w.heap.size w w' := by
  have HB := Lib.hid hb
  clear hb
  by_cases hlen : 2000 < xs.length
  · have hd : decide ((2000 : Int) < (xs.length : Int)) = true := by simp; omega
    go_enter Try.func4, Try.ntmps4
    go_wp2_with (go_at_call 12; refine (speaks_any _).mono ?_; rintro e w1 ⟨rfl, hb1⟩)
    go_ret
    exact ⟨rfl, hb1⟩
  have hd : decide ((2000 : Int) < (xs.length : Int)) = false := by simp; omega
  by_cases hlen2 : 100 < s.size
  · have hd2 : decide ((100 : Int) < (s.size : Int)) = true := by simp; omega
    go_enter Try.func4, Try.ntmps4
    go_wp2_with (go_at_call 12; refine (speaks_any _).mono ?_; rintro e w1 ⟨rfl, hb1⟩)
    go_ret
    exact ⟨rfl, hb1⟩
  have hd2 : decide ((100 : Int) < (s.size : Int)) = false := by simp; omega
  have hlx : Lim xs.length := by unfold Lim; omega
  have hls : Lim s.size := by unfold Lim; omega
  go_enter Try.func4, Try.ntmps4
  go_wp2_with (go_at_call 12; refine (speaks_any _).mono ?_; rintro e w1 ⟨rfl, hb1⟩)
  refine (read_any A c xs s m _ (HB.out.below hb1) hlx hls hm).mono ?_
  cases hR : partsR m s.data.toList xs with
  | bad code n =>
    rintro e w2 ⟨rfl, hb2⟩
    by_cases hc : code = 0
    · subst hc
      exact absurd hR (partsR_code _ _ _ _)
    have hc' : ¬ (code : Int) = 0 := by omega
    have hB2 : Below w.heap.size w w2 := hb1.trans (hb2.mono hb1.size)
    have hx := fun o => rread_any A c xs s m (w2.alloc o) (HB.out.below (hB2.alloc hB2.size o)) hlx hcap hls hm
    rw [hR] at hx
    have Hx := Lib.hid hx
    clear hx hR hb1 hb2
    go_wp2_with (first
      | (go_at_call 19
         refine (Hx.out _).mono ?_
         rintro e w3 ⟨hb3, rfl⟩
         have hn3 := (hb3.block w2.heap.size (by simp)).trans (heap_alloc_new w2 _)
         have hB3 : Below w.heap.size w w3 := (hB2.alloc hB2.size _).trans (hb3.mono (Nat.le_trans hB2.size (by simp)))
         have d0 := (cell_of_row w3 _ 0 _ _ (0, 0) hn3).trans rfl
         have d1 := (cell_of_row w3 _ 1 _ _ (0, 0) hn3).trans rfl
         clear hb3 hn3)
      | (go_at_call 17
         refine (plain_nil _).mono ?_
         rintro e w4 ⟨A4, c4, rfl, ho4, hn4, hb4⟩
         have hB4 : Below w.heap.size w w4 := hB3.trans (hb4.mono hB3.size)
         clear ho4 hn4 hb4)
      | (go_at_call 18
         refine (same_nil A4 c4 _).mono ?_
         rintro e w5 ⟨rfl, n5, rfl⟩))
    go_ret
    exact ⟨rfl, below_drewN hB4 n5⟩
  | ok ps n =>
    rintro e w2 ⟨A2, c2, rfl, ho2, hn2, hb2⟩
    obtain ⟨h1, h2, h3, h4⟩ := partsR_one _ _ _ _ _ hR
    obtain ⟨rs, hrs⟩ : ∃ rs, ps.map PK.plainP = rs := ⟨_, rfl⟩
    have hpl : Lim ps.length := by rw [h2]; exact hls
    have hrl : Lim rs.length := by rw [← hrs, List.length_map]; exact hpl
    have Hok := Lib.hid (show ∀ q ∈ ps, q.ok from fun q hq => (h3 q hq).1)
    have Hrs := Lib.hid hrs
    have hB2 : Below w.heap.size w w2 := hb1.trans (hb2.mono hb1.size)
    have hx := fun o => rread_any A c xs s m (w2.alloc o) (HB.out.below (hB2.alloc hB2.size o)) hlx hcap hls hm
    rw [hR] at hx
    have Hx := Lib.hid hx
    have Ho2 := Lib.hid ho2
    clear hx hR hb1 hb2 h1 h2 h3 h4 hrs ho2
    go_wp2_with (first
      | (go_at_call 19
         refine (Hx.out _).mono ?_
         rintro e w3 ⟨hb3, A3, c3, rs3, hr3, rfl, ho3⟩
         obtain rfl : rs3 = rs := hr3.trans Hrs.out
         have hn3 := (hb3.block w2.heap.size (by simp)).trans (heap_alloc_new w2 _)
         have hB3 : Below w.heap.size w w3 := (hB2.alloc hB2.size _).trans (hb3.mono (Nat.le_trans hB2.size (by simp)))
         have d0 := (cell_of_row w3 _ 0 _ _ (0, 0) hn3).trans rfl
         have d1 := (cell_of_row w3 _ 1 _ _ (0, 0) hn3).trans rfl
         have Ho3 := Lib.hid (Rps.own ho3)
         have Hp3 := Lib.hid ((Pts.own Ho2.out).below (((Below.refl _ w2).alloc (Nat.le_refl _) _).trans (hb3.mono (by simp))))
         clear hb3 hn3 ho3 hr3)
      | (go_at_call 17
         refine (plain_at A2 c2 ps rs3 _ Hp3.out Hok.out hpl Hrs.out).mono ?_
         rintro e w4 ⟨A4, c4, rfl, ho4, hn4, hb4⟩
         have hB4 : Below w.heap.size w w4 := hB3.trans (hb4.mono hB3.size)
         have Ho4 := Lib.hid (Rps.own ho4)
         have Ho34 := Lib.hid (Ho3.out.below hb4)
         clear ho4 hn4 hb4)
      | (go_at_call 18
         refine (same_eq A4 A3 c4 c3 rs3 _ Ho4.out Ho34.out hrl).mono ?_
         rintro e w5 ⟨rfl, n5, rfl⟩))
    go_ret
    exact ⟨rfl, below_drewN hB4 n5⟩

end Go.Proofs.Ytmfjacehompmmaa
