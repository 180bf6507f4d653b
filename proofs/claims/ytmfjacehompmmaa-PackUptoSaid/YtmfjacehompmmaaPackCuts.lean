/- The walk of PackCuts: parts that are cut off, or with some bytes more. -/
import Derived.Test.YtmfjacehompmmaaPackBack
namespace Go.Proofs.Ytmfjacehompmmaa
open Go.RowKit MM

theorem bts_take {w : World} {A : Option Addr} {xs : List UInt8} (h : Bts w A xs) (j : Nat) : Bts w A (xs.take j) := by
  cases A with
  | none =>
    have h : xs = [] := h
    subst h
    show ([] : List UInt8).take j = []
    simp
  | some ad =>
    intro i v hv
    apply h i v
    unfold bc at *
    rw [List.map_take] at hv
    rw [List.getElem?_take] at hv
    split at hv
    · exact hv
    · cases hv

set_option maxHeartbeats 2000000 in
set_option maxRecDepth 100000 in
theorem packCuts_any (A : Option Addr) (c : Nat) (qs : List PK.Pt) (cut : Int) (A2 : Option Addr) (c2 : Nat) (ys : List UInt8) (w : World) (hqs : ∀ q ∈ qs, q.ok ∧ q.s.size ≤ maxLen) (hp : Pts w A qs) (_hcut : (Lit.int .i64 cut).wf = true) (hy : Bts w A2 ys) :
    Calls Try.prog 7 #[.slice A qs.length c, .int .i64 cut, .slice A2 ys.length c2] w fun e w' => e = .returned (.bool true) ∧ Below w.heap.size w w' := by
  obtain ⟨i0, hi0, hz0, hz1, hz2⟩ := info_parts byte_info
  have hok : ∀ q ∈ qs, q.ok := fun q hq => (hqs q hq).1
  have Hok := Lib.hid hok
  have Hp := Lib.hid hp
  have Hy := Lib.hid hy
  have Hs := Lib.hid (show ∀ q ∈ qs, q.s.size ≤ maxLen from fun q hq => (hqs q hq).2)
  have Hk := Lib.hid (show ∀ q ∈ qs, q.k < 256 from fun q hq => (hok q hq).k)
  clear hok hp hqs hy
  go_enter Try.func7, Try.ntmps7
  go_wp2_with (go_at_call 12; refine (speaks_any _).mono ?_; rintro e w1 ⟨rfl, hb1⟩)
  refine (kinds_any A c qs _ (Hp.out.below hb1) Hs.out Hk.out).mono ?_
  unfold KPost
  cases hfew : PK.few qs with
  | false =>
    rintro e w2 ⟨rfl, hb2⟩
    rw [if_neg (by simp)]
    go_wp2
    go_ret
    exact ⟨rfl, hb1.trans (hb2.mono hb1.size)⟩
  | true =>
    rintro e w2 ⟨rfl, hb2⟩
    rw [if_pos rfl]
    have hB2 : Below w.heap.size w w2 := hb1.trans (hb2.mono hb1.size)
    clear hb1 hb2
    by_cases hbig : 100 < ys.length
    · have hbig' : (100 : Int) < (ys.length : Int) := by omega
      go_wp2
      go_ret
      exact ⟨rfl, hB2⟩
    have hbig' : ¬ (100 : Int) < (ys.length : Int) := by omega
    obtain ⟨hfine, h40, hlim⟩ := few_fine Hok.out hfew
    obtain ⟨xs, hxs⟩ : ∃ xs, PK.partsB qs = xs := ⟨_, rfl⟩
    obtain ⟨sk, hsk⟩ : ∃ sk : ByteArray, (⟨(PK.kindsB qs).toArray⟩ : ByteArray) = sk := ⟨_, rfl⟩
    have hkl : sk.data.toList = PK.kindsB qs := by rw [← hsk]
    have Hcut := Lib.hid (show ∀ j, j < xs.length → ∃ n, n ≤ j ∧ partsR 1000 sk.data.toList (xs.take j) = .bad 2 n from by
      intro j hj
      rw [← hxs] at hj ⊢
      rw [hkl]
      exact partsR_cut qs 1000 j hfine hj)
    have Hlong := Lib.hid (show ∀ ys : List UInt8, ys ≠ [] → partsR 1000 sk.data.toList (xs ++ ys) = .bad 3 xs.length from by
      intro ys hy
      rw [← hxs, hkl, partsR_partsB qs 1000 ys hfine, if_neg hy])
    have hlk : Lim sk.size := by rw [← hsk]; show Lim (PK.kindsB qs).toArray.size; rw [List.size_toArray]; unfold PK.kindsB; rw [List.length_map]; unfold Lim; omega
    have hlx : Lim xs.length := by rw [← hxs]; exact hlim
    have hlxy : Lim (xs.length + ys.length) := by
      have := partsB_len qs (fun q hq => ⟨Hok.out q hq, by have := (hfine q hq).2.2.1; omega⟩)
      rw [hxs] at this
      unfold Lim; omega
    have hlx0 : Lim (0 + xs.length) := by rw [Nat.zero_add]; exact hlx
    have hlq : Lim qs.length := by unfold Lim; omega
    rw [hsk]
    have Hxs := Lib.hid hxs
    clear hfine hlim h40 hxs hsk hkl hfew
    go_wp2_with fail
    refine (write_at A c qs xs _ Hok.out (Hp.out.below hB2) hlq hlx Hxs.out).mono ?_
    rintro e w3 ⟨A3, c3, rfl, ho3, hn3, hb3⟩
    have hB3 : Below w.heap.size w w3 := hB2.trans (hb3.mono hB2.size)
    have HX3 := Lib.hid (Bts.own ho3)
    have Ho3 := Lib.hid ho3
    have hc3 : xs.length ≤ c3 := own_room ho3
    clear ho3 hn3 hb3
    by_cases hy0 : ys = []
    · subst hy0
      have hBt : Below w.heap.size w w3 := hB3
      have hXt : Bts w3 A3 xs := HX3.out
      have HBT := Lib.hid hBt
      have HXT := Lib.hid hXt
      clear hBt hXt
      by_cases hcut0 : cut < 0
      · go_wp2
        go_ret
        exact ⟨rfl, HBT.out⟩
      by_cases hcut1 : (xs.length : Int) ≤ cut
      · go_wp2
        go_ret
        exact ⟨rfl, HBT.out⟩
      obtain ⟨j, rfl⟩ : ∃ j : Nat, cut = (j : Int) := ⟨cut.toNat, by omega⟩
      have hj : j < xs.length := by omega
      obtain ⟨n, hnj, hRc⟩ := Hcut.out j hj
      have hlj : (xs.take j).length = j := by rw [List.length_take]; omega
      have hBc := bts_take HXT.out j
      have hlx2 : Lim (xs.take j).length := hlx.le (by omega)
      have hP := read_any A3 c3 (xs.take j) sk 1000 w3 hBc hlx2 hlk (by decide)
      rw [hRc, hlj] at hP
      have HP := Lib.hid hP
      have hnj' : (n : Int) ≤ (j : Int) := by omega
      have hj3 : (j : Int) ≤ (c3 : Int) := by omega
      clear hRc hBc hP hlj
      go_wp2_with fail
      refine HP.out.mono ?_
      rintro e w6 ⟨rfl, hb6⟩
      have hB6 : Below w.heap.size w w6 := HBT.out.trans (hb6.mono HBT.out.size)
      go_wp2
      go_ret
      exact ⟨rfl, hB6.alloc hB6.size _⟩
    · have Hy0 := Lib.hid hy0
      have hlen : 0 < ys.length := List.length_pos_iff.2 hy0
      have hlen' : (0 : Int) < (ys.length : Int) := by omega
      have hyc : A2 = none → c2 = 0 := by
        intro e
        subst e
        exact absurd (Hy.out : ys = []) hy0
      have hYw := Hy.out.below hB3
      have HYw := Lib.hid hYw
      have hxc : A3 = none → c3 = 0 := fun e => by subst e; exact own_cap Ho3.out
      clear hy0 hYw
      go_wp2_with (first
      | (at_builtin
         refine wpList_append_at rfl (.tmp 34) (.tmp 35) _ _ rfl 5 i0 _ 1 1 Try.underlying26 hi0 hz0 hz1 hz2 rfl (some ⟨w3.heap.size, 0, none⟩) 0 0 [] rfl (World.ownsRow_lit (base := 0) (e := 5) (size := 1) w3 #[] 0 (Nat.zero_le _) (Nat.zero_le _) rfl) _ _ _ rfl ((HX3.out.alloc _).src Try.underlying26 hxc) hlx0.len hlx0.fits ?_
         intro A4 c4 w4 ho4 hg4 hat4
         rw [List.nil_append, Nat.zero_add] at ho4
         rw [Nat.zero_add]
         have hK4 : Kp (fun _ => False) w w4 := ((Kp.of_below hB3 (fun _ => False)).alloc _).grown hg4 (fun k e => .inr (by have e : some w3.heap.size = some k := e; injection e with e; have := hB3.size; omega))
         have hK34 : Kp (fun _ => False) w3 w4 := ((Kp.refl (fun _ => False) w3).alloc _).grown hg4 (fun k e => .inr (by have e : some w3.heap.size = some k := e; injection e with e; omega))
         have hn4 : ∀ k, ob A4 = some k → w3.heap.size ≤ k := fun k e => by
           rcases hat4 with h | h
           · rw [h] at e; have e : some w3.heap.size = some k := e; injection e with e; omega
           · rw [h] at e; injection e with e; simp at e; omega)
      | (at_builtin
         refine wpList_append_at rfl (.tmp 36) (.tmp 37) _ _ rfl 5 i0 _ 1 1 Try.underlying26 hi0 hz0 hz1 hz2 rfl A4 xs.length c4 (bc xs) rfl ho4 _ _ _ rfl ((Hy.out.below (hK4.below (Nat.le_refl _) (fun _ _ x => x))).src Try.underlying26 hyc) hlxy.len hlxy.fits ?_
         intro A5 c5 w5 ho5 hg5 hat5))
      have hK5 : Kp (fun _ => False) w w5 := hK4.grown hg5 (fun k e => .inr (Nat.le_trans hB3.size (hn4 k e)))
      have hK35 : Kp (fun _ => False) w3 w5 := hK34.grown hg5 (fun k e => .inr (hn4 k e))
      have hX5 : Bts w5 A3 xs := HX3.out.kp hK35 (fun _ _ x => x)
      have hown : w5.ownsRow 0 5 1 (.slice A5 (xs ++ ys).length c5) (xs ++ ys).length (bc (xs ++ ys)) := by rw [List.length_append, bc_append]; exact ho5
      have hP5 := read_any A5 c5 (xs ++ ys) sk 1000 w5 (Bts.own hown) (by rw [List.length_append]; exact hlxy) hlk (by decide)
      rw [Hlong.out ys Hy0.out, List.length_append] at hP5
      refine hP5.mono ?_
      rintro e w6 ⟨rfl, hb6⟩
      have hB5 : Below w.heap.size w w5 := hK5.below (Nat.le_refl _) (fun _ _ x => x)
      have hB6 : Below w.heap.size w w6 := hB5.trans (hb6.mono hB5.size)
      have HX6 := Lib.hid (hX5.below hb6)
      clear hP5 hown hX5 hK5 hK35 ho5 hg5 hat5 ho4 hg4 hat4 hK4 hK34 hn4 hb6
      by_cases hcut0 : cut < 0
      · go_wp2
        go_ret
        exact ⟨rfl, hB6.alloc hB6.size _⟩
      by_cases hcut1 : (xs.length : Int) ≤ cut
      · go_wp2
        go_ret
        exact ⟨rfl, hB6.alloc hB6.size _⟩
      obtain ⟨j, rfl⟩ : ∃ j : Nat, cut = (j : Int) := ⟨cut.toNat, by omega⟩
      have hj : j < xs.length := by omega
      obtain ⟨n, hnj, hRc⟩ := Hcut.out j hj
      have hlj : (xs.take j).length = j := by rw [List.length_take]; omega
      have hBc := (bts_take HX6.out j).alloc (.cells #[.int .i64 3, .int .i64 xs.length] 30)
      have hlx2 : Lim (xs.take j).length := hlx.le (by omega)
      have hP := read_any A3 c3 (xs.take j) sk 1000 _ hBc hlx2 hlk (by decide)
      rw [hRc, hlj] at hP
      have HP := Lib.hid hP
      have hnj' : (n : Int) ≤ (j : Int) := by omega
      have hj3 : (j : Int) ≤ (c3 : Int) := by omega
      clear hRc hBc hP hlj
      go_wp2_with fail
      refine HP.out.mono ?_
      rintro e w7 ⟨rfl, hb7⟩
      have hB6' := hB6.alloc hB6.size (.cells #[.int .i64 3, .int .i64 xs.length] 30)
      have hB7 : Below w.heap.size w w7 := hB6'.trans (hb7.mono hB6'.size)
      go_wp2
      go_ret
      exact ⟨rfl, hB7.alloc hB7.size _⟩

end Go.Proofs.Ytmfjacehompmmaa
