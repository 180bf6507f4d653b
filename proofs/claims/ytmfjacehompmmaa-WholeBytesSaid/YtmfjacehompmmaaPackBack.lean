/- The walk of PackBack: there and back. -/
import Derived.Test.YtmfjacehompmmaaSameL
import Derived.Deep.RegionWith
namespace Go.Proofs.Ytmfjacehompmmaa
open Go.RowKit MM

theorem plainP_clean {q : PK.Pt} (h : PK.kindOk q.k = true) : PK.plainP (PK.clean q) = PK.plainP q := by
  obtain ⟨k, u, i, f, s, b⟩ := q
  rcases kind5 h with rfl | rfl | rfl | rfl | rfl
  · rfl
  · rfl
  · show (⟨102, 0, 0, MF.key (MF.canon f), ⟨#[]⟩, false⟩ : PK.Rp) = ⟨102, 0, 0, MF.key f, ⟨#[]⟩, false⟩
    rw [MF.key_canon]
  · rfl
  · rfl
theorem clean_ok {q : PK.Pt} (h : q.ok) : (PK.clean q).ok := by
  have w0 : MF.W64 0 := by unfold MF.W64; omega
  obtain ⟨k, u, i, f, s, b⟩ := q
  unfold PK.clean
  split
  · exact ⟨by show 117 < 256; omega, h.u, rfl, w0⟩
  split
  · exact ⟨by show 105 < 256; omega, w0, h.i, w0⟩
  split
  · exact ⟨by show 102 < 256; omega, w0, rfl, MF.w_canon h.f⟩
  split
  · exact ⟨by show 115 < 256; omega, w0, rfl, w0⟩
  split
  · exact ⟨by show 98 < 256; omega, w0, rfl, w0⟩
  · exact ⟨h.k, w0, rfl, w0⟩
theorem plain_ok {q : PK.Pt} (h : q.ok) : (PK.plainP q).ok := by
  have w0 : MF.W64 0 := by unfold MF.W64; omega
  refine ⟨h.k, ?_, ?_, ?_⟩
  · show MF.W64 (if q.k = 117 then q.u else 0)
    split
    · exact h.u
    · exact w0
  · show (Lit.int .i64 (if q.k = 105 then q.i else 0)).wf = true
    split
    · exact h.i
    · rfl
  · show MF.W64 (if q.k = 102 then MF.key q.f else 0)
    split
    · exact MF.w_key h.f
    · exact w0
theorem partB_len {q : PK.Pt} (h : q.ok) (hs : q.s.size ≤ 1000) : (PK.partB q).length ≤ 1010 := by
  unfold PK.partB
  repeat' split
  · exact Nat.le_trans (PK.digits_length h.u) (by omega)
  · exact Nat.le_trans (PK.digits_length (PK.zag_zig _ (wf_i64 h.i)).2) (by omega)
  · rw [PK.placeB_length]; omega
  · unfold PK.textB
    rw [List.length_append]
    have h1 : (PK.digits q.s.data.toList.length).length ≤ 10 := PK.digits_length (by rw [sz_list]; omega)
    have h2 : q.s.data.toList.length = q.s.size := rfl
    omega
  · simp [PK.flagB]
  · simp
theorem partsB_len : ∀ (qs : List PK.Pt), (∀ q ∈ qs, q.ok ∧ q.s.size ≤ 1000) → (PK.partsB qs).length ≤ 1010 * qs.length
  | [], _ => by simp [PK.partsB]
  | q :: l, h => by
    have h1 := partB_len (h q (by simp)).1 (h q (by simp)).2
    have h2 := partsB_len l (fun x hx => h x (by simp [hx]))
    show (PK.partB q ++ PK.partsB l).length ≤ _
    rw [List.length_append, List.length_cons]
    omega
theorem few_fine {qs : List PK.Pt} (hok : ∀ q ∈ qs, q.ok) (h : PK.few qs = true) : PK.fine 1000 qs ∧ qs.length ≤ 40 ∧ Lim (PK.partsB qs).length := by
  unfold PK.few at h
  rw [Bool.and_eq_true, decide_eq_true_eq, List.all_eq_true] at h
  obtain ⟨h1, h2⟩ := h
  have h3 : ∀ q ∈ qs, PK.kindOk q.k = true ∧ q.s.size ≤ 1000 := by
    intro q hq
    have := h2 q hq
    rw [Bool.and_eq_true, decide_eq_true_eq] at this
    exact this
  refine ⟨fun q hq => ⟨hok q hq, (h3 q hq).1, ?_, ?_⟩, h1, ?_⟩
  · have := (h3 q hq).2; omega
  · have := (h3 q hq).2; omega
  · have := partsB_len qs (fun q hq => ⟨hok q hq, (h3 q hq).2⟩)
    unfold Lim; omega

theorem plain_at (A : Option Addr) (c : Nat) (qs : List PK.Pt) (rs : List PK.Rp) (w : World) (hp : Pts w A qs) (hok : ∀ q ∈ qs, q.ok) (hn : Lim qs.length) (hrs : qs.map PK.plainP = rs) :
    Calls Try.prog 17 #[.slice A qs.length c] w (FreshR rs w) := hrs ▸ plain_any A c qs w hp hok hn
theorem rwrite_at (A : Option Addr) (c : Nat) (rs : List PK.Rp) (xs : List UInt8) (w : World) (hq : ∀ q ∈ rs, q.ok) (hp : Rps w A rs) (hn : Lim rs.length) (hl : Lim xs.length) (hx : PK.refsB rs = xs) :
    Calls Try.prog 16 #[.slice A rs.length c] w (Fresh 5 xs w) := by
  subst hx
  exact rwrite_any A c rs w hq hp hn hl
theorem write_at (A : Option Addr) (c : Nat) (ps : List PK.Pt) (xs : List UInt8) (w : World) (hq : ∀ q ∈ ps, q.ok) (hp : Pts w A ps) (hn : Lim ps.length) (hl : Lim xs.length) (hx : PK.partsB ps = xs) :
    Calls Try.prog 14 #[.slice A ps.length c] w (Fresh 5 xs w) := by
  subst hx
  exact write_any A c ps w hq hp hn hl
theorem below_next {v W X : World} (hD : Below v.heap.size v W) (hb : Below W.heap.size W X) : Below v.heap.size v X := hD.trans (hb.mono hD.size)
theorem below_drewN {B : Nat} {a w : World} (h : Below B a w) (n : Nat) : Below B a (w.drewN n) := ⟨h.os, h.tape, h.output, h.size, h.block⟩

set_option maxHeartbeats 2000000 in
set_option maxRecDepth 100000 in
theorem packBack_any (A : Option Addr) (c : Nat) (qs : List PK.Pt) (w : World) (hqs : ∀ q ∈ qs, q.ok ∧ q.s.size ≤ maxLen) (hp : Pts w A qs) :
    Calls Try.prog 3 #[.slice A qs.length c] w fun e w' => e = .returned (.bool true) ∧ Below w.heap.size w w' := by
  have hok : ∀ q ∈ qs, q.ok := fun q hq => (hqs q hq).1
  have Hok := Lib.hid hok
  have Hp := Lib.hid hp
  have Hs := Lib.hid (show ∀ q ∈ qs, q.s.size ≤ maxLen from fun q hq => (hqs q hq).2)
  have Hk := Lib.hid (show ∀ q ∈ qs, q.k < 256 from fun q hq => (hok q hq).k)
  clear hok hp hqs
  go_enter Try.func3, Try.ntmps3
  go_wp2_with (go_at_call 12; refine (speaks_any _).mono ?_; rintro e w1 ⟨rfl, hb1⟩)
  refine (kinds_any A c qs _ (Hp.out.below hb1) Hs.out Hk.out).mono ?_
  unfold KPost
  cases hfew : PK.few qs with
  | false =>
    rintro e w2 ⟨rfl, hb2⟩
    rw [if_neg (by simp)]
    go_wp2
    go_ret
    exact ⟨rfl, hb1.trans (hb2.mono hb1.size)⟩
  | true =>
    rintro e w2 ⟨rfl, hb2⟩
    rw [if_pos rfl]
    obtain ⟨hfine, h40, hlim⟩ := few_fine Hok.out hfew
    obtain ⟨xs, hxs⟩ : ∃ xs, PK.partsB qs = xs := ⟨_, rfl⟩
    obtain ⟨rs, hrs⟩ : ∃ rs, qs.map PK.plainP = rs := ⟨_, rfl⟩
    obtain ⟨ps, hps⟩ : ∃ ps, qs.map PK.clean = ps := ⟨_, rfl⟩
    obtain ⟨sk, hsk⟩ : ∃ sk : ByteArray, (⟨(PK.kindsB qs).toArray⟩ : ByteArray) = sk := ⟨_, rfl⟩
    have hR : partsR 1000 sk.data.toList xs = .ok ps xs.length := by
      have := partsR_partsB qs 1000 [] hfine
      rw [List.append_nil, if_pos rfl, hps, hxs] at this
      rw [← hsk]
      exact this
    have hlk : Lim sk.size := by rw [← hsk]; show Lim (PK.kindsB qs).toArray.size; rw [List.size_toArray]; unfold PK.kindsB; rw [List.length_map]; unfold Lim; omega
    have hlx : Lim xs.length := by rw [← hxs]; exact hlim
    have hlq : Lim qs.length := by unfold Lim; omega
    have hlp : Lim ps.length := by rw [← hps, List.length_map]; exact hlq
    have hlr : Lim rs.length := by rw [← hrs, List.length_map]; exact hlq
    have hps2 : ps.map PK.plainP = rs := by
      rw [← hps, ← hrs, List.map_map]
      apply List.map_congr_left
      intro q hq
      exact plainP_clean (hfine q hq).2.1
    have hpok : ∀ q ∈ ps, q.ok := by
      intro q hq
      rw [← hps] at hq
      obtain ⟨x, hx, rfl⟩ := List.mem_map.1 hq
      exact clean_ok (Hok.out x hx)
    have hrok : ∀ q ∈ rs, q.ok := by
      intro q hq
      rw [← hrs] at hq
      obtain ⟨x, hx, rfl⟩ := List.mem_map.1 hq
      exact plain_ok (Hok.out x hx)
    have hrx : PK.refsB rs = xs := by rw [← hrs, PK.refsB_plain, hxs]
    rw [hsk]
    have Hxs := Lib.hid hxs
    have Hrs := Lib.hid hrs
    have Hps2 := Lib.hid hps2
    have Hpok := Lib.hid hpok
    have Hrok := Lib.hid hrok
    have Hrx := Lib.hid hrx
    have HR := Lib.hid hR
    clear hfine hlim h40 hxs hrs hps hsk hps2 hpok hrok hrx hR hfew
    have hB2 : Below w.heap.size w w2 := hb1.trans (hb2.mono hb1.size)
    clear hb1 hb2
    go_wp2_with fail
    refine (write_at A c qs xs _ Hok.out (Hp.out.below hB2) hlq hlx Hxs.out).mono ?_
    rintro e w3 ⟨A3, c3, rfl, ho3, hn3, hb3⟩
    have hB3 : Below w.heap.size w w3 := hB2.trans (hb3.mono hB2.size)
    have hX3 := Bts.own ho3
    have HX3 := Lib.hid hX3
    clear ho3 hX3
    go_wp2_with fail
    refine (read_any A3 c3 xs sk 1000 _ HX3.out hlx hlk (by decide)).mono ?_
    rw [HR.out]
    rintro e w4 ⟨A4, c4, rfl, ho4, hn4, hb4⟩
    have hB4 : Below w.heap.size w w4 := hB3.trans (hb4.mono hB3.size)
    have hX4 := HX3.out.below hb4
    have Ho4 := Lib.hid ho4
    have HX4 := Lib.hid hX4
    clear ho4 hX4 hn3 hn4 hb3 hb4
    go_wp2_with fail
    obtain ⟨v, hv⟩ : ∃ v, v = (w4.alloc (.cells #[.int .i64 0, .int .i64 0] 30)) := ⟨_, rfl⟩
    rw [← hv]
    obtain ⟨sa, hsa⟩ : ∃ sa : ByteArray, sa = ⟨xs.toArray⟩ := ⟨_, rfl⟩
    have hb5 : Below w4.heap.size w4 v.drew := by rw [hv]; exact below_drew ((Below.refl _ w4).alloc (Nat.le_refl _) _)
    have hB5 : Below w.heap.size w v.drew := hB4.trans (hb5.mono hB4.size)
    have Ho5 := Lib.hid (own_below Ho4.out hb5)
    have HX5 := Lib.hid (HX4.out.below hb5)
    have hf0 : v.drew.cell? ⟨w4.heap.size, 0, none⟩ = some (.int .i64 0) := by rw [hv]; exact (cell_of_row _ _ 0 _ _ (0, 0) (heap_alloc_new w4 _)).trans rfl
    have hf1 : v.drew.cell? ⟨w4.heap.size, 1, none⟩ = some (.int .i64 0) := by rw [hv]; exact (cell_of_row _ _ 1 _ _ (0, 0) (heap_alloc_new w4 _)).trans rfl
    have hcv5 := conv_bts (c := c3) HX5.out hsa
    have Hsa := Lib.hid hsa
    clear hv hsa HX4 Ho4 hB4 hB3 hB2 hb5 HX3
    have hD5 : Below v.drew.heap.size v.drew v.drew := Below.refl _ _
    go_region_with (first
      | (go_at_call_of 17 (Value.slice A4 ps.length c4)
         refine (plain_at A4 c4 ps rs _ ((Pts.own Ho5.out).below (by assumption)) Hpok.out hlp Hps2.out).mono ?_
         rintro e w8 ⟨A8, c8, rfl, ho8, hn8, hb8⟩
         have hD8 := below_next (v := v.drew) (by assumption) hb8
         have hr8 := Rps.own ho8
         clear ho8 hn8)
      | (go_at_call_of 17 (Value.slice A qs.length c)
         have hr8x := hr8
         refine (plain_at A c qs rs _ ((Hp.out.below hB5).below (by assumption)) Hok.out hlq Hrs.out).mono ?_
         rintro e w9 ⟨A9, c9, rfl, ho9, hn9, hb9⟩
         have hr8' := hr8.below hb9
         have hD9 := below_next (v := v.drew) (by assumption) hb9
         have hr9 := Rps.own ho9
         clear ho9 hn9)
      | (go_at_call_of 17 (Value.slice A qs.length c)
         refine (plain_at A c qs rs _ ((Hp.out.below hB5).below (by assumption)) Hok.out hlq Hrs.out).mono ?_
         rintro e w6 ⟨A6, c6, rfl, ho6, hn6, hb6⟩
         have hD6 := below_next (v := v.drew) (by assumption) hb6
         have hr6 := Rps.own ho6
         have hcv6 := conv_bts (c := c3) (HX5.out.below hD6) Hsa.out
         clear ho6 hn6)
      | (go_at_call 16
         refine (rwrite_at A6 c6 rs xs _ Hrok.out hr6 hlr hlx Hrx.out).mono ?_
         rintro e w7 ⟨A7, c7, rfl, ho7, hn7, hb7⟩
         have hD7 := below_next (v := v.drew) (by assumption) hb7
         have hcv7 := conv_bts (c := c3) (HX5.out.below hD7) Hsa.out
         have hcvw := conv_own ho7 rfl Hsa.out
         have hg0 := below_keep hD7 hf0
         have hg1 := below_keep hD7 hf1
         clear ho7 hn7)
      | (go_at_call 18
         refine (same_eq A8 A9 c8 c9 rs _ hr8' hr9 hlr).mono ?_
         rintro e w10 ⟨rfl, n10, rfl⟩))
    all_goals
      clear hcv5 hcv6 hcv7 hcvw hg0 hg1 hf0 hf1
      go_wp2
      go_ret
      exact ⟨rfl, hB5.trans ((below_drewN hD9 n10).mono hB5.size)⟩

end Go.Proofs.Ytmfjacehompmmaa
