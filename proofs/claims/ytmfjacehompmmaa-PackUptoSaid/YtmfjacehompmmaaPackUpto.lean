/- The walk of PackUpto: a number is read up to the greatest that is let. -/
import Derived.Test.YtmfjacehompmmaaUptoL
import Derived.Test.YtmfjacehompmmaaPackCuts
namespace Go.Proofs.Ytmfjacehompmmaa
open Go.RowKit MM

theorem numL_code : ∀ (l : List UInt8) (i n a b e : Nat), PK.numL i n l = (a, b, e) → e = 0 ∨ e = 1 ∨ e = 2 ∨ e = 4
  | [], i, n, a, b, e, h => by
    simp [PK.numL] at h
    omega
  | c :: l, i, n, a, b, e, h => by
    unfold PK.numL at h
    split at h
    · simp at h; omega
    · split at h
      · split at h
        · simp at h; omega
        · simp at h; omega
      · exact numL_code l _ _ _ _ _ h
theorem numR_code {l : List UInt8} {e k : Nat} (h : numR l = .bad e k) : e = 1 ∨ e = 2 ∨ e = 4 := by
  unfold numR at h
  split at h
  · cases h
  · rename_i x y e' hne hx
    injection h with h1 h2
    subst h1 h2
    have := numL_code _ _ _ _ _ _ hx
    have h0 : e' ≠ 0 := fun e => hne e
    omega
theorem numR_take {l : List UInt8} {n k : Nat} (h : numR l = .ok n k) : numR (l.take k) = .ok n k := by
  obtain ⟨ht, hk, hw⟩ := numR_one h
  have hl : (PK.digits n).length = k := by rw [← ht, List.length_take]; omega
  have := numR_digits n [] hw
  rw [List.append_nil, hl] at this
  rw [ht]
  exact this
theorem partsR_u {l : List UInt8} : partsR 0 [117] l = match numR l with | .bad e k => .bad e k | .ok n k => if l.drop k = [] then .ok [{ PK.zeroPt 117 with u := n }] k else .bad 3 k := by
  cases hR : numR l with
  | bad e k =>
    have hp : partR (117 : UInt8).toNat 0 l = .bad e k := by show Res.map _ (numR l) = _; rw [hR]; rfl
    rw [partsR_bad hp]
  | ok n k =>
    have hp : partR (117 : UInt8).toNat 0 l = .ok { PK.zeroPt 117 with u := n } k := by show Res.map _ (numR l) = _; rw [hR]; rfl
    rw [partsR_cons hp]
    show lift _ _ (if l.drop k = [] then .ok [] 0 else .bad 3 0) = if l.drop k = [] then _ else _
    split
    · rfl
    · rfl
theorem slice_to (A : Option Addr) (n c hi : Nat) (h1 : hi ≤ c) (w : World) : (Instr.slice 26 (.slice A n c) none (some (.int .i64 (hi : Int))) none).run Try.prog w = .ok (.slice A hi c) w := by
  have h1' : (hi : Int) ≤ (c : Int) := by omega
  have h0 : (0 : Int) ≤ (hi : Int) := by omega
  go_simp

/-- The number that bytes are, as the document reads it. -/
def UPost (r : Res Nat) (whole : Prop) [Decidable whole] (w : World) (e : Ending) (w' : World) : Prop :=
  Below w.heap.size w w' ∧ match r with
  | .bad e1 k => e = .returned (.tuple #[.slice none 0 0, .int .i64 e1, .int .i64 k])
  | .ok n k => if whole then ∃ g c, e = .returned (.tuple #[.slice (some ⟨g, 0, none⟩) 1 c, .int .i64 0, .int .i64 0]) ∧ w'.cell? ⟨g, 1, none⟩ = some (.int .u64 n) else e = .returned (.tuple #[.slice none 0 0, .int .i64 3, .int .i64 k])
theorem rread_u (A : Option Addr) (c n : Nat) (xs : List UInt8) (r : Res Nat) (w : World) (hb : Bts w A xs) (hl : Lim xs.length) (hcap : xs.length ≤ c) (hn : xs.length = n) (hr : numR xs = r) :
    Calls Try.prog 19 #[.slice A n c, .string ⟨#[117]⟩, .int .i64 0] w (UPost r (xs.drop (Res.nn r) = []) w) := by
  subst hn
  have h := rread_any A c xs ⟨#[117]⟩ 0 w hb hl hcap (by show Lim 1; unfold Lim; omega) (by decide)
  have e1 : ((⟨#[117]⟩ : ByteArray).data.toList) = [117] := rfl
  rw [e1, partsR_u, hr] at h
  refine h.mono ?_
  intro e w' hx
  cases r with
  | bad e1 k =>
    obtain ⟨hb1, rfl⟩ := hx
    exact ⟨hb1, rfl⟩
  | ok m k =>
    show Below _ _ _ ∧ if xs.drop k = [] then _ else _
    replace hx : RRPost (if xs.drop k = [] then .ok [{ PK.zeroPt 117 with u := m }] k else .bad 3 k) w e w' := hx
    by_cases hd : xs.drop k = []
    · rw [if_pos hd] at hx ⊢
      obtain ⟨hb1, A2, c2, rs, rfl, rfl, ho⟩ := hx
      refine ⟨hb1, ?_⟩
      rcases ho.2 with ⟨hv, h0⟩ | ⟨g, cap, cur, hv, _⟩
      · cases h0
      · injection hv with hA _ hc
        subst hA hc
        refine ⟨g, c2, rfl, ?_⟩
        exact (ho.cells (g := g) rfl 1 (.int .u64 m) rfl)
    · rw [if_neg hd] at hx ⊢
      obtain ⟨hb1, rfl⟩ := hx
      exact ⟨hb1, rfl⟩

set_option maxHeartbeats 8000000 in
set_option maxRecDepth 100000 in
theorem packUpto_any (A : Option Addr) (c : Nat) (xs : List UInt8) (m : Int) (w : World) (hb : Bts w A xs) (hcap : xs.length ≤ c) (hm : (Lit.int .i64 m).wf = true) :
    Calls Try.prog 9 #[.slice A xs.length c, .int .i64 m] w fun e w' => e = .returned (.bool true) ∧ Below w.heap.size w w' := by
  have HB := Lib.hid hb
  clear hb
  by_cases hlen : 100 < xs.length
  · have hd : decide ((100 : Int) < (xs.length : Int)) = true := by simp; omega
    go_enter Try.func9, Try.ntmps9
    go_wp2_with (go_at_call 12; refine (speaks_any _).mono ?_; rintro e w1 ⟨rfl, hb1⟩)
    go_ret
    exact ⟨rfl, hb1⟩
  have hd : decide ((100 : Int) < (xs.length : Int)) = false := by simp; omega
  have hlx : Lim xs.length := by unfold Lim; omega
  have hf := fun (wx : World) (hbx : Below w.heap.size w wx) => lfirst_any A c xs m wx (HB.out.below hbx) hlx hm
  have hm' := wf_i64 hm
  cases hR : numR xs with
  | bad e1 k =>
    have hu : uptoR m xs = .bad e1 k := by unfold uptoR; rw [hR]
    rw [hu] at hf
    have hec := numR_code hR
    have he0 : ¬ (e1 : Int) = 0 := by omega
    have he3 : ¬ (e1 : Int) = 3 := by omega
    have hr := fun (wx : World) (hbx : Below w.heap.size w wx) => rread_u A c xs.length xs _ wx (HB.out.below hbx) hlx hcap rfl hR
    have Hf := Lib.hid hf
    have Hr := Lib.hid hr
    clear hf hr hu hR
    go_enter Try.func9, Try.ntmps9
    go_wp2_with (first
      | (go_at_call 12; refine (speaks_any _).mono ?_; rintro e w1 ⟨rfl, hb1⟩)
      | (go_at_call 29; refine (Hf.out _ hb1).mono ?_; rintro e w2 ⟨hb2, rfl⟩; have hB2 : Below w.heap.size w w2 := hb1.trans (hb2.mono hb1.size))
      | (go_at_call 19
         refine (Hr.out _ (hB2.alloc hB2.size _)).mono ?_
         rintro e w3 ⟨hb3, rfl⟩
         have hn3 := (hb3.block w2.heap.size (by simp)).trans (heap_alloc_new w2 _)
         have hB3 : Below w.heap.size w w3 := (hB2.alloc hB2.size _).trans (hb3.mono (Nat.le_trans hB2.size (by simp)))
         have d0 := (cell_of_row w3 _ 0 _ _ (0, 0) hn3).trans rfl
         have d1 := (cell_of_row w3 _ 1 _ _ (0, 0) hn3).trans rfl
         clear hb3 hn3))
    go_ret
    exact ⟨rfl, hB3⟩
  | ok n k =>
    have hk := numR_len hR
    have hnw : MF.W64 n := numR_w hR
    unfold MF.W64 at hnw
    have hr : ∀ (wx : World), Below w.heap.size w wx → Calls Try.prog 19 #[.slice A k c, .string ⟨#[117]⟩, .int .i64 0] wx (fun e w' => Below wx.heap.size wx w' ∧ ∃ g c', e = .returned (.tuple #[.slice (some ⟨g, 0, none⟩) 1 c', .int .i64 0, .int .i64 0]) ∧ w'.cell? ⟨g, 1, none⟩ = some (.int .u64 n)) := by
      intro wx hbx
      have hle : (xs.take k).length = k := by rw [List.length_take]; omega
      refine (rread_u A c k (xs.take k) _ wx (bts_take (HB.out.below hbx) k) (hlx.le (by omega)) (by omega) hle (numR_take hR)).mono ?_
      rintro e w' ⟨hb1, hx⟩
      replace hx : if (xs.take k).drop k = [] then _ else _ := hx
      rw [if_pos (List.drop_eq_nil_of_le (by omega))] at hx
      exact ⟨hb1, hx⟩
    have hr3 : k < xs.length → ∀ (wx : World), Below w.heap.size w wx → Calls Try.prog 19 #[.slice A xs.length c, .string ⟨#[117]⟩, .int .i64 0] wx (fun e w' => Below wx.heap.size wx w' ∧ e = .returned (.tuple #[.slice none 0 0, .int .i64 3, .int .i64 k])) := by
      intro hlt wx hbx
      refine (rread_u A c xs.length xs _ wx (HB.out.below hbx) hlx hcap rfl hR).mono ?_
      rintro e w' ⟨hb1, hx⟩
      replace hx : if xs.drop k = [] then _ else _ := hx
      rw [if_neg (by intro e; have := congrArg List.length e; rw [List.length_drop] at this; simp at this; omega)] at hx
      exact ⟨hb1, hx⟩
    have Hr := Lib.hid hr
    have Hr3 := Lib.hid hr3
    have hkc : k ≤ c := by omega
    have hsl := slice_to A xs.length c k hkc
    have hu : uptoR m xs = if tooB n m = true then .bad 1 k else .ok n k := by unfold uptoR; rw [hR]
    clear hr hr3 hR hm hkc
    have hwn : ¬ (m.toNat < n) → IntKind.u64.wrap (n : Int) = (n : Int) := fun _ => by rw [IntKind.wrap_u64]; omega
    have hwm : 0 ≤ m → IntKind.u64.wrap m = m := fun _ => by rw [IntKind.wrap_u64]; omega
    have htb : tooB n m = decide (m.toNat < n) := rfl
    by_cases ht : m.toNat < n
    · rw [htb, decide_eq_true ht, if_pos rfl] at hu
      rw [hu] at hf
      have Hf := Lib.hid hf
      clear hf hu hwn htb
      by_cases h0 : 0 ≤ m
      · have hw := hwm h0
        have hti : m < (n : Int) := by omega
        clear hwm
        rcases Nat.lt_or_ge k xs.length with hkl | hkl
        · go_enter Try.func9, Try.ntmps9
          go_wp2_with (first
            | (go_at_call 12; refine (speaks_any _).mono ?_; rintro e w1 ⟨rfl, hb1⟩)
            | (go_at_call 29; refine (Hf.out _ hb1).mono ?_; rintro e w2 ⟨hb2, rfl⟩; have hB2 : Below w.heap.size w w2 := hb1.trans (hb2.mono hb1.size))
            | (go_at_call_of 19 (Value.slice A xs.length c)
               refine (Hr3.out hkl _ (hB2.alloc hB2.size _)).mono ?_
               rintro e w3 ⟨hb3, rfl⟩
               have hn3 := (hb3.block w2.heap.size (by simp)).trans (heap_alloc_new w2 _)
               have hB3 : Below w.heap.size w w3 := (hB2.alloc hB2.size _).trans (hb3.mono (Nat.le_trans hB2.size (by simp)))
               clear hb3)
            | (go_at_call_of 19 (Value.slice A k c)
               refine (Hr.out _ hB3).mono ?_
               rintro e w4 ⟨hb4, g, c4, rfl, hg⟩
               have hn4 := (hb4.block w2.heap.size (Array.getElem?_eq_some_iff.1 hn3).1).trans hn3
               have hB4 : Below w.heap.size w w4 := hB3.trans (hb4.mono hB3.size)
               have d0 := (cell_of_row w4 _ 0 _ _ (0, 0) hn4).trans rfl
               have d1 := (cell_of_row w4 _ 1 _ _ (0, 0) hn4).trans rfl
               clear hb4 hn4 hn3))
          go_ret
          exact ⟨rfl, hB4⟩
        · obtain rfl : k = xs.length := by omega
          go_enter Try.func9, Try.ntmps9
          go_wp2_with (first
            | (go_at_call 12; refine (speaks_any _).mono ?_; rintro e w1 ⟨rfl, hb1⟩)
            | (go_at_call 29; refine (Hf.out _ hb1).mono ?_; rintro e w2 ⟨hb2, rfl⟩; have hB2 : Below w.heap.size w w2 := hb1.trans (hb2.mono hb1.size))
            | (go_at_call 19
               refine (Hr.out _ (hB2.alloc hB2.size _)).mono ?_
               rintro e w4 ⟨hb4, g, c4, rfl, hg⟩
               have hn4 := (hb4.block w2.heap.size (by simp)).trans (heap_alloc_new w2 _)
               have hB4 : Below w.heap.size w w4 := (hB2.alloc hB2.size _).trans (hb4.mono (Nat.le_trans hB2.size (by simp)))
               have d0 := (cell_of_row w4 _ 0 _ _ (0, 0) hn4).trans rfl
               have d1 := (cell_of_row w4 _ 1 _ _ (0, 0) hn4).trans rfl
               clear hb4 hn4))
          go_ret
          exact ⟨rfl, hB4⟩
      · have hti : (0 : Int) < (n : Int) := by omega
        have hti' : 0 < n := by omega
        clear hwm
        rcases Nat.lt_or_ge k xs.length with hkl | hkl
        · go_enter Try.func9, Try.ntmps9
          go_wp2_with (first
            | (go_at_call 12; refine (speaks_any _).mono ?_; rintro e w1 ⟨rfl, hb1⟩)
            | (go_at_call 29; refine (Hf.out _ hb1).mono ?_; rintro e w2 ⟨hb2, rfl⟩; have hB2 : Below w.heap.size w w2 := hb1.trans (hb2.mono hb1.size))
            | (go_at_call_of 19 (Value.slice A xs.length c)
               refine (Hr3.out hkl _ (hB2.alloc hB2.size _)).mono ?_
               rintro e w3 ⟨hb3, rfl⟩
               have hn3 := (hb3.block w2.heap.size (by simp)).trans (heap_alloc_new w2 _)
               have hB3 : Below w.heap.size w w3 := (hB2.alloc hB2.size _).trans (hb3.mono (Nat.le_trans hB2.size (by simp)))
               clear hb3)
            | (go_at_call_of 19 (Value.slice A k c)
               refine (Hr.out _ hB3).mono ?_
               rintro e w4 ⟨hb4, g, c4, rfl, hg⟩
               have hn4 := (hb4.block w2.heap.size (Array.getElem?_eq_some_iff.1 hn3).1).trans hn3
               have hB4 : Below w.heap.size w w4 := hB3.trans (hb4.mono hB3.size)
               have d0 := (cell_of_row w4 _ 0 _ _ (0, 0) hn4).trans rfl
               have d1 := (cell_of_row w4 _ 1 _ _ (0, 0) hn4).trans rfl
               clear hb4 hn4 hn3))
          go_ret
          exact ⟨rfl, hB4⟩
        · obtain rfl : k = xs.length := by omega
          go_enter Try.func9, Try.ntmps9
          go_wp2_with (first
            | (go_at_call 12; refine (speaks_any _).mono ?_; rintro e w1 ⟨rfl, hb1⟩)
            | (go_at_call 29; refine (Hf.out _ hb1).mono ?_; rintro e w2 ⟨hb2, rfl⟩; have hB2 : Below w.heap.size w w2 := hb1.trans (hb2.mono hb1.size))
            | (go_at_call 19
               refine (Hr.out _ (hB2.alloc hB2.size _)).mono ?_
               rintro e w4 ⟨hb4, g, c4, rfl, hg⟩
               have hn4 := (hb4.block w2.heap.size (by simp)).trans (heap_alloc_new w2 _)
               have hB4 : Below w.heap.size w w4 := (hB2.alloc hB2.size _).trans (hb4.mono (Nat.le_trans hB2.size (by simp)))
               have d0 := (cell_of_row w4 _ 0 _ _ (0, 0) hn4).trans rfl
               have d1 := (cell_of_row w4 _ 1 _ _ (0, 0) hn4).trans rfl
               clear hb4 hn4))
          go_ret
          exact ⟨rfl, hB4⟩
    · rw [htb, decide_eq_false ht, if_neg (by simp)] at hu
      rw [hu] at hf
      have Hf := Lib.hid hf
      have hwn' := hwn ht
      clear hf hu hwn htb
      by_cases h0 : 0 ≤ m
      · have hw := hwm h0
        have hti : ¬ m < (n : Int) := by omega
        clear hwm
        rcases Nat.lt_or_ge k xs.length with hkl | hkl
        · go_enter Try.func9, Try.ntmps9
          go_wp2_with (first
            | (go_at_call 12; refine (speaks_any _).mono ?_; rintro e w1 ⟨rfl, hb1⟩)
            | (go_at_call 29; refine (Hf.out _ hb1).mono ?_; rintro e w2 ⟨hb2, rfl⟩; have hB2 : Below w.heap.size w w2 := hb1.trans (hb2.mono hb1.size))
            | (go_at_call_of 19 (Value.slice A xs.length c)
               refine (Hr3.out hkl _ (hB2.alloc hB2.size _)).mono ?_
               rintro e w3 ⟨hb3, rfl⟩
               have hn3 := (hb3.block w2.heap.size (by simp)).trans (heap_alloc_new w2 _)
               have hB3 : Below w.heap.size w w3 := (hB2.alloc hB2.size _).trans (hb3.mono (Nat.le_trans hB2.size (by simp)))
               clear hb3)
            | (go_at_call_of 19 (Value.slice A k c)
               refine (Hr.out _ hB3).mono ?_
               rintro e w4 ⟨hb4, g, c4, rfl, hg⟩
               have hn4 := (hb4.block w2.heap.size (Array.getElem?_eq_some_iff.1 hn3).1).trans hn3
               have hB4 : Below w.heap.size w w4 := hB3.trans (hb4.mono hB3.size)
               have d0 := (cell_of_row w4 _ 0 _ _ (0, 0) hn4).trans rfl
               have d1 := (cell_of_row w4 _ 1 _ _ (0, 0) hn4).trans rfl
               clear hb4 hn4 hn3))
          go_ret
          exact ⟨rfl, hB4⟩
        · obtain rfl : k = xs.length := by omega
          go_enter Try.func9, Try.ntmps9
          go_wp2_with (first
            | (go_at_call 12; refine (speaks_any _).mono ?_; rintro e w1 ⟨rfl, hb1⟩)
            | (go_at_call 29; refine (Hf.out _ hb1).mono ?_; rintro e w2 ⟨hb2, rfl⟩; have hB2 : Below w.heap.size w w2 := hb1.trans (hb2.mono hb1.size))
            | (go_at_call 19
               refine (Hr.out _ (hB2.alloc hB2.size _)).mono ?_
               rintro e w4 ⟨hb4, g, c4, rfl, hg⟩
               have hn4 := (hb4.block w2.heap.size (by simp)).trans (heap_alloc_new w2 _)
               have hB4 : Below w.heap.size w w4 := (hB2.alloc hB2.size _).trans (hb4.mono (Nat.le_trans hB2.size (by simp)))
               have d0 := (cell_of_row w4 _ 0 _ _ (0, 0) hn4).trans rfl
               have d1 := (cell_of_row w4 _ 1 _ _ (0, 0) hn4).trans rfl
               clear hb4 hn4))
          go_ret
          exact ⟨rfl, hB4⟩
      · have hti : n = 0 := by omega
        subst hti
        clear hwm
        rcases Nat.lt_or_ge k xs.length with hkl | hkl
        · go_enter Try.func9, Try.ntmps9
          go_wp2_with (first
            | (go_at_call 12; refine (speaks_any _).mono ?_; rintro e w1 ⟨rfl, hb1⟩)
            | (go_at_call 29; refine (Hf.out _ hb1).mono ?_; rintro e w2 ⟨hb2, rfl⟩; have hB2 : Below w.heap.size w w2 := hb1.trans (hb2.mono hb1.size))
            | (go_at_call_of 19 (Value.slice A xs.length c)
               refine (Hr3.out hkl _ (hB2.alloc hB2.size _)).mono ?_
               rintro e w3 ⟨hb3, rfl⟩
               have hn3 := (hb3.block w2.heap.size (by simp)).trans (heap_alloc_new w2 _)
               have hB3 : Below w.heap.size w w3 := (hB2.alloc hB2.size _).trans (hb3.mono (Nat.le_trans hB2.size (by simp)))
               clear hb3)
            | (go_at_call_of 19 (Value.slice A k c)
               refine (Hr.out _ hB3).mono ?_
               rintro e w4 ⟨hb4, g, c4, rfl, hg⟩
               have hn4 := (hb4.block w2.heap.size (Array.getElem?_eq_some_iff.1 hn3).1).trans hn3
               have hB4 : Below w.heap.size w w4 := hB3.trans (hb4.mono hB3.size)
               have d0 := (cell_of_row w4 _ 0 _ _ (0, 0) hn4).trans rfl
               have d1 := (cell_of_row w4 _ 1 _ _ (0, 0) hn4).trans rfl
               clear hb4 hn4 hn3))
          go_ret
          exact ⟨rfl, hB4⟩
        · obtain rfl : k = xs.length := by omega
          go_enter Try.func9, Try.ntmps9
          go_wp2_with (first
            | (go_at_call 12; refine (speaks_any _).mono ?_; rintro e w1 ⟨rfl, hb1⟩)
            | (go_at_call 29; refine (Hf.out _ hb1).mono ?_; rintro e w2 ⟨hb2, rfl⟩; have hB2 : Below w.heap.size w w2 := hb1.trans (hb2.mono hb1.size))
            | (go_at_call 19
               refine (Hr.out _ (hB2.alloc hB2.size _)).mono ?_
               rintro e w4 ⟨hb4, g, c4, rfl, hg⟩
               have hn4 := (hb4.block w2.heap.size (by simp)).trans (heap_alloc_new w2 _)
               have hB4 : Below w.heap.size w w4 := (hB2.alloc hB2.size _).trans (hb4.mono (Nat.le_trans hB2.size (by simp)))
               have d0 := (cell_of_row w4 _ 0 _ _ (0, 0) hn4).trans rfl
               have d1 := (cell_of_row w4 _ 1 _ _ (0, 0) hn4).trans rfl
               clear hb4 hn4))
          go_ret
          exact ⟨rfl, hB4⟩

end Go.Proofs.Ytmfjacehompmmaa
