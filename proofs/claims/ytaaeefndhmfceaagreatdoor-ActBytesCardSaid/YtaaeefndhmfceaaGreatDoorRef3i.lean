/- Contracts of the document's own answers for layer 3: a record as parts. -/
import Derived.Test.YtaaeefndhmfceaaGreatDoorRef3h
import Derived.Deep.RegionHeld3
namespace Go.Proofs.YtaaeefndhmfceaaGreatDoor
open Go.RowKit MM

theorem src_newn {P : Program} {size : Nat} {tx e' t : TypeId} (hk : P.underlying tx = some (.slice e')) (w : World) (cs : Array Value) (n k : Nat) (hw : k = w.heap.size) (hl : cs.size = n * size) (h1 : ∀ u ∈ cs.toList, u.oneCell' = true) :
    Src P size tx (.slice (some ⟨k, 0, none⟩) n n) n cs.toList (w.alloc (.cells cs t)) := by
  subst hw
  exact Src.ofSlice _ hk _ n n cs.toList (by simp [hl]) (fun j u hu => by
    rw [show (⟨w.heap.size, 0, none⟩ : Addr).add j = ⟨w.heap.size, j, none⟩ from by unfold Addr.add; split <;> simp_all]
    rw [cell_of_row _ w.heap.size j cs t (0, 0) (heap_alloc_new w _)]
    simpa using hu) h1

/-- New parts of the document's. -/
def FreshR (qs : List PK.Rp) (w : World) (e : Ending) (w' : World) : Prop :=
  ∃ A c, e = .returned (.slice A qs.length c) ∧ w'.ownsRow 0 115 6 (.slice A qs.length c) qs.length (rpCells qs) ∧ (∀ k, ob A = some k → w.heap.size ≤ k) ∧ Below w.heap.size w w'
theorem FreshR.mk {qs : List PK.Rp} {w w' : World} {A : Option Addr} {c n : Nat} {zs : List Value} (hn : n = qs.length) (hz : zs = rpCells qs) (ho : w'.ownsRow 0 115 6 (.slice A n c) n zs) (hk : ∀ k, ob A = some k → w.heap.size ≤ k) (hb : Below w.heap.size w w') : FreshR qs w (.returned (.slice A n c)) w' := by
  subst hn hz
  exact ⟨A, c, rfl, ho, hk, hb⟩
theorem one6 (a b c d e f : Value) (ha : a.oneCell' = true) (hb : b.oneCell' = true) (hc : c.oneCell' = true) (hd : d.oneCell' = true) (he : e.oneCell' = true) (hf : f.oneCell' = true) : ∀ u ∈ (#[a, b, c, d, e, f] : Array Value).toList, u.oneCell' = true := by
  intro u hu
  simp at hu
  rcases hu with rfl | rfl | rfl | rfl | rfl | rfl <;> assumption
/-- Behind an append to what was new. -/
theorem new_grown {w wm w3 : World} {A A3 : Option Addr} (hb : Below w.heap.size w wm) (hA : ∀ k, ob A = some k → w.heap.size ≤ k) (hg : wm.grownBy w3 (ob A)) (hat : ob A3 = ob A ∨ ob A3 = some wm.heap.size) : Below w.heap.size w w3 ∧ ∀ k, ob A3 = some k → w.heap.size ≤ k := by
  refine ⟨hb.grown hg hb.size (fun k e => hA k e), fun k e => ?_⟩
  rcases hat with h | h
  · rw [h] at e; exact hA k e
  · rw [h] at e; injection e with e; have := hb.size; omega

set_option maxHeartbeats 4000000 in
set_option maxRecDepth 100000 in
theorem rparts_1 (n l h : Int) (x : Nat) (cap : Int) (t : ByteArray) (s : List RC.It) (A : Option Addr) (c : Nat) (w : World) :
    Calls Tryz.prog 84 #[recV ⟨1, n, l, h, x, cap, t, s⟩ A c] w (FreshR (recP ⟨1, n, l, h, x, cap, t, s⟩) w) := by
  obtain ⟨i0, hi0, hz0, hz1, hz2⟩ := info_parts rpart_info
  go_enter Tryz.func84, Tryz.ntmps84
  go_wp2_with fail
  refine (ru3_any 1 _ (by omega)).mono ?_
  rintro e w1 ⟨rfl, hb1⟩
  have e0 := (hb1.block w.heap.size (by simp)).trans (heap_alloc_new w _)
  have hlt : w.heap.size < w1.heap.size := lt_of_heap e0
  have HB1 := Lib.hid (show Below w.heap.size w w1 from (below1 w _).trans (hb1.mono (by simp)))
  have c0 := fun o => cell_of_row w1 _ o _ _ (0, 0) e0
  have E0 := Lib.hid e0
  have ho := World.ownsRow_lit (base := 0) (e := 115) (size := 6) w1 #[.int .u8 117, .int .u64 1, .int .i64 0, .int .u64 0, .string ⟨#[]⟩, .bool false] 1 (Nat.zero_le _) (by decide) rfl
  have Ho := Lib.hid ho
  clear hb1 e0 ho
  go_wp2_with fail
  refine (rs3_any t _).mono ?_
  rintro e w2 ⟨rfl, hb2⟩
  have Ho2 := Lib.hid (own_below Ho.out hb2)
  have HB2 := Lib.hid (show Below w.heap.size w w2 from (HB1.out.alloc HB1.out.size _).trans (hb2.mono (by have := HB1.out.size; simp; omega)))
  have HBm := Lib.hid (fun o => HB2.out.alloc HB2.out.size o)
  clear hb2 Ho
  go_wp2_with (first
    | (at_builtin
       refine wpList_append_at rfl _ _ _ _ rfl 115 i0 _ 6 56 Tryz.underlying73 hi0 hz0 hz1 hz2 rfl (some ⟨w1.heap.size, 0, none⟩) 1 1 _ rfl (Ho2.out.alloc _) _ 1 _ rfl (src_newn Tryz.underlying73 _ _ 1 _ rfl rfl (one6 _ _ _ _ _ _ rfl rfl rfl rfl rfl rfl)) (by unfold maxLen; omega) (by omega) ?_
       intro A3 c3 w3 ho3 hg3 hat3))
  obtain ⟨hB3, hN3⟩ := new_grown (HBm.out _) (fun k e => by injection e with e; have e' : w1.heap.size = k := e; omega) hg3 hat3
  go_ret
  exact FreshR.mk rfl rfl ho3 hN3 hB3

set_option maxHeartbeats 4000000 in
set_option maxRecDepth 100000 in
theorem rparts_2 (n l h : Int) (x : Nat) (cap : Int) (t : ByteArray) (s : List RC.It) (A : Option Addr) (c : Nat) (w : World) :
    Calls Tryz.prog 84 #[recV ⟨2, n, l, h, x, cap, t, s⟩ A c] w (FreshR (recP ⟨2, n, l, h, x, cap, t, s⟩) w) := by
  obtain ⟨i0, hi0, hz0, hz1, hz2⟩ := info_parts rpart_info
  go_enter Tryz.func84, Tryz.ntmps84
  go_wp2_with fail
  refine (ru3_any 2 _ (by omega)).mono ?_
  rintro e w1 ⟨rfl, hb1⟩
  have e0 := (hb1.block w.heap.size (by simp)).trans (heap_alloc_new w _)
  have hlt : w.heap.size < w1.heap.size := lt_of_heap e0
  have HB1 := Lib.hid (show Below w.heap.size w w1 from (below1 w _).trans (hb1.mono (by simp)))
  have c0 := fun o => cell_of_row w1 _ o _ _ (0, 0) e0
  have E0 := Lib.hid e0
  have ho := World.ownsRow_lit (base := 0) (e := 115) (size := 6) w1 #[.int .u8 117, .int .u64 2, .int .i64 0, .int .u64 0, .string ⟨#[]⟩, .bool false] 1 (Nat.zero_le _) (by decide) rfl
  have Ho := Lib.hid ho
  clear hb1 e0 ho
  go_wp2_with fail
  refine (ri3_any n _).mono ?_
  rintro e w2 ⟨rfl, hb2⟩
  have Ho2 := Lib.hid (own_below Ho.out hb2)
  have HB2 := Lib.hid (show Below w.heap.size w w2 from (HB1.out.alloc HB1.out.size _).trans (hb2.mono (by have := HB1.out.size; simp; omega)))
  have HBm := Lib.hid (fun o => HB2.out.alloc HB2.out.size o)
  clear hb2 Ho
  go_wp2_with (first
    | (at_builtin
       refine wpList_append_at rfl _ _ _ _ rfl 115 i0 _ 6 56 Tryz.underlying73 hi0 hz0 hz1 hz2 rfl (some ⟨w1.heap.size, 0, none⟩) 1 1 _ rfl (Ho2.out.alloc _) _ 1 _ rfl (src_newn Tryz.underlying73 _ _ 1 _ rfl rfl (one6 _ _ _ _ _ _ rfl rfl rfl rfl rfl rfl)) (by unfold maxLen; omega) (by omega) ?_
       intro A3 c3 w3 ho3 hg3 hat3))
  obtain ⟨hB3, hN3⟩ := new_grown (HBm.out _) (fun k e => by injection e with e; have e' : w1.heap.size = k := e; omega) hg3 hat3
  go_ret
  exact FreshR.mk rfl rfl ho3 hN3 hB3

set_option maxHeartbeats 4000000 in
set_option maxRecDepth 100000 in
theorem rparts_3 (n l h : Int) (x : Nat) (cap : Int) (t : ByteArray) (s : List RC.It) (A : Option Addr) (c : Nat) (w : World) :
    Calls Tryz.prog 84 #[recV ⟨3, n, l, h, x, cap, t, s⟩ A c] w (FreshR (recP ⟨3, n, l, h, x, cap, t, s⟩) w) := by
  obtain ⟨i0, hi0, hz0, hz1, hz2⟩ := info_parts rpart_info
  go_enter Tryz.func84, Tryz.ntmps84
  go_wp2_with fail
  refine (ru3_any 3 _ (by omega)).mono ?_
  rintro e w1 ⟨rfl, hb1⟩
  have e0 := (hb1.block w.heap.size (by simp)).trans (heap_alloc_new w _)
  have hlt : w.heap.size < w1.heap.size := lt_of_heap e0
  have HB1 := Lib.hid (show Below w.heap.size w w1 from (below1 w _).trans (hb1.mono (by simp)))
  have c0 := fun o => cell_of_row w1 _ o _ _ (0, 0) e0
  have E0 := Lib.hid e0
  have ho := World.ownsRow_lit (base := 0) (e := 115) (size := 6) w1 #[.int .u8 117, .int .u64 3, .int .i64 0, .int .u64 0, .string ⟨#[]⟩, .bool false] 1 (Nat.zero_le _) (by decide) rfl
  have Ho := Lib.hid ho
  clear hb1 e0 ho
  go_wp2_with fail
  refine (ri3_any n _).mono ?_
  rintro e w2 ⟨rfl, hb2⟩
  have Ho2 := Lib.hid (own_below Ho.out hb2)
  have HB2 := Lib.hid (show Below w.heap.size w w2 from (HB1.out.alloc HB1.out.size _).trans (hb2.mono (by have := HB1.out.size; simp; omega)))
  have HBm := Lib.hid (fun o => HB2.out.alloc HB2.out.size o)
  clear hb2 Ho
  go_wp2_with (first
    | (at_builtin
       refine wpList_append_at rfl _ _ _ _ rfl 115 i0 _ 6 56 Tryz.underlying73 hi0 hz0 hz1 hz2 rfl (some ⟨w1.heap.size, 0, none⟩) 1 1 _ rfl (Ho2.out.alloc _) _ 1 _ rfl (src_newn Tryz.underlying73 _ _ 1 _ rfl rfl (one6 _ _ _ _ _ _ rfl rfl rfl rfl rfl rfl)) (by unfold maxLen; omega) (by omega) ?_
       intro A3 c3 w3 ho3 hg3 hat3))
  obtain ⟨hB3, hN3⟩ := new_grown (HBm.out _) (fun k e => by injection e with e; have e' : w1.heap.size = k := e; omega) hg3 hat3
  go_ret
  exact FreshR.mk rfl rfl ho3 hN3 hB3

set_option maxHeartbeats 4000000 in
set_option maxRecDepth 100000 in
theorem rparts_5 (n l h : Int) (x : Nat) (cap : Int) (t : ByteArray) (s : List RC.It) (A : Option Addr) (c : Nat) (w : World) (hx : MF.W64 x) :
    Calls Tryz.prog 84 #[recV ⟨5, n, l, h, x, cap, t, s⟩ A c] w (FreshR (recP ⟨5, n, l, h, x, cap, t, s⟩) w) := by
  obtain ⟨i0, hi0, hz0, hz1, hz2⟩ := info_parts rpart_info
  go_enter Tryz.func84, Tryz.ntmps84
  go_wp2_with fail
  refine (ru3_any 5 _ (by omega)).mono ?_
  rintro e w1 ⟨rfl, hb1⟩
  have e0 := (hb1.block w.heap.size (by simp)).trans (heap_alloc_new w _)
  have hlt : w.heap.size < w1.heap.size := lt_of_heap e0
  have HB1 := Lib.hid (show Below w.heap.size w w1 from (below1 w _).trans (hb1.mono (by simp)))
  have c0 := fun o => cell_of_row w1 _ o _ _ (0, 0) e0
  have E0 := Lib.hid e0
  have ho := World.ownsRow_lit (base := 0) (e := 115) (size := 6) w1 #[.int .u8 117, .int .u64 5, .int .i64 0, .int .u64 0, .string ⟨#[]⟩, .bool false] 1 (Nat.zero_le _) (by decide) rfl
  have Ho := Lib.hid ho
  clear hb1 e0 ho
  go_wp2_with fail
  refine (rf3_any x _ hx).mono ?_
  rintro e w2 ⟨rfl, hb2⟩
  have Ho2 := Lib.hid (own_below Ho.out hb2)
  have HB2 := Lib.hid (show Below w.heap.size w w2 from (HB1.out.alloc HB1.out.size _).trans (hb2.mono (by have := HB1.out.size; simp; omega)))
  have HBm := Lib.hid (fun o => HB2.out.alloc HB2.out.size o)
  clear hb2 Ho
  go_wp2_with (first
    | (at_builtin
       refine wpList_append_at rfl _ _ _ _ rfl 115 i0 _ 6 56 Tryz.underlying73 hi0 hz0 hz1 hz2 rfl (some ⟨w1.heap.size, 0, none⟩) 1 1 _ rfl (Ho2.out.alloc _) _ 1 _ rfl (src_newn Tryz.underlying73 _ _ 1 _ rfl rfl (one6 _ _ _ _ _ _ rfl rfl rfl rfl rfl rfl)) (by unfold maxLen; omega) (by omega) ?_
       intro A3 c3 w3 ho3 hg3 hat3))
  obtain ⟨hB3, hN3⟩ := new_grown (HBm.out _) (fun k e => by injection e with e; have e' : w1.heap.size = k := e; omega) hg3 hat3
  go_ret
  exact FreshR.mk rfl rfl ho3 hN3 hB3

set_option maxHeartbeats 4000000 in
set_option maxRecDepth 100000 in
theorem rparts_6 (n l h : Int) (x : Nat) (cap : Int) (t : ByteArray) (s : List RC.It) (A : Option Addr) (c : Nat) (w : World) (hx : MF.W64 x) :
    Calls Tryz.prog 84 #[recV ⟨6, n, l, h, x, cap, t, s⟩ A c] w (FreshR (recP ⟨6, n, l, h, x, cap, t, s⟩) w) := by
  obtain ⟨i0, hi0, hz0, hz1, hz2⟩ := info_parts rpart_info
  go_enter Tryz.func84, Tryz.ntmps84
  go_wp2_with fail
  refine (ru3_any 6 _ (by omega)).mono ?_
  rintro e w1 ⟨rfl, hb1⟩
  have e0 := (hb1.block w.heap.size (by simp)).trans (heap_alloc_new w _)
  have hlt : w.heap.size < w1.heap.size := lt_of_heap e0
  have HB1 := Lib.hid (show Below w.heap.size w w1 from (below1 w _).trans (hb1.mono (by simp)))
  have c0 := fun o => cell_of_row w1 _ o _ _ (0, 0) e0
  have E0 := Lib.hid e0
  have ho := World.ownsRow_lit (base := 0) (e := 115) (size := 6) w1 #[.int .u8 117, .int .u64 6, .int .i64 0, .int .u64 0, .string ⟨#[]⟩, .bool false] 1 (Nat.zero_le _) (by decide) rfl
  have Ho := Lib.hid ho
  clear hb1 e0 ho
  go_wp2_with fail
  refine (rf3_any x _ hx).mono ?_
  rintro e w2 ⟨rfl, hb2⟩
  have Ho2 := Lib.hid (own_below Ho.out hb2)
  have HB2 := Lib.hid (show Below w.heap.size w w2 from (HB1.out.alloc HB1.out.size _).trans (hb2.mono (by have := HB1.out.size; simp; omega)))
  have HBm := Lib.hid (fun o => HB2.out.alloc HB2.out.size o)
  clear hb2 Ho
  go_wp2_with (first
    | (at_builtin
       refine wpList_append_at rfl _ _ _ _ rfl 115 i0 _ 6 56 Tryz.underlying73 hi0 hz0 hz1 hz2 rfl (some ⟨w1.heap.size, 0, none⟩) 1 1 _ rfl (Ho2.out.alloc _) _ 1 _ rfl (src_newn Tryz.underlying73 _ _ 1 _ rfl rfl (one6 _ _ _ _ _ _ rfl rfl rfl rfl rfl rfl)) (by unfold maxLen; omega) (by omega) ?_
       intro A3 c3 w3 ho3 hg3 hat3))
  obtain ⟨hB3, hN3⟩ := new_grown (HBm.out _) (fun k e => by injection e with e; have e' : w1.heap.size = k := e; omega) hg3 hat3
  go_ret
  exact FreshR.mk rfl rfl ho3 hN3 hB3

set_option maxHeartbeats 4000000 in
set_option maxRecDepth 100000 in
theorem rparts_7 (n l h : Int) (x : Nat) (cap : Int) (t : ByteArray) (s : List RC.It) (A : Option Addr) (c : Nat) (w : World) (hx : MF.W64 x) :
    Calls Tryz.prog 84 #[recV ⟨7, n, l, h, x, cap, t, s⟩ A c] w (FreshR (recP ⟨7, n, l, h, x, cap, t, s⟩) w) := by
  obtain ⟨i0, hi0, hz0, hz1, hz2⟩ := info_parts rpart_info
  go_enter Tryz.func84, Tryz.ntmps84
  go_wp2_with fail
  refine (ru3_any 7 _ (by omega)).mono ?_
  rintro e w1 ⟨rfl, hb1⟩
  have e0 := (hb1.block w.heap.size (by simp)).trans (heap_alloc_new w _)
  have hlt : w.heap.size < w1.heap.size := lt_of_heap e0
  have HB1 := Lib.hid (show Below w.heap.size w w1 from (below1 w _).trans (hb1.mono (by simp)))
  have c0 := fun o => cell_of_row w1 _ o _ _ (0, 0) e0
  have E0 := Lib.hid e0
  have ho := World.ownsRow_lit (base := 0) (e := 115) (size := 6) w1 #[.int .u8 117, .int .u64 7, .int .i64 0, .int .u64 0, .string ⟨#[]⟩, .bool false] 1 (Nat.zero_le _) (by decide) rfl
  have Ho := Lib.hid ho
  clear hb1 e0 ho
  go_wp2_with fail
  refine (rf3_any x _ hx).mono ?_
  rintro e w2 ⟨rfl, hb2⟩
  have Ho2 := Lib.hid (own_below Ho.out hb2)
  have HB2 := Lib.hid (show Below w.heap.size w w2 from (HB1.out.alloc HB1.out.size _).trans (hb2.mono (by have := HB1.out.size; simp; omega)))
  have HBm := Lib.hid (fun o => HB2.out.alloc HB2.out.size o)
  clear hb2 Ho
  go_wp2_with (first
    | (at_builtin
       refine wpList_append_at rfl _ _ _ _ rfl 115 i0 _ 6 56 Tryz.underlying73 hi0 hz0 hz1 hz2 rfl (some ⟨w1.heap.size, 0, none⟩) 1 1 _ rfl (Ho2.out.alloc _) _ 1 _ rfl (src_newn Tryz.underlying73 _ _ 1 _ rfl rfl (one6 _ _ _ _ _ _ rfl rfl rfl rfl rfl rfl)) (by unfold maxLen; omega) (by omega) ?_
       intro A3 c3 w3 ho3 hg3 hat3))
  obtain ⟨hB3, hN3⟩ := new_grown (HBm.out _) (fun k e => by injection e with e; have e' : w1.heap.size = k := e; omega) hg3 hat3
  go_ret
  exact FreshR.mk rfl rfl ho3 hN3 hB3

theorem alloc_keep {w : World} {a : Addr} {v : Value} (h : w.cell? a = some v) (o : Obj) : (w.alloc o).cell? a = some v := below_keep (below1 w o) h
theorem grown_keep {wm w3 : World} {g : Nat} {a : Addr} {v : Value} (hg : wm.grownBy w3 (some g)) (h : wm.cell? a = some v) (hn : a.block ≠ g) : w3.cell? a = some v :=
  (Kp.grown (S := fun k => k = g) (Kp.refl _ wm) hg (fun k e => .inl (by injection e with e; exact e.symm))).cell h hn

set_option maxHeartbeats 4000000 in
set_option maxRecDepth 100000 in
theorem rparts_4 (n l h : Int) (x : Nat) (cap : Int) (t : ByteArray) (s : List RC.It) (A : Option Addr) (c : Nat) (w : World) :
    Calls Tryz.prog 84 #[recV ⟨4, n, l, h, x, cap, t, s⟩ A c] w (FreshR (recP ⟨4, n, l, h, x, cap, t, s⟩) w) := by
  obtain ⟨i0, hi0, hz0, hz1, hz2⟩ := info_parts rpart_info
  go_enter Tryz.func84, Tryz.ntmps84
  go_wp2_with fail
  refine (ru3_any 4 _ (by omega)).mono ?_
  rintro e w1 ⟨rfl, hb1⟩
  have e0 := (hb1.block w.heap.size (by simp)).trans (heap_alloc_new w _)
  have hlt : w.heap.size < w1.heap.size := lt_of_heap e0
  have HB1 := Lib.hid (show Below w.heap.size w w1 from (below1 w _).trans (hb1.mono (by simp)))
  have c0 := fun o => cell_of_row w1 _ o _ _ (0, 0) e0
  have E0 := Lib.hid e0
  have ho := World.ownsRow_lit (base := 0) (e := 115) (size := 6) w1 #[.int .u8 117, .int .u64 4, .int .i64 0, .int .u64 0, .string ⟨#[]⟩, .bool false] 1 (Nat.zero_le _) (by decide) rfl
  have Ho := Lib.hid ho
  clear hb1 e0 ho
  go_wp2_with fail
  generalize hwz : w1.alloc _ = wz
  have Hoz := Lib.hid (show wz.ownsRow 0 115 6 (.slice (some ⟨w1.heap.size, 0, none⟩) 1 1) 1 [.int .u8 117, .int .u64 4, .int .i64 0, .int .u64 0, .string ⟨#[]⟩, .bool false] by rw [← hwz]; exact Ho.out)
  have hbz : Below w1.heap.size w1 wz := by rw [← hwz]; exact below1 w1 _
  have HBz := Lib.hid (HB1.out.trans (hbz.mono HB1.out.size))
  have ez := (hbz.block _ hlt).trans E0.out
  have Ez := Lib.hid ez
  have f1 : wz.cell? ⟨w.heap.size, 1, none⟩ = some (.int .i64 n) := (cell_of_row wz _ 1 _ _ (0, 0) ez).trans rfl
  have f2 : wz.cell? ⟨w.heap.size, 2, none⟩ = some (.int .i64 l) := (cell_of_row wz _ 2 _ _ (0, 0) ez).trans rfl
  have f3 : wz.cell? ⟨w.heap.size, 3, none⟩ = some (.int .i64 h) := (cell_of_row wz _ 3 _ _ (0, 0) ez).trans rfl
  clear hwz hbz ez c0 Ho
  have hnz : w.heap.size ≠ w1.heap.size := by omega
  go_region_held3 (fun w' => w'.cell? ⟨w.heap.size, 1, none⟩ = some (.int .i64 n) ∧ w'.cell? ⟨w.heap.size, 2, none⟩ = some (.int .i64 l) ∧ w'.cell? ⟨w.heap.size, 3, none⟩ = some (.int .i64 h))
    (first
      | (go_split_ands; exact ⟨grown_keep hg3 (by assumption) hnz, grown_keep hg3 (by assumption) hnz, grown_keep hg3 (by assumption) hnz⟩)
      | (go_split_ands; exact ⟨by assumption, by assumption, by assumption⟩)
      | (go_split_ands; exact ⟨below_keep hb4 (by assumption), below_keep hb4 (by assumption), below_keep hb4 (by assumption)⟩)
      | (go_split_ands; exact ⟨below_keep hb3 (by assumption), below_keep hb3 (by assumption), below_keep hb3 (by assumption)⟩)
      | (go_split_ands; exact ⟨below_keep hb2 (by assumption), below_keep hb2 (by assumption), below_keep hb2 (by assumption)⟩)
      | (go_split_ands; exact ⟨alloc_keep (by assumption) _, alloc_keep (by assumption) _, alloc_keep (by assumption) _⟩))
    (first
      | (go_at_call 148; (with_reducible refine (ri3_any l _).mono ?_); rintro e w2 ⟨rfl, hb2⟩)
      | (go_at_call 148; (with_reducible refine (ri3_any h _).mono ?_); rintro e w3 ⟨rfl, hb3⟩)
      | (go_at_call 148; (with_reducible refine (ri3_any n _).mono ?_); rintro e w4 ⟨rfl, hb4⟩)
      | (go_split_ands; refine step_append_at rfl (.tmp 70) (.tmp 80) _ _ rfl 115 i0 _ 6 56 Tryz.underlying73 hi0 hz0 hz1 hz2 rfl (some ⟨w1.heap.size, 0, none⟩) 1 1 _ (by simp [Act.eval]) ((own_below (own_below (own_below (own_drew Hoz.out) hb2) hb3) hb4).alloc _) _ 3 _ (by simp [Act.eval]) (src_newn Tryz.underlying73 _ _ 3 _ rfl rfl (by intro u hu; simp at hu; rcases hu with rfl | rfl | rfl | rfl | rfl | rfl | rfl | rfl | rfl | rfl | rfl | rfl | rfl | rfl | rfl | rfl | rfl | rfl <;> rfl)) (by unfold maxLen; omega) (by omega) ?_; intro A3 c3 w6 ho3 hg3 hat3))
  have hB4 : Below wz.heap.size wz w4 := (below_a wz).trans (hb2.trans ((hb3.mono hb2.size).trans (hb4.mono (Nat.le_trans hb2.size hb3.size))))
  have HB4 := Lib.hid (HBz.out.trans (hB4.mono HBz.out.size))
  obtain ⟨hB3, hN3⟩ := new_grown (HB4.out.alloc HB4.out.size _) (fun k e => by injection e with e; have e' : w1.heap.size = k := e; omega) hg3 hat3
  go_wp2_with fail
  go_ret
  exact FreshR.mk rfl rfl ho3 hN3 hB3

end Go.Proofs.YtaaeefndhmfceaaGreatDoor
