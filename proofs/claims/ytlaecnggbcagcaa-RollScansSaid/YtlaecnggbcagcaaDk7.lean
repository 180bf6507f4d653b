/- Contract of package disk: New. -/
import Derived.Test.YtlaecnggbcagcaaDk6
namespace Go.Proofs.Ytlaecnggbcagcaa
open Go.RowKit MM
set_option linter.unusedVariables false
set_option linter.unusedSimpArgs false

theorem wp_make {P : Program} {o : Oper} {a : Act} {w : World} {K : Act → World → Prop} {Q : Exit → Act → World → Prop} (t e : TypeId) (x : Operand) (ho : o.op = .makeSlice t x x) (i : TypeInfo) (z : Value) (ht : P.underlying t = some (.slice e)) (hi : P.info? e = some i) (hz : i.zero = some z)
    (n : Nat) (hx : a.eval x = .int .i64 (n : Int)) (hbytes : i.bytes * n ≤ 281474976710656) (h63 : n ≤ 9223372036854775807)
    (h : K (a.put o.dst (.slice (some ⟨w.heap.size, 0, none⟩) n n)) (w.alloc (.cells (madeCells z.cells (n * i.size)) e))) : o.wp P a w K Q := by
  have hb' : (i.bytes : Int) * (n : Int) ≤ 281474976710656 := by
    have h : ((i.bytes * n : Nat) : Int) ≤ 281474976710656 := by omega
    rwa [Int.natCast_mul] at h
  have hr := run_make (P := P) w t e i z ht hi hz .i64 .i64 (n : Int) (n : Int) (by omega) (by omega) hb' (by omega)
  rw [Int.toNat_natCast] at hr
  unfold Oper.wp execOp
  simp only [ho, hx, hr, Result.andThen_ok, Sem.run_bind]
  exact h
theorem made_secs (n : Nat) : madeCells (secv zs).cells (n * 64) = (secR (List.replicate n zs)).flatten.toArray := by
  have h1 : bc zs = List.replicate 64 (.int .u8 0) := rfl
  have h2 : (secR (List.replicate n zs)).flatten = List.replicate (n * 64) (Value.int .u8 0) := by
    rw [secR, List.map_replicate, h1, List.flatten_replicate_replicate]
  rw [h2]
  apply Array.ext_getElem?
  intro j
  unfold madeCells
  have hz : ∀ k, k < 64 → (secv zs).cells[k]! = Value.int .u8 0 := by
    intro k hk
    show (bc zs).toArray[k]! = _
    rw [h1, getElem!_pos _ k (by rw [List.size_toArray, List.length_replicate]; exact hk), List.getElem_toArray, List.getElem_replicate]
  by_cases hj : j < n * 64
  · rw [Array.getElem?_map, Array.getElem?_eq_getElem (by simpa using hj), Array.getElem_range]
    have : j % (secv zs).cells.size < 64 := Nat.mod_lt _ (by decide)
    simp only [Option.map_some, hz _ this]
    rw [List.getElem?_toArray, List.getElem?_replicate, if_pos hj]
  · rw [Array.getElem?_eq_none (by simpa using hj), List.getElem?_toArray, List.getElem?_eq_none (by simpa using hj)]

/-- One of so many sectors, all blank. -/
def Dk.new (n : Nat) : Dk := ⟨List.replicate n zs, List.replicate n zs, [], 0, 0, false⟩
theorem new_ok {n : Nat} (h1 : 0 < n) (h2 : n ≤ 4096) : (Dk.new n).ok := ⟨fun s hs => by rw [List.eq_of_mem_replicate hs]; rfl, fun s hs => by rw [List.eq_of_mem_replicate hs]; rfl, rfl, by simpa [Dk.new] using h1, by simpa [Dk.new] using h2, fun x hx => (by cases hx), rfl, Nat.zero_le _⟩
theorem own_made (w : World) (n : Nat) (hn : n ≤ 4096) : (w.alloc (.cells (secR (List.replicate n zs)).flatten.toArray 40)).ownsRow 0 40 64 (.slice (some ⟨w.heap.size, 0, none⟩) n n) n (secR (List.replicate n zs)).flatten := by
  have hl : (secR (List.replicate n zs)).flatten.length = n * 64 := by
    rw [flat_len (secR_ok (fun s hs => by rw [List.eq_of_mem_replicate hs]; rfl))]
    simp [secR]
  have h := World.ownsRow_lit (base := 0) (e := 40) (size := 64) w (secR (List.replicate n zs)).flatten.toArray n (Nat.zero_le _) (by unfold maxLen; omega) (by rw [List.size_toArray, hl])
  exact h

abbrev secO (m : Nat) : Obj := .cells (secR (List.replicate m zs)).flatten.toArray 40
theorem new_dsk (w0 : World) (m ga gb : Nat) (hm : m ≤ 4096) (hab : ga = w0.heap.size ∧ gb = w0.heap.size + 1 ∨ ga = w0.heap.size + 1 ∧ gb = w0.heap.size) :
    DkAt (((w0.alloc (secO m)).alloc (secO m)).alloc (.cells (dkC (.slice (some ⟨ga, 0, none⟩) m m) (.slice (some ⟨gb, 0, none⟩) m m) (.slice none 0 0) (Dk.new m)) 86)) (w0.heap.size + 1 + 1) (.slice (some ⟨ga, 0, none⟩) m m) (.slice (some ⟨gb, 0, none⟩) m m) (.slice none 0 0) (Dk.new m) := by
  have hg : ∀ X : Obj, ∀ g, g = w0.heap.size ∨ g = w0.heap.size + 1 → (((w0.alloc (secO m)).alloc (secO m)).alloc X).ownsRow 0 40 64 (.slice (some ⟨g, 0, none⟩) m m) m (secR (List.replicate m zs)).flatten := by
    intro X g h
    rcases h with rfl | rfl
    · exact ((own_made w0 m hm).alloc _).alloc X
    · have := (own_made (w0.alloc (secO m)) m hm).alloc X
      rw [World.size_alloc] at this
      exact this
  have hl : (List.replicate m zs).length = m := List.length_replicate ..
  refine ⟨heap_new _ _ _ (by simp only [World.size_alloc]), ?_, ?_, World.ownsRow_nil _ _ _ _, fun k e => ⟨fun e2 => ?_, (fun e2 => by cases e2), ?_⟩, fun k e => ⟨(fun e2 => by cases e2), ?_⟩, fun k e => by cases e⟩
  · show World.ownsRow _ 0 40 64 _ (List.replicate m zs).length (secR (List.replicate m zs)).flatten
    rw [hl]; exact hg _ ga (by omega)
  · show World.ownsRow _ 0 40 64 _ (List.replicate m zs).length (secR (List.replicate m zs)).flatten
    rw [hl]; exact hg _ gb (by omega)
  · injection e with e; injection e2 with e2; simp only at e e2; omega
  · injection e with e; simp only at e; omega
  · injection e with e; simp only at e; omega

def NewPost (n : Int) (w : World) (e : Ending) (w' : World) : Prop :=
  Below w.heap.size w w' ∧ ((n < 1 ∨ 4096 < n) ∧ e = .returned (.tuple #[.pointer none, .int .i64 1]) ∨ ∃ (m p : Nat), n = (m : Int) ∧ 0 < m ∧ m ≤ 4096 ∧ e = .returned (.tuple #[.pointer (some ⟨p, 0, none⟩), .int .i64 0]) ∧ Dsk w' p (fun k => w.heap.size ≤ k) (Dk.new m))

set_option maxHeartbeats 4000000 in
set_option maxRecDepth 100000 in
theorem dNew_any (n : Int) (w : World) : Calls Try.prog 17 #[.int .i64 n] w (NewPost n w) := by
  by_cases h1 : n < 1
  · have hd : decide (n < 1) = true := by simpa using h1
    go_enter Try.func17, Try.ntmps17
    go_wp2_with fail
    go_ret2
    exact ⟨Below.refl _ _, .inl ⟨.inl h1, rfl⟩⟩
  have hd : decide (n < 1) = false := by simpa using h1
  by_cases h2 : 4096 < n
  · have hd2 : decide (4096 < n) = true := by simpa using h2
    go_enter Try.func17, Try.ntmps17
    go_wp2_with fail
    go_ret2
    exact ⟨Below.refl _ _, .inl ⟨.inr h2, rfl⟩⟩
  have hd2 : decide (4096 < n) = false := by simpa using h2
  obtain ⟨m, rfl⟩ : ∃ m : Nat, n = (m : Int) := ⟨n.toNat, by omega⟩
  have HM := Lib.hid (show 0 < m ∧ m ≤ 4096 by omega)
  obtain ⟨i0, hi0, hz0, hz1, hz2⟩ := info_parts sec_info3
  have HI := Lib.hid (And.intro hz1 hz2)
  clear h1 h2
  go_enter Try.func17, Try.ntmps17
  go_upto_region 3 with fail
  refine wp_region_held_drew (S := fun W => Below w.heap.size w W) (by kernel_rfl) (below_drew (Below.refl _ _)) (fun hHeld => ?_)
  have HW0 := Lib.hid (show (World.drew w).heap.size = w.heap.size from rfl)
  generalize World.drew w = w0 at *
  refine wpAnyH_take (i := 0) (oi := ⟨_, _, _, _, _, _⟩) (v := ?_) rfl (by kernel_rfl) (by kernel_rfl) (by kernel_rfl) (fun _ _ _ h => h) (Or.inl ⟨by kernel_rfl, ?_⟩) hHeld ?_
  rotate_left 1
  · intro W hW; first | (go_simp; done) | (go_simp; with_reducible rfl)
  try simp only [Act.put, List.setIfInBounds_toArray, List.set_cons_zero, List.set_cons_succ]
  refine wpAnyH_take (i := 2) (oi := ⟨_, _, _, _, _, _⟩) (v := ?_) rfl (by kernel_rfl) (by kernel_rfl) (by kernel_rfl) (fun _ _ _ h => h) (Or.inl ⟨by kernel_rfl, ?_⟩) hHeld ?_
  rotate_left 1
  · intro W hW; first | (go_simp; done) | (go_simp; with_reducible rfl)
  try simp only [Act.put, List.setIfInBounds_toArray, List.set_cons_zero, List.set_cons_succ]
  refine wpAnyH_ready (rs := [1, 3]) (by kernel_rfl) (by simp) ?_
  refine AllReadyH.cons rfl (fun K hK => ?_) (AllReadyH.cons rfl (fun K hK => ?_) AllReadyH.nil)
  · rw [if_pos (by kernel_rfl)]
    refine wp_make 63 40 (.tmp 10) rfl i0 (secv zs) Try.underlying63 hi0 hz0 m (by kernel_rfl) (by have := HM.out; have := HI.out.2; rw [this]; omega) (by have := HM.out; omega) ?_
    rw [HI.out.1, made_secs]
    refine hK.out _ _ ?_ (fun hHelda => ?_)
    · exact hHeld.alloc hHeld.size _
    clear hK K
    try simp only [Act.put, List.setIfInBounds_toArray, List.set_cons_zero, List.set_cons_succ]
    refine wpAnyH_ready (rs := [3]) (by kernel_rfl) (by simp) ?_
    refine AllReadyH.cons rfl (fun K hK => ?_) AllReadyH.nil
    rw [if_pos (by kernel_rfl)]
    refine wp_make 63 40 (.tmp 12) rfl i0 (secv zs) Try.underlying63 hi0 hz0 m (by kernel_rfl) (by have := HM.out; have := HI.out.2; rw [this]; omega) (by have := HM.out; omega) ?_
    rw [HI.out.1, made_secs]
    refine hK.out _ _ ?_ (fun hHeldaa => ?_)
    · exact hHelda.alloc hHelda.size _
    clear hK K
    try simp only [Act.put, List.setIfInBounds_toArray, List.set_cons_zero, List.set_cons_succ]
    refine wpAnyH_take (i := 4) (oi := ⟨_, _, _, _, _, _⟩) (v := ?_) rfl (by kernel_rfl) (by kernel_rfl) (by kernel_rfl) (fun _ _ _ h => h) (Or.inl ⟨by kernel_rfl, ?_⟩) hHeldaa ?_
    rotate_left 1
    · intro W hW; first | (go_simp; done) | (go_simp; with_reducible rfl)
    try simp only [Act.put, List.setIfInBounds_toArray, List.set_cons_zero, List.set_cons_succ]
    refine wpAnyH_ready (rs := [5]) (by kernel_rfl) (by simp) ?_
    refine AllReadyH.cons rfl (fun K hK => ?_) AllReadyH.nil
    rw [if_pos (by kernel_rfl)]
    go_simp
    refine hK.out _ _ ?_ (fun hHeldaaa => ?_)
    · exact hHeldaa.alloc hHeldaa.size _
    clear hK K
    try simp only [Act.put, List.setIfInBounds_toArray, List.set_cons_zero, List.set_cons_succ]
    refine wpAnyH_take (i := 6) (oi := ⟨_, _, _, _, _, _⟩) (v := ?_) rfl (by kernel_rfl) (by kernel_rfl) (by kernel_rfl) (fun _ _ _ h => h) (Or.inl ⟨by kernel_rfl, ?_⟩) hHeldaaa ?_
    rotate_left 1
    · intro W hW; first | (go_simp; done) | (go_simp; with_reducible rfl)
    try simp only [Act.put, List.setIfInBounds_toArray, List.set_cons_zero, List.set_cons_succ]
    refine wpAnyH_take (i := 7) (oi := ⟨_, _, _, _, _, _⟩) (v := ?_) rfl (by kernel_rfl) (by kernel_rfl) (by kernel_rfl) (fun _ _ _ h => h) (Or.inl ⟨by kernel_rfl, ?_⟩) hHeldaaa ?_
    rotate_left 1
    · intro W hW; first | (go_simp; done) | (go_simp; with_reducible rfl)
    try simp only [Act.put, List.setIfInBounds_toArray, List.set_cons_zero, List.set_cons_succ]
    refine wpAnyH_done (by kernel_rfl) ?_ _
    have HB := Lib.hid hHeldaaa
    clear hHeldaaa
    go_wp2_with fail
    go_ret2
    refine ⟨HB.out, .inr ⟨m, _, rfl, HM.out.1, HM.out.2, rfl, _, _, _, new_dsk w0 m _ _ HM.out.2 (by omega), fun k hk => ?_, new_ok HM.out.1 HM.out.2⟩⟩
    have hw0 := HW0.out
    rcases hk with e | e | e | e
    · omega
    · injection e with e; simp only at e; omega
    · injection e with e; simp only at e; omega
    · cases e
  · rw [if_pos (by kernel_rfl)]
    refine wp_make 63 40 (.tmp 12) rfl i0 (secv zs) Try.underlying63 hi0 hz0 m (by kernel_rfl) (by have := HM.out; have := HI.out.2; rw [this]; omega) (by have := HM.out; omega) ?_
    rw [HI.out.1, made_secs]
    refine hK.out _ _ ?_ (fun hHelda => ?_)
    · exact hHeld.alloc hHeld.size _
    clear hK K
    try simp only [Act.put, List.setIfInBounds_toArray, List.set_cons_zero, List.set_cons_succ]
    refine wpAnyH_ready (rs := [1]) (by kernel_rfl) (by simp) ?_
    refine AllReadyH.cons rfl (fun K hK => ?_) AllReadyH.nil
    rw [if_pos (by kernel_rfl)]
    refine wp_make 63 40 (.tmp 10) rfl i0 (secv zs) Try.underlying63 hi0 hz0 m (by kernel_rfl) (by have := HM.out; have := HI.out.2; rw [this]; omega) (by have := HM.out; omega) ?_
    rw [HI.out.1, made_secs]
    refine hK.out _ _ ?_ (fun hHeldaa => ?_)
    · exact hHelda.alloc hHelda.size _
    clear hK K
    try simp only [Act.put, List.setIfInBounds_toArray, List.set_cons_zero, List.set_cons_succ]
    refine wpAnyH_take (i := 4) (oi := ⟨_, _, _, _, _, _⟩) (v := ?_) rfl (by kernel_rfl) (by kernel_rfl) (by kernel_rfl) (fun _ _ _ h => h) (Or.inl ⟨by kernel_rfl, ?_⟩) hHeldaa ?_
    rotate_left 1
    · intro W hW; first | (go_simp; done) | (go_simp; with_reducible rfl)
    try simp only [Act.put, List.setIfInBounds_toArray, List.set_cons_zero, List.set_cons_succ]
    refine wpAnyH_ready (rs := [5]) (by kernel_rfl) (by simp) ?_
    refine AllReadyH.cons rfl (fun K hK => ?_) AllReadyH.nil
    rw [if_pos (by kernel_rfl)]
    go_simp
    refine hK.out _ _ ?_ (fun hHeldaaa => ?_)
    · exact hHeldaa.alloc hHeldaa.size _
    clear hK K
    try simp only [Act.put, List.setIfInBounds_toArray, List.set_cons_zero, List.set_cons_succ]
    refine wpAnyH_take (i := 6) (oi := ⟨_, _, _, _, _, _⟩) (v := ?_) rfl (by kernel_rfl) (by kernel_rfl) (by kernel_rfl) (fun _ _ _ h => h) (Or.inl ⟨by kernel_rfl, ?_⟩) hHeldaaa ?_
    rotate_left 1
    · intro W hW; first | (go_simp; done) | (go_simp; with_reducible rfl)
    try simp only [Act.put, List.setIfInBounds_toArray, List.set_cons_zero, List.set_cons_succ]
    refine wpAnyH_take (i := 7) (oi := ⟨_, _, _, _, _, _⟩) (v := ?_) rfl (by kernel_rfl) (by kernel_rfl) (by kernel_rfl) (fun _ _ _ h => h) (Or.inl ⟨by kernel_rfl, ?_⟩) hHeldaaa ?_
    rotate_left 1
    · intro W hW; first | (go_simp; done) | (go_simp; with_reducible rfl)
    try simp only [Act.put, List.setIfInBounds_toArray, List.set_cons_zero, List.set_cons_succ]
    refine wpAnyH_done (by kernel_rfl) ?_ _
    have HB := Lib.hid hHeldaaa
    clear hHeldaaa
    go_wp2_with fail
    go_ret2
    refine ⟨HB.out, .inr ⟨m, _, rfl, HM.out.1, HM.out.2, rfl, _, _, _, new_dsk w0 m _ _ HM.out.2 (by omega), fun k hk => ?_, new_ok HM.out.1 HM.out.2⟩⟩
    have hw0 := HW0.out
    rcases hk with e | e | e | e
    · omega
    · injection e with e; simp only at e; omega
    · injection e with e; simp only at e; omega
    · cases e

end Go.Proofs.Ytlaecnggbcagcaa
