/- Contracts: seal.Open, its bytes nobody else's; roll.Need. -/
import Derived.Test.YtlaecnggbcagcaaRl0
import Derived.Test.YtlaecnggbcagcaaRl1
namespace Go.Proofs.Ytlaecnggbcagcaa
open Go.RowKit MM
set_option linter.unusedVariables false
set_option linter.unusedSimpArgs false

def OpenOwn (s : List UInt8) (w : World) (e : Ending) (w' : World) : Prop :=
  Below w.heap.size w w' ∧ match openL s with
    | none => e = .returned (.tuple #[.slice none 0 0, .bool false])
    | some b => ∃ A c, e = .returned (.tuple #[.slice A b.length c, .bool true]) ∧ w'.ownsRow 0 5 1 (.slice A b.length c) b.length (bc b) ∧ ∀ k, ob A = some k → w.heap.size ≤ k
theorem OpenOwn.no {s : List UInt8} {w w' : World} {e : Ending} (h : openL s = none) (hb : Below w.heap.size w w') (he : e = .returned (.tuple #[.slice none 0 0, .bool false])) : OpenOwn s w e w' := by
  unfold OpenOwn; rw [h]; exact ⟨hb, he⟩
theorem OpenOwn.yes {s b : List UInt8} {w w' : World} {e : Ending} {A : Option Addr} {c n : Nat} (h : openL s = some b) (hb : Below w.heap.size w w') (hn : n = b.length) (he : e = .returned (.tuple #[.slice A n c, .bool true])) (hB : w'.ownsRow 0 5 1 (.slice A b.length c) b.length (bc b)) (hk : ∀ k, ob A = some k → w.heap.size ≤ k) : OpenOwn s w e w' := by
  unfold OpenOwn; rw [h]; subst hn; exact ⟨hb, A, c, he, hB, hk⟩

set_option maxHeartbeats 1000000 in
set_option maxRecDepth 100000 in
theorem openO_any (s : List UInt8) (hs : s.length = 64) (w : World) :
    Calls Try.prog 33 #[secv s] w (OpenOwn s w) := by
  have HS := Lib.hid hs
  obtain ⟨c1, hc1⟩ : ∃ c1, s[1]? = some c1 := ⟨s[1], List.getElem?_eq_getElem (by omega)⟩
  have hcell : (bc s).toArray[1]? = some (.int .u8 c1.toNat) := by simp [bc, hc1]
  have hcell' : (bc s)[1]? = some (.int .u8 c1.toNat) := by simp [bc, hc1]
  have HC := Lib.hid hc1
  have hw : ∀ n : UInt8, IntKind.i64.wrap (n.toNat : Int) = (n.toNat : Int) := fun n => by have := n.toNat_lt; simp [IntKind.wrap, IntKind.signed, IntKind.bits]; omega
  have hr := c1.toNat_lt
  obtain ⟨n, hn⟩ : ∃ n, n = c1.toNat := ⟨_, rfl⟩
  have hw1 := hw c1
  rw [← hn] at hcell hcell' hr hw1
  have HN := Lib.hid hn
  clear hs hc1 hw hn
  by_cases hl : 61 < n
  · have hd1 : decide ((61 : Int) < (n : Int)) = true := by simp; omega
    go_enter Try.func33, Try.ntmps33
    go_wp2_with fail
    go_ret2
    refine OpenOwn.no (by simp [openL, HC.out]; intro h; have := HN.out; omega) ((Below.refl _ _).alloc (Nat.le_refl _) _) rfl
  · have hd1 : decide ((61 : Int) < (n : Int)) = false := by simp; omega
    have hl' : n ≤ 61 := by omega
    obtain ⟨b, hb⟩ : ∃ b, b = (s.drop 2).take n := ⟨_, rfl⟩
    have hbl : b.length = n := by rw [hb, List.length_take, List.length_drop, HS.out]; omega
    have HBL := Lib.hid hbl
    have HBE := Lib.hid hb
    have hcut : ∀ w', (Instr.sliceAt 40 (.pointer (some ⟨w.heap.size, 0, none⟩)) (some (.int .i64 2)) (some (.int .i64 (2 + (n : Int)))) none).run Try.prog w' = .ok (.slice (some ⟨w.heap.size, 2, none⟩) b.length 62) w' := by
      intro w'
      have h := sec_cut w.heap.size 2 (2 + n) (by omega) (by omega) (by omega) w'
      rw [show 2 + n - 2 = b.length by omega, show 64 - 2 = 62 from rfl, show ((2 + n : Nat) : Int) = 2 + (n : Int) by omega] at h
      exact h
    have hop : openL s = if s = sealL b then some b else none := by
      unfold openL
      rw [HC.out]
      simp only [← HN.out, if_neg hl, ← hb]
    have HOP := Lib.hid hop
    clear hb hbl hop
    have heq := sec_ne s (sealL b) HS.out (sealL_len b (by rw [HBL.out]; exact hl'))
    have hbt : Bts (w.alloc (.cells (bc s).toArray 40)) (some ⟨w.heap.size, 2, none⟩) b := by
      rw [HBE.out]
      exact bts_row (heap_alloc_new _ _)
    have HBT := Lib.hid hbt
    clear hbt
    have hw2 : wrap64 (2 + (n : Int)) = 2 + (n : Int) := by unfold wrap64; omega
    go_enter Try.func33, Try.ntmps33
    go_wp2_with fail
    refine (clone_any _ 62 b _ HBT.out (by unfold Lim; rw [HBL.out]; omega)).mono ?_
    rintro e w1 ⟨A1, c1', rfl, ho1, hn1, hb1⟩
    have e1 := (hb1.block w.heap.size (by simp)).trans (heap_alloc_new _ _)
    have HB1 := Lib.hid (show Below w.heap.size w w1 from ((Below.refl _ _).alloc (Nat.le_refl _) _).trans (hb1.mono (by simp)))
    have HE1 := Lib.hid e1
    have HT1 := Lib.hid (Bts.own ho1)
    have HO1 := Lib.hid ho1
    have HN1 := Lib.hid hn1
    clear ho1 hn1 hb1 e1
    go_wp2_with fail
    refine (seal_any A1 c1' b w1 HT1.out).mono ?_
    rintro e w2 ⟨rfl, hb2⟩
    rw [show sealE b = _ from if_pos (by rw [HBL.out]; exact hl')]
    have HB2 := Lib.hid (HB1.out.trans (hb2.mono HB1.out.size))
    have HE2 := Lib.hid ((hb2.block _ (lt_of_heap HE1.out)).trans HE1.out)
    have HT2 := Lib.hid (HT1.out.below hb2)
    have HO2 := Lib.hid (own_below HO1.out hb2)
    have HL2 := Lib.hid (sealL_len b (by rw [HBL.out]; exact hl'))
    have HE3 := Lib.hid (fun o => (heap_alloc_old w2 o (lt_of_heap HE2.out)).trans HE2.out)
    clear hb2
    go_wp2_with (first
      | (refine wpList_alloc_row rfl _ rfl (secv zs) (bc zs).toArray sec_zero rfl ?_)
      | (refine wpList_store_row rfl _ _ _ rfl _ (bc (sealL b)).toArray rfl rfl 40 (bc zs).toArray (heap_alloc_new _ _) (sec_info' _ HL2.out) (by rw [bc_size, bc_size, HL2.out]; rfl) (bc_all _) ?_
         rw [World.setRow_alloc_new])
      | (refine wpList_load_row rfl _ _ rfl w.heap.size rfl 40 _ (0, 0) _ (HE3.out _) Try.underlying40 rfl (sec_info' _ HS.out) ?_)
      | (refine wpList_load_row rfl _ _ rfl w2.heap.size rfl 40 _ (0, 0) _ (heap_alloc_new _ _) Try.underlying40 rfl (sec_info' _ HL2.out) ?_))
    · go_ret2
      exact OpenOwn.no (by rename_i hx; rw [HOP.out, if_neg (by simpa using hx)]) (HB2.out.alloc HB2.out.size _) rfl
    · go_ret2
      exact OpenOwn.yes (by rename_i hx; rw [HOP.out, if_pos (by simpa using hx)]) (HB2.out.alloc HB2.out.size _) rfl rfl (own_below HO2.out ((Below.refl _ _).alloc (Nat.le_refl _) _)) (fun k e => by have := HN1.out k e; simp at this; omega)


set_option maxHeartbeats 1000000 in
set_option maxRecDepth 100000 in
theorem need_any (n : Nat) (hn : n ≤ 1000000) (w : World) :
    Calls Try.prog 50 #[.int .i64 (n : Int)] w fun e w' => e = .returned (.int .i64 (needN n : Nat)) ∧ w' = w := by
  have h1 : (n : Int) ≤ 1000000 := by omega
  have h2 : (0 : Int) ≤ (n : Int) := by omega
  have h3 : ((n : Int) + 60 - 1).tdiv 60 = (((n + 59) / 60 : Nat) : Int) := by
    rw [show (n : Int) + 60 - 1 = ((n + 59 : Nat) : Int) by omega]
    rfl
  have HR := Lib.hid (show (needN n : Int) = max 1 (((n + 59) / 60 : Nat) : Int) by unfold needN; omega)
  have h4 : ((((n + 59) / 60 : Nat) : Int)) ≤ 1000000 := by omega
  go_enter Try.func50, Try.ntmps50
  go_wp2
  all_goals go_ret
  · exact ⟨by rw [show ((needN n : Nat) : Int) = ((n : Int) + 59) / 60 by clear HR h3 h4; simp only [needN, Nat.max_def]; split <;> omega]; rfl, rfl⟩
  · exact ⟨by rw [show ((needN n : Nat) : Int) = 1 by clear HR h3 h4; simp only [needN, Nat.max_def]; split <;> omega]; rfl, rfl⟩

end Go.Proofs.Ytlaecnggbcagcaa
