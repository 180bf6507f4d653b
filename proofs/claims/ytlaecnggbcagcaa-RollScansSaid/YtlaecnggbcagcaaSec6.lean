/- Contracts of the document's own answers for layer 18: the bytes of a sector, if it is whole. -/
import Derived.Test.YtlaecnggbcagcaaSec5
import Derived.Deep.RegionWith
import Derived.Deep.RegionHeld3
import Derived.Deep.Cut
import Derived.Deep.DeepCutAuto
namespace Go.Proofs.Ytlaecnggbcagcaa
open Go.RowKit MM
set_option linter.unusedVariables false
set_option linter.unusedSimpArgs false

theorem yieldsIf_load_row {P : Program} {ops : Array Oper} {S : World → Prop} {op : Oper} {a : Act} (hw : Region.wanted op (yielded ops a.tmps) = true) (ty : TypeId) (x : Operand) (ho : op.op = .load ty x)
    (g : Nat) (hx : a.eval x = .pointer (some ⟨g, 0, none⟩)) (cs : Array Value) (t : TypeId) (d : TypeDesc) (hS : ∀ w, S w → w.heap[g]? = some (.cells cs t (0, 0)))
    (hu : P.underlying ty = some d) (hd : (match d with | .struct _ | .array _ _ => true | _ => false) = true) (hi : (P.info? ty).map (·.size) = some cs.size) : YieldsIf P ops S op (.agg cs) a :=
  .inl ⟨hw, fun w hw' => by
    unfold execOp
    simp only [ho, hx, Instr.loadAt, Instr.sureAddr, Sem.run_bind, Sem.run_pure, Result.andThen_ok, run_loadVar_row w g t ty cs (0, 0) d (hS w hw') hu hd hi]⟩
theorem yieldsIf_build_row {P : Program} {ops : Array Oper} {S : World → Prop} {op : Oper} {a : Act} (hw : Region.wanted op (yielded ops a.tmps) = true) (t : TypeId) (parts : Array (Nat × Operand)) (ho : op.op = .build t parts) (cells : Array Value)
    (hf : P.built t (parts.map fun (i, x) => (i, a.eval x)).toList = some cells) : YieldsIf P ops S op (.agg cells) a :=
  .inl ⟨hw, fun w _ => by
    unfold execOp
    simp only [ho, Sem.run_bind, run_build w t _ cells hf, Result.andThen_ok]
    rfl⟩
theorem below_drew {B : Nat} {a w : World} (h : Below B a w) : Below B a w.drew := ⟨h.os, h.tape, h.output, h.size, h.block⟩

set_option maxHeartbeats 1000000 in
set_option maxRecDepth 100000 in
theorem ropen_any (s : List UInt8) (hs : s.length = 64) (w : World) :
    Calls Try.prog 35 #[secv s] w (OpenPost s w) := by
  obtain ⟨i0, hi0, hz0, hz1, hz2⟩ := info_parts byte_info
  have HS := Lib.hid hs
  obtain ⟨c1, hc1⟩ : ∃ c1, s[1]? = some c1 := ⟨s[1], List.getElem?_eq_getElem (by omega)⟩
  have hcell : (bc s).toArray[1]? = some (.int .u8 c1.toNat) := by simp [bc, hc1]
  have hcell' : (bc s)[1]? = some (.int .u8 c1.toNat) := by simp [bc, hc1]
  have HC := Lib.hid hc1
  have hw : ∀ n : UInt8, IntKind.i64.wrap (n.toNat : Int) = (n.toNat : Int) := fun n => by have := n.toNat_lt; simp [IntKind.wrap, IntKind.signed, IntKind.bits]; omega
  have hr := c1.toNat_lt
  obtain ⟨n, hn⟩ : ∃ n, n = c1.toNat := ⟨_, rfl⟩
  have hw1 := hw c1
  rw [← hn] at hcell hcell' hr hw1
  have HN := Lib.hid hn
  clear hs hc1 hw hn
  by_cases hl : 61 < n
  · have hd1 : decide ((61 : Int) < (n : Int)) = true := by simp; omega
    go_enter Try.func35, Try.ntmps35
    go_wp2_with fail
    go_ret2
    refine OpenPost.no (by simp [openL, HC.out]; intro h; have := HN.out; omega) ((Below.refl _ _).alloc (Nat.le_refl _) _) rfl
  · have hd1 : decide ((61 : Int) < (n : Int)) = false := by simp; omega
    have hl' : n ≤ 61 := by omega
    obtain ⟨b, hb⟩ : ∃ b, b = (s.drop 2).take n := ⟨_, rfl⟩
    have hbl : b.length = n := by rw [hb, List.length_take, List.length_drop, HS.out]; omega
    have HBL := Lib.hid hbl
    have HBE := Lib.hid hb
    have hop : openL s = if s = sealL b then some b else none := by
      unfold openL
      rw [HC.out]
      simp only [← HN.out, if_neg hl, ← hb]
    have HOP := Lib.hid hop
    clear hb hbl hop hcell hcell' 
    go_enter Try.func35, Try.ntmps35
    have hcell' : (bc s)[1]? = some (.int .u8 n) := by simp [bc, HC.out, HN.out]
    go_wp2_with fail
    generalize hw2 : World.alloc (World.alloc _ _) _ = ws
    have HW := Lib.hid (show ws.heap[w.heap.size]? = some (.cells (bc s).toArray 40 (0, 0)) by rw [← hw2]; exact heap_alloc2_old _ _ _)
    have HO := Lib.hid (show ws.ownsRow 0 5 1 (.slice (some ⟨w.heap.size + 1, 0, none⟩) 0 0) 0 (bc []) by rw [← hw2]; have h := World.ownsRow_lit (base := 0) (e := 5) (size := 1) (w.alloc (.cells (bc s).toArray 40)) #[] 0 (Nat.zero_le _) (by unfold maxLen; omega) rfl; rw [World.size_alloc] at h; exact h)
    have HQ := Lib.hid (show Below w.heap.size w ws by rw [← hw2]; exact below2 _ _ _)
    clear hw2 hcell'
    go_loopw [5, 6] (fun tb ti wr => ∃ (i : Nat) (A1 : Option Addr) (k1 : Nat), tb = .slice A1 i k1 ∧ ti = .int .i64 i ∧ i ≤ n ∧ wr.heap[w.heap.size]? = some (.cells (bc s).toArray 40 (0, 0)) ∧ wr.ownsRow 0 5 1 (.slice A1 i k1) i (bc ((s.drop 2).take i)) ∧ (∀ k, ob A1 = some k → w.heap.size < k) ∧ Below w.heap.size w wr) (fun _ t _ => n - (intOf t).toNat)
    case atStart => exact ⟨0, _, _, rfl, rfl, by omega, HW.out, HO.out, fun k e => by injection e with e; simp at e; omega, HQ.out⟩
    case round =>
      obtain ⟨i, A1, k1, rfl, rfl, hi, h1, h2, h3, h4⟩ := hrel
      clear HW HO HQ
      have H1 := Lib.hid h1
      have H2 := Lib.hid h2
      have H3 := Lib.hid h3
      have H4 := Lib.hid h4
      clear h1 h2 h3 h4
      have hwl : w.heap.size < wr.heap.size := lt_of_heap H1.out
      by_cases hlt : i < n
      · have hlt' : (i : Int) < (n : Int) := by omega
        obtain ⟨x, hx⟩ : ∃ x, s[2 + i]? = some x := ⟨_, List.getElem?_eq_getElem (by rw [HS.out]; omega)⟩
        have hrd : wr.cell? ⟨w.heap.size, 2 + i, none⟩ = some (.int .u8 x.toNat) := by rw [cell_of_row _ _ _ _ _ _ H1.out]; simp [bc, hx]
        have hnx : (s.drop 2).take (i + 1) = (s.drop 2).take i ++ [x] := by
          have : (s.drop 2)[i]? = some x := by rw [List.getElem?_drop]; exact hx
          rw [List.take_add_one, this]; rfl
        have HNX := Lib.hid hnx
        have hli : ((s.drop 2).take i).length = i := by rw [List.length_take, List.length_drop, HS.out]; omega
        have HLI := Lib.hid hli
        clear hx hnx hli
        go_wp2_with (first
          | (at_builtin
             refine wpList_append_at rfl (.tmp 18) (.tmp 23) _ _ rfl 5 i0 _ 1 1 Try.underlying51 hi0 hz0 hz1 hz2 rfl A1 i k1 (bc ((s.drop 2).take i)) rfl (own_below H2.out ((Below.refl _ _).alloc (Nat.le_refl _) _)) _ 1 _ rfl (src_one Try.underlying51 _ _ rfl) (by unfold maxLen; omega) (by omega) ?_
             intro A2 c2 w2 ho2 hg2 hat2))
        go_roundw
        case rel =>
          have hb2 : Below (w.heap.size + 1) wr w2 := ((Below.refl _ wr).alloc (by omega) _).grown hg2 (by simp; omega) (fun k e => by have := H3.out k e; omega)
          refine ⟨i + 1, A2, c2, rfl, by go_num, by omega, (hb2.block _ (by omega)).trans H1.out, ?_, fun k e => ?_, H4.out.trans (hb2.mono (by omega))⟩
          · rw [HNX.out, bc_append]; exact ho2
          · rcases hat2 with h | h
            · rw [h] at e; exact H3.out k e
            · rw [h] at e; injection e with e; simp at e; omega
        case measure => simp [intOf]; omega
      · obtain rfl : i = n := by omega
        obtain rfl : i = b.length := HBL.out.symm
        have hb2 := H2.out
        rw [← HBE.out] at hb2
        have HB := Lib.hid (Bts.own hb2)
        have heq := sec_ne (sealL b) s (sealL_len b (by omega)) HS.out
        clear hb2 H2 HBE
        by_cases hsb : s = sealL b
        · have HT := Lib.hid hsb
          have heq' : ∀ w, (binOp .neq 40 (secv (sealL b)) (secv s)).run Try.prog w = .ok (.bool false) w := fun w => by rw [heq w]; simp [← hsb]
          clear heq hsb
          go_upto_region 9 with fail
          refine wp_region_held_drew (S := fun W => Below wr.heap.size wr W) (by kernel_rfl) (below_drew (Below.refl _ _)) (fun hHeld => ?_)
          refine wpAnyH_take (i := 0) (oi := ⟨_, _, _, _, _, _⟩) (v := ?_) rfl (by kernel_rfl) (by kernel_rfl) (by kernel_rfl) (fun _ _ _ h => h) (Or.inl ⟨by kernel_rfl, ?_⟩) hHeld ?_
          rotate_left 1
          · intro W hW; first | (go_simp; done) | (go_simp; with_reducible rfl)
          try simp only [Act.put, List.setIfInBounds_toArray, List.set_cons_zero, List.set_cons_succ]
          refine wpAnyH_take (i := 2) (oi := ⟨_, _, _, _, _, _⟩) (v := .agg (bc s).toArray) rfl (by kernel_rfl) (by kernel_rfl) (by kernel_rfl) (fun _ _ _ h => h) (yieldsIf_load_row (S := fun W => Below wr.heap.size wr W) (by kernel_rfl) 40 _ rfl w.heap.size rfl (bc s).toArray 40 _ (fun W hW => (hW.block _ (lt_of_heap H1.out)).trans H1.out) Try.underlying40 rfl (sec_info' s HS.out)) hHeld ?_
          try simp only [Act.put, List.setIfInBounds_toArray, List.set_cons_zero, List.set_cons_succ]
          refine wpAnyH_ready (rs := [1]) (by kernel_rfl) (by simp) ?_
          refine AllReadyH.cons rfl (fun K hK => ?_) AllReadyH.nil
          go_simp
          refine (rseal_any A1 k1 b _ (HB.out.below hHeld) (by omega)).mono ?_
          rintro e wv ⟨rfl, hbv⟩
          go_wp2_with fail
          refine hK.out _ _ ?_ (fun hHelda => ?_)
          · exact hHeld.trans (hbv.mono hHeld.size)
          clear hK K
          try simp only [Act.put, List.setIfInBounds_toArray, List.set_cons_zero, List.set_cons_succ]
          clear hbv
          refine wpAnyH_take (i := 3) (oi := ⟨_, _, _, _, _, _⟩) (v := ?_) rfl (by kernel_rfl) (by kernel_rfl) (by kernel_rfl) (fun _ _ _ h => h) (Or.inl ⟨by kernel_rfl, ?_⟩) hHelda ?_
          rotate_left 1
          · intro W hW; first | (go_simp; done) | (go_simp; with_reducible rfl)
          try simp only [Act.put, List.setIfInBounds_toArray, List.set_cons_zero, List.set_cons_succ]
          refine wpAnyH_done (by kernel_rfl) ?_ _
          go_wp2_with fail
          go_ret2
          exact OpenPost.yes (by rw [HOP.out, if_pos (HT.out)]) (H4.out.trans (hHelda.mono H4.out.size)) rfl rfl (HB.out.below hHelda)
        · have HT := Lib.hid hsb
          have heq' : ∀ w, (binOp .neq 40 (secv (sealL b)) (secv s)).run Try.prog w = .ok (.bool true) w := fun w => by rw [heq w]; simp; exact fun h => hsb h.symm
          clear heq hsb
          go_upto_region 9 with fail
          refine wp_region_held_drew (S := fun W => Below wr.heap.size wr W) (by kernel_rfl) (below_drew (Below.refl _ _)) (fun hHeld => ?_)
          refine wpAnyH_take (i := 0) (oi := ⟨_, _, _, _, _, _⟩) (v := ?_) rfl (by kernel_rfl) (by kernel_rfl) (by kernel_rfl) (fun _ _ _ h => h) (Or.inl ⟨by kernel_rfl, ?_⟩) hHeld ?_
          rotate_left 1
          · intro W hW; first | (go_simp; done) | (go_simp; with_reducible rfl)
          try simp only [Act.put, List.setIfInBounds_toArray, List.set_cons_zero, List.set_cons_succ]
          refine wpAnyH_take (i := 2) (oi := ⟨_, _, _, _, _, _⟩) (v := .agg (bc s).toArray) rfl (by kernel_rfl) (by kernel_rfl) (by kernel_rfl) (fun _ _ _ h => h) (yieldsIf_load_row (S := fun W => Below wr.heap.size wr W) (by kernel_rfl) 40 _ rfl w.heap.size rfl (bc s).toArray 40 _ (fun W hW => (hW.block _ (lt_of_heap H1.out)).trans H1.out) Try.underlying40 rfl (sec_info' s HS.out)) hHeld ?_
          try simp only [Act.put, List.setIfInBounds_toArray, List.set_cons_zero, List.set_cons_succ]
          refine wpAnyH_ready (rs := [1]) (by kernel_rfl) (by simp) ?_
          refine AllReadyH.cons rfl (fun K hK => ?_) AllReadyH.nil
          go_simp
          refine (rseal_any A1 k1 b _ (HB.out.below hHeld) (by omega)).mono ?_
          rintro e wv ⟨rfl, hbv⟩
          go_wp2_with fail
          refine hK.out _ _ ?_ (fun hHelda => ?_)
          · exact hHeld.trans (hbv.mono hHeld.size)
          clear hK K
          try simp only [Act.put, List.setIfInBounds_toArray, List.set_cons_zero, List.set_cons_succ]
          clear hbv
          refine wpAnyH_take (i := 3) (oi := ⟨_, _, _, _, _, _⟩) (v := ?_) rfl (by kernel_rfl) (by kernel_rfl) (by kernel_rfl) (fun _ _ _ h => h) (Or.inl ⟨by kernel_rfl, ?_⟩) hHelda ?_
          rotate_left 1
          · intro W hW; first | (go_simp; done) | (go_simp; with_reducible rfl)
          try simp only [Act.put, List.setIfInBounds_toArray, List.set_cons_zero, List.set_cons_succ]
          refine wpAnyH_done (by kernel_rfl) ?_ _
          go_wp2_with fail
          go_ret2
          exact OpenPost.no (by rw [HOP.out, if_neg (HT.out)]) (H4.out.trans (hHelda.mono H4.out.size)) rfl

end Go.Proofs.Ytlaecnggbcagcaa
