/- Contract of package disk: Crash. -/
import Derived.Test.YtlaecnggbcagcaaDk8
namespace Go.Proofs.Ytlaecnggbcagcaa
open Go.RowKit MM
set_option linter.unusedVariables false
set_option linter.unusedSimpArgs false

/-- A slice that reads as numbers. -/
def Ins (w : World) (A : Option Addr) (ks : List Int) : Prop :=
  ks = [] ∨ ∃ b off, A = some ⟨b, off, none⟩ ∧ b < w.heap.size ∧ ∀ j k, ks[j]? = some k → w.cell? ⟨b, off + j, none⟩ = some (.int .i64 k)
theorem Ins.kp {w w' : World} {A : Option Addr} {ks : List Int} {S : Nat → Prop} (h : Ins w A ks) (hk : Kp S w w') (hn : ∀ a, A = some a → ¬ S a.block) : Ins w' A ks := by
  rcases h with h | ⟨b, off, he, hb, hc⟩
  · exact .inl h
  · exact .inr ⟨b, off, he, Nat.lt_of_lt_of_le hb hk.size, fun j k hj => hk.cell (hc j k hj) (show ¬ S b from hn _ he)⟩
theorem Ins.kpw {w w' : World} {A : Option Addr} {ks : List Int} {S : Nat → Prop} (h : Ins w A ks) (hk : Kp S w w') (hn : ks ≠ [] → ∀ a, A = some a → ¬ S a.block) : Ins w' A ks := by
  by_cases h0 : ks = []
  · exact .inl h0
  rcases h with h | ⟨b, off, he, hb, hc⟩
  · exact .inl h
  · exact .inr ⟨b, off, he, Nat.lt_of_lt_of_le hb hk.size, fun j k hj => hk.cell (hc j k hj) (show ¬ S b from hn h0 _ he)⟩
theorem wp_copy_cells {P : Program} {o : Oper} {a : Act} {w : World} {K : Act → World → Prop} {Q : Exit → Act → World → Prop} (d s : Operand) (dT sT : TypeId) (ho : o.op = .call { callee := .builtin .copy, args := #[d, s], argTypes := #[dT, sT] })
    (elem : TypeId) (hu : P.underlying dT = some (.slice elem)) (hs : (P.info? elem).map (·.size) = some 1) (b q dLen dCap : Nat) (ad : Addr) (sLen sCap : Nat) (cs : List Value) (hd : a.eval d = .slice (some ⟨b, q, none⟩) dLen dCap) (hsv : a.eval s = .slice (some ad) sLen sCap)
    (hn : cs.length = Nat.min sLen dLen) (hsrc : ∀ j v, cs[j]? = some v → w.cell? (ad.add j) = some v) (hth : w.there b q cs.length) (h1 : ∀ v ∈ cs, v.oneCell' = true)
    (h : K (a.put o.dst (goInt cs.length)) (w.setCells b q cs)) : o.wp P a w K Q := by
  have hrun := run_copy_cells (P := P) w dT sT o.type elem b q dLen dCap ad sLen sCap cs hu hs hn hsrc (fun j hj => (hth j hj).1) (fun j hj => (hth j hj).2) h1
  unfold Oper.wp
  simp [execOp, ho, resolve, invoke, builtin, hd, hsv, hrun, Result.andThen]
  exact h
theorem sec_all (g o : Nat) (w : World) : (Instr.sliceAt 40 (.pointer (some ⟨g, o, none⟩)) none none none).run Try.prog w = .ok (.slice (some ⟨g, o, none⟩) 64 64) w := by
  cases hq : Try.prog.info? 5 with
  | none => have := byte_size; simp [hq] at this
  | some i =>
    have hi1 : i.size = 1 := by have := byte_size; simpa [hq] using this
    simp [Instr.sliceAt, Instr.sureAddr, Instr.sliceBounds, Instr.sliceBound, asIntOf, run_underlying Try.underlying40, asAddr, sizeOf, typeInfo, hq, hi1, add_plain]
theorem sec_front (g o n : Nat) (hn : n ≤ 64) (w : World) : (Instr.sliceAt 40 (.pointer (some ⟨g, o, none⟩)) none (some (.int .i64 (n : Int))) none).run Try.prog w = .ok (.slice (some ⟨g, o, none⟩) n 64) w := by
  cases hq : Try.prog.info? 5 with
  | none => have := byte_size; simp [hq] at this
  | some i =>
    have hi1 : i.size = 1 := by have := byte_size; simpa [hq] using this
    have e2 : (0 : Int) ≤ n := by omega
    have e3 : (n : Int) ≤ 64 := by omega
    simp [Instr.sliceAt, Instr.sureAddr, Instr.sliceBounds, Instr.sliceBound, asIntOf, run_underlying Try.underlying40, asAddr, sizeOf, typeInfo, hq, hi1, e2, e3, add_plain, hn]

set_option maxHeartbeats 8000000 in
set_option maxRecDepth 100000 in
theorem dCrash_weak (p : Nat) (B : Nat → Prop) (d : Dk) (A : Option Addr) (c : Nat) (ks : List Int) (w : World) (hfew : d.pend.length ≤ 1000000) (hks : ks.length ≤ 1000000) (hI : Ins w A ks) (hap : ks ≠ [] → ∀ a, A = some a → ¬ B a.block) (h : Dsk w p B d) :
    Calls Try.prog 26 #[.pointer (some ⟨p, 0, none⟩), .slice A ks.length c] w fun e w' => (∃ v, e = .returned v) ∧ DkPost p B (d.crash ks) w w' := by
  have hok := h.ok
  have HOK := Lib.hid hok
  obtain ⟨G, N, Pd, h, hB, _⟩ := h
  have HB := Lib.hid hB
  have H := Lib.hid h
  have HI := Lib.hid hI
  have HA := Lib.hid hap
  have b2 := h.c2
  obtain ⟨gg, cg, rfl⟩ := own_at1 h.good hok.pos
  obtain ⟨gn, cn, rfl⟩ := own_at1 h.now (by rw [hok.len]; exact hok.pos)
  obtain ⟨Pa, pc, rfl⟩ := own_sl h.pend
  have HZ := Lib.hid (show ¬ p = gg ∧ ¬ p = gn ∧ ¬ gg = gn from ⟨fun e => (h.gn gg rfl).2.2 e.symm, fun e => (h.np gn rfl).2 e.symm, fun e => (h.gn gg rfl).1 (by rw [e]; rfl)⟩)
  have HN := Lib.hid (show ((d.pend.length : Nat) : Int) ≤ 1000000 ∧ ((ks.length : Nat) : Int) ≤ 1000000 by omega)
  clear h hok hB hI hap
  go_enter Try.func26, Try.ntmps26
  go_wp2_with fail
  clear b2
  go_loopw [14] (fun t wr => ∃ i : Nat, t = .int .i64 i ∧ i ≤ d.pend.length ∧ DkAt wr p (.slice (some ⟨gg, 0, none⟩) d.good.length cg) (.slice (some ⟨gn, 0, none⟩) d.now.length cn) (.slice Pa d.pend.length pc) { d with good := crashL d.good (d.pend.take i) ks } ∧ Kp B w wr) (fun t _ => d.pend.length - (intOf t).toNat)
  case atStart => exact ⟨0, rfl, Nat.zero_le _, by rw [List.take_zero, crash_nil]; exact H.out, Kp.refl _ _⟩
  case round =>
    obtain ⟨i, rfl, hi, h1, hk1⟩ := hrel
    have H1 := Lib.hid h1
    have HK1 := Lib.hid hk1
    clear h1 hk1 H
    by_cases hlt : i < d.pend.length
    · obtain ⟨x, hx⟩ : ∃ x, d.pend[i]? = some x := ⟨_, List.getElem?_eq_getElem hlt⟩
      have HX := Lib.hid (crash_step d.pend d.good ks i x hx)
      have hxo := HOK.out.pend x (List.mem_of_getElem? hx)
      have HXO := Lib.hid hxo
      obtain ⟨gp, cp, hP⟩ := own_at1 H1.out.pend (by show 0 < d.pend.length; omega)
      injection hP with hA' _ hc
      subst hA' hc
      have HRg := Lib.hid (own_range (R := penR d.pend) H1.out.pend (penR_ok fun y hy => (HOK.out.pend y hy).2) (by simp [penR]) (i := i) (r := penV x) (by simp [penR, hx]))
      have hlt' : (i : Int) < ((d.pend.length : Nat) : Int) := by omega
      have hil := HN.out
      have HGS := Lib.hid (show gg < wr.heap.size ∧ True from ⟨H1.out.lt gg (.inr (.inl rfl)), trivial⟩)
      have HIr := Lib.hid (HI.out.kpw HK1.out HA.out)
      obtain ⟨Gd, hGd⟩ : ∃ Gd, Gd = crashL d.good (d.pend.take i) ks := ⟨_, rfl⟩
      have HGl := Lib.hid (show Gd.length = d.good.length by rw [hGd, crash_len])
      have HPS := Lib.hid (show ∀ s ∈ Gd, s.length = 64 by rw [hGd]; exact crash_secs (d.pend.take i) d.good ks HOK.out.secs (fun y hy => (HOK.out.pend y (List.mem_of_mem_take hy)).2))
      rw [← hGd] at HX H1
      have hli : x.1 < d.good.length := HXO.out.1
      have hli' : ((x.1 : Nat) : Int) < ((d.good.length : Nat) : Int) := by omega
      have HLI := Lib.hid (show x.1 < Gd.length by rw [HGl.out]; exact hli)
      clear hx hxo hGd hli
      obtain ⟨w1, hw1⟩ : ∃ w1, w1 = wr.alloc (.cells (penV x).toArray 95) := ⟨_, rfl⟩
      have HS := Lib.hid (show w1.heap[wr.heap.size]? = some (.cells (penV x).toArray 95 (0, 0)) by rw [hw1]; exact heap_alloc_new _ _)
      have H2 := Lib.hid (show DkAt w1 p (.slice (some ⟨gg, 0, none⟩) d.good.length cg) (.slice (some ⟨gn, 0, none⟩) d.now.length cn) (.slice (some ⟨gp, 0, none⟩) d.pend.length pc) { d with good := Gd } by rw [hw1]; exact H1.out.alloc _)
      have HK2 := Lib.hid (show Kp B w w1 by rw [hw1]; exact HK1.out.alloc _)
      have HI2 := Lib.hid (show Ins w1 A ks by rw [hw1]; exact HIr.out.kp ((Kp.refl (fun _ => False) wr).alloc _) (fun _ _ x => x))
      have HW1 := Lib.hid hw1
      clear hw1
      by_cases hik : i < ks.length
      · obtain ⟨k, hk⟩ : ∃ k, ks[i]? = some k := ⟨_, List.getElem?_eq_getElem hik⟩
        rw [hk] at HX
        have HX : Hid (crashL d.good (d.pend.take (i + 1)) ks = Gd.set x.1 (torn (Gd.getD x.1 zs) x.2 k)) := HX
        obtain ⟨n, hn⟩ : ∃ n : Nat, (n : Int) = min (max k 0) 64 := ⟨(min (max k 0) 64).toNat, by omega⟩
        have HNn := Lib.hid hn
        obtain ⟨m, hm⟩ : ∃ m : Int, m = max k 0 := ⟨_, rfl⟩
        have hm1 : (if k < 0 then (0 : Int) else k) = m := by rw [hm]; split <;> omega
        have hm2 : (if (64 : Int) < m then (64 : Int) else m) = (n : Int) := by rw [hn, hm]; split <;> omega
        have HTn := Lib.hid (torn_min (Gd.getD x.1 zs) x.2 k n hn HXO.out.2)
        have HN64 := Lib.hid (show n ≤ 64 by omega)
        obtain ⟨bk, off, rfl, hbk, hck⟩ : ∃ b off, A = some ⟨b, off, none⟩ ∧ b < w1.heap.size ∧ ∀ j k, ks[j]? = some k → w1.cell? ⟨b, off + j, none⟩ = some (.int .i64 k) := by
          rcases HI2.out with h0 | h0
          · subst h0; simp at hik
          · exact h0
        have ck := hck i k hk
        have hik' : (i : Int) < ((ks.length : Nat) : Int) := by omega
        clear hn hm hck hk
        go_upto_region 5 with (first
          | (refine wpList_load_mid rfl _ _ rfl gp (i * 65) rfl (penV x) _ HRg.out Try.underlying95 rfl (pen_size x HXO.out.2) ?_)
          | (refine wpList_alloc_row rfl _ rfl (.agg (penV (0, zs)).toArray) (penV (0, zs)).toArray pen_zero rfl ?_)
          | (refine wpList_store_row rfl _ _ _ rfl _ (penV x).toArray rfl rfl 95 (penV (0, zs)).toArray (heap_alloc_new _ _) (pen_size' x HXO.out.2) (by rw [List.size_toArray, List.size_toArray, penV_len HXO.out.2]; rfl) (pen_all x) ?_
             rw [World.setRow_alloc_new, ← HW1.out]))
        refine wp_region_held_drew (S := fun W => Kp (fun k => k = gg) w1 W) (by kernel_rfl) (Kp.drew (Kp.refl _ _)) (fun hHeld => ?_)
        have H3 := Lib.hid (show DkAt (World.drew w1) p (.slice (some ⟨gg, 0, none⟩) d.good.length cg) (.slice (some ⟨gn, 0, none⟩) d.now.length cn) (.slice (some ⟨gp, 0, none⟩) d.pend.length pc) { d with good := Gd } from H2.out.keep (Kp.drew (Kp.refl (fun _ => False) w1)) (fun _ _ x => x))
        have HCp := Lib.hid (fun j v (hv : (bc (x.2.take n))[j]? = some v) => (show (World.drew w1).cell? ((⟨wr.heap.size, 1, none⟩ : Addr).add j) = some v from by
    rw [add_plain]
    refine pen_range HS.out j v ?_
    have hj : j < n := by have := (List.getElem?_eq_some_iff.1 hv).1; rw [bc_length, List.length_take] at this; omega
    have e : bc (x.2.take n) = (bc x.2).take n := by simp [bc]
    rw [e, List.getElem?_take_of_lt hj] at hv
    exact hv))
        generalize World.drew w1 = v0 at *
        refine wpAnyH_take (i := 0) (oi := ⟨_, _, _, _, _, _⟩) (v := ?_) rfl (by kernel_rfl) (by kernel_rfl) (by kernel_rfl) (fun _ _ _ h => h) (Or.inl ⟨by kernel_rfl, ?_⟩) hHeld ?_
        rotate_left 1
        · intro W hW; first | (go_simp; done) | (go_simp; with_reducible rfl)
        try simp only [Act.put, List.setIfInBounds_toArray, List.set_cons_zero, List.set_cons_succ]
        refine wpAnyH_take (i := 1) (oi := ⟨_, _, _, _, _, _⟩) (v := ?_) rfl (by kernel_rfl) (by kernel_rfl) (by kernel_rfl) (fun _ _ _ h => h) (Or.inl ⟨by kernel_rfl, ?_⟩) hHeld ?_
        rotate_left 1
        · intro W hW; first | (go_simp; done) | (go_simp; with_reducible rfl)
        try simp only [Act.put, List.setIfInBounds_toArray, List.set_cons_zero, List.set_cons_succ]
        refine wpAnyH_take (i := 2) (oi := ⟨_, _, _, _, _, _⟩) (v := ?_) rfl (by kernel_rfl) (by kernel_rfl) (by kernel_rfl) (fun _ _ _ h => h) (Or.inl ⟨by kernel_rfl, ?_⟩) hHeld ?_
        rotate_left 1
        · intro W hW; first | (go_simp; done) | (go_simp; with_reducible rfl)
        try simp only [Act.put, List.setIfInBounds_toArray, List.set_cons_zero, List.set_cons_succ]
        refine wpAnyH_take (i := 3) (oi := ⟨_, _, _, _, _, _⟩) (v := ?_) rfl (by kernel_rfl) (by kernel_rfl) (by kernel_rfl) (fun _ _ _ h => h) (Or.inl ⟨by kernel_rfl, ?_⟩) hHeld ?_
        rotate_left 1
        · intro W hW; have k0 :=  hW.cell H2.out.c0 HZ.out.1; first | (go_simp; done) | (go_simp; with_reducible rfl)
        try simp only [Act.put, List.setIfInBounds_toArray, List.set_cons_zero, List.set_cons_succ]
        refine wpAnyH_take (i := 4) (oi := ⟨_, _, _, _, _, _⟩) (v := ?_) rfl (by kernel_rfl) (by kernel_rfl) (by kernel_rfl) (fun _ _ _ h => h) (Or.inl ⟨by kernel_rfl, ?_⟩) hHeld ?_
        rotate_left 1
        · intro W hW; first | (go_simp; done) | (go_simp; with_reducible rfl)
        try simp only [Act.put, List.setIfInBounds_toArray, List.set_cons_zero, List.set_cons_succ]
        refine wpAnyH_take (i := 5) (oi := ⟨_, _, _, _, _, _⟩) (v := ?_) rfl (by kernel_rfl) (by kernel_rfl) (by kernel_rfl) (fun _ _ _ h => h) (Or.inl ⟨by kernel_rfl, ?_⟩) hHeld ?_
        rotate_left 1
        · intro W hW; have k0 :=  pen_cell0 ((hW.block _ (lt_of_heap HS.out) (by have := HGS.out.1; show ¬ wr.heap.size = gg; omega)).trans HS.out); first | (go_simp; done) | (go_simp; with_reducible rfl)
        try simp only [Act.put, List.setIfInBounds_toArray, List.set_cons_zero, List.set_cons_succ]
        refine wpAnyH_take (i := 6) (oi := ⟨_, _, _, _, _, _⟩) (v := ?_) rfl (by kernel_rfl) (by kernel_rfl) (by kernel_rfl) (fun _ _ _ h => h) (Or.inl ⟨by kernel_rfl, ?_⟩) hHeld ?_
        rotate_left 1
        · intro W hW; first | (go_simp; done) | (go_simp; with_reducible rfl)
        try simp only [Act.put, List.setIfInBounds_toArray, List.set_cons_zero, List.set_cons_succ]
        refine wpAnyH_take (i := 7) (oi := ⟨_, _, _, _, _, _⟩) (v := ?_) rfl (by kernel_rfl) (by kernel_rfl) (by kernel_rfl) (fun _ _ _ h => h) (Or.inl ⟨by kernel_rfl, ?_⟩) hHeld ?_
        rotate_left 1
        · intro W hW; have k0 :=  sec_all gg (x.1 * 64) W; first | (go_simp; done) | (go_simp; with_reducible rfl)
        try simp only [Act.put, List.setIfInBounds_toArray, List.set_cons_zero, List.set_cons_succ]
        refine wpAnyH_take (i := 8) (oi := ⟨_, _, _, _, _, _⟩) (v := ?_) rfl (by kernel_rfl) (by kernel_rfl) (by kernel_rfl) (fun _ _ _ h => h) (Or.inl ⟨by kernel_rfl, ?_⟩) hHeld ?_
        rotate_left 1
        · intro W hW; first | (go_simp; done) | (go_simp; with_reducible rfl)
        try simp only [Act.put, List.setIfInBounds_toArray, List.set_cons_zero, List.set_cons_succ]
        refine wpAnyH_take (i := 9) (oi := ⟨_, _, _, _, _, _⟩) (v := ?_) rfl (by kernel_rfl) (by kernel_rfl) (by kernel_rfl) (fun _ _ _ h => h) (Or.inl ⟨by kernel_rfl, ?_⟩) hHeld ?_
        rotate_left 1
        · intro W hW; first | (go_simp; done) | (go_simp; with_reducible rfl)
        try simp only [Act.put, List.setIfInBounds_toArray, List.set_cons_zero, List.set_cons_succ]
        refine wpAnyH_take (i := 10) (oi := ⟨_, _, _, _, _, _⟩) (v := ?_) rfl (by kernel_rfl) (by kernel_rfl) (by kernel_rfl) (fun _ _ _ h => h) (Or.inl ⟨by kernel_rfl, ?_⟩) hHeld ?_
        rotate_left 1
        · intro W hW; have k0 :=  sec_front wr.heap.size 1 n HN64.out W; first | (go_simp; done) | (go_simp; with_reducible rfl)
        try simp only [Act.put, List.setIfInBounds_toArray, List.set_cons_zero, List.set_cons_succ]
        refine wpAnyH_ready (rs := [11]) (by kernel_rfl) (by simp) ?_
        refine AllReadyH.cons rfl (fun K hK => ?_) AllReadyH.nil
        have HT := Lib.hid (show v0.there gg (x.1 * 64) (bc (x.2.take n)).length from fun j hj => own_there (R := secR Gd) (n := d.good.length) (c := cg) (by have := H3.out.good; rw [show ({ d with good := Gd } : Dk).good.length = d.good.length from HGl.out] at this; exact this) (secR_ok HPS.out) (by simp [secR, HGl.out]) (by simpa [secR] using HLI.out) j (by rw [bc_length, List.length_take] at hj; omega))
        rw [if_pos (by kernel_rfl)]
        refine wp_copy_cells (.tmp 36) (.tmp 39) 51 51 rfl 5 Try.underlying51 byte_size gg (x.1 * 64) 64 64 ⟨wr.heap.size, 1, none⟩ n 64 (bc (x.2.take n)) rfl rfl (by rw [bc_length, List.length_take, HXO.out.2]) (fun j v hv => HCp.out j v hv) HT.out (bc_one _) ?_
        have H4 := Lib.hid (show DkAt (v0.setCells gg (x.1 * 64) (bc (x.2.take n))) p (.slice (some ⟨gg, 0, none⟩) d.good.length cg) (.slice (some ⟨gn, 0, none⟩) d.now.length cn) (.slice (some ⟨gp, 0, none⟩) d.pend.length pc) { d with good := crashL d.good (d.pend.take (i + 1)) ks } by
    rw [HX.out, HTn.out]
    have := DkAt.partG (d := { d with good := Gd }) (c := cg) (g := gg) (by rw [show ({ d with good := Gd } : Dk).good.length = d.good.length from HGl.out]; exact H3.out) HPS.out HLI.out x.2 HXO.out.2 HN64.out
    rw [show ({ d with good := Gd } : Dk).good.length = d.good.length from HGl.out] at this
    exact this)
        have hkx : Kp (fun k => k = gg) v0 (v0.setCells gg (x.1 * 64) (bc (x.2.take n))) := setCells_kp1 gg _ _ _
        generalize v0.setCells gg (x.1 * 64) (bc (x.2.take n)) = v1 at *
        refine hK.out _ _ ?_ (fun hHelda => ?_)
        · exact hHeld.trans hkx (fun _ _ x => x)
        clear hK K
        try simp only [Act.put, List.setIfInBounds_toArray, List.set_cons_zero, List.set_cons_succ]
        clear hkx HT
        refine wpAnyH_done (by kernel_rfl) ?_ _
        have HK3 := Lib.hid hHelda
        clear hHelda
        go_wp2_with fail
        go_roundw
        case rel => exact ⟨i + 1, by go_num, by omega, H4.out, HK2.out.trans HK3.out (fun k _ x => by rw [x]; exact HB.out gg (.inr (.inl rfl)))⟩
        case measure => simp [intOf]; omega
      · have hkn : ks[i]? = none := List.getElem?_eq_none (by omega)
        rw [hkn] at HX
        have HX : Hid (crashL d.good (d.pend.take (i + 1)) ks = Gd) := HX
        have hik' : decide ((i : Int) < ((ks.length : Nat) : Int)) = false := by rw [decide_eq_false_iff_not]; omega
        clear hkn
        go_wp2_with (first
          | (refine wpList_load_mid rfl _ _ rfl gp (i * 65) rfl (penV x) _ HRg.out Try.underlying95 rfl (pen_size x HXO.out.2) ?_)
          | (refine wpList_alloc_row rfl _ rfl (.agg (penV (0, zs)).toArray) (penV (0, zs)).toArray pen_zero rfl ?_)
          | (refine wpList_store_row rfl _ _ _ rfl _ (penV x).toArray rfl rfl 95 (penV (0, zs)).toArray (heap_alloc_new _ _) (pen_size' x HXO.out.2) (by rw [List.size_toArray, List.size_toArray, penV_len HXO.out.2]; rfl) (pen_all x) ?_
             rw [World.setRow_alloc_new, ← HW1.out]))
        go_roundw
        case rel => exact ⟨i + 1, by go_num, by omega, by rw [HX.out]; exact H2.out, HK2.out⟩
        case measure => simp [intOf]; omega
    · obtain rfl : i = d.pend.length := by omega
      rw [List.take_length] at H1
      obtain ⟨Gd, hGd⟩ : ∃ Gd, Gd = crashL d.good d.pend ks := ⟨_, rfl⟩
      have HGl := Lib.hid (show Gd.length = d.good.length by rw [hGd, crash_len])
      have HPS := Lib.hid (show ∀ s ∈ Gd, s.length = 64 by rw [hGd]; exact crash_secs d.pend d.good ks HOK.out.secs (fun y hy => (HOK.out.pend y hy).2))
      have HF := Lib.hid (show play d.now (d.pend.map fun x => (x.1, Gd.getD x.1 zs)) = Gd by rw [hGd]; exact crash_now HOK.out ks)
      have HCo := Lib.hid (show (d.crash ks).ok from crash_ok HOK.out ks)
      have HCd := Lib.hid (show d.crash ks = { d with good := Gd, now := Gd, pend := [], left := 0, down := false } by rw [hGd]; rfl)
      rw [← hGd] at H1
      have b2 := H1.out.c2
      clear hGd hlt
      go_wp2_with fail
      clear b2
      go_loopw [47] (fun t wq => ∃ i : Nat, t = .int .i64 i ∧ i ≤ d.pend.length ∧ DkAt wq p (.slice (some ⟨gg, 0, none⟩) d.good.length cg) (.slice (some ⟨gn, 0, none⟩) d.now.length cn) (.slice Pa d.pend.length pc) { d with good := Gd, now := play d.now ((d.pend.take i).map fun x => (x.1, Gd.getD x.1 zs)) } ∧ Kp B w wq) (fun t _ => d.pend.length - (intOf t).toNat)
      case atStart => exact ⟨0, rfl, Nat.zero_le _, H1.out, HK1.out⟩
      case round =>
        obtain ⟨i, rfl, hi, h1, hk1⟩ := hrel
        have H5 := Lib.hid h1
        have HK5 := Lib.hid hk1
        clear h1 hk1 H1 HK1
        by_cases hlt : i < d.pend.length
        · obtain ⟨x, hx⟩ : ∃ x, d.pend[i]? = some x := ⟨_, List.getElem?_eq_getElem hlt⟩
          have hxo := HOK.out.pend x (List.mem_of_getElem? hx)
          have HXO := Lib.hid hxo
          obtain ⟨gp, cp, hP⟩ := own_at1 H5.out.pend (by show 0 < d.pend.length; omega)
          injection hP with hA' _ hc
          subst hA' hc
          have HRg := Lib.hid (own_range (R := penR d.pend) H5.out.pend (penR_ok fun y hy => (HOK.out.pend y hy).2) (by simp [penR]) (i := i) (r := penV x) (by simp [penR, hx]))
          have hlt' : (i : Int) < ((d.pend.length : Nat) : Int) := by omega
          have hil := HN.out
          obtain ⟨Nd, hNd⟩ : ∃ Nd, Nd = play d.now ((d.pend.take i).map fun x => (x.1, Gd.getD x.1 zs)) := ⟨_, rfl⟩
          have HX := Lib.hid (show play d.now ((d.pend.take (i + 1)).map fun x => (x.1, Gd.getD x.1 zs)) = Nd.set x.1 (Gd.getD x.1 zs) by
            rw [hNd, List.map_take, List.map_take]
            exact play_step d.now (d.pend.map fun x => (x.1, Gd.getD x.1 zs)) (i := i) (x := (x.1, Gd.getD x.1 zs)) (by rw [List.getElem?_map, hx]; rfl))
          have HNl := Lib.hid (show Nd.length = d.now.length by rw [hNd, play_len])
          have HNS := Lib.hid (show ∀ s ∈ Nd, s.length = 64 by
            rw [hNd]
            refine play_secs _ _ HOK.out.nows fun y hy => ?_
            obtain ⟨z, _, rfl⟩ := List.mem_map.1 hy
            exact getD_len HPS.out z.1)
          rw [← hNd] at H5
          have hli : x.1 < d.good.length := HXO.out.1
          have hli' : ((x.1 : Nat) : Int) < ((d.good.length : Nat) : Int) := by omega
          have hln' : ((x.1 : Nat) : Int) < ((d.now.length : Nat) : Int) := by rw [HOK.out.len]; omega
          have HLI := Lib.hid (show x.1 < Gd.length ∧ x.1 < Nd.length by rw [HGl.out, HNl.out, HOK.out.len]; exact ⟨hli, hli⟩)
          obtain ⟨s, hs⟩ : ∃ s, s = Gd.getD x.1 zs := ⟨_, rfl⟩
          have HSg := Lib.hid (show Gd[x.1]? = some s by rw [hs, List.getD_eq_getElem?_getD, List.getElem?_eq_getElem HLI.out.1]; rfl)
          have HSl := Lib.hid (show s.length = 64 by rw [hs]; exact getD_len HPS.out _)
          rw [← hs] at HX
          clear hx hxo hNd hli hs
          obtain ⟨w1, hw1⟩ : ∃ w1, w1 = wr.alloc (.cells (penV x).toArray 95) := ⟨_, rfl⟩
          have HS := Lib.hid (show w1.heap[wr.heap.size]? = some (.cells (penV x).toArray 95 (0, 0)) by rw [hw1]; exact heap_alloc_new _ _)
          have H2 := Lib.hid (show DkAt w1 p (.slice (some ⟨gg, 0, none⟩) d.good.length cg) (.slice (some ⟨gn, 0, none⟩) d.now.length cn) (.slice (some ⟨gp, 0, none⟩) d.pend.length pc) { d with good := Gd, now := Nd } by rw [hw1]; exact H5.out.alloc _)
          have HK2 := Lib.hid (show Kp B w w1 by rw [hw1]; exact HK5.out.alloc _)
          have HW1 := Lib.hid hw1
          clear hw1
          have HGS := Lib.hid (show gn < wr.heap.size from H5.out.lt gn (.inr (.inr (.inl rfl))))
          have HRgg := Lib.hid (show w1.rangeAt gg (x.1 * 64) (bc s) from own_range (R := secR Gd) (n := d.good.length) (c := cg) (by have := H2.out.good; rw [show ({ d with good := Gd, now := Nd } : Dk).good.length = d.good.length from HGl.out] at this; exact this) (secR_ok HPS.out) (by simp [secR, HGl.out]) (by simp only [secR, List.getElem?_map, HSg.out, Option.map_some]))
          go_upto_region 10 with (first
            | (refine wpList_load_mid rfl _ _ rfl gp (i * 65) rfl (penV x) _ HRg.out Try.underlying95 rfl (pen_size x HXO.out.2) ?_)
            | (refine wpList_alloc_row rfl _ rfl (.agg (penV (0, zs)).toArray) (penV (0, zs)).toArray pen_zero rfl ?_)
            | (refine wpList_store_row rfl _ _ _ rfl _ (penV x).toArray rfl rfl 95 (penV (0, zs)).toArray (heap_alloc_new _ _) (pen_size' x HXO.out.2) (by rw [List.size_toArray, List.size_toArray, penV_len HXO.out.2]; rfl) (pen_all x) ?_
               rw [World.setRow_alloc_new, ← HW1.out]))
          refine wp_region_held_drew (S := fun W => Kp (fun k => k = gn) w1 W) (by kernel_rfl) (Kp.drew (Kp.refl _ _)) (fun hHeld => ?_)
          have H3 := Lib.hid (show DkAt (World.drew w1) p (.slice (some ⟨gg, 0, none⟩) d.good.length cg) (.slice (some ⟨gn, 0, none⟩) d.now.length cn) (.slice (some ⟨gp, 0, none⟩) d.pend.length pc) { d with good := Gd, now := Nd } from H2.out.keep (Kp.drew (Kp.refl (fun _ => False) w1)) (fun _ _ x => x))
          generalize World.drew w1 = v0 at *
          refine wpAnyH_take (i := 0) (oi := ⟨_, _, _, _, _, _⟩) (v := ?_) rfl (by kernel_rfl) (by kernel_rfl) (by kernel_rfl) (fun _ _ _ h => h) (Or.inl ⟨by kernel_rfl, ?_⟩) hHeld ?_
          rotate_left 1
          · intro W hW; first | (go_simp; done) | (go_simp; with_reducible rfl)
          try simp only [Act.put, List.setIfInBounds_toArray, List.set_cons_zero, List.set_cons_succ]
          refine wpAnyH_take (i := 1) (oi := ⟨_, _, _, _, _, _⟩) (v := ?_) rfl (by kernel_rfl) (by kernel_rfl) (by kernel_rfl) (fun _ _ _ h => h) (Or.inl ⟨by kernel_rfl, ?_⟩) hHeld ?_
          rotate_left 1
          · intro W hW; first | (go_simp; done) | (go_simp; with_reducible rfl)
          try simp only [Act.put, List.setIfInBounds_toArray, List.set_cons_zero, List.set_cons_succ]
          refine wpAnyH_take (i := 2) (oi := ⟨_, _, _, _, _, _⟩) (v := ?_) rfl (by kernel_rfl) (by kernel_rfl) (by kernel_rfl) (fun _ _ _ h => h) (Or.inl ⟨by kernel_rfl, ?_⟩) hHeld ?_
          rotate_left 1
          · intro W hW; first | (go_simp; done) | (go_simp; with_reducible rfl)
          try simp only [Act.put, List.setIfInBounds_toArray, List.set_cons_zero, List.set_cons_succ]
          refine wpAnyH_take (i := 3) (oi := ⟨_, _, _, _, _, _⟩) (v := ?_) rfl (by kernel_rfl) (by kernel_rfl) (by kernel_rfl) (fun _ _ _ h => h) (Or.inl ⟨by kernel_rfl, ?_⟩) hHeld ?_
          rotate_left 1
          · intro W hW; have k0 :=  hW.cell H2.out.c1 HZ.out.2.1; first | (go_simp; done) | (go_simp; with_reducible rfl)
          try simp only [Act.put, List.setIfInBounds_toArray, List.set_cons_zero, List.set_cons_succ]
          refine wpAnyH_take (i := 4) (oi := ⟨_, _, _, _, _, _⟩) (v := ?_) rfl (by kernel_rfl) (by kernel_rfl) (by kernel_rfl) (fun _ _ _ h => h) (Or.inl ⟨by kernel_rfl, ?_⟩) hHeld ?_
          rotate_left 1
          · intro W hW; first | (go_simp; done) | (go_simp; with_reducible rfl)
          try simp only [Act.put, List.setIfInBounds_toArray, List.set_cons_zero, List.set_cons_succ]
          refine wpAnyH_take (i := 5) (oi := ⟨_, _, _, _, _, _⟩) (v := ?_) rfl (by kernel_rfl) (by kernel_rfl) (by kernel_rfl) (fun _ _ _ h => h) (Or.inl ⟨by kernel_rfl, ?_⟩) hHeld ?_
          rotate_left 1
          · intro W hW; have k0 :=  pen_cell0 ((hW.block _ (lt_of_heap HS.out) (by have := HGS.out; show ¬ wr.heap.size = gn; omega)).trans HS.out); first | (go_simp; done) | (go_simp; with_reducible rfl)
          try simp only [Act.put, List.setIfInBounds_toArray, List.set_cons_zero, List.set_cons_succ]
          refine wpAnyH_take (i := 6) (oi := ⟨_, _, _, _, _, _⟩) (v := ?_) rfl (by kernel_rfl) (by kernel_rfl) (by kernel_rfl) (fun _ _ _ h => h) (Or.inl ⟨by kernel_rfl, ?_⟩) hHeld ?_
          rotate_left 1
          · intro W hW; first | (go_simp; done) | (go_simp; with_reducible rfl)
          try simp only [Act.put, List.setIfInBounds_toArray, List.set_cons_zero, List.set_cons_succ]
          refine wpAnyH_take (i := 7) (oi := ⟨_, _, _, _, _, _⟩) (v := ?_) rfl (by kernel_rfl) (by kernel_rfl) (by kernel_rfl) (fun _ _ _ h => h) (Or.inl ⟨by kernel_rfl, ?_⟩) hHeld ?_
          rotate_left 1
          · intro W hW; first | (go_simp; done) | (go_simp; with_reducible rfl)
          try simp only [Act.put, List.setIfInBounds_toArray, List.set_cons_zero, List.set_cons_succ]
          refine wpAnyH_take (i := 8) (oi := ⟨_, _, _, _, _, _⟩) (v := ?_) rfl (by kernel_rfl) (by kernel_rfl) (by kernel_rfl) (fun _ _ _ h => h) (Or.inl ⟨by kernel_rfl, ?_⟩) hHeld ?_
          rotate_left 1
          · intro W hW; first | (go_simp; done) | (go_simp; with_reducible rfl)
          try simp only [Act.put, List.setIfInBounds_toArray, List.set_cons_zero, List.set_cons_succ]
          refine wpAnyH_take (i := 9) (oi := ⟨_, _, _, _, _, _⟩) (v := ?_) rfl (by kernel_rfl) (by kernel_rfl) (by kernel_rfl) (fun _ _ _ h => h) (Or.inl ⟨by kernel_rfl, ?_⟩) hHeld ?_
          rotate_left 1
          · intro W hW; have k0 :=  hW.cell H2.out.c0 HZ.out.2.1; first | (go_simp; done) | (go_simp; with_reducible rfl)
          try simp only [Act.put, List.setIfInBounds_toArray, List.set_cons_zero, List.set_cons_succ]
          refine wpAnyH_take (i := 10) (oi := ⟨_, _, _, _, _, _⟩) (v := ?_) rfl (by kernel_rfl) (by kernel_rfl) (by kernel_rfl) (fun _ _ _ h => h) (Or.inl ⟨by kernel_rfl, ?_⟩) hHeld ?_
          rotate_left 1
          · intro W hW; first | (go_simp; done) | (go_simp; with_reducible rfl)
          try simp only [Act.put, List.setIfInBounds_toArray, List.set_cons_zero, List.set_cons_succ]
          refine wpAnyH_take (i := 11) (oi := ⟨_, _, _, _, _, _⟩) (v := ?_) rfl (by kernel_rfl) (by kernel_rfl) (by kernel_rfl) (fun _ _ _ h => h) (Or.inl ⟨by kernel_rfl, ?_⟩) hHeld ?_
          rotate_left 1
          · intro W hW; have k0 :=  pen_cell0 ((hW.block _ (lt_of_heap HS.out) (by have := HGS.out; show ¬ wr.heap.size = gn; omega)).trans HS.out); first | (go_simp; done) | (go_simp; with_reducible rfl)
          try simp only [Act.put, List.setIfInBounds_toArray, List.set_cons_zero, List.set_cons_succ]
          refine wpAnyH_take (i := 12) (oi := ⟨_, _, _, _, _, _⟩) (v := ?_) rfl (by kernel_rfl) (by kernel_rfl) (by kernel_rfl) (fun _ _ _ h => h) (Or.inl ⟨by kernel_rfl, ?_⟩) hHeld ?_
          rotate_left 1
          · intro W hW; first | (go_simp; done) | (go_simp; with_reducible rfl)
          try simp only [Act.put, List.setIfInBounds_toArray, List.set_cons_zero, List.set_cons_succ]
          refine wpAnyH_take (i := 13) (oi := ⟨_, _, _, _, _, _⟩) (v := (.agg (bc s).toArray)) rfl (by kernel_rfl) (by kernel_rfl) (by kernel_rfl) (fun _ _ _ h => h) (yieldsIf_load_mid (S := fun W => Kp (fun k => k = gn) w1 W) (by kernel_rfl) 40 (.tmp 63) rfl gg (x.1 * 64) rfl (bc s) _ (fun W hW j v hv => hW.cell (HRgg.out j v hv) HZ.out.2.2) Try.underlying40 rfl (sec_info2 s HSl.out)) hHeld ?_
          try simp only [Act.put, List.setIfInBounds_toArray, List.set_cons_zero, List.set_cons_succ]
          refine wpAnyH_take (i := 14) (oi := ⟨_, _, _, _, _, _⟩) (v := ?_) rfl (by kernel_rfl) (by kernel_rfl) (by kernel_rfl) (fun _ _ _ h => h) (Or.inl ⟨by kernel_rfl, ?_⟩) hHeld ?_
          rotate_left 1
          · intro W hW; first | (go_simp; done) | (go_simp; with_reducible rfl)
          try simp only [Act.put, List.setIfInBounds_toArray, List.set_cons_zero, List.set_cons_succ]
          refine wpAnyH_ready (rs := [15]) (by kernel_rfl) (by simp) ?_
          refine AllReadyH.cons rfl (fun K hK => ?_) AllReadyH.nil
          have HT := Lib.hid (show v0.there gn (x.1 * 64) (bc s).toArray.size by rw [bc_size, HSl.out]; exact own_there (R := secR Nd) (n := d.now.length) (c := cn) (by have := H3.out.now; rw [show ({ d with good := Gd, now := Nd } : Dk).now.length = d.now.length from HNl.out] at this; exact this) (secR_ok HNS.out) (by simp [secR, HNl.out]) (by simpa [secR] using HLI.out.2))
          rw [if_pos (by kernel_rfl)]
          refine wp_store_mid 40 _ _ rfl gn (x.1 * 64) (bc s).toArray rfl rfl HT.out (sec_info' s HSl.out) (bc_all s) ?_
          have H4 := Lib.hid (show DkAt (v0.setCells gn (x.1 * 64) (bc s).toArray.toList) p (.slice (some ⟨gg, 0, none⟩) d.good.length cg) (.slice (some ⟨gn, 0, none⟩) d.now.length cn) (.slice (some ⟨gp, 0, none⟩) d.pend.length pc) { d with good := Gd, now := play d.now ((d.pend.take (i + 1)).map fun x => (x.1, Gd.getD x.1 zs)) } by
    rw [HX.out]
    have := DkAt.storeN (d := { d with good := Gd, now := Nd }) (c := cn) (g := gn) (by rw [show ({ d with good := Gd, now := Nd } : Dk).now.length = d.now.length from HNl.out]; exact H3.out) HNS.out HLI.out.2 s HSl.out
    rw [show ({ d with good := Gd, now := Nd } : Dk).now.length = d.now.length from HNl.out] at this
    exact this)
          have hkx : Kp (fun k => k = gn) v0 (v0.setCells gn (x.1 * 64) (bc s).toArray.toList) := setCells_kp1 gn _ _ _
          generalize v0.setCells gn (x.1 * 64) (bc s).toArray.toList = v1 at *
          refine hK.out _ _ ?_ (fun hHelda => ?_)
          · exact hHeld.trans hkx (fun _ _ x => x)
          clear hK K
          try simp only [Act.put, List.setIfInBounds_toArray, List.set_cons_zero, List.set_cons_succ]
          clear hkx HT
          refine wpAnyH_done (by kernel_rfl) ?_ _
          have HK3 := Lib.hid hHelda
          clear hHelda
          go_wp2_with fail
          go_roundw
          case rel => exact ⟨i + 1, by go_num, by omega, H4.out, HK2.out.trans HK3.out (fun k _ x => by rw [x]; exact HB.out gn (.inr (.inr (.inl rfl))))⟩
          case measure => simp [intOf]; omega
        · obtain rfl : i = d.pend.length := by omega
          rw [List.take_length, HF.out] at H5
          have b2 := H5.out.c2
          have b4 := H5.out.c4
          have b5 := H5.out.c5
          have f2 := H5.out.fr 2
          have f4 := H5.out.fr 4
          have f5 := H5.out.fr 5
          go_wp2_with fail
          go_end0
          rw [HCd.out]
          have ho := HCo.out
          rw [HCd.out] at ho
          have hp := HB.out p (.inl rfl)
          refine ⟨⟨_, rfl⟩, ⟨_, _, _, ((H5.out.cut).upd 4 (.int .i64 0) { d with good := Gd, now := Gd, pend := [], left := 0 } rfl rfl rfl rfl).upd 5 (.bool false) { d with good := Gd, now := Gd, pend := [], left := 0, down := false } rfl rfl rfl rfl, fun k hk => ?_, ho⟩, ((HK5.out.setCell (.inl hp) _).setCell (.inl hp) _).setCell (.inl hp) _⟩
          rcases hk with y | y | y | y
          · exact .inl (HB.out k (.inl y))
          · exact .inl (HB.out k (.inr (.inl y)))
          · exact .inl (HB.out k (.inr (.inr (.inl y))))
          · cases y
theorem dCrash_any (p : Nat) (B : Nat → Prop) (d : Dk) (A : Option Addr) (c : Nat) (ks : List Int) (w : World) (hfew : d.pend.length ≤ 1000000) (hks : ks.length ≤ 1000000) (hI : Ins w A ks) (hap : ∀ a, A = some a → ¬ B a.block) (h : Dsk w p B d) :
    Calls Try.prog 26 #[.pointer (some ⟨p, 0, none⟩), .slice A ks.length c] w fun e w' => (∃ v, e = .returned v) ∧ DkPost p B (d.crash ks) w w' :=
  dCrash_weak p B d A c ks w hfew hks hI (fun _ => hap) h

end Go.Proofs.Ytlaecnggbcagcaa
