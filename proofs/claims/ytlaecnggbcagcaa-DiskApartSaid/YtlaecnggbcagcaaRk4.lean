/- Contract of package moietyref17: Sync; plain facts of rows that are copied one by one. -/
import Derived.Test.YtlaecnggbcagcaaRk3
namespace Go.Proofs.Ytlaecnggbcagcaa
open Go.RowKit MM
set_option linter.unusedVariables false
set_option linter.unusedSimpArgs false

/-- Rows of which so many are another's. -/
def cpy (a b : List (List UInt8)) (i : Nat) : List (List UInt8) := b.take i ++ a.drop i
theorem cpy_zero (a b : List (List UInt8)) : cpy a b 0 = a := by simp [cpy]
theorem cpy_full (a b : List (List UInt8)) (h : a.length = b.length) : cpy a b b.length = b := by
  unfold cpy
  rw [List.take_length, ← h, List.drop_length, List.append_nil]
theorem cpy_len (a b : List (List UInt8)) (i : Nat) (h : a.length = b.length) : (cpy a b i).length = a.length := by
  unfold cpy
  rw [List.length_append, List.length_take, List.length_drop]
  omega
theorem cpy_step (a b : List (List UInt8)) {i : Nat} {s : List UInt8} (h : a.length = b.length) (hs : b[i]? = some s) : (cpy a b i).set i s = cpy a b (i + 1) := by
  have hi : i < b.length := (List.getElem?_eq_some_iff.1 hs).1
  have hl : (b.take i).length = i := by rw [List.length_take]; omega
  unfold cpy
  rw [List.set_append_right _ _ (by omega), hl, Nat.sub_self, List.take_add_one, hs, List.drop_eq_getElem_cons (by omega : i < a.length), List.set_cons_zero]
  simp
theorem cpy_secs (a b : List (List UInt8)) (i : Nat) (ha : ∀ s ∈ a, s.length = 64) (hb : ∀ s ∈ b, s.length = 64) : ∀ s ∈ cpy a b i, s.length = 64 := fun s hs => by
  rcases List.mem_append.1 hs with h | h
  · exact hb s (List.mem_of_mem_take h)
  · exact ha s (List.mem_of_mem_drop h)
theorem flat_set1 {k : Nat} : ∀ {R : List (List Value)}, RowsOk k R → ∀ {i : Nat} {r : List Value}, R[i]? = some r → ∀ {j : Nat} (v : Value), j < k → (R.set i (r.set j v)).flatten = R.flatten.set (i * k + j) v
  | [], _, i, r, h, j, v, hj => by simp at h
  | r0 :: R, h, 0, r, hr, j, v, hj => by
    simp only [List.getElem?_cons_zero, Option.some.injEq] at hr
    subst hr
    rw [List.set_cons_zero, List.flatten_cons, List.flatten_cons, Nat.zero_mul, Nat.zero_add, List.set_append_left _ _ (by rw [h r0 (List.mem_cons_self ..)]; exact hj)]
  | r0 :: R, h, i + 1, r, hr, j, v, hj => by
    rw [List.getElem?_cons_succ] at hr
    have h0 := h r0 (List.mem_cons_self ..)
    have ih := flat_set1 (fun x hx => h x (List.mem_cons_of_mem _ hx)) hr (j := j) v hj
    rw [List.set_cons_succ, List.flatten_cons, List.flatten_cons, ih, List.set_append_right _ _ (by rw [h0, Nat.add_mul]; omega), h0, show (i + 1) * k + j - k = i * k + j by rw [Nat.add_mul, Nat.one_mul]; omega]

section
variable {w w' : World} {q : Nat} {F N A H : Value} {lf : Int} {dn : Bool} {wr : Int} {g n : List (List UInt8)} {al : List Value} {hs : List (List UInt8)}
theorem RkG.storeNm {b c m : Nat} (hm : n.length = m) (h : RkG w q F (.slice (some ⟨b, 0, none⟩) m c) A H lf dn wr g n al hs) (hn : ∀ s ∈ n, s.length = 64) {j : Nat} (hj : j < n.length) (s : List UInt8) (hl : s.length = 64) :
    RkG (w.setCells b (j * 64) (bc s)) q F (.slice (some ⟨b, 0, none⟩) m c) A H lf dn wr g (n.set j s) al hs := by
  subst hm; exact h.storeN hn hj s hl
theorem RkG.storeFm {b c m : Nat} (hm : g.length = m) (h : RkG w q (.slice (some ⟨b, 0, none⟩) m c) N A H lf dn wr g n al hs) (hg : ∀ s ∈ g, s.length = 64) {j : Nat} (hj : j < g.length) (s : List UInt8) (hl : s.length = 64) :
    RkG (w.setCells b (j * 64) (bc s)) q (.slice (some ⟨b, 0, none⟩) m c) N A H lf dn wr (g.set j s) n al hs := by
  subst hm; exact h.storeF hg hj s hl
theorem RkG.thereF {b c m : Nat} (hm : g.length = m) (h : RkG w q (.slice (some ⟨b, 0, none⟩) m c) N A H lf dn wr g n al hs) (hg : ∀ s ∈ g, s.length = 64) {j : Nat} (hj : j < g.length) : w.there b (j * 64) 64 := by
  subst hm; exact own_there h.firm (secR_ok hg) (by simp [secR]) (by simpa [secR] using hj)
theorem RkG.thereN {b c m : Nat} (hm : n.length = m) (h : RkG w q F (.slice (some ⟨b, 0, none⟩) m c) A H lf dn wr g n al hs) (hg : ∀ s ∈ n, s.length = 64) {j : Nat} (hj : j < n.length) : w.there b (j * 64) 64 := by
  subst hm; exact own_there h.now (secR_ok hg) (by simp [secR]) (by simpa [secR] using hj)
theorem RkG.rangeF {b c m : Nat} (hm : g.length = m) (h : RkG w q (.slice (some ⟨b, 0, none⟩) m c) N A H lf dn wr g n al hs) (hg : ∀ s ∈ g, s.length = 64) {j : Nat} {s : List UInt8} (hj : g[j]? = some s) : w.rangeAt b (j * 64) (bc s) := by
  subst hm; exact own_range h.firm (secR_ok hg) (by simp [secR]) (by simp [secR, hj])
theorem RkG.rangeN {b c m : Nat} (hm : n.length = m) (h : RkG w q F (.slice (some ⟨b, 0, none⟩) m c) A H lf dn wr g n al hs) (hg : ∀ s ∈ n, s.length = 64) {j : Nat} {s : List UInt8} (hj : n[j]? = some s) : w.rangeAt b (j * 64) (bc s) := by
  subst hm; exact own_range h.now (secR_ok hg) (by simp [secR]) (by simp [secR, hj])
end
theorem kp_range {S : Nat → Prop} {w W : World} {b o : Nat} {cs : List Value} (hW : Kp S w W) (hb : ¬ S b) (hr : w.rangeAt b o cs) : W.rangeAt b o cs := fun j v hv => hW.cell (hr j v hv) hb

def RSyncPost (q : Nat) (B : Nat → Prop) (r : Dk × Nat) (w : World) (e : Ending) (w' : World) : Prop := e = .returned (.int .i64 (r.2 : Nat)) ∧ RkPost q B r.1 w w'

set_option maxHeartbeats 4000000 in
set_option maxRecDepth 100000 in
theorem rSync_any (q : Nat) (B : Nat → Prop) (d : Dk) (w : World) (h : Rsk w q B d) :
    Calls Try.prog 53 #[.pointer (some ⟨q, 0, none⟩)] w (RSyncPost q B d.sync w) := by
  have hok := h.ok
  have HOK := Lib.hid hok
  obtain ⟨F, N, A, H, h, hB, _⟩ := h
  have HB := Lib.hid hB
  have HH := Lib.hid (show RkG w q F N A H d.left d.down d.writes d.good d.now (atV d.pend) (whL d.pend) from h)
  have b5 := h.c5
  cases hdn : d.down
  case true =>
    have HR := Lib.hid (show d.sync = (d, 14) from if_pos hdn)
    rw [hdn] at b5
    clear h hok hB hdn
    go_enter Try.func53, Try.ntmps53
    go_wp2_with fail
    go_ret
    rw [HR.out]
    exact ⟨rfl, ⟨F, N, A, H, HH.out, fun k hk => .inl (HB.out k hk), HOK.out⟩, Kp.refl _ _⟩
  have HR := Lib.hid (show d.sync = ({ d with good := d.now, pend := [] }, 0) from if_neg (by rw [hdn]; decide))
  rw [hdn] at b5 HH
  have HDN := Lib.hid hdn
  obtain ⟨gf, cf, rfl⟩ := own_at1 h.firm hok.pos
  obtain ⟨gn, cn, rfl⟩ := own_at1 h.now (by rw [hok.len]; exact hok.pos)
  have HZ := Lib.hid (show ¬ q = gf ∧ ¬ gn = gf from ⟨fun e => (h.fs gf rfl).2.2.2 e.symm, fun e => (h.fs gf rfl).1 (by rw [e]; rfl)⟩)
  have HN := Lib.hid (show ((d.now.length : Nat) : Int) ≤ 4096 by have := hok.lim; have := hok.len; omega)
  have HL := Lib.hid (show d.good.length = d.now.length from hok.len.symm)
  clear h hok hB hdn
  go_enter Try.func53, Try.ntmps53
  go_wp2_with fail
  clear b5
  go_loopw [3] (fun t wr => ∃ i : Nat, t = .int .i64 i ∧ i ≤ d.now.length ∧ RkG wr q (.slice (some ⟨gf, 0, none⟩) d.good.length cf) (.slice (some ⟨gn, 0, none⟩) d.now.length cn) A H d.left false d.writes (cpy d.good d.now i) d.now (atV d.pend) (whL d.pend) ∧ Kp B w wr) (fun t _ => d.now.length - (intOf t).toNat)
  case atStart => exact ⟨0, rfl, Nat.zero_le _, by rw [cpy_zero]; exact HH.out, Kp.refl _ _⟩
  case round =>
    obtain ⟨i, rfl, hi, h1, hk1⟩ := hrel
    have H1 := Lib.hid h1
    have HK1 := Lib.hid hk1
    have b1 := h1.c1
    clear h1 hk1 HH
    by_cases hlt : i < d.now.length
    · obtain ⟨x, hx⟩ : ∃ x, d.now[i]? = some x := ⟨_, List.getElem?_eq_getElem hlt⟩
      have HX := Lib.hid hx
      have HXL := Lib.hid (HOK.out.nows x (List.mem_of_getElem? hx))
      have hlt' : (i : Int) < ((d.now.length : Nat) : Int) := by omega
      have hli' : (i : Int) < ((d.good.length : Nat) : Int) := by have := HL.out; omega
      have hil := HN.out
      have HGl := Lib.hid (show (cpy d.good d.now i).length = d.good.length from cpy_len _ _ _ HL.out)
      have HPS := Lib.hid (cpy_secs d.good d.now i HOK.out.secs HOK.out.nows)
      have HRg := Lib.hid (H1.out.rangeN rfl HOK.out.nows hx)
      clear hx
      go_upto_region 6 with fail
      clear b1
      refine wp_region_held_drew (S := fun W => Kp (fun k => k = gf) wr W) (by kernel_rfl) (Kp.drew (Kp.refl _ _)) (fun hHeld => ?_)
      have H0 := Lib.hid H1.out.drew
      generalize World.drew wr = v0 at *
      refine wpAnyH_take (i := 0) (oi := ⟨_, _, _, _, _, _⟩) (v := ?_) rfl (by kernel_rfl) (by kernel_rfl) (by kernel_rfl) (fun _ _ _ h => h) (Or.inl ⟨by kernel_rfl, ?_⟩) hHeld ?_
      rotate_left 1
      · intro W hW; first | (go_simp; done) | (go_simp; with_reducible rfl)
      try simp only [Act.put, List.setIfInBounds_toArray, List.set_cons_zero, List.set_cons_succ]
      refine wpAnyH_take (i := 1) (oi := ⟨_, _, _, _, _, _⟩) (v := ?_) rfl (by kernel_rfl) (by kernel_rfl) (by kernel_rfl) (fun _ _ _ h => h) (Or.inl ⟨by kernel_rfl, ?_⟩) hHeld ?_
      rotate_left 1
      · intro W hW; first | (go_simp; done) | (go_simp; with_reducible rfl)
      try simp only [Act.put, List.setIfInBounds_toArray, List.set_cons_zero, List.set_cons_succ]
      refine wpAnyH_take (i := 2) (oi := ⟨_, _, _, _, _, _⟩) (v := ?_) rfl (by kernel_rfl) (by kernel_rfl) (by kernel_rfl) (fun _ _ _ h => h) (Or.inl ⟨by kernel_rfl, ?_⟩) hHeld ?_
      rotate_left 1
      · intro W hW; first | (go_simp; done) | (go_simp; with_reducible rfl)
      try simp only [Act.put, List.setIfInBounds_toArray, List.set_cons_zero, List.set_cons_succ]
      refine wpAnyH_take (i := 3) (oi := ⟨_, _, _, _, _, _⟩) (v := ?_) rfl (by kernel_rfl) (by kernel_rfl) (by kernel_rfl) (fun _ _ _ h => h) (Or.inl ⟨by kernel_rfl, ?_⟩) hHeld ?_
      rotate_left 1
      · intro W hW; have k0 :=  hW.cell H1.out.c0 HZ.out.1; first | (go_simp; done) | (go_simp; with_reducible rfl)
      try simp only [Act.put, List.setIfInBounds_toArray, List.set_cons_zero, List.set_cons_succ]
      refine wpAnyH_take (i := 4) (oi := ⟨_, _, _, _, _, _⟩) (v := ?_) rfl (by kernel_rfl) (by kernel_rfl) (by kernel_rfl) (fun _ _ _ h => h) (Or.inl ⟨by kernel_rfl, ?_⟩) hHeld ?_
      rotate_left 1
      · intro W hW; first | (go_simp; done) | (go_simp; with_reducible rfl)
      try simp only [Act.put, List.setIfInBounds_toArray, List.set_cons_zero, List.set_cons_succ]
      refine wpAnyH_take (i := 5) (oi := ⟨_, _, _, _, _, _⟩) (v := ?_) rfl (by kernel_rfl) (by kernel_rfl) (by kernel_rfl) (fun _ _ _ h => h) (Or.inl ⟨by kernel_rfl, ?_⟩) hHeld ?_
      rotate_left 1
      · intro W hW; first | (go_simp; done) | (go_simp; with_reducible rfl)
      try simp only [Act.put, List.setIfInBounds_toArray, List.set_cons_zero, List.set_cons_succ]
      refine wpAnyH_take (i := 6) (oi := ⟨_, _, _, _, _, _⟩) (v := ?_) rfl (by kernel_rfl) (by kernel_rfl) (by kernel_rfl) (fun _ _ _ h => h) (Or.inl ⟨by kernel_rfl, ?_⟩) hHeld ?_
      rotate_left 1
      · intro W hW; first | (go_simp; done) | (go_simp; with_reducible rfl)
      try simp only [Act.put, List.setIfInBounds_toArray, List.set_cons_zero, List.set_cons_succ]
      refine wpAnyH_take (i := 7) (oi := ⟨_, _, _, _, _, _⟩) (v := ?_) rfl (by kernel_rfl) (by kernel_rfl) (by kernel_rfl) (fun _ _ _ h => h) (Or.inl ⟨by kernel_rfl, ?_⟩) hHeld ?_
      rotate_left 1
      · intro W hW; first | (go_simp; done) | (go_simp; with_reducible rfl)
      try simp only [Act.put, List.setIfInBounds_toArray, List.set_cons_zero, List.set_cons_succ]
      refine wpAnyH_take (i := 8) (oi := ⟨_, _, _, _, _, _⟩) (v := ?_) rfl (by kernel_rfl) (by kernel_rfl) (by kernel_rfl) (fun _ _ _ h => h) (Or.inl ⟨by kernel_rfl, ?_⟩) hHeld ?_
      rotate_left 1
      · intro W hW; have k0 :=  hW.cell H1.out.c1 HZ.out.1; first | (go_simp; done) | (go_simp; with_reducible rfl)
      try simp only [Act.put, List.setIfInBounds_toArray, List.set_cons_zero, List.set_cons_succ]
      refine wpAnyH_take (i := 9) (oi := ⟨_, _, _, _, _, _⟩) (v := ?_) rfl (by kernel_rfl) (by kernel_rfl) (by kernel_rfl) (fun _ _ _ h => h) (Or.inl ⟨by kernel_rfl, ?_⟩) hHeld ?_
      rotate_left 1
      · intro W hW; first | (go_simp; done) | (go_simp; with_reducible rfl)
      try simp only [Act.put, List.setIfInBounds_toArray, List.set_cons_zero, List.set_cons_succ]
      refine wpAnyH_take (i := 10) (oi := ⟨_, _, _, _, _, _⟩) (v := ?_) rfl (by kernel_rfl) (by kernel_rfl) (by kernel_rfl) (fun _ _ _ h => h) (Or.inl ⟨by kernel_rfl, ?_⟩) hHeld ?_
      rotate_left 1
      · intro W hW; first | (go_simp; done) | (go_simp; with_reducible rfl)
      try simp only [Act.put, List.setIfInBounds_toArray, List.set_cons_zero, List.set_cons_succ]
      refine wpAnyH_take (i := 11) (oi := ⟨_, _, _, _, _, _⟩) (v := (.agg (bc x).toArray)) rfl (by kernel_rfl) (by kernel_rfl) (by kernel_rfl) (fun _ _ _ h => h) (yieldsIf_load_mid (S := fun W => Kp (fun k => k = gf) wr W) (by kernel_rfl) 40 (.tmp 27) rfl gn (i * 64) rfl (bc x) _ (fun W hW => kp_range hW HZ.out.2 HRg.out) Try.underlying40 rfl (sec_info2 x HXL.out)) hHeld ?_
      try simp only [Act.put, List.setIfInBounds_toArray, List.set_cons_zero, List.set_cons_succ]
      refine wpAnyH_take (i := 12) (oi := ⟨_, _, _, _, _, _⟩) (v := ?_) rfl (by kernel_rfl) (by kernel_rfl) (by kernel_rfl) (fun _ _ _ h => h) (Or.inl ⟨by kernel_rfl, ?_⟩) hHeld ?_
      rotate_left 1
      · intro W hW; first | (go_simp; done) | (go_simp; with_reducible rfl)
      try simp only [Act.put, List.setIfInBounds_toArray, List.set_cons_zero, List.set_cons_succ]
      refine wpAnyH_ready (rs := [13]) (by kernel_rfl) (by simp) ?_
      refine AllReadyH.cons rfl (fun K hK => ?_) AllReadyH.nil
      have HT := Lib.hid (show v0.there gf (i * 64) (bc x).toArray.size by rw [bc_size, HXL.out]; exact H0.out.thereF HGl.out HPS.out (by rw [HGl.out, HL.out]; exact hlt))
      rw [if_pos (by kernel_rfl)]
      refine wp_store_mid 40 _ _ rfl gf (i * 64) (bc x).toArray rfl rfl HT.out (sec_info' x HXL.out) (bc_all x) ?_
      have H3 := Lib.hid (show RkG (v0.setCells gf (i * 64) (bc x).toArray.toList) q (.slice (some ⟨gf, 0, none⟩) d.good.length cf) (.slice (some ⟨gn, 0, none⟩) d.now.length cn) A H d.left false d.writes (cpy d.good d.now (i + 1)) d.now (atV d.pend) (whL d.pend) from by
        have := H0.out.storeFm HGl.out HPS.out (j := i) (by rw [HGl.out, HL.out]; exact hlt) x HXL.out
        rw [cpy_step _ _ HL.out HX.out] at this
        exact this)
      have hkx : Kp (fun k => k = gf) v0 (v0.setCells gf (i * 64) (bc x).toArray.toList) := setCells_kp1 gf _ _ _
      generalize v0.setCells gf (i * 64) (bc x).toArray.toList = v1 at *
      refine hK.out _ _ ?_ (fun hHelda => ?_)
      · exact hHeld.trans hkx (fun _ _ x => x)
      clear hK K
      try simp only [Act.put, List.setIfInBounds_toArray, List.set_cons_zero, List.set_cons_succ]
      clear hkx HT
      refine wpAnyH_done (by kernel_rfl) ?_ _
      have HK2 := Lib.hid hHelda
      clear hHelda H0
      go_wp2_with fail
      go_roundw
      case rel => exact ⟨i + 1, by go_num, by omega, H3.out, HK1.out.trans HK2.out (fun k _ x => by rw [x]; exact HB.out gf (.inr (.inl rfl)))⟩
      case measure => simp [intOf]; omega
    · obtain rfl : i = d.now.length := by omega
      have H2 := Lib.hid (show RkG wr q (.slice (some ⟨gf, 0, none⟩) d.good.length cf) (.slice (some ⟨gn, 0, none⟩) d.now.length cn) A H d.left false d.writes d.now d.now (atV d.pend) (whL d.pend) from by have := H1.out; rw [cpy_full _ _ HL.out] at this; exact this)
      have f2 := H2.out.fr 2
      have b2 := H2.out.c2
      have f3 := H2.out.noA.fr 3
      have b3 := H2.out.noA.c3
      clear hlt hi H1
      go_wp2_with fail
      go_ret
      rw [HR.out]
      have ho : ({ d with good := d.now, pend := [] } : Dk).ok := ⟨HOK.out.nows, HOK.out.nows, rfl, by rw [HOK.out.len]; exact HOK.out.pos, by rw [HOK.out.len]; exact HOK.out.lim, fun x hx => (by cases hx), rfl, HOK.out.left⟩
      have hdn := HDN.out
      refine ⟨rfl, ⟨_, _, _, _, (show RkAt _ q _ _ _ _ ({ d with good := d.now, pend := [] } : Dk) from by
        have := H2.out.noA.noH
        rw [← hdn] at this
        exact this), fun k hk => ?_, ho⟩, Kp.setCell (p := ⟨q, 3, none⟩) (Kp.setCell (p := ⟨q, 2, none⟩) HK1.out (.inl (HB.out q (.inl rfl))) _) (.inl (HB.out q (.inl rfl))) _⟩
      rcases hk with y | y | y | y | y
      · exact .inl (HB.out k (.inl y))
      · exact .inl (HB.out k (.inr (.inl y)))
      · exact .inl (HB.out k (.inr (.inr (.inl y))))
      · cases y
      · cases y

end Go.Proofs.Ytlaecnggbcagcaa
