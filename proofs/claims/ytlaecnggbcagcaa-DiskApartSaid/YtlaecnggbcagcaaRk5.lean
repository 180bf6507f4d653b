/- Contract of package moietyref17: Crash. -/
import Derived.Test.YtlaecnggbcagcaaRk4
namespace Go.Proofs.Ytlaecnggbcagcaa
open Go.RowKit MM
set_option linter.unusedVariables false
set_option linter.unusedSimpArgs false

/-- A sector of which so many bytes are gone through. -/
def tin (old s : List UInt8) (k : Nat) : Option Int → List UInt8
  | none => old
  | some n => torn old s (min (k : Int) n)
theorem torn_zero (old s : List UInt8) (n : Int) (h : n ≤ 0) : torn old s n = old := by
  unfold torn
  rw [show min n.toNat 64 = 0 by omega]
  rfl
theorem tin_zero (old s : List UInt8) (o : Option Int) : tin old s 0 o = old := by
  cases o with
  | none => rfl
  | some n => exact torn_zero _ _ _ (by omega)
theorem tin_len {old s : List UInt8} (ho : old.length = 64) (hs : s.length = 64) (k : Nat) (o : Option Int) : (tin old s k o).length = 64 := by
  cases o with
  | none => exact ho
  | some n => exact torn_len ho hs _
theorem tin_full (old s : List UInt8) (n : Int) : tin old s 64 (some n) = torn old s n := by
  show torn old s (min ((64 : Nat) : Int) n) = _
  unfold torn
  rw [show min (min ((64 : Nat) : Int) n).toNat 64 = min n.toNat 64 by omega]
theorem tin_same (old s : List UInt8) (k : Nat) (n : Int) (h : ¬ (k : Int) < n) : tin old s (k + 1) (some n) = tin old s k (some n) := by
  show torn old s (min ((k + 1 : Nat) : Int) n) = torn old s (min (k : Int) n)
  rw [show min ((k + 1 : Nat) : Int) n = min (k : Int) n by omega]
theorem tin_step {old s : List UInt8} {k : Nat} {n : Int} {y : UInt8} (ho : old.length = 64) (hk : k < 64) (hn : (k : Int) < n) (hy : s[k]? = some y) : (tin old s k (some n)).set k y = tin old s (k + 1) (some n) := by
  show (torn old s (min (k : Int) n)).set k y = torn old s (min ((k + 1 : Nat) : Int) n)
  have hs : k < s.length := (List.getElem?_eq_some_iff.1 hy).1
  have hl : (s.take k).length = k := by rw [List.length_take]; omega
  unfold torn
  rw [show min (min (k : Int) n).toNat 64 = k by omega, show min (min ((k + 1 : Nat) : Int) n).toNat 64 = k + 1 by omega, List.set_append_right _ _ (by omega), hl, Nat.sub_self, List.take_add_one, hy, List.drop_eq_getElem_cons (by omega : k < old.length), List.set_cons_zero]
  simp
theorem getD_at {g : List (List UInt8)} {i : Nat} (h : i < g.length) : g[i]? = some (g.getD i zs) := by
  rw [List.getD_eq_getElem?_getD, List.getElem?_eq_getElem h]
  rfl
theorem set_getD (g : List (List UInt8)) (i : Nat) : g.set i (g.getD i zs) = g := by
  by_cases h : i < g.length
  · rw [List.getD_eq_getElem?_getD, List.getElem?_eq_getElem h]
    exact List.set_getElem_self h
  · exact List.set_eq_of_length_le (by omega)
theorem set_secs {g : List (List UInt8)} (h : ∀ s ∈ g, s.length = 64) (i : Nat) {t : List UInt8} (ht : t.length = 64) : ∀ s ∈ g.set i t, s.length = 64 := fun s hs => by
  rcases List.mem_or_eq_of_mem_set hs with y | y
  · exact h s y
  · rw [y]; exact ht
theorem bcl_set (t : List UInt8) (k : Nat) (y : UInt8) : bc (t.set k y) = (bc t).set k (.int .u8 y.toNat) := by simp [bc, List.map_set]
theorem byte_flat {g : List (List UInt8)} (h : ∀ s ∈ g, s.length = 64) {i k : Nat} {t : List UInt8} (hi : i < g.length) (ht : t.length = 64) (hk : k < 64) (y : UInt8) :
    (secR (g.set i (t.set k y))).flatten = (secR (g.set i t)).flatten.set (i * 64 + k) (.int .u8 y.toNat) := by
  have h1 := flat_set1 (secR_ok (set_secs h i ht)) (i := i) (r := bc t) (by simp [secR, hi]) (j := k) (.int .u8 y.toNat) hk
  rw [← h1, ← bcl_set, ← secR_set, List.set_set]
section
variable {w w' : World} {q : Nat} {F N A H : Value} {lf : Int} {dn : Bool} {wr : Int} {g n : List (List UInt8)} {al : List Value} {hs : List (List UInt8)}
theorem RkG.byteFm {b c m : Nat} (hm : g.length = m) (h : RkG w q (.slice (some ⟨b, 0, none⟩) m c) N A H lf dn wr g n al hs) (i : Nat) (v : Value) (g' : List (List UInt8)) (hl : g'.length = m) (hv : (secR g').flatten = (secR g).flatten.set i v) :
    RkG (w.setCell ⟨b, i, none⟩ v) q (.slice (some ⟨b, 0, none⟩) m c) N A H lf dn wr g' n al hs := by
  subst hm; exact h.byteF i v g' hl hv
theorem RkG.atCell {b c m i : Nat} {v : Value} (hm : al.length = m) (h : RkG w q F N (.slice (some ⟨b, 0, none⟩) m c) H lf dn wr g n al hs) (hi : al[i]? = some v) : w.cell? ⟨b, i, none⟩ = some v := by
  subst hm
  have h1 := (List.getElem?_eq_some_iff.1 hi).1
  rw [h.ats.cellAt i (by omega), hi]
theorem RkG.whCell {b c m i k : Nat} {s : List UInt8} {y : UInt8} (hm : hs.length = m) (h : RkG w q F N A (.slice (some ⟨b, 0, none⟩) m c) lf dn wr g n al hs) (hk : ∀ s ∈ hs, s.length = 64) (hi : hs[i]? = some s) (hy : s[k]? = some y) : w.cell? ⟨b, i * 64 + k, none⟩ = some (.int .u8 y.toNat) := by
  subst hm
  exact own_range h.what (secR_ok hk) (by simp [secR]) (i := i) (r := bc s) (by simp [secR, hi]) k _ (by simp [bc, hy])
theorem RkG.firmCell {b c m i k : Nat} {s : List UInt8} {y : UInt8} (hm : g.length = m) (h : RkG w q (.slice (some ⟨b, 0, none⟩) m c) N A H lf dn wr g n al hs) (hk : ∀ s ∈ g, s.length = 64) (hi : g[i]? = some s) (hy : s[k]? = some y) : w.cell? ⟨b, i * 64 + k, none⟩ = some (.int .u8 y.toNat) ∧ w.frozen? ⟨b, i * 64 + k, none⟩ = false := by
  subst hm
  exact ⟨own_range h.firm (secR_ok hk) (by simp [secR]) (i := i) (r := bc s) (by simp [secR, hi]) k _ (by simp [bc, hy]), h.firm.frozenAt _⟩
end

set_option maxHeartbeats 8000000 in
set_option maxRecDepth 100000 in
theorem rCrash_any (q : Nat) (B : Nat → Prop) (d : Dk) (A : Option Addr) (c : Nat) (ks : List Int) (w : World) (hfew : d.pend.length ≤ 1000000) (hks : ks.length ≤ 1000000) (hI : Ins w A ks) (hap : ks ≠ [] → ∀ a, A = some a → ¬ B a.block) (h : Rsk w q B d) :
    Calls Try.prog 55 #[.pointer (some ⟨q, 0, none⟩), .slice A ks.length c] w fun e w' => (∃ v, e = .returned v) ∧ RkPost q B (d.crash ks) w w' := by
  have hok := h.ok
  have HOK := Lib.hid hok
  obtain ⟨F, N, L, H, h, hB, _⟩ := h
  have HB := Lib.hid hB
  have HH := Lib.hid (show RkG w q F N L H d.left d.down d.writes d.good d.now (atV d.pend) (whL d.pend) from h)
  have HI := Lib.hid hI
  have HA := Lib.hid hap
  obtain ⟨gf, cf, rfl⟩ := own_at1 h.firm hok.pos
  obtain ⟨gn, cn, rfl⟩ := own_at1 h.now (by rw [hok.len]; exact hok.pos)
  obtain ⟨La, lc, rfl⟩ := own_sl h.ats
  obtain ⟨Ha, hc, rfl⟩ := own_sl h.what
  rw [atV_len, whL_len] at *
  have HZ := Lib.hid (show ¬ q = gf ∧ ¬ q = gn ∧ ¬ gf = gn ∧ (∀ k, ob La = some k → ¬ k = gf) ∧ (∀ k, ob Ha = some k → ¬ k = gf) from ⟨fun e => (h.fs gf rfl).2.2.2 e.symm, fun e => (h.ns gn rfl).2.2 e.symm, fun e => (h.fs gf rfl).1 (by rw [e]; rfl), fun k e x => (h.fs gf rfl).2.1 (by rw [ownBlock_slice, e, x]), fun k e x => (h.fs gf rfl).2.2.1 (by rw [ownBlock_slice, e, x])⟩)
  have HN := Lib.hid (show ((d.pend.length : Nat) : Int) ≤ 1000000 ∧ ((ks.length : Nat) : Int) ≤ 1000000 ∧ ((d.now.length : Nat) : Int) ≤ 4096 by have := hok.lim; have := hok.len; omega)
  have HL := Lib.hid (show d.good.length = d.now.length from hok.len.symm)
  clear h hok hB hI hap
  go_enter Try.func55, Try.ntmps55
  go_wp2_with fail
  go_loopw [4] (fun t wr => ∃ i : Nat, t = .int .i64 i ∧ i ≤ d.pend.length ∧ RkG wr q (.slice (some ⟨gf, 0, none⟩) d.good.length cf) (.slice (some ⟨gn, 0, none⟩) d.now.length cn) (.slice La d.pend.length lc) (.slice Ha d.pend.length hc) d.left d.down d.writes (crashL d.good (d.pend.take i) ks) d.now (atV d.pend) (whL d.pend) ∧ Kp B w wr) (fun t _ => d.pend.length - (intOf t).toNat)
  case atStart => exact ⟨0, rfl, Nat.zero_le _, by rw [List.take_zero, crash_nil]; exact HH.out, Kp.refl _ _⟩
  case round =>
    obtain ⟨i, rfl, hi, h1, hk1⟩ := hrel
    have H1 := Lib.hid h1
    have HK1 := Lib.hid hk1
    have b2 := h1.c2
    clear h1 hk1 HH
    by_cases hlt : i < d.pend.length
    · obtain ⟨x, hx⟩ : ∃ x, d.pend[i]? = some x := ⟨_, List.getElem?_eq_getElem hlt⟩
      have HX := Lib.hid (crash_step d.pend d.good ks i x hx)
      have HXO := Lib.hid (HOK.out.pend x (List.mem_of_getElem? hx))
      have HAx := Lib.hid (show (atV d.pend)[i]? = some (.int .i64 (x.1 : Int)) by simp [atV, hx])
      have HWx := Lib.hid (show (whL d.pend)[i]? = some x.2 by simp [whL, hx])
      have HWs := Lib.hid (whL_ok HOK.out)
      obtain ⟨ga, ca, hP⟩ := own_at1 H1.out.ats (by rw [atV_len]; omega)
      injection hP with hA' hp1 hp2
      subst hA'
      obtain ⟨gh, ch, hQ⟩ := own_at1 H1.out.what (by rw [whL_len]; omega)
      injection hQ with hB' hp3 hp4
      subst hB'
      have hlt' : (i : Int) < ((d.pend.length : Nat) : Int) := by omega
      have hil := HN.out
      obtain ⟨Gd, hGd⟩ : ∃ Gd, Gd = crashL d.good (d.pend.take i) ks := ⟨_, rfl⟩
      have HGl := Lib.hid (show Gd.length = d.good.length by rw [hGd, crash_len])
      have HPS := Lib.hid (show ∀ s ∈ Gd, s.length = 64 by rw [hGd]; exact crash_secs (d.pend.take i) d.good ks HOK.out.secs (fun y hy => (HOK.out.pend y (List.mem_of_mem_take hy)).2))
      rw [← hGd] at HX H1
      have hli : x.1 < d.good.length := HXO.out.1
      have hli' : ((x.1 : Nat) : Int) < ((d.good.length : Nat) : Int) := by omega
      have HLI := Lib.hid (show x.1 < Gd.length by rw [HGl.out]; exact hli)
      have HOL := Lib.hid (getD_len HPS.out x.1)
      obtain ⟨old, hold⟩ : ∃ old, old = Gd.getD x.1 zs := ⟨_, rfl⟩
      have HSG := Lib.hid (show Gd.set x.1 old = Gd by rw [hold]; exact set_getD _ _)
      rw [← hold] at HX HOL
      obtain ⟨s, hs⟩ : ∃ s, s = x.2 := ⟨_, rfl⟩
      have HSL := Lib.hid (show s.length = 64 by rw [hs]; exact HXO.out.2)
      rw [← hs] at HX HWx
      obtain ⟨at0, hat0⟩ : ∃ at0, at0 = x.1 := ⟨_, rfl⟩
      rw [← hat0] at HX HAx HLI HSG hli hli'
      clear hx hGd hli hold HXO hs hat0 hp1 hp2 hp3 hp4
      go_wp2_with fail
      clear b2
      go_loopw [5] (fun t wr => ∃ k : Nat, t = .int .i64 k ∧ k ≤ 64 ∧ RkG wr q (.slice (some ⟨gf, 0, none⟩) d.good.length cf) (.slice (some ⟨gn, 0, none⟩) d.now.length cn) (.slice (some ⟨ga, 0, none⟩) d.pend.length lc) (.slice (some ⟨gh, 0, none⟩) d.pend.length hc) d.left d.down d.writes (Gd.set at0 (tin old s k ks[i]?)) d.now (atV d.pend) (whL d.pend) ∧ Kp B w wr) (fun t _ => 64 - (intOf t).toNat)
      case atStart => exact ⟨0, rfl, by omega, by rw [tin_zero, HSG.out]; exact H1.out, HK1.out⟩
      case round =>
        obtain ⟨k, rfl, hk64, h2, hk2⟩ := hrel
        have H2 := Lib.hid h2
        have HK2 := Lib.hid hk2
        clear h2 hk2 H1 HK1
        by_cases hkl : k < 64
        · have hkl' : (k : Int) < 64 := by omega
          by_cases hik : i < ks.length
          · obtain ⟨n, hn⟩ : ∃ n, ks[i]? = some n := ⟨_, List.getElem?_eq_getElem hik⟩
            rw [hn] at HX H2 ⊢
            have hik' : (i : Int) < ((ks.length : Nat) : Int) := by omega
            have HIr := Lib.hid (HI.out.kpw HK2.out HA.out)
            obtain ⟨b, off, hAe, hcell⟩ : ∃ b off, A = some ⟨b, off, none⟩ ∧ (World.cell? _ ⟨b, off + i, none⟩ = some (.int .i64 n)) := by
              rcases HIr.out with h0 | ⟨b, off, he, _, hc⟩
              · exact absurd h0 (fun h0 => by rw [h0] at hn; simp at hn)
              · exact ⟨b, off, he, hc i n hn⟩
            subst hAe
            clear hn HIr
            by_cases hkn : (k : Int) < n
            · obtain ⟨y, hy⟩ : ∃ y, s[k]? = some y := ⟨_, List.getElem?_eq_getElem (by have := HSL.out; omega)⟩
              have HY := Lib.hid hy
              have HTL := Lib.hid (tin_len HOL.out HSL.out k (some n))
              have HG2 := Lib.hid (show (Gd.set at0 (tin old s k (some n))).length = d.good.length by rw [List.length_set, HGl.out])
              have HS2 := Lib.hid (set_secs HPS.out at0 HTL.out)
              clear hy
              go_upto_region 7 with fail
              clear hcell
              refine wp_region_held_drew (S := fun W => Kp (fun k => k = gf) wr W) (by kernel_rfl) (Kp.drew (Kp.refl _ _)) (fun hHeld => ?_)
              have H0 := Lib.hid H2.out.drew
              generalize World.drew wr = v0 at *
              refine wpAnyH_take (i := 0) (oi := ⟨_, _, _, _, _, _⟩) (v := ?_) rfl (by kernel_rfl) (by kernel_rfl) (by kernel_rfl) (fun _ _ _ h => h) (Or.inl ⟨by kernel_rfl, ?_⟩) hHeld ?_
              rotate_left 1
              · intro W hW; first | (go_simp; done) | (go_simp; with_reducible rfl)
              try simp only [Act.put, List.setIfInBounds_toArray, List.set_cons_zero, List.set_cons_succ]
              refine wpAnyH_take (i := 1) (oi := ⟨_, _, _, _, _, _⟩) (v := ?_) rfl (by kernel_rfl) (by kernel_rfl) (by kernel_rfl) (fun _ _ _ h => h) (Or.inl ⟨by kernel_rfl, ?_⟩) hHeld ?_
              rotate_left 1
              · intro W hW; first | (go_simp; done) | (go_simp; with_reducible rfl)
              try simp only [Act.put, List.setIfInBounds_toArray, List.set_cons_zero, List.set_cons_succ]
              refine wpAnyH_take (i := 2) (oi := ⟨_, _, _, _, _, _⟩) (v := ?_) rfl (by kernel_rfl) (by kernel_rfl) (by kernel_rfl) (fun _ _ _ h => h) (Or.inl ⟨by kernel_rfl, ?_⟩) hHeld ?_
              rotate_left 1
              · intro W hW; first | (go_simp; done) | (go_simp; with_reducible rfl)
              try simp only [Act.put, List.setIfInBounds_toArray, List.set_cons_zero, List.set_cons_succ]
              refine wpAnyH_take (i := 3) (oi := ⟨_, _, _, _, _, _⟩) (v := ?_) rfl (by kernel_rfl) (by kernel_rfl) (by kernel_rfl) (fun _ _ _ h => h) (Or.inl ⟨by kernel_rfl, ?_⟩) hHeld ?_
              rotate_left 1
              · intro W hW; have k0 :=  hW.cell H2.out.c0 HZ.out.1; first | (go_simp; done) | (go_simp; with_reducible rfl)
              try simp only [Act.put, List.setIfInBounds_toArray, List.set_cons_zero, List.set_cons_succ]
              refine wpAnyH_take (i := 4) (oi := ⟨_, _, _, _, _, _⟩) (v := ?_) rfl (by kernel_rfl) (by kernel_rfl) (by kernel_rfl) (fun _ _ _ h => h) (Or.inl ⟨by kernel_rfl, ?_⟩) hHeld ?_
              rotate_left 1
              · intro W hW; first | (go_simp; done) | (go_simp; with_reducible rfl)
              try simp only [Act.put, List.setIfInBounds_toArray, List.set_cons_zero, List.set_cons_succ]
              refine wpAnyH_take (i := 5) (oi := ⟨_, _, _, _, _, _⟩) (v := ?_) rfl (by kernel_rfl) (by kernel_rfl) (by kernel_rfl) (fun _ _ _ h => h) (Or.inl ⟨by kernel_rfl, ?_⟩) hHeld ?_
              rotate_left 1
              · intro W hW; first | (go_simp; done) | (go_simp; with_reducible rfl)
              try simp only [Act.put, List.setIfInBounds_toArray, List.set_cons_zero, List.set_cons_succ]
              refine wpAnyH_take (i := 6) (oi := ⟨_, _, _, _, _, _⟩) (v := ?_) rfl (by kernel_rfl) (by kernel_rfl) (by kernel_rfl) (fun _ _ _ h => h) (Or.inl ⟨by kernel_rfl, ?_⟩) hHeld ?_
              rotate_left 1
              · intro W hW; first | (go_simp; done) | (go_simp; with_reducible rfl)
              try simp only [Act.put, List.setIfInBounds_toArray, List.set_cons_zero, List.set_cons_succ]
              refine wpAnyH_take (i := 7) (oi := ⟨_, _, _, _, _, _⟩) (v := ?_) rfl (by kernel_rfl) (by kernel_rfl) (by kernel_rfl) (fun _ _ _ h => h) (Or.inl ⟨by kernel_rfl, ?_⟩) hHeld ?_
              rotate_left 1
              · intro W hW; have k0 :=  hW.cell H2.out.c2 HZ.out.1; first | (go_simp; done) | (go_simp; with_reducible rfl)
              try simp only [Act.put, List.setIfInBounds_toArray, List.set_cons_zero, List.set_cons_succ]
              refine wpAnyH_take (i := 8) (oi := ⟨_, _, _, _, _, _⟩) (v := ?_) rfl (by kernel_rfl) (by kernel_rfl) (by kernel_rfl) (fun _ _ _ h => h) (Or.inl ⟨by kernel_rfl, ?_⟩) hHeld ?_
              rotate_left 1
              · intro W hW; first | (go_simp; done) | (go_simp; with_reducible rfl)
              try simp only [Act.put, List.setIfInBounds_toArray, List.set_cons_zero, List.set_cons_succ]
              refine wpAnyH_take (i := 9) (oi := ⟨_, _, _, _, _, _⟩) (v := ?_) rfl (by kernel_rfl) (by kernel_rfl) (by kernel_rfl) (fun _ _ _ h => h) (Or.inl ⟨by kernel_rfl, ?_⟩) hHeld ?_
              rotate_left 1
              · intro W hW; first | (go_simp; done) | (go_simp; with_reducible rfl)
              try simp only [Act.put, List.setIfInBounds_toArray, List.set_cons_zero, List.set_cons_succ]
              refine wpAnyH_take (i := 10) (oi := ⟨_, _, _, _, _, _⟩) (v := ?_) rfl (by kernel_rfl) (by kernel_rfl) (by kernel_rfl) (fun _ _ _ h => h) (Or.inl ⟨by kernel_rfl, ?_⟩) hHeld ?_
              rotate_left 1
              · intro W hW; have k0 :=  hW.cell (H2.out.atCell (atV_len _) HAx.out) (HZ.out.2.2.2.1 ga rfl); first | (go_simp; done) | (go_simp; with_reducible rfl)
              try simp only [Act.put, List.setIfInBounds_toArray, List.set_cons_zero, List.set_cons_succ]
              refine wpAnyH_take (i := 11) (oi := ⟨_, _, _, _, _, _⟩) (v := ?_) rfl (by kernel_rfl) (by kernel_rfl) (by kernel_rfl) (fun _ _ _ h => h) (Or.inl ⟨by kernel_rfl, ?_⟩) hHeld ?_
              rotate_left 1
              · intro W hW; first | (go_simp; done) | (go_simp; with_reducible rfl)
              try simp only [Act.put, List.setIfInBounds_toArray, List.set_cons_zero, List.set_cons_succ]
              refine wpAnyH_take (i := 12) (oi := ⟨_, _, _, _, _, _⟩) (v := ?_) rfl (by kernel_rfl) (by kernel_rfl) (by kernel_rfl) (fun _ _ _ h => h) (Or.inl ⟨by kernel_rfl, ?_⟩) hHeld ?_
              rotate_left 1
              · intro W hW; first | (go_simp; done) | (go_simp; with_reducible rfl)
              try simp only [Act.put, List.setIfInBounds_toArray, List.set_cons_zero, List.set_cons_succ]
              refine wpAnyH_take (i := 13) (oi := ⟨_, _, _, _, _, _⟩) (v := ?_) rfl (by kernel_rfl) (by kernel_rfl) (by kernel_rfl) (fun _ _ _ h => h) (Or.inl ⟨by kernel_rfl, ?_⟩) hHeld ?_
              rotate_left 1
              · intro W hW; first | (go_simp; done) | (go_simp; with_reducible rfl)
              try simp only [Act.put, List.setIfInBounds_toArray, List.set_cons_zero, List.set_cons_succ]
              refine wpAnyH_take (i := 14) (oi := ⟨_, _, _, _, _, _⟩) (v := ?_) rfl (by kernel_rfl) (by kernel_rfl) (by kernel_rfl) (fun _ _ _ h => h) (Or.inl ⟨by kernel_rfl, ?_⟩) hHeld ?_
              rotate_left 1
              · intro W hW; first | (go_simp; done) | (go_simp; with_reducible rfl)
              try simp only [Act.put, List.setIfInBounds_toArray, List.set_cons_zero, List.set_cons_succ]
              refine wpAnyH_take (i := 15) (oi := ⟨_, _, _, _, _, _⟩) (v := ?_) rfl (by kernel_rfl) (by kernel_rfl) (by kernel_rfl) (fun _ _ _ h => h) (Or.inl ⟨by kernel_rfl, ?_⟩) hHeld ?_
              rotate_left 1
              · intro W hW; have k0 :=  hW.cell H2.out.c3 HZ.out.1; first | (go_simp; done) | (go_simp; with_reducible rfl)
              try simp only [Act.put, List.setIfInBounds_toArray, List.set_cons_zero, List.set_cons_succ]
              refine wpAnyH_take (i := 16) (oi := ⟨_, _, _, _, _, _⟩) (v := ?_) rfl (by kernel_rfl) (by kernel_rfl) (by kernel_rfl) (fun _ _ _ h => h) (Or.inl ⟨by kernel_rfl, ?_⟩) hHeld ?_
              rotate_left 1
              · intro W hW; first | (go_simp; done) | (go_simp; with_reducible rfl)
              try simp only [Act.put, List.setIfInBounds_toArray, List.set_cons_zero, List.set_cons_succ]
              refine wpAnyH_take (i := 17) (oi := ⟨_, _, _, _, _, _⟩) (v := ?_) rfl (by kernel_rfl) (by kernel_rfl) (by kernel_rfl) (fun _ _ _ h => h) (Or.inl ⟨by kernel_rfl, ?_⟩) hHeld ?_
              rotate_left 1
              · intro W hW; first | (go_simp; done) | (go_simp; with_reducible rfl)
              try simp only [Act.put, List.setIfInBounds_toArray, List.set_cons_zero, List.set_cons_succ]
              refine wpAnyH_take (i := 18) (oi := ⟨_, _, _, _, _, _⟩) (v := ?_) rfl (by kernel_rfl) (by kernel_rfl) (by kernel_rfl) (fun _ _ _ h => h) (Or.inl ⟨by kernel_rfl, ?_⟩) hHeld ?_
              rotate_left 1
              · intro W hW; first | (go_simp; done) | (go_simp; with_reducible rfl)
              try simp only [Act.put, List.setIfInBounds_toArray, List.set_cons_zero, List.set_cons_succ]
              refine wpAnyH_take (i := 19) (oi := ⟨_, _, _, _, _, _⟩) (v := ?_) rfl (by kernel_rfl) (by kernel_rfl) (by kernel_rfl) (fun _ _ _ h => h) (Or.inl ⟨by kernel_rfl, ?_⟩) hHeld ?_
              rotate_left 1
              · intro W hW; first | (go_simp; done) | (go_simp; with_reducible rfl)
              try simp only [Act.put, List.setIfInBounds_toArray, List.set_cons_zero, List.set_cons_succ]
              refine wpAnyH_take (i := 20) (oi := ⟨_, _, _, _, _, _⟩) (v := ?_) rfl (by kernel_rfl) (by kernel_rfl) (by kernel_rfl) (fun _ _ _ h => h) (Or.inl ⟨by kernel_rfl, ?_⟩) hHeld ?_
              rotate_left 1
              · intro W hW; have k0 :=  hW.cell (H2.out.whCell (whL_len _) HWs.out HWx.out HY.out) (HZ.out.2.2.2.2 gh rfl); first | (go_simp; done) | (go_simp; with_reducible rfl)
              try simp only [Act.put, List.setIfInBounds_toArray, List.set_cons_zero, List.set_cons_succ]
              refine wpAnyH_take (i := 21) (oi := ⟨_, _, _, _, _, _⟩) (v := ?_) rfl (by kernel_rfl) (by kernel_rfl) (by kernel_rfl) (fun _ _ _ h => h) (Or.inl ⟨by kernel_rfl, ?_⟩) hHeld ?_
              rotate_left 1
              · intro W hW; first | (go_simp; done) | (go_simp; with_reducible rfl)
              try simp only [Act.put, List.setIfInBounds_toArray, List.set_cons_zero, List.set_cons_succ]
              refine wpAnyH_take (i := 22) (oi := ⟨_, _, _, _, _, _⟩) (v := ?_) rfl (by kernel_rfl) (by kernel_rfl) (by kernel_rfl) (fun _ _ _ h => h) (Or.inl ⟨by kernel_rfl, ?_⟩) hHeld ?_
              rotate_left 1
              · intro W hW; first | (go_simp; done) | (go_simp; with_reducible rfl)
              try simp only [Act.put, List.setIfInBounds_toArray, List.set_cons_zero, List.set_cons_succ]
              refine wpAnyH_ready (rs := [23]) (by kernel_rfl) (by simp) ?_
              refine AllReadyH.cons rfl (fun K hK => ?_) AllReadyH.nil
              obtain ⟨yo, hyo⟩ : ∃ yo, (tin old s k (some n))[k]? = some yo := ⟨_, List.getElem?_eq_getElem (by rw [HTL.out]; exact hkl)⟩
              have hfc := H0.out.firmCell HG2.out HS2.out (i := at0) (by rw [List.getElem?_set_self HLI.out]) hyo
              have k0 := hfc.1
              have k1 := hfc.2
              rw [if_pos (by kernel_rfl)]
              go_simp
              have H3 := Lib.hid (show RkG (v0.setCell ⟨gf, at0 * 64 + k, none⟩ (.int .u8 y.toNat)) q (.slice (some ⟨gf, 0, none⟩) d.good.length cf) (.slice (some ⟨gn, 0, none⟩) d.now.length cn) (.slice (some ⟨ga, 0, none⟩) d.pend.length lc) (.slice (some ⟨gh, 0, none⟩) d.pend.length hc) d.left d.down d.writes (Gd.set at0 (tin old s (k + 1) (some n))) d.now (atV d.pend) (whL d.pend) from H0.out.byteFm HG2.out (at0 * 64 + k) _ _ (by rw [List.length_set, HGl.out]) (by rw [← tin_step HOL.out hkl hkn HY.out]; exact byte_flat HPS.out HLI.out HTL.out hkl y))
              have hkx : Kp (fun k => k = gf) v0 (v0.setCell ⟨gf, at0 * 64 + k, none⟩ (.int .u8 y.toNat)) := Kp.setCell (S := fun k => k = gf) (p := ⟨gf, at0 * 64 + k, none⟩) (Kp.refl _ v0) (.inl rfl) _
              generalize v0.setCell ⟨gf, at0 * 64 + k, none⟩ (.int .u8 y.toNat) = v1 at *
              refine hK.out _ _ ?_ (fun hHelda => ?_)
              · exact hHeld.trans hkx (fun _ _ x => x)
              clear hK K
              try simp only [Act.put, List.setIfInBounds_toArray, List.set_cons_zero, List.set_cons_succ]
              clear hkx k0 k1 hfc hyo
              refine wpAnyH_done (by kernel_rfl) ?_ _
              have HK3 := Lib.hid hHelda
              clear hHelda H0
              go_wp2_with fail
              go_roundw
              case rel => exact ⟨k + 1, by go_num, by omega, H3.out, HK2.out.trans HK3.out (fun k _ x => by rw [x]; exact HB.out gf (.inr (.inl rfl)))⟩
              case measure => simp [intOf]; omega
            · go_wp2_with fail
              go_roundw
              case rel => exact ⟨k + 1, by go_num, by omega, by rw [tin_same old s k n hkn]; exact H2.out, HK2.out⟩
              case measure => simp [intOf]; omega
          · have hn : ks[i]? = none := List.getElem?_eq_none (by omega)
            rw [hn] at HX H2 ⊢
            have hik' : ¬ (i : Int) < ((ks.length : Nat) : Int) := by omega
            clear hn
            go_wp2_with fail
            go_roundw
            case rel => exact ⟨k + 1, by go_num, by omega, H2.out, HK2.out⟩
            case measure => simp [intOf]; omega
        · obtain rfl : k = 64 := by omega
          have H3 := Lib.hid (show crashL d.good (d.pend.take (i + 1)) ks = Gd.set at0 (tin old s 64 ks[i]?) by
            rw [HX.out]
            cases ks[i]? with
            | none => exact HSG.out.symm
            | some n => rw [tin_full])
          clear HX
          go_wp2_with fail
          go_roundw
          case rel => exact ⟨i + 1, by go_num, by omega, by rw [H3.out]; exact H2.out, HK2.out⟩
          case measure => simp [intOf]; omega
    · obtain rfl : i = d.pend.length := by omega
      rw [List.take_length] at H1
      have HCl := Lib.hid (show d.now.length = (crashL d.good d.pend ks).length by rw [crash_len, HL.out])
      have HCs := Lib.hid (crash_secs d.pend d.good ks HOK.out.secs (fun y hy => (HOK.out.pend y hy).2))
      have HCk := Lib.hid (crash_ok HOK.out ks)
      have HCe := Lib.hid (show d.crash ks = { d with good := crashL d.good d.pend ks, now := crashL d.good d.pend ks, pend := [], left := 0, down := false } from rfl)
      generalize crashL d.good d.pend ks = C at *
      go_wp2_with fail
      clear b2
      go_loopw [6] (fun t wr => ∃ i : Nat, t = .int .i64 i ∧ i ≤ d.now.length ∧ RkG wr q (.slice (some ⟨gf, 0, none⟩) d.good.length cf) (.slice (some ⟨gn, 0, none⟩) d.now.length cn) (.slice La d.pend.length lc) (.slice Ha d.pend.length hc) d.left d.down d.writes C (cpy d.now C i) (atV d.pend) (whL d.pend) ∧ Kp B w wr) (fun t _ => d.now.length - (intOf t).toNat)
      case atStart => exact ⟨0, rfl, Nat.zero_le _, by rw [cpy_zero]; exact H1.out, HK1.out⟩
      case round =>
        obtain ⟨j, rfl, hj, h2, hk2⟩ := hrel
        have H2 := Lib.hid h2
        have HK2 := Lib.hid hk2
        have b1 := h2.c1
        clear h2 hk2 H1 HK1
        by_cases hlt : j < d.now.length
        · obtain ⟨x, hx⟩ : ∃ x, C[j]? = some x := ⟨_, List.getElem?_eq_getElem (by have := HCl.out; omega)⟩
          have HX := Lib.hid hx
          have HXL := Lib.hid (HCs.out x (List.mem_of_getElem? hx))
          have hlt' : (j : Int) < ((d.now.length : Nat) : Int) := by omega
          have hli' : (j : Int) < ((d.good.length : Nat) : Int) := by have := HL.out; omega
          have hil := HN.out
          have HGl := Lib.hid (show (cpy d.now C j).length = d.now.length from cpy_len _ _ _ HCl.out)
          have HPS := Lib.hid (cpy_secs d.now C j HOK.out.nows HCs.out)
          have HRg := Lib.hid (H2.out.rangeF (by rw [← HCl.out, HL.out]) HCs.out hx)
          clear hx
          go_upto_region 11 with fail
          clear b1
          refine wp_region_held_drew (S := fun W => Kp (fun k => k = gn) wr W) (by kernel_rfl) (Kp.drew (Kp.refl _ _)) (fun hHeld => ?_)
          have H0 := Lib.hid H2.out.drew
          generalize World.drew wr = v0 at *
          refine wpAnyH_take (i := 0) (oi := ⟨_, _, _, _, _, _⟩) (v := ?_) rfl (by kernel_rfl) (by kernel_rfl) (by kernel_rfl) (fun _ _ _ h => h) (Or.inl ⟨by kernel_rfl, ?_⟩) hHeld ?_
          rotate_left 1
          · intro W hW; first | (go_simp; done) | (go_simp; with_reducible rfl)
          try simp only [Act.put, List.setIfInBounds_toArray, List.set_cons_zero, List.set_cons_succ]
          refine wpAnyH_take (i := 1) (oi := ⟨_, _, _, _, _, _⟩) (v := ?_) rfl (by kernel_rfl) (by kernel_rfl) (by kernel_rfl) (fun _ _ _ h => h) (Or.inl ⟨by kernel_rfl, ?_⟩) hHeld ?_
          rotate_left 1
          · intro W hW; first | (go_simp; done) | (go_simp; with_reducible rfl)
          try simp only [Act.put, List.setIfInBounds_toArray, List.set_cons_zero, List.set_cons_succ]
          refine wpAnyH_take (i := 2) (oi := ⟨_, _, _, _, _, _⟩) (v := ?_) rfl (by kernel_rfl) (by kernel_rfl) (by kernel_rfl) (fun _ _ _ h => h) (Or.inl ⟨by kernel_rfl, ?_⟩) hHeld ?_
          rotate_left 1
          · intro W hW; first | (go_simp; done) | (go_simp; with_reducible rfl)
          try simp only [Act.put, List.setIfInBounds_toArray, List.set_cons_zero, List.set_cons_succ]
          refine wpAnyH_take (i := 3) (oi := ⟨_, _, _, _, _, _⟩) (v := ?_) rfl (by kernel_rfl) (by kernel_rfl) (by kernel_rfl) (fun _ _ _ h => h) (Or.inl ⟨by kernel_rfl, ?_⟩) hHeld ?_
          rotate_left 1
          · intro W hW; have k0 :=  hW.cell H2.out.c1 HZ.out.2.1; first | (go_simp; done) | (go_simp; with_reducible rfl)
          try simp only [Act.put, List.setIfInBounds_toArray, List.set_cons_zero, List.set_cons_succ]
          refine wpAnyH_take (i := 4) (oi := ⟨_, _, _, _, _, _⟩) (v := ?_) rfl (by kernel_rfl) (by kernel_rfl) (by kernel_rfl) (fun _ _ _ h => h) (Or.inl ⟨by kernel_rfl, ?_⟩) hHeld ?_
          rotate_left 1
          · intro W hW; first | (go_simp; done) | (go_simp; with_reducible rfl)
          try simp only [Act.put, List.setIfInBounds_toArray, List.set_cons_zero, List.set_cons_succ]
          refine wpAnyH_take (i := 5) (oi := ⟨_, _, _, _, _, _⟩) (v := ?_) rfl (by kernel_rfl) (by kernel_rfl) (by kernel_rfl) (fun _ _ _ h => h) (Or.inl ⟨by kernel_rfl, ?_⟩) hHeld ?_
          rotate_left 1
          · intro W hW; first | (go_simp; done) | (go_simp; with_reducible rfl)
          try simp only [Act.put, List.setIfInBounds_toArray, List.set_cons_zero, List.set_cons_succ]
          refine wpAnyH_take (i := 6) (oi := ⟨_, _, _, _, _, _⟩) (v := ?_) rfl (by kernel_rfl) (by kernel_rfl) (by kernel_rfl) (fun _ _ _ h => h) (Or.inl ⟨by kernel_rfl, ?_⟩) hHeld ?_
          rotate_left 1
          · intro W hW; first | (go_simp; done) | (go_simp; with_reducible rfl)
          try simp only [Act.put, List.setIfInBounds_toArray, List.set_cons_zero, List.set_cons_succ]
          refine wpAnyH_take (i := 7) (oi := ⟨_, _, _, _, _, _⟩) (v := ?_) rfl (by kernel_rfl) (by kernel_rfl) (by kernel_rfl) (fun _ _ _ h => h) (Or.inl ⟨by kernel_rfl, ?_⟩) hHeld ?_
          rotate_left 1
          · intro W hW; first | (go_simp; done) | (go_simp; with_reducible rfl)
          try simp only [Act.put, List.setIfInBounds_toArray, List.set_cons_zero, List.set_cons_succ]
          refine wpAnyH_take (i := 8) (oi := ⟨_, _, _, _, _, _⟩) (v := ?_) rfl (by kernel_rfl) (by kernel_rfl) (by kernel_rfl) (fun _ _ _ h => h) (Or.inl ⟨by kernel_rfl, ?_⟩) hHeld ?_
          rotate_left 1
          · intro W hW; have k0 :=  hW.cell H2.out.c0 HZ.out.2.1; first | (go_simp; done) | (go_simp; with_reducible rfl)
          try simp only [Act.put, List.setIfInBounds_toArray, List.set_cons_zero, List.set_cons_succ]
          refine wpAnyH_take (i := 9) (oi := ⟨_, _, _, _, _, _⟩) (v := ?_) rfl (by kernel_rfl) (by kernel_rfl) (by kernel_rfl) (fun _ _ _ h => h) (Or.inl ⟨by kernel_rfl, ?_⟩) hHeld ?_
          rotate_left 1
          · intro W hW; first | (go_simp; done) | (go_simp; with_reducible rfl)
          try simp only [Act.put, List.setIfInBounds_toArray, List.set_cons_zero, List.set_cons_succ]
          refine wpAnyH_take (i := 10) (oi := ⟨_, _, _, _, _, _⟩) (v := ?_) rfl (by kernel_rfl) (by kernel_rfl) (by kernel_rfl) (fun _ _ _ h => h) (Or.inl ⟨by kernel_rfl, ?_⟩) hHeld ?_
          rotate_left 1
          · intro W hW; first | (go_simp; done) | (go_simp; with_reducible rfl)
          try simp only [Act.put, List.setIfInBounds_toArray, List.set_cons_zero, List.set_cons_succ]
          refine wpAnyH_take (i := 11) (oi := ⟨_, _, _, _, _, _⟩) (v := (.agg (bc x).toArray)) rfl (by kernel_rfl) (by kernel_rfl) (by kernel_rfl) (fun _ _ _ h => h) (yieldsIf_load_mid (S := fun W => Kp (fun k => k = gn) wr W) (by kernel_rfl) 40 (.tmp 74) rfl gf (j * 64) rfl (bc x) _ (fun W hW => kp_range hW HZ.out.2.2.1 HRg.out) Try.underlying40 rfl (sec_info2 x HXL.out)) hHeld ?_
          try simp only [Act.put, List.setIfInBounds_toArray, List.set_cons_zero, List.set_cons_succ]
          refine wpAnyH_take (i := 12) (oi := ⟨_, _, _, _, _, _⟩) (v := ?_) rfl (by kernel_rfl) (by kernel_rfl) (by kernel_rfl) (fun _ _ _ h => h) (Or.inl ⟨by kernel_rfl, ?_⟩) hHeld ?_
          rotate_left 1
          · intro W hW; first | (go_simp; done) | (go_simp; with_reducible rfl)
          try simp only [Act.put, List.setIfInBounds_toArray, List.set_cons_zero, List.set_cons_succ]
          refine wpAnyH_ready (rs := [13]) (by kernel_rfl) (by simp) ?_
          refine AllReadyH.cons rfl (fun K hK => ?_) AllReadyH.nil
          have HT := Lib.hid (show v0.there gn (j * 64) (bc x).toArray.size by rw [bc_size, HXL.out]; exact H0.out.thereN HGl.out HPS.out (by rw [HGl.out]; exact hlt))
          rw [if_pos (by kernel_rfl)]
          refine wp_store_mid 40 _ _ rfl gn (j * 64) (bc x).toArray rfl rfl HT.out (sec_info' x HXL.out) (bc_all x) ?_
          have H3 := Lib.hid (show RkG (v0.setCells gn (j * 64) (bc x).toArray.toList) q (.slice (some ⟨gf, 0, none⟩) d.good.length cf) (.slice (some ⟨gn, 0, none⟩) d.now.length cn) (.slice La d.pend.length lc) (.slice Ha d.pend.length hc) d.left d.down d.writes C (cpy d.now C (j + 1)) (atV d.pend) (whL d.pend) from by
            have := H0.out.storeNm HGl.out HPS.out (j := j) (by rw [HGl.out]; exact hlt) x HXL.out
            rw [cpy_step _ _ HCl.out HX.out] at this
            exact this)
          have hkx : Kp (fun k => k = gn) v0 (v0.setCells gn (j * 64) (bc x).toArray.toList) := setCells_kp1 gn _ _ _
          generalize v0.setCells gn (j * 64) (bc x).toArray.toList = v1 at *
          refine hK.out _ _ ?_ (fun hHelda => ?_)
          · exact hHeld.trans hkx (fun _ _ x => x)
          clear hK K
          try simp only [Act.put, List.setIfInBounds_toArray, List.set_cons_zero, List.set_cons_succ]
          clear hkx HT
          refine wpAnyH_done (by kernel_rfl) ?_ _
          have HK3 := Lib.hid hHelda
          clear hHelda H0
          go_wp2_with fail
          go_roundw
          case rel => exact ⟨j + 1, by go_num, by omega, H3.out, HK2.out.trans HK3.out (fun k _ x => by rw [x]; exact HB.out gn (.inr (.inr (.inl rfl))))⟩
          case measure => simp [intOf]; omega
        · obtain rfl : j = d.now.length := by omega
          have H3 := Lib.hid (show RkG _ q (.slice (some ⟨gf, 0, none⟩) d.good.length cf) (.slice (some ⟨gn, 0, none⟩) d.now.length cn) (.slice La d.pend.length lc) (.slice Ha d.pend.length hc) d.left d.down d.writes C C (atV d.pend) (whL d.pend) from by have := H2.out; rw [show cpy d.now C d.now.length = C from by rw [HCl.out]; exact cpy_full _ _ HCl.out] at this; exact this)
          have f2 := H3.out.fr 2
          have b2 := H3.out.c2
          have f3 := H3.out.noA.fr 3
          have b3 := H3.out.noA.c3
          have f4 := H3.out.noA.noH.fr 4
          have b4 := H3.out.noA.noH.c4
          have f5 := (H3.out.noA.noH.updL 0).fr 5
          have b5 := (H3.out.noA.noH.updL 0).c5
          clear hlt hj H2
          go_wp2_with fail
          go_end0
          refine ⟨⟨_, rfl⟩, ⟨_, _, _, _, (show RkAt _ q _ _ _ _ (d.crash ks) from by rw [HCe.out]; exact (H3.out.noA.noH.updL 0).updD false), fun k hk => ?_, HCk.out⟩, Kp.setCell (p := ⟨q, 5, none⟩) (Kp.setCell (p := ⟨q, 4, none⟩) (Kp.setCell (p := ⟨q, 3, none⟩) (Kp.setCell (p := ⟨q, 2, none⟩) HK2.out (.inl (HB.out q (.inl rfl))) _) (.inl (HB.out q (.inl rfl))) _) (.inl (HB.out q (.inl rfl))) _) (.inl (HB.out q (.inl rfl))) _⟩
          rcases hk with y | y | y | y | y
          · exact .inl (HB.out k (.inl y))
          · exact .inl (HB.out k (.inr (.inl y)))
          · exact .inl (HB.out k (.inr (.inr (.inl y))))
          · cases y
          · cases y

end Go.Proofs.Ytlaecnggbcagcaa
