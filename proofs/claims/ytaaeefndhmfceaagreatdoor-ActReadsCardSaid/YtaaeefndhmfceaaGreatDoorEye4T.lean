/- Contracts of the document's own answers for layer 4: an eye in whatever state; how what is read by it is an act. -/
import Derived.Test.YtaaeefndhmfceaaGreatDoorEyeV
import Derived.Test.YtaaeefndhmfceaaGreatDoorRef4b
import Derived.Test.YtaaeefndhmfceaaGreatDoorActT
namespace Go.Proofs.YtaaeefndhmfceaaGreatDoor
open Go.RowKit MM

/-- The next part of an eye at s whose error is E: the part, where it stands then, its error. -/
def eyeP (bs : List UInt8) (k : Nat) (m : Int) (s E : Nat) : PK.Rp × Nat × Nat :=
  if E = 0 then
    match partR k m (bs.drop s) with
    | .ok pt n => (PK.plainP pt, s + n, 0)
    | .bad code n => (zeroRp, s + n, code)
  else (zeroRp, s, E)
/-- The next record. -/
def eyeN (bs : List UInt8) (s E : Nat) : RC.Rc × Nat × Nat :=
  if E = 0 then
    match recR (bs.drop s) with
    | .ok r n => (r, s + n, 0)
    | .bad code n => (RC.zero, s + n, code)
  else (RC.zero, s, E)
section
variable {bs : List UInt8} {k : Nat} {m : Int} {s E n code : Nat}
theorem eyeP_ok {pt : PK.Pt} (h : partR k m (bs.drop s) = .ok pt n) : eyeP bs k m s 0 = (PK.plainP pt, s + n, 0) := by unfold eyeP; rw [if_pos rfl, h]
theorem eyeP_bad (h : partR k m (bs.drop s) = .bad code n) : eyeP bs k m s 0 = (zeroRp, s + n, code) := by unfold eyeP; rw [if_pos rfl, h]
theorem eyeP_no (h : 0 < E) : eyeP bs k m s E = (zeroRp, s, E) := by unfold eyeP; rw [if_neg (by omega)]
theorem eyeN_ok {r : RC.Rc} (h : recR (bs.drop s) = .ok r n) : eyeN bs s 0 = (r, s + n, 0) := by unfold eyeN; rw [if_pos rfl, h]
theorem eyeN_bad (h : recR (bs.drop s) = .bad code n) : eyeN bs s 0 = (RC.zero, s + n, code) := by unfold eyeN; rw [if_pos rfl, h]
theorem eyeN_no (h : 0 < E) : eyeN bs s E = (RC.zero, s, E) := by unfold eyeN; rw [if_neg (by omega)]
end

def EPp (p : Nat) (A : Option Addr) (c : Nat) (bs : List UInt8) (s E k : Nat) (m : Int) (w : World) (e : Ending) (w' : World) : Prop :=
  ∃ qk qu qi qq qt qb s' E', eyeP bs k m s E = (⟨qk, qu, qi, qq, qt, qb⟩, s', E') ∧ e = .returned (.agg #[.int .u8 (qk : Nat), .int .u64 (qu : Nat), .int .i64 qi, .int .u64 (qq : Nat), .string qt, .bool qb]) ∧ Ey w' p A c bs s' E' ∧ Kp (fun k => k = p) w w'
theorem epart_all (p : Nat) (A : Option Addr) (c : Nat) (bs : List UInt8) (s E k : Nat) (m : Int) (w : World) (hk : k < 256) (hm : (Lit.int .i64 m).wf = true) (he : Ey w p A c bs s E) :
    Calls Tryz.prog 87 #[.pointer (some ⟨p, 0, none⟩), .int .u8 k, .int .i64 m] w (EPp p A c bs s E k m w) := by
  rcases Nat.eq_zero_or_pos E with hE | hE
  · subst hE
    refine (epart_any p A c bs s k m w hk hm he).mono ?_
    rintro e w' ⟨hk, h⟩
    cases hR : partR k m (bs.drop s) with
    | ok pt n =>
      rw [hR] at h
      obtain ⟨⟨k', u, i, q, t, b, hp, rfl⟩, he'⟩ := h
      exact ⟨k', u, i, q, t, b, _, _, (eyeP_ok hR).trans (by rw [hp]), rfl, he', hk⟩
    | bad code n =>
      rw [hR] at h
      obtain ⟨rfl, he'⟩ := h
      exact ⟨0, 0, 0, 0, ⟨#[]⟩, false, _, _, eyeP_bad hR, rfl, he', hk⟩
  · refine (epart_no p A c bs s E k m w hE he).mono ?_
    rintro e w' ⟨rfl, hb⟩
    exact ⟨0, 0, 0, 0, ⟨#[]⟩, false, _, _, eyeP_no hE, rfl, he.below hb, Kp.of_below hb _⟩

set_option maxHeartbeats 2000000 in
set_option maxRecDepth 100000 in
/-- A record behind something that was wrong. -/
theorem rnext_no (E : Nat) (p : Nat) (A : Option Addr) (c : Nat) (bs : List UInt8) (at_ : Nat) (w : World) (he : Ey w p A c bs at_ E) (hc : 0 < E) (hA : bs ≠ [] → ∀ ad, A = some ad → ad.block < w.heap.size) :
    Calls Tryz.prog 89 #[.pointer (some ⟨p, 0, none⟩)] w fun e w' => e = .returned (recV RC.zero none 0) ∧ Ey w' p A c bs at_ E ∧ Kp (fun k => k = p) w w' := by
  have hp := lt_of_heap he.row
  have HX := Lib.hid (fun w' (he' : Ey w' p A c bs at_ E) => eupto_no p A c bs at_ E 9 w' hc he')
  rw [show ((9 : Nat) : Int) = 9 from rfl] at HX
  have HFl := Lib.hid (fun w' at2 (he' : Ey w' p A c bs at2 E) => efail_no p A c bs at2 E 5 w' hc he')
  have HE := Lib.hid he
  have h1 : ((E : Int) == 0) = false := by simp; omega
  have h2 : ((E : Int) != 0) = true := by simp; omega
  clear he
  go_enter Tryz.func89, Tryz.ntmps89
  go_wp2_with fail
  refine (HX.out _ (HE.out.below (below2 w _ _))).mono ?_
  rintro e w1 ⟨rfl, hb1⟩
  have he1 := (HE.out.below (below2 w _ _)).below hb1
  have r0 := (hb1.block w.heap.size (by simp only [World.size_alloc]; omega)).trans (heap_alloc2_old w _ _)
  have r1 := (hb1.block (w.heap.size + 1) (by simp only [World.size_alloc]; omega)).trans (heap_alloc2_new w _ _)
  have c1 := fun o => cell_of_row w1 _ o _ _ (0, 0) r1
  have f1 : ∀ o, w1.frozen? ⟨w.heap.size + 1, o, none⟩ = false := fun o => frozen_of_row _ _ o _ _ r1
  have HK1 := Lib.hid (show Kp (fun k => k = p) w w1 from (((Kp.refl _ w).alloc _).alloc _).same (Kp.of_below hb1 _))
  have R0 := Lib.hid r0
  have R1 := Lib.hid r1
  have HE1 := Lib.hid he1
  clear r0 r1 hb1 he1
  go_wp2_with fail
  generalize hv1 : World.setCell _ _ _ = v1
  have kv : Kp (fun k => w.heap.size ≤ k) w1 v1 := by rw [← hv1]; exact Kp.setCell (Kp.refl _ _) (Or.inl (by show w.heap.size ≤ w.heap.size + 1; omega)) _
  have heV := HE1.out.far hp hA kv
  have HKv := Lib.hid (show Kp (fun k => k = p) w v1 by rw [← hv1]; exact Kp.setCell HK1.out (Or.inr (by show w.heap.size ≤ w.heap.size + 1; omega)) _)
  have O1 := Lib.hid (show v1.heap[w.heap.size + 1]? = some (.cells (recC 0 0 0 0 0 0 ⟨#[]⟩ (.slice none 0 0)) 25 (0, 0)) by rw [← hv1]; exact heap_setCell_same _ _ _ _ _ _ R1.out)
  have Q1 := Lib.hid ((show v1.heap[w.heap.size]? = _ by rw [← hv1]; exact heap_setCell_other _ _ _ _ (by show w.heap.size ≠ w.heap.size + 1; omega)).trans R0.out)
  clear hv1 kv c1 f1 R0 R1 HK1 HE1
  refine (HFl.out _ _ heV).mono ?_
  rintro e w2 ⟨rfl, he2, hk2⟩
  have r0 := (hk2.block _ (lt_of_heap Q1.out) (by show ¬ w.heap.size = p; omega)).trans Q1.out
  have r1 := (hk2.block _ (lt_of_heap O1.out) (by show ¬ w.heap.size + 1 = p; omega)).trans O1.out
  have c1 := fun o => cell_of_row w2 _ o _ _ (0, 0) r1
  have cR := fun o => cell_of_row w2 _ o _ _ (0, 0) r0
  have fR : ∀ o, w2.frozen? ⟨w.heap.size, o, none⟩ = false := fun o => frozen_of_row _ _ o _ _ r0
  have cE := fun o => cell_of_row w2 _ o _ _ (0, 0) he2.row
  have HE2 := Lib.hid he2
  have HK2 := Lib.hid (HKv.out.same hk2)
  clear r0 r1 he2 hk2
  go_wp2_with fail
  refine bodyPost_ret (v := .agg (recC 0 0 0 0 0 0 ⟨#[]⟩ (.slice none 0 0))) (by simp [results, Tryz.results89, go_sem, cR]) rfl ?_
  refine ⟨rfl, HE2.out.far hp hA ?_, ?_⟩
  · iterate 8 refine Kp.setCell ?_ (Or.inl (by simp)) _
    exact Kp.refl _ _
  · iterate 8 refine Kp.setCell ?_ (Or.inr (by simp)) _
    exact HK2.out

def ENp (p : Nat) (A : Option Addr) (c : Nat) (bs : List UInt8) (s E : Nat) (w : World) (e : Ending) (w' : World) : Prop :=
  ∃ r A' c' s' E', eyeN bs s E = (r, s', E') ∧ e = .returned (recV r A' c') ∧ w'.ownsRow 0 88 2 (.slice A' r.list.length c') r.list.length (itCells r.list) ∧ (∀ k, ob A' = some k → w.heap.size ≤ k) ∧ Ey w' p A c bs s' E' ∧ Kp (fun k => k = p) w w'
theorem rnext_all (p : Nat) (A : Option Addr) (c : Nat) (bs : List UInt8) (s E : Nat) (w : World) (he : Ey w p A c bs s E) (hA : bs ≠ [] → ∀ ad, A = some ad → ad.block < w.heap.size) :
    Calls Tryz.prog 89 #[.pointer (some ⟨p, 0, none⟩)] w (ENp p A c bs s E w) := by
  rcases Nat.eq_zero_or_pos E with hE | hE
  · subst hE
    refine (rnext_any p A c bs s w he hA).mono ?_
    rintro e w' ⟨hk, h⟩
    cases hR : recR (bs.drop s) with
    | ok r n =>
      rw [hR] at h
      obtain ⟨⟨A', c', rfl, ho, hn⟩, he'⟩ := h
      exact ⟨r, A', c', _, _, eyeN_ok hR, rfl, ho, hn, he', hk⟩
    | bad code n =>
      rw [hR] at h
      obtain ⟨rfl, he'⟩ := h
      exact ⟨RC.zero, none, 0, _, _, eyeN_bad hR, rfl, World.ownsRow_nil _ _ _ _, fun k e => (by cases e), he', hk⟩
  · refine (rnext_no E p A c bs s w he hE hA).mono ?_
    rintro e w' ⟨rfl, he', hk⟩
    exact ⟨RC.zero, none, 0, _, _, eyeN_no hE, rfl, World.ownsRow_nil _ _ _ _, fun k e => (by cases e), he', hk⟩

/-! ### what is read is an act -/
section
variable {bs : List UInt8} {s s1 E1 : Nat} {q : PK.Rp} {m : Int} {r : RC.Rc}
theorem eyeP_flag (h : eyeP bs 98 0 s 0 = (q, s1, E1)) : (E1 = 0 ∧ ∃ n, flagR (bs.drop s) = .ok q.b n ∧ s1 = s + n) ∨ (0 < E1 ∧ ∃ n, flagR (bs.drop s) = .bad E1 n ∧ s1 = s + n) := by
  cases hR : flagR (bs.drop s) with
  | ok b n =>
    rw [eyeP_ok (show partR 98 0 (bs.drop s) = .ok { PK.zeroPt 98 with b := b } n by show Res.map _ (flagR _) = _; rw [hR]; rfl)] at h
    injection h with h1 h2; injection h2 with h2 h3
    subst h1 h2 h3
    exact .inl ⟨rfl, n, rfl, rfl⟩
  | bad code n =>
    rw [eyeP_bad (show partR 98 0 (bs.drop s) = .bad code n by show Res.map _ (flagR _) = _; rw [hR]; rfl)] at h
    injection h with h1 h2; injection h2 with h2 h3
    subst h1 h2 h3
    exact .inr ⟨PosR.flag _ _ _ hR, n, rfl, rfl⟩
theorem eyeP_num (h : eyeP bs 105 0 s 0 = (q, s1, E1)) : (E1 = 0 ∧ ∃ n v, numR (bs.drop s) = .ok v n ∧ q.i = PK.zag v ∧ s1 = s + n) ∨ (0 < E1 ∧ ∃ n, numR (bs.drop s) = .bad E1 n ∧ s1 = s + n) := by
  cases hR : numR (bs.drop s) with
  | ok v n =>
    rw [eyeP_ok (show partR 105 0 (bs.drop s) = .ok { PK.zeroPt 105 with i := PK.zag v } n by show Res.map _ (numR _) = _; rw [hR]; rfl)] at h
    injection h with h1 h2; injection h2 with h2 h3
    subst h1 h2 h3
    exact .inl ⟨rfl, n, v, rfl, rfl, rfl⟩
  | bad code n =>
    rw [eyeP_bad (show partR 105 0 (bs.drop s) = .bad code n by show Res.map _ (numR _) = _; rw [hR]; rfl)] at h
    injection h with h1 h2; injection h2 with h2 h3
    subst h1 h2 h3
    exact .inr ⟨PosR.num _ _ _ hR, n, rfl, rfl⟩
theorem eyeP_txt (h : eyeP bs 115 m s 0 = (q, s1, E1)) : (E1 = 0 ∧ ∃ n v, txtR m (bs.drop s) = .ok v n ∧ q.s = ⟨v.toArray⟩ ∧ s1 = s + n) ∨ (0 < E1 ∧ ∃ n, txtR m (bs.drop s) = .bad E1 n ∧ s1 = s + n) := by
  cases hR : txtR m (bs.drop s) with
  | ok v n =>
    rw [eyeP_ok (show partR 115 m (bs.drop s) = .ok { PK.zeroPt 115 with s := ⟨v.toArray⟩ } n by show Res.map _ (txtR _ _) = _; rw [hR]; rfl)] at h
    injection h with h1 h2; injection h2 with h2 h3
    subst h1 h2 h3
    exact .inl ⟨rfl, n, v, rfl, rfl, rfl⟩
  | bad code n =>
    rw [eyeP_bad (show partR 115 m (bs.drop s) = .bad code n by show Res.map _ (txtR _ _) = _; rw [hR]; rfl)] at h
    injection h with h1 h2; injection h2 with h2 h3
    subst h1 h2 h3
    exact .inr ⟨PosR.txt _ _ _ _ hR, n, rfl, rfl⟩
theorem eyeP_flo (h : eyeP bs 102 0 s 0 = (q, s1, E1)) : (E1 = 0 ∧ MF.W64 q.p ∧ ∃ n, floR (bs.drop s) = .ok (MF.bk q.p) n ∧ s1 = s + n) ∨ (0 < E1 ∧ ∃ n, floR (bs.drop s) = .bad E1 n ∧ s1 = s + n) := by
  cases hR : floR (bs.drop s) with
  | ok v n =>
    rw [eyeP_ok (show partR 102 0 (bs.drop s) = .ok { PK.zeroPt 102 with f := v } n by show Res.map _ (floR _) = _; rw [hR]; rfl)] at h
    injection h with h1 h2; injection h2 with h2 h3
    subst h1 h2 h3
    obtain ⟨-, -, -, hW, hcn⟩ := floR_one hR
    refine .inl ⟨rfl, MF.key_lt hW, n, ?_, rfl⟩
    show Res.ok v n = Res.ok (MF.bk (MF.key v)) n
    rw [MF.bk_key hW, hcn]
  | bad code n =>
    rw [eyeP_bad (show partR 102 0 (bs.drop s) = .bad code n by show Res.map _ (floR _) = _; rw [hR]; rfl)] at h
    injection h with h1 h2; injection h2 with h2 h3
    subst h1 h2 h3
    exact .inr ⟨PosR.flo _ _ _ hR, n, rfl, rfl⟩
theorem eyeN_rec (h : eyeN bs s 0 = (r, s1, E1)) : (E1 = 0 ∧ ∃ n, recR (bs.drop s) = .ok r n ∧ s1 = s + n) ∨ (0 < E1 ∧ ∃ n, recR (bs.drop s) = .bad E1 n ∧ s1 = s + n) := by
  cases hR : recR (bs.drop s) with
  | ok v n =>
    rw [eyeN_ok hR] at h
    injection h with h1 h2; injection h2 with h2 h3
    subst h1 h2 h3
    exact .inl ⟨rfl, n, rfl, rfl⟩
  | bad code n =>
    rw [eyeN_bad hR] at h
    injection h with h1 h2; injection h2 with h2 h3
    subst h1 h2 h3
    exact .inr ⟨PosR.rc _ _ _ hR, n, rfl, rfl⟩
theorem eyeP_stay {k E : Nat} (hE : 0 < E) (h : eyeP bs k m s E = (q, s1, E1)) : q = zeroRp ∧ s1 = s ∧ E1 = E := by
  rw [eyeP_no hE] at h
  injection h with h1 h2; injection h2 with h2 h3
  exact ⟨h1.symm, h2.symm, h3.symm⟩
theorem eyeN_stay {E : Nat} (hE : 0 < E) (h : eyeN bs s E = (r, s1, E1)) : s1 = s ∧ E1 = E := by
  rw [eyeN_no hE] at h
  injection h with h1 h2; injection h2 with h2 h3
  exact ⟨h2.symm, h3.symm⟩
end

/-- What came of it, ahead of the check. -/
structure NGo (bs : List UInt8) (at_ : Nat) (a : AC.Ac) (s : Nat) : Prop where
  ok : a.ok
  l1 : Lim a.make.list.length
  l2 : Lim a.key.size
  l3 : Lim a.s.size
  yes : AC.chk a = 0 → actR (bs.drop at_) = .ok a (s - at_)
  no : AC.chk a ≠ 0 → actR (bs.drop at_) = .bad (AC.chk a) (s - at_)
  le : at_ ≤ s
def Nout (bs : List UInt8) (at_ : Nat) (a : AC.Ac) (s E : Nat) : Prop := (E = 0 → NGo bs at_ a s) ∧ (0 < E → actR (bs.drop at_) = .bad E (s - at_) ∧ at_ ≤ s)
theorem nout_of {bs : List UInt8} {at_ k n0 s1 E1 s2 E2 s3 E3 : Nat} {q1 q2 : PK.Rp} {a : AC.Ac} (hK : kindA (bs.drop at_) = .ok k n0) (f1 : eyeP bs 98 0 (at_ + n0) 0 = (q1, s1, E1)) (f2 : eyeP bs 115 24 s1 E1 = (q2, s2, E2)) (hlim : Lim bs.length)
    (hF : E2 = 0 → (E3 = 0 ∧ ∃ n, actfR k q1.b q2.s (bs.drop s2) = .ok a n ∧ s3 = s2 + n) ∨ (0 < E3 ∧ ∃ n, actfR k q1.b q2.s (bs.drop s2) = .bad E3 n ∧ s3 = s2 + n))
    (hN : 0 < E2 → E3 = E2 ∧ s3 = s2) : Nout bs at_ a s3 E3 := by
  have hd : ∀ i j, (bs.drop i).drop j = bs.drop (i + j) := fun i j => List.drop_drop
  rcases eyeP_flag f1 with ⟨rfl, n1, g1, rfl⟩ | ⟨hp, n1, g1, rfl⟩
  · rcases eyeP_txt f2 with ⟨rfl, n2, v, g2, hq, rfl⟩ | ⟨hp, n2, g2, rfl⟩
    · have g2' : keyR ((((bs.drop at_).drop n0)).drop n1) = .ok q2.s n2 := by rw [hd, hd]; unfold keyR sR; rw [g2, hq]; rfl
      have g1' : flagR ((bs.drop at_).drop n0) = .ok q1.b n1 := by rw [hd]; exact g1
      rcases hF rfl with ⟨rfl, n3, g3, rfl⟩ | ⟨hp3, n3, g3, rfl⟩
      · have g3' : actfR k q1.b q2.s ((((bs.drop at_).drop n0).drop n1).drop n2) = .ok a n3 := by rw [hd, hd, hd]; exact g3
        obtain ⟨-, -, hk1⟩ := kindA_inv hK
        obtain ⟨-, -, hao, -, -, hay⟩ := actfR_one hk1 g3'
        have hlm := actfR_lim g3'
        have hkl := sR_len (show sR 24 _ = _ from g2')
        simp only [List.length_drop] at hlm hkl
        unfold Lim at hlim
        refine ⟨fun _ => ⟨hao, by unfold Lim; omega, by rw [hay]; unfold Lim; omega, by unfold Lim; omega, fun hc => ?_, fun hc => ?_, by omega⟩, fun h => by omega⟩
        · rw [actR_ok hK g1' g2' g3' hc]; congr 1; omega
        · rw [actR_no hK g1' g2' g3' hc]; congr 1; omega
      · have g3' : actfR k q1.b q2.s ((((bs.drop at_).drop n0).drop n1).drop n2) = .bad E3 n3 := by rw [hd, hd, hd]; exact g3
        refine ⟨fun h => by omega, fun _ => ⟨?_, by omega⟩⟩
        rw [actR_b4 hK g1' g2' g3']; congr 1; omega
    · obtain ⟨rfl, rfl⟩ := hN hp
      have g1' : flagR ((bs.drop at_).drop n0) = .ok q1.b n1 := by rw [hd]; exact g1
      have g2' : keyR ((((bs.drop at_).drop n0)).drop n1) = .bad E3 n2 := by rw [hd, hd]; unfold keyR sR; rw [g2]; rfl
      refine ⟨fun h => by omega, fun _ => ⟨?_, by omega⟩⟩
      rw [actR_b3 hK g1' g2']; congr 1; omega
  · obtain ⟨-, rfl, rfl⟩ := eyeP_stay hp f2
    obtain ⟨rfl, rfl⟩ := hN hp
    have g1' : flagR ((bs.drop at_).drop n0) = .bad E3 n1 := by rw [hd]; exact g1
    refine ⟨fun h => by omega, fun _ => ⟨?_, by omega⟩⟩
    rw [actR_b2 hK g1']; congr 1; omega

/-- How things stand while an act is read. -/
structure ASt (w : World) (p : Nat) (A : Option Addr) (c : Nat) (bs : List UInt8) (at2 E : Nat) (cs : Array Value) (u : World) : Prop where
  ey : Ey u p A c bs at2 E
  res : u.heap[w.heap.size]? = some (.cells zeroA 27 (0, 0))
  row1 : u.heap[w.heap.size + 1]? = some (.cells cs 27 (0, 0))
  kp : Kp (fun k => k = p) w u
section
variable {w : World} {p : Nat} {A A2 : Option Addr} {c : Nat} {bs : List UInt8} {at2 at3 E E' : Nat} {cs : Array Value} {u u' w3 : World} {o : Obj}
theorem ASt.call (h : ASt w p A c bs at2 E cs u) (hp : p < w.heap.size) (he : Ey u' p A c bs at3 E') (hk : Kp (fun k => k = p) u u') : ASt w p A c bs at3 E' cs u' :=
  ⟨he, (hk.block _ (lt_of_heap h.res) (by show ¬ w.heap.size = p; omega)).trans h.res, (hk.block _ (lt_of_heap h.row1) (by show ¬ w.heap.size + 1 = p; omega)).trans h.row1, h.kp.same hk⟩
theorem ASt.below (h : ASt w p A c bs at2 E cs u) (hb : Below u.heap.size u u') : ASt w p A c bs at2 E cs u' :=
  ⟨h.ey.below hb, (hb.block _ (lt_of_heap h.res)).trans h.res, (hb.block _ (lt_of_heap h.row1)).trans h.row1, h.kp.same (Kp.of_below hb _)⟩
theorem ASt.set (h : ASt w p A c bs at2 E cs u) (hp : p < w.heap.size) (hA : bs ≠ [] → ∀ ad, A = some ad → ad.block < w.heap.size) (j : Nat) (v : Value) : ASt w p A c bs at2 E (cs.setIfInBounds j v) (u.setCell ⟨w.heap.size + 1, j, none⟩ v) :=
  ⟨h.ey.far hp hA (Kp.setCell (Kp.refl _ _) (Or.inl (by show w.heap.size ≤ w.heap.size + 1; omega)) _), (heap_setCell_other _ _ _ _ (by show w.heap.size ≠ w.heap.size + 1; omega)).trans h.res, heap_setCell_same _ _ _ _ _ _ h.row1,
    Kp.setCell h.kp (Or.inr (by show w.heap.size ≤ w.heap.size + 1; omega)) _⟩
theorem ASt.sets (h : ASt w p A c bs at2 E cs u) (hp : p < w.heap.size) (hA : bs ≠ [] → ∀ ad, A = some ad → ad.block < w.heap.size) {ds : Array Value} (hk : Kp (fun k => k = w.heap.size + 1) u u') (hr : u'.heap[w.heap.size + 1]? = some (.cells ds 27 (0, 0))) : ASt w p A c bs at2 E ds u' :=
  ⟨h.ey.far hp hA (hk.mono (fun i _ hi => by have hi' : i = w.heap.size + 1 := hi; show w.heap.size ≤ i; omega)), (hk.block _ (lt_of_heap h.res) (by show ¬ w.heap.size = w.heap.size + 1; omega)).trans h.res, hr, h.kp.trans hk (fun i hi x => by have x' : i = w.heap.size + 1 := x; omega)⟩
theorem ASt.lt (h : ASt w p A c bs at2 E cs u) : w.heap.size + 2 ≤ u.heap.size := by have := lt_of_heap h.row1; omega
theorem ASt.new {w1 : World} {o1 o2 : Obj} {n : Nat} (h1 : ((w.alloc o1).alloc o2).heap[w.heap.size]? = some (.cells zeroA 27 (0, 0))) (h2 : ((w.alloc o1).alloc o2).heap[w.heap.size + 1]? = some (.cells zeroA 27 (0, 0))) (hp : p < w.heap.size) (he : Ey w1 p A c bs n E) (hk : Kp (fun k => k = p) ((w.alloc o1).alloc o2) w1) : ASt w p A c bs n E zeroA w1 :=
  ⟨he, (hk.block w.heap.size (by simp only [World.size_alloc]; omega) (by show ¬ w.heap.size = p; omega)).trans h1, (hk.block (w.heap.size + 1) (by simp only [World.size_alloc]; omega) (by show ¬ w.heap.size + 1 = p; omega)).trans h2, (((Kp.refl _ w).alloc _).alloc _).same hk⟩
end

/-- What Next answers. -/
def N4Post (p : Nat) (A : Option Addr) (c : Nat) (bs : List UInt8) (at_ : Nat) (r : Res AC.Ac) (w : World) (e : Ending) (w' : World) : Prop :=
  Kp (fun k => k = p) w w' ∧ match r with
  | .ok a n => (∃ A' c', e = .returned (actV a A' c') ∧ w'.ownsRow 0 88 2 (.slice A' a.make.list.length c') a.make.list.length (itCells a.make.list) ∧ (∀ k, ob A' = some k → w.heap.size ≤ k)) ∧ Ey w' p A c bs (at_ + n) 0
  | .bad code n => e = .returned (actV AC.zero none 0) ∧ Ey w' p A c bs (at_ + n) code
section
variable {w : World} {p : Nat} {A A9 : Option Addr} {c c9 : Nat} {bs : List UInt8} {at_ s E code : Nat} {cs : Array Value} {u u' : World} {r : Res AC.Ac} {a : AC.Ac}
theorem N4Post.mkBad (h : r = .bad code (s - at_)) (hl : at_ ≤ s) (hS : ASt w p A c bs s code cs u) (hp : p < w.heap.size) (hA : bs ≠ [] → ∀ ad, A = some ad → ad.block < w.heap.size) (hk : Kp (fun k => w.heap.size ≤ k) u u') : N4Post p A c bs at_ r w (.returned (.agg zeroA)) u' := by
  subst h
  refine ⟨hS.kp.trans hk (fun i hi x => by have x' : w.heap.size ≤ i := x; omega), rfl, ?_⟩
  rw [show at_ + (s - at_) = s by omega]
  exact hS.ey.far hp hA hk
theorem N4Post.mkOk (h : r = .ok a (s - at_)) (hl : at_ ≤ s) (hS : ASt w p A c bs s 0 cs u) (ho : u.ownsRow 0 88 2 (.slice A9 a.make.list.length c9) a.make.list.length (itCells a.make.list)) (hn : ∀ k, ob A9 = some k → w.heap.size < k) (hp : p < w.heap.size) (hA : bs ≠ [] → ∀ ad, A = some ad → ad.block < w.heap.size) (hk : Kp (fun k => k = w.heap.size) u u') : N4Post p A c bs at_ r w (.returned (actV a A9 c9)) u' := by
  subst h
  refine ⟨hS.kp.trans hk (fun i hi x => by have x' : i = w.heap.size := x; omega), ⟨A9, c9, rfl, hk.own ho (fun k e x => by rw [ownBlock_slice] at e; have := hn k e; have x' : k = w.heap.size := x; omega), fun k e => by have := hn k e; omega⟩, ?_⟩
  rw [show at_ + (s - at_) = s by omega]
  exact hS.ey.far hp hA (hk.mono (fun i _ hi => by have hi' : i = w.heap.size := hi; show w.heap.size ≤ i; omega))
end

end Go.Proofs.YtaaeefndhmfceaaGreatDoor
/- How what an eye reads is an act, class by class. -/
namespace Go.Proofs.YtaaeefndhmfceaaGreatDoor
open Go.RowKit MM

theorem eyeP_flo_w {bs : List UInt8} {s E s1 : Nat} {q : PK.Rp} (h : eyeP bs 102 0 s E = (q, s1, 0)) : MF.W64 q.p := by
  rcases Nat.eq_zero_or_pos E with hE | hE
  · subst hE
    rcases eyeP_flo h with ⟨_, hw, _⟩ | ⟨h, _⟩
    · exact hw
    · omega
  · have := (eyeP_stay hE h).2.2
    omega
theorem nout_0 {bs : List UInt8} {at_ k n0 s1 E1 s2 E2 : Nat} {q1 q2 : PK.Rp} (hK : kindA (bs.drop at_) = .ok k n0) (f1 : eyeP bs 98 0 (at_ + n0) 0 = (q1, s1, E1)) (f2 : eyeP bs 115 24 s1 E1 = (q2, s2, E2)) (hlim : Lim bs.length) (gN : AC.hasN k = false) (gX : AC.hasX k = false) (gS : AC.hasS k = false) (gM : AC.hasM k = false) : Nout bs at_ ⟨(k : Int), q2.s, 0, 0, ⟨#[]⟩, RC.zero, q1.b⟩ s2 E2 :=
  nout_of hK f1 f2 hlim (fun h => .inl ⟨h, 0, actfR_0 gN gX gS gM, rfl⟩) (fun _ => ⟨rfl, rfl⟩)
theorem nout_n {bs : List UInt8} {at_ k n0 s1 E1 s2 E2 s3 E3 : Nat} {q1 q2 q3 : PK.Rp} (hK : kindA (bs.drop at_) = .ok k n0) (f1 : eyeP bs 98 0 (at_ + n0) 0 = (q1, s1, E1)) (f2 : eyeP bs 115 24 s1 E1 = (q2, s2, E2)) (f3 : eyeP bs 105 0 s2 E2 = (q3, s3, E3)) (hlim : Lim bs.length) (gN : AC.hasN k = true) (gX : AC.hasX k = false) (gS : AC.hasS k = false) (gM : AC.hasM k = false) : Nout bs at_ ⟨(k : Int), q2.s, q3.i, 0, ⟨#[]⟩, RC.zero, q1.b⟩ s3 E3 := by
  refine nout_of hK f1 f2 hlim (fun h => ?_) (fun h => And.comm.1 (eyeP_stay h f3).2)
  subst h
  rcases eyeP_num f3 with ⟨h3, n, v, g, hq, hs⟩ | ⟨h3, n, g, hs⟩
  · exact .inl ⟨h3, n, by rw [actfR_n gN gX gS gM, g]; exact congrArg (fun z => Res.ok (⟨(k : Int), q2.s, z, 0, ⟨#[]⟩, RC.zero, q1.b⟩ : AC.Ac) n) hq.symm, hs⟩
  · exact .inr ⟨h3, n, by rw [actfR_n gN gX gS gM, g]; rfl, hs⟩
theorem nout_x {bs : List UInt8} {at_ k n0 s1 E1 s2 E2 s3 E3 : Nat} {q1 q2 q3 : PK.Rp} (hK : kindA (bs.drop at_) = .ok k n0) (f1 : eyeP bs 98 0 (at_ + n0) 0 = (q1, s1, E1)) (f2 : eyeP bs 115 24 s1 E1 = (q2, s2, E2)) (f3 : eyeP bs 102 0 s2 E2 = (q3, s3, E3)) (hlim : Lim bs.length) (gN : AC.hasN k = false) (gX : AC.hasX k = true) (gS : AC.hasS k = false) (gM : AC.hasM k = false) : Nout bs at_ ⟨(k : Int), q2.s, 0, MF.bk q3.p, ⟨#[]⟩, RC.zero, q1.b⟩ s3 E3 := by
  refine nout_of hK f1 f2 hlim (fun h => ?_) (fun h => And.comm.1 (eyeP_stay h f3).2)
  subst h
  rcases eyeP_flo f3 with ⟨h3, _, n, g, hs⟩ | ⟨h3, n, g, hs⟩
  · exact .inl ⟨h3, n, by rw [actfR_x gN gX gS gM, g]; rfl, hs⟩
  · exact .inr ⟨h3, n, by rw [actfR_x gN gX gS gM, g]; rfl, hs⟩
theorem nout_s {bs : List UInt8} {at_ k n0 s1 E1 s2 E2 s3 E3 : Nat} {q1 q2 q3 : PK.Rp} (hK : kindA (bs.drop at_) = .ok k n0) (f1 : eyeP bs 98 0 (at_ + n0) 0 = (q1, s1, E1)) (f2 : eyeP bs 115 24 s1 E1 = (q2, s2, E2)) (f3 : eyeP bs 115 (AC.most k) s2 E2 = (q3, s3, E3)) (hlim : Lim bs.length) (gN : AC.hasN k = false) (gX : AC.hasX k = false) (gS : AC.hasS k = true) (gM : AC.hasM k = false) : Nout bs at_ ⟨(k : Int), q2.s, 0, 0, q3.s, RC.zero, q1.b⟩ s3 E3 := by
  refine nout_of hK f1 f2 hlim (fun h => ?_) (fun h => And.comm.1 (eyeP_stay h f3).2)
  subst h
  rcases eyeP_txt f3 with ⟨h3, n, v, g, hq, hs⟩ | ⟨h3, n, g, hs⟩
  · exact .inl ⟨h3, n, by rw [actfR_s gN gX gS gM, g]; exact congrArg (fun z => Res.ok (⟨(k : Int), q2.s, 0, 0, z, RC.zero, q1.b⟩ : AC.Ac) n) hq.symm, hs⟩
  · exact .inr ⟨h3, n, by rw [actfR_s gN gX gS gM, g]; rfl, hs⟩
theorem nout_xs {bs : List UInt8} {at_ k n0 s1 E1 s2 E2 s3 E3 : Nat} {q1 q2 q3 : PK.Rp} (hK : kindA (bs.drop at_) = .ok k n0) (f1 : eyeP bs 98 0 (at_ + n0) 0 = (q1, s1, E1)) (f2 : eyeP bs 115 24 s1 E1 = (q2, s2, E2)) {q4 : PK.Rp} {s4 E4 : Nat} (f3 : eyeP bs 102 0 s2 E2 = (q3, s3, E3)) (f4 : eyeP bs 115 (AC.most k) s3 E3 = (q4, s4, E4)) (hlim : Lim bs.length) (gN : AC.hasN k = false) (gX : AC.hasX k = true) (gS : AC.hasS k = true) (gM : AC.hasM k = false) : Nout bs at_ ⟨(k : Int), q2.s, 0, MF.bk q3.p, q4.s, RC.zero, q1.b⟩ s4 E4 := by
  refine nout_of hK f1 f2 hlim (fun h => ?_) (fun h => ?_)
  · subst h
    rcases eyeP_flo f3 with ⟨h3, _, n, g, hs⟩ | ⟨h3, n, g, hs⟩
    · subst h3 hs
      rcases eyeP_txt f4 with ⟨h4, j, v, g4, hq, hs⟩ | ⟨h4, j, g4, hs⟩
      · exact .inl ⟨h4, n + j, by rw [actfR_xs gN gX gS gM, andR_ok g, List.drop_drop, g4]; exact congrArg (fun z => Res.ok (⟨(k : Int), q2.s, 0, MF.bk q3.p, z, RC.zero, q1.b⟩ : AC.Ac) (n + j)) hq.symm, by omega⟩
      · exact .inr ⟨h4, n + j, by rw [actfR_xs gN gX gS gM, andR_ok g, List.drop_drop, g4]; rfl, by omega⟩
    · obtain ⟨-, e1, e2⟩ := eyeP_stay h3 f4
      subst e1 e2
      exact .inr ⟨h3, n, by rw [actfR_xs gN gX gS gM, andR_bad g], hs⟩
  · obtain ⟨-, e1, e2⟩ := eyeP_stay h f3
    subst e1 e2
    exact And.comm.1 (eyeP_stay h f4).2
theorem nout_m {bs : List UInt8} {at_ k n0 s1 E1 s2 E2 s3 E3 : Nat} {q1 q2 : PK.Rp} {r : RC.Rc} (hK : kindA (bs.drop at_) = .ok k n0) (f1 : eyeP bs 98 0 (at_ + n0) 0 = (q1, s1, E1)) (f2 : eyeP bs 115 24 s1 E1 = (q2, s2, E2)) (f3 : eyeN bs s2 E2 = (r, s3, E3)) (hlim : Lim bs.length) (gN : AC.hasN k = false) (gX : AC.hasX k = false) (gS : AC.hasS k = false) (gM : AC.hasM k = true) : Nout bs at_ ⟨(k : Int), q2.s, 0, 0, ⟨#[]⟩, r, q1.b⟩ s3 E3 := by
  refine nout_of hK f1 f2 hlim (fun h => ?_) (fun h => And.comm.1 (eyeN_stay h f3))
  subst h
  rcases eyeN_rec f3 with ⟨h3, n, g, hs⟩ | ⟨h3, n, g, hs⟩
  · exact .inl ⟨h3, n, by rw [actfR_m gN gX gS gM, g]; rfl, hs⟩
  · exact .inr ⟨h3, n, by rw [actfR_m gN gX gS gM, g]; rfl, hs⟩

end Go.Proofs.YtaaeefndhmfceaaGreatDoor
/- Contracts of the document's own answers for layer 4: the next act. -/
namespace Go.Proofs.YtaaeefndhmfceaaGreatDoor
open Go.RowKit MM

set_option maxHeartbeats 4000000 in
set_option maxRecDepth 100000 in
theorem next4_kind (code n0 : Nat) (p : Nat) (A : Option Addr) (c : Nat) (bs : List UInt8) (at_ : Nat) (w : World) (he : Ey w p A c bs at_ 0) (hU : uptoR 21 (bs.drop at_) = .bad code n0) (hA : bs ≠ [] → ∀ ad, A = some ad → ad.block < w.heap.size) :
    Calls Tryz.prog 44 #[.pointer (some ⟨p, 0, none⟩)] w (N4Post p A c bs at_ (actR (bs.drop at_)) w) := by
  have hp := lt_of_heap he.row
  have hK : kindA (bs.drop at_) = .bad code n0 := by unfold kindA; rw [andR_bad hU]
  have hE := uptoR_bad_pos hU
  have HX := Lib.hid (fun w' (he' : Ey w' p A c bs at_ 0) => eupto_any p A c bs at_ 21 w' (by omega) he')
  rw [show ((21 : Nat) : Int) = 21 from rfl, hU] at HX
  have HE := Lib.hid he
  have HR := Lib.hid (actR_b1 hK)
  have hzd : ∀ (o : Nat) (v : Value), (#[.int .u8 0, .int .u64 0, .int .i64 0, .int .u64 0, .string ⟨#[]⟩, .bool false] : Array Value)[o]? = some v → True := fun _ _ _ => trivial
  have hfdb : ∀ w : World, (Instr.field 115 (.agg #[.int .u8 0, .int .u64 0, .int .i64 0, .int .u64 0, .string ⟨#[]⟩, .bool false]) 5).run Tryz.prog w = .ok (.bool false) w := fun _ => by kernel_rfl
  have hfds : ∀ w : World, (Instr.field 115 (.agg #[.int .u8 0, .int .u64 0, .int .i64 0, .int .u64 0, .string ⟨#[]⟩, .bool false]) 4).run Tryz.prog w = .ok (.string ⟨#[]⟩) w := fun _ => by kernel_rfl
  clear he hU hK hzd
  have h1 : ((code : Int) == 0) = false := by simp; omega
  have h2 : ((code : Int) != 0) = true := by simp; omega
  go_enter Tryz.func44, Tryz.ntmps44
  go_wp2_with fail
  refine (HX.out _ (HE.out.below (below2 w _ _))).mono ?_
  rintro e w1 ⟨hk1, rfl, he1⟩
  have HS0 := Lib.hid (ASt.new (heap_alloc2_old w _ _) (heap_alloc2_new w _ _) hp he1 hk1)
  clear hk1 he1 HX HE
  have cE := fun o => cell_of_row w1 _ o _ _ (0, 0) HS0.out.ey.row
  have c1 := fun o => cell_of_row w1 _ o _ _ (0, 0) HS0.out.row1
  have f1 : ∀ o, w1.frozen? ⟨w.heap.size + 1, o, none⟩ = false := fun o => frozen_of_row _ _ o _ _ HS0.out.row1
  have cR := fun o => cell_of_row w1 _ o _ _ (0, 0) HS0.out.res
  have fR : ∀ o, w1.frozen? ⟨w.heap.size, o, none⟩ = false := fun o => frozen_of_row _ _ o _ _ HS0.out.res
  go_wp2_with fail
  generalize hv : World.setCell _ _ _ = v1
  have S : ASt w p A c bs (at_ + n0) code (actC ⟨0, ⟨#[]⟩, 0, 0, ⟨#[]⟩, RC.zero, false⟩ none 0) v1 := by rw [← hv]; exact HS0.out.set hp hA 0 (.int .i64 0)
  have HS1 := Lib.hid S
  clear S hv cE c1 f1 cR fR HS0
  have cE := fun o => cell_of_row v1 _ o _ _ (0, 0) HS1.out.ey.row
  have c1 := fun o => cell_of_row v1 _ o _ _ (0, 0) HS1.out.row1
  have f1 : ∀ o, v1.frozen? ⟨w.heap.size + 1, o, none⟩ = false := fun o => frozen_of_row _ _ o _ _ HS1.out.row1
  have cR := fun o => cell_of_row v1 _ o _ _ (0, 0) HS1.out.res
  have fR : ∀ o, v1.frozen? ⟨w.heap.size, o, none⟩ = false := fun o => frozen_of_row _ _ o _ _ HS1.out.res
  refine (efail_no p A c bs _ _ 5 _ hE HS1.out.ey).mono ?_
  rintro e u2 ⟨rfl, he', hk'⟩
  have HS2 := Lib.hid (HS1.out.call hp he' hk')
  clear he' hk' cE c1 f1 cR fR HS1
  have cE := fun o => cell_of_row u2 _ o _ _ (0, 0) HS2.out.ey.row
  have c1 := fun o => cell_of_row u2 _ o _ _ (0, 0) HS2.out.row1
  have f1 : ∀ o, u2.frozen? ⟨w.heap.size + 1, o, none⟩ = false := fun o => frozen_of_row _ _ o _ _ HS2.out.row1
  have cR := fun o => cell_of_row u2 _ o _ _ (0, 0) HS2.out.res
  have fR : ∀ o, u2.frozen? ⟨w.heap.size, o, none⟩ = false := fun o => frozen_of_row _ _ o _ _ HS2.out.res
  go_wp2_with fail
  refine (epart_no p A c bs _ _ 98 0 _ hE HS2.out.ey).mono ?_
  rintro e u3 ⟨rfl, hb⟩
  have HS3 := Lib.hid (HS2.out.below hb)
  clear hb cE c1 f1 cR fR HS2
  have cE := fun o => cell_of_row u3 _ o _ _ (0, 0) HS3.out.ey.row
  have c1 := fun o => cell_of_row u3 _ o _ _ (0, 0) HS3.out.row1
  have f1 : ∀ o, u3.frozen? ⟨w.heap.size + 1, o, none⟩ = false := fun o => frozen_of_row _ _ o _ _ HS3.out.row1
  have cR := fun o => cell_of_row u3 _ o _ _ (0, 0) HS3.out.res
  have fR : ∀ o, u3.frozen? ⟨w.heap.size, o, none⟩ = false := fun o => frozen_of_row _ _ o _ _ HS3.out.res
  go_wp2_with fail
  generalize hv : World.setCell _ _ _ = v4
  have S : ASt w p A c bs (at_ + n0) code (actC ⟨0, ⟨#[]⟩, 0, 0, ⟨#[]⟩, RC.zero, false⟩ none 0) v4 := by rw [← hv]; exact HS3.out.set hp hA 13 (.bool false)
  have HS4 := Lib.hid S
  clear S hv cE c1 f1 cR fR HS3
  have cE := fun o => cell_of_row v4 _ o _ _ (0, 0) HS4.out.ey.row
  have c1 := fun o => cell_of_row v4 _ o _ _ (0, 0) HS4.out.row1
  have f1 : ∀ o, v4.frozen? ⟨w.heap.size + 1, o, none⟩ = false := fun o => frozen_of_row _ _ o _ _ HS4.out.row1
  have cR := fun o => cell_of_row v4 _ o _ _ (0, 0) HS4.out.res
  have fR : ∀ o, v4.frozen? ⟨w.heap.size, o, none⟩ = false := fun o => frozen_of_row _ _ o _ _ HS4.out.res
  refine (epart_no p A c bs _ _ 115 24 _ hE HS4.out.ey).mono ?_
  rintro e u5 ⟨rfl, hb⟩
  have HS5 := Lib.hid (HS4.out.below hb)
  clear hb cE c1 f1 cR fR HS4
  have cE := fun o => cell_of_row u5 _ o _ _ (0, 0) HS5.out.ey.row
  have c1 := fun o => cell_of_row u5 _ o _ _ (0, 0) HS5.out.row1
  have f1 : ∀ o, u5.frozen? ⟨w.heap.size + 1, o, none⟩ = false := fun o => frozen_of_row _ _ o _ _ HS5.out.row1
  have cR := fun o => cell_of_row u5 _ o _ _ (0, 0) HS5.out.res
  have fR : ∀ o, u5.frozen? ⟨w.heap.size, o, none⟩ = false := fun o => frozen_of_row _ _ o _ _ HS5.out.res
  go_wp2_with fail
  generalize hv : World.setCell _ _ _ = v6
  have S : ASt w p A c bs (at_ + n0) code (actC ⟨0, ⟨#[]⟩, 0, 0, ⟨#[]⟩, RC.zero, false⟩ none 0) v6 := by rw [← hv]; exact HS5.out.set hp hA 1 (.string ⟨#[]⟩)
  have HS6 := Lib.hid S
  clear S hv cE c1 f1 cR fR HS5
  have cE := fun o => cell_of_row v6 _ o _ _ (0, 0) HS6.out.ey.row
  have c1 := fun o => cell_of_row v6 _ o _ _ (0, 0) HS6.out.row1
  have f1 : ∀ o, v6.frozen? ⟨w.heap.size + 1, o, none⟩ = false := fun o => frozen_of_row _ _ o _ _ HS6.out.row1
  have cR := fun o => cell_of_row v6 _ o _ _ (0, 0) HS6.out.res
  have fR : ∀ o, v6.frozen? ⟨w.heap.size, o, none⟩ = false := fun o => frozen_of_row _ _ o _ _ HS6.out.res
  refine (rHas_is 0 110 false _ (by omega) (by rw [show (110 : Nat).toUInt8 = 110 from rfl, fld_n]; rfl)).mono ?_
  rintro e u7 ⟨rfl, hb⟩
  have HS7 := Lib.hid (HS6.out.below hb)
  clear hb cE c1 f1 cR fR HS6
  have cE := fun o => cell_of_row u7 _ o _ _ (0, 0) HS7.out.ey.row
  have c1 := fun o => cell_of_row u7 _ o _ _ (0, 0) HS7.out.row1
  have f1 : ∀ o, u7.frozen? ⟨w.heap.size + 1, o, none⟩ = false := fun o => frozen_of_row _ _ o _ _ HS7.out.row1
  have cR := fun o => cell_of_row u7 _ o _ _ (0, 0) HS7.out.res
  have fR : ∀ o, u7.frozen? ⟨w.heap.size, o, none⟩ = false := fun o => frozen_of_row _ _ o _ _ HS7.out.res
  go_wp2_with fail
  refine (rHas_is 0 120 false _ (by omega) (by rw [show (120 : Nat).toUInt8 = 120 from rfl, fld_x]; rfl)).mono ?_
  rintro e u8 ⟨rfl, hb⟩
  have HS8 := Lib.hid (HS7.out.below hb)
  clear hb cE c1 f1 cR fR HS7
  have cE := fun o => cell_of_row u8 _ o _ _ (0, 0) HS8.out.ey.row
  have c1 := fun o => cell_of_row u8 _ o _ _ (0, 0) HS8.out.row1
  have f1 : ∀ o, u8.frozen? ⟨w.heap.size + 1, o, none⟩ = false := fun o => frozen_of_row _ _ o _ _ HS8.out.row1
  have cR := fun o => cell_of_row u8 _ o _ _ (0, 0) HS8.out.res
  have fR : ∀ o, u8.frozen? ⟨w.heap.size, o, none⟩ = false := fun o => frozen_of_row _ _ o _ _ HS8.out.res
  go_wp2_with fail
  refine (rHas_is 0 115 false _ (by omega) (by rw [show (115 : Nat).toUInt8 = 115 from rfl, fld_s]; rfl)).mono ?_
  rintro e u9 ⟨rfl, hb⟩
  have HS9 := Lib.hid (HS8.out.below hb)
  clear hb cE c1 f1 cR fR HS8
  have cE := fun o => cell_of_row u9 _ o _ _ (0, 0) HS9.out.ey.row
  have c1 := fun o => cell_of_row u9 _ o _ _ (0, 0) HS9.out.row1
  have f1 : ∀ o, u9.frozen? ⟨w.heap.size + 1, o, none⟩ = false := fun o => frozen_of_row _ _ o _ _ HS9.out.row1
  have cR := fun o => cell_of_row u9 _ o _ _ (0, 0) HS9.out.res
  have fR : ∀ o, u9.frozen? ⟨w.heap.size, o, none⟩ = false := fun o => frozen_of_row _ _ o _ _ HS9.out.res
  go_wp2_with fail
  refine bodyPost_ret (v := .agg zeroA) (by simp [results, Tryz.results44, go_sem, cR, AC.zero, RC.zero]) rfl ?_
  generalize hwf : World.setCell _ _ _ = wf
  have hkr : Kp (fun k => w.heap.size ≤ k) u9 wf := by rw [← hwf]; exact kp14 (Kp.refl _ u9) (Or.inl (Nat.le_refl _))
  exact N4Post.mkBad (s := at_ + n0) (HR.out.trans (by rw [show at_ + n0 - at_ = n0 by omega])) (by omega) HS9.out hp hA hkr

set_option maxHeartbeats 4000000 in
set_option maxRecDepth 100000 in
theorem next4_zero (n0 : Nat) (p : Nat) (A : Option Addr) (c : Nat) (bs : List UInt8) (at_ : Nat) (w : World) (he : Ey w p A c bs at_ 0) (hU : uptoR 21 (bs.drop at_) = .ok 0 n0) (hA : bs ≠ [] → ∀ ad, A = some ad → ad.block < w.heap.size) :
    Calls Tryz.prog 44 #[.pointer (some ⟨p, 0, none⟩)] w (N4Post p A c bs at_ (actR (bs.drop at_)) w) := by
  have hp := lt_of_heap he.row
  have hK : kindA (bs.drop at_) = .bad 5 n0 := by unfold kindA; rw [andR_ok hU]; rfl
  have hE : 0 < 5 := by omega
  have HX := Lib.hid (fun w' (he' : Ey w' p A c bs at_ 0) => eupto_any p A c bs at_ 21 w' (by omega) he')
  rw [show ((21 : Nat) : Int) = 21 from rfl, hU] at HX
  have HE := Lib.hid he
  have HR := Lib.hid (actR_b1 hK)
  have hzd : ∀ (o : Nat) (v : Value), (#[.int .u8 0, .int .u64 0, .int .i64 0, .int .u64 0, .string ⟨#[]⟩, .bool false] : Array Value)[o]? = some v → True := fun _ _ _ => trivial
  have hfdb : ∀ w : World, (Instr.field 115 (.agg #[.int .u8 0, .int .u64 0, .int .i64 0, .int .u64 0, .string ⟨#[]⟩, .bool false]) 5).run Tryz.prog w = .ok (.bool false) w := fun _ => by kernel_rfl
  have hfds : ∀ w : World, (Instr.field 115 (.agg #[.int .u8 0, .int .u64 0, .int .i64 0, .int .u64 0, .string ⟨#[]⟩, .bool false]) 4).run Tryz.prog w = .ok (.string ⟨#[]⟩) w := fun _ => by kernel_rfl
  clear he hU hK hzd
  go_enter Tryz.func44, Tryz.ntmps44
  go_wp2_with fail
  refine (HX.out _ (HE.out.below (below2 w _ _))).mono ?_
  rintro e w1 ⟨hk1, rfl, he1⟩
  have HS0 := Lib.hid (ASt.new (heap_alloc2_old w _ _) (heap_alloc2_new w _ _) hp he1 hk1)
  clear hk1 he1 HX HE
  have cE := fun o => cell_of_row w1 _ o _ _ (0, 0) HS0.out.ey.row
  have c1 := fun o => cell_of_row w1 _ o _ _ (0, 0) HS0.out.row1
  have f1 : ∀ o, w1.frozen? ⟨w.heap.size + 1, o, none⟩ = false := fun o => frozen_of_row _ _ o _ _ HS0.out.row1
  have cR := fun o => cell_of_row w1 _ o _ _ (0, 0) HS0.out.res
  have fR : ∀ o, w1.frozen? ⟨w.heap.size, o, none⟩ = false := fun o => frozen_of_row _ _ o _ _ HS0.out.res
  go_wp2_with fail
  generalize hv : World.setCell _ _ _ = v1
  have S : ASt w p A c bs (at_ + n0) 0 (actC ⟨0, ⟨#[]⟩, 0, 0, ⟨#[]⟩, RC.zero, false⟩ none 0) v1 := by rw [← hv]; exact HS0.out.set hp hA 0 (.int .i64 0)
  have HS1 := Lib.hid S
  clear S hv cE c1 f1 cR fR HS0
  have cE := fun o => cell_of_row v1 _ o _ _ (0, 0) HS1.out.ey.row
  have c1 := fun o => cell_of_row v1 _ o _ _ (0, 0) HS1.out.row1
  have f1 : ∀ o, v1.frozen? ⟨w.heap.size + 1, o, none⟩ = false := fun o => frozen_of_row _ _ o _ _ HS1.out.row1
  have cR := fun o => cell_of_row v1 _ o _ _ (0, 0) HS1.out.res
  have fR : ∀ o, v1.frozen? ⟨w.heap.size, o, none⟩ = false := fun o => frozen_of_row _ _ o _ _ HS1.out.res
  refine (efail_yes p A c bs _ 5 _ HS1.out.ey).mono ?_
  rintro e u2 ⟨rfl, he', hk'⟩
  have HS2 := Lib.hid (HS1.out.call hp he' hk')
  clear he' hk' cE c1 f1 cR fR HS1
  have cE := fun o => cell_of_row u2 _ o _ _ (0, 0) HS2.out.ey.row
  have c1 := fun o => cell_of_row u2 _ o _ _ (0, 0) HS2.out.row1
  have f1 : ∀ o, u2.frozen? ⟨w.heap.size + 1, o, none⟩ = false := fun o => frozen_of_row _ _ o _ _ HS2.out.row1
  have cR := fun o => cell_of_row u2 _ o _ _ (0, 0) HS2.out.res
  have fR : ∀ o, u2.frozen? ⟨w.heap.size, o, none⟩ = false := fun o => frozen_of_row _ _ o _ _ HS2.out.res
  go_wp2_with fail
  refine (epart_no p A c bs _ _ 98 0 _ hE HS2.out.ey).mono ?_
  rintro e u3 ⟨rfl, hb⟩
  have HS3 := Lib.hid (HS2.out.below hb)
  clear hb cE c1 f1 cR fR HS2
  have cE := fun o => cell_of_row u3 _ o _ _ (0, 0) HS3.out.ey.row
  have c1 := fun o => cell_of_row u3 _ o _ _ (0, 0) HS3.out.row1
  have f1 : ∀ o, u3.frozen? ⟨w.heap.size + 1, o, none⟩ = false := fun o => frozen_of_row _ _ o _ _ HS3.out.row1
  have cR := fun o => cell_of_row u3 _ o _ _ (0, 0) HS3.out.res
  have fR : ∀ o, u3.frozen? ⟨w.heap.size, o, none⟩ = false := fun o => frozen_of_row _ _ o _ _ HS3.out.res
  go_wp2_with fail
  generalize hv : World.setCell _ _ _ = v4
  have S : ASt w p A c bs (at_ + n0) 5 (actC ⟨0, ⟨#[]⟩, 0, 0, ⟨#[]⟩, RC.zero, false⟩ none 0) v4 := by rw [← hv]; exact HS3.out.set hp hA 13 (.bool false)
  have HS4 := Lib.hid S
  clear S hv cE c1 f1 cR fR HS3
  have cE := fun o => cell_of_row v4 _ o _ _ (0, 0) HS4.out.ey.row
  have c1 := fun o => cell_of_row v4 _ o _ _ (0, 0) HS4.out.row1
  have f1 : ∀ o, v4.frozen? ⟨w.heap.size + 1, o, none⟩ = false := fun o => frozen_of_row _ _ o _ _ HS4.out.row1
  have cR := fun o => cell_of_row v4 _ o _ _ (0, 0) HS4.out.res
  have fR : ∀ o, v4.frozen? ⟨w.heap.size, o, none⟩ = false := fun o => frozen_of_row _ _ o _ _ HS4.out.res
  refine (epart_no p A c bs _ _ 115 24 _ hE HS4.out.ey).mono ?_
  rintro e u5 ⟨rfl, hb⟩
  have HS5 := Lib.hid (HS4.out.below hb)
  clear hb cE c1 f1 cR fR HS4
  have cE := fun o => cell_of_row u5 _ o _ _ (0, 0) HS5.out.ey.row
  have c1 := fun o => cell_of_row u5 _ o _ _ (0, 0) HS5.out.row1
  have f1 : ∀ o, u5.frozen? ⟨w.heap.size + 1, o, none⟩ = false := fun o => frozen_of_row _ _ o _ _ HS5.out.row1
  have cR := fun o => cell_of_row u5 _ o _ _ (0, 0) HS5.out.res
  have fR : ∀ o, u5.frozen? ⟨w.heap.size, o, none⟩ = false := fun o => frozen_of_row _ _ o _ _ HS5.out.res
  go_wp2_with fail
  generalize hv : World.setCell _ _ _ = v6
  have S : ASt w p A c bs (at_ + n0) 5 (actC ⟨0, ⟨#[]⟩, 0, 0, ⟨#[]⟩, RC.zero, false⟩ none 0) v6 := by rw [← hv]; exact HS5.out.set hp hA 1 (.string ⟨#[]⟩)
  have HS6 := Lib.hid S
  clear S hv cE c1 f1 cR fR HS5
  have cE := fun o => cell_of_row v6 _ o _ _ (0, 0) HS6.out.ey.row
  have c1 := fun o => cell_of_row v6 _ o _ _ (0, 0) HS6.out.row1
  have f1 : ∀ o, v6.frozen? ⟨w.heap.size + 1, o, none⟩ = false := fun o => frozen_of_row _ _ o _ _ HS6.out.row1
  have cR := fun o => cell_of_row v6 _ o _ _ (0, 0) HS6.out.res
  have fR : ∀ o, v6.frozen? ⟨w.heap.size, o, none⟩ = false := fun o => frozen_of_row _ _ o _ _ HS6.out.res
  refine (rHas_is 0 110 false _ (by omega) (by rw [show (110 : Nat).toUInt8 = 110 from rfl, fld_n]; rfl)).mono ?_
  rintro e u7 ⟨rfl, hb⟩
  have HS7 := Lib.hid (HS6.out.below hb)
  clear hb cE c1 f1 cR fR HS6
  have cE := fun o => cell_of_row u7 _ o _ _ (0, 0) HS7.out.ey.row
  have c1 := fun o => cell_of_row u7 _ o _ _ (0, 0) HS7.out.row1
  have f1 : ∀ o, u7.frozen? ⟨w.heap.size + 1, o, none⟩ = false := fun o => frozen_of_row _ _ o _ _ HS7.out.row1
  have cR := fun o => cell_of_row u7 _ o _ _ (0, 0) HS7.out.res
  have fR : ∀ o, u7.frozen? ⟨w.heap.size, o, none⟩ = false := fun o => frozen_of_row _ _ o _ _ HS7.out.res
  go_wp2_with fail
  refine (rHas_is 0 120 false _ (by omega) (by rw [show (120 : Nat).toUInt8 = 120 from rfl, fld_x]; rfl)).mono ?_
  rintro e u8 ⟨rfl, hb⟩
  have HS8 := Lib.hid (HS7.out.below hb)
  clear hb cE c1 f1 cR fR HS7
  have cE := fun o => cell_of_row u8 _ o _ _ (0, 0) HS8.out.ey.row
  have c1 := fun o => cell_of_row u8 _ o _ _ (0, 0) HS8.out.row1
  have f1 : ∀ o, u8.frozen? ⟨w.heap.size + 1, o, none⟩ = false := fun o => frozen_of_row _ _ o _ _ HS8.out.row1
  have cR := fun o => cell_of_row u8 _ o _ _ (0, 0) HS8.out.res
  have fR : ∀ o, u8.frozen? ⟨w.heap.size, o, none⟩ = false := fun o => frozen_of_row _ _ o _ _ HS8.out.res
  go_wp2_with fail
  refine (rHas_is 0 115 false _ (by omega) (by rw [show (115 : Nat).toUInt8 = 115 from rfl, fld_s]; rfl)).mono ?_
  rintro e u9 ⟨rfl, hb⟩
  have HS9 := Lib.hid (HS8.out.below hb)
  clear hb cE c1 f1 cR fR HS8
  have cE := fun o => cell_of_row u9 _ o _ _ (0, 0) HS9.out.ey.row
  have c1 := fun o => cell_of_row u9 _ o _ _ (0, 0) HS9.out.row1
  have f1 : ∀ o, u9.frozen? ⟨w.heap.size + 1, o, none⟩ = false := fun o => frozen_of_row _ _ o _ _ HS9.out.row1
  have cR := fun o => cell_of_row u9 _ o _ _ (0, 0) HS9.out.res
  have fR : ∀ o, u9.frozen? ⟨w.heap.size, o, none⟩ = false := fun o => frozen_of_row _ _ o _ _ HS9.out.res
  go_wp2_with fail
  refine bodyPost_ret (v := .agg zeroA) (by simp [results, Tryz.results44, go_sem, cR, AC.zero, RC.zero]) rfl ?_
  generalize hwf : World.setCell _ _ _ = wf
  have hkr : Kp (fun k => w.heap.size ≤ k) u9 wf := by rw [← hwf]; exact kp14 (Kp.refl _ u9) (Or.inl (Nat.le_refl _))
  exact N4Post.mkBad (s := at_ + n0) (HR.out.trans (by rw [show at_ + n0 - at_ = n0 by omega])) (by omega) HS9.out hp hA hkr

end Go.Proofs.YtaaeefndhmfceaaGreatDoor
