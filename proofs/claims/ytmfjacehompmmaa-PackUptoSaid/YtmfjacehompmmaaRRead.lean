/- Contracts of the document's own answers for layer 2: the parts that bytes are. -/
import Derived.Test.YtmfjacehompmmaaFirst3
import Derived.Deep.CutRange
namespace Go.Proofs.Ytmfjacehompmmaa
open Go.RowKit MM

/-- What the document's Read leaves. -/
def RRPost (r : Res (List PK.Pt)) (w : World) (e : Ending) (w' : World) : Prop :=
  Below w.heap.size w w' ∧ match r with
  | .ok ps _ => ∃ A c rs, rs = ps.map PK.plainP ∧ e = .returned (.tuple #[.slice A rs.length c, .int .i64 0, .int .i64 0]) ∧ w'.ownsRow 0 60 6 (.slice A rs.length c) rs.length (rpCells rs)
  | .bad code n => e = .returned (.tuple #[.slice none 0 0, .int .i64 code, .int .i64 n])
theorem RRPost.mis {r : Res (List PK.Pt)} {code n : Nat} {z y : Int} {w w' : World} (h : r = .bad code n) (hz : z = (n : Int)) (hy : y = (code : Int)) (hb : Below w.heap.size w w') :
    RRPost r w (.returned (.tuple #[.slice none 0 0, .int .i64 y, .int .i64 z])) w' := by
  subst h hz hy
  exact ⟨hb, rfl⟩
theorem RRPost.good {r : Res (List PK.Pt)} {ps : List PK.Pt} {rs : List PK.Rp} {n : Nat} {A : Option Addr} {c : Nat} {w w' : World} (h : r = .ok ps n) (hr : rs = ps.map PK.plainP) (hb : Below w.heap.size w w') (ho : w'.ownsRow 0 60 6 (.slice A rs.length c) rs.length (rpCells rs)) :
    RRPost r w (.returned (.tuple #[.slice A rs.length c, .int .i64 0, .int .i64 0])) w' := by
  subst h
  exact ⟨hb, A, c, rs, hr, rfl, ho⟩

structure RRInv (m : Int) (ks bs : List UInt8) (w : World) (i at_ : Nat) (ps : List PK.Pt) (rs : List PK.Rp) (A2 : Option Addr) (c2 : Nat) (wr : World) : Prop where
  spec : partsR m ks bs = lift ps at_ (partsR m (ks.drop i) (bs.drop at_))
  len : rs.length = i
  rsq : rs = ps.map PK.plainP
  own : wr.ownsRow 0 60 6 (.slice A2 rs.length c2) rs.length (rpCells rs)
  new : ∀ k, ob A2 = some k → w.heap.size ≤ k
  bel : Below w.heap.size w wr
  le : at_ ≤ bs.length
  il : i ≤ ks.length

section
variable {m : Int} {ks bs : List UInt8} {w wr wm w3 : World} {A2 A3 : Option Addr} {c2 c3 i at_ n : Nat} {ps : List PK.Pt} {rs : List PK.Rp} {pt : PK.Pt}
theorem RRInv.next (hv : RRInv m ks bs w i at_ ps rs A2 c2 wr) (hk : Below wr.heap.size wr wm) (hg : wm.grownBy w3 (ob A2)) (hat : ob A3 = ob A2 ∨ ob A3 = some wm.heap.size)
    (hs : partsR m ks bs = lift (ps ++ [pt]) (at_ + n) (partsR m (ks.drop (i + 1)) (bs.drop (at_ + n)))) (hle : at_ + n ≤ bs.length) (hil : i < ks.length)
    (ho : w3.ownsRow 0 60 6 (.slice A3 (rs.length + 1) c3) (rs.length + 1) (rpCells rs ++ (PK.plainP pt).cells.toList)) :
    RRInv m ks bs w (i + 1) (at_ + n) (ps ++ [pt]) (rs ++ [PK.plainP pt]) A3 c3 w3 := by
  have hl : (rs ++ [PK.plainP pt]).length = rs.length + 1 := by rw [List.length_append]; rfl
  refine ⟨hs, by rw [hl, hv.len], by rw [List.map_append, ← hv.rsq]; rfl, ?_, ?_, ?_, hle, hil⟩
  · rw [rpCells_snoc, hl]; exact ho
  · intro k e
    rcases hat with x | x
    · exact hv.new k (x ▸ e)
    · rw [x] at e; injection e with e; have := hv.bel.size; have := hk.size; omega
  · have hK : Kp (fun k => ob A2 = some k) wm w3 := (Kp.refl _ wm).grown hg (fun k e => .inl e)
    refine (hv.bel.trans (hk.mono hv.bel.size)).trans (hK.below (Nat.le_trans hv.bel.size hk.size) (fun j hj x => ?_))
    have := hv.new j x
    omega
end

theorem slice_from (A : Option Addr) (n c lo : Nat) (h1 : lo ≤ n) (w : World) : (Instr.slice 26 (.slice A n c) (some (.int .i64 (lo : Int))) none none).run Try.prog w = .ok (.slice (cutA A lo c) (n - lo) (c - lo)) w := by
  have h1' : (lo : Int) ≤ (n : Int) := by omega
  have h0 : (0 : Int) ≤ (lo : Int) := by omega
  go_simp
  rfl
theorem below_a (w : World) : Below w.heap.size w w.drew := below_drew (Below.refl _ _)
theorem below_b (w : World) (o : Obj) : Below w.heap.size w (w.alloc o).drew := below_drew ((Below.refl _ _).alloc (Nat.le_refl _) _)
theorem new_row {w w1 : World} {o : Obj} (hb : Below (w.alloc o).drew.heap.size (w.alloc o).drew w1) : w1.heap[w.heap.size]? = some o :=
  (hb.block w.heap.size (by show w.heap.size < (w.alloc o).heap.size; simp)).trans (heap_alloc_new w o)
theorem six_stores {w1 : World} {g : Nat} {c0 c1 c2 c3 c4 c5 x0 x1 x2 x3 x4 x5 : Value} {t : TypeId} (hq : w1.heap[g]? = some (.cells #[x0, x1, x2, x3, x4, x5] t (0, 0))) :
    ((((((w1.setCell ⟨g, 0, none⟩ c0).setCell ⟨g, 1, none⟩ c1).setCell ⟨g, 2, none⟩ c2).setCell ⟨g, 3, none⟩ c3).setCell ⟨g, 4, none⟩ c4).setCell ⟨g, 5, none⟩ c5).heap[g]? = some (.cells #[c0, c1, c2, c3, c4, c5] t (0, 0)) := by
  have h1 := heap_setCell_same _ g 0 _ t c0 hq
  have h2 := heap_setCell_same _ g 1 _ t c1 h1
  have h3 := heap_setCell_same _ g 2 _ t c2 h2
  have h4 := heap_setCell_same _ g 3 _ t c3 h3
  have h5 := heap_setCell_same _ g 4 _ t c4 h4
  have h6 := heap_setCell_same _ g 5 _ t c5 h5
  exact h6.trans rfl
theorem six_below {w1 : World} {B g : Nat} (c0 c1 c2 c3 c4 c5 : Value) (hB : B ≤ w1.heap.size) (hg : B ≤ g) :
    Below B w1 ((((((w1.setCell ⟨g, 0, none⟩ c0).setCell ⟨g, 1, none⟩ c1).setCell ⟨g, 2, none⟩ c2).setCell ⟨g, 3, none⟩ c3).setCell ⟨g, 4, none⟩ c4).setCell ⟨g, 5, none⟩ c5) := by
  refine Kp.below (S := fun k => k = g) ?_ hB (fun j hj x => by omega)
  iterate 6 refine Kp.setCell ?_ (Or.inl (by exact rfl)) _
  exact Kp.refl _ _
def Res.nn {α : Type} : Res α → Nat
  | .ok _ n => n
  | .bad _ n => n
def Res.ee {α : Type} : Res α → Nat
  | .ok _ _ => 0
  | .bad e _ => e
/-- What First answers, whether it is well or not. -/
def FAll (r : Res PK.Pt) (W : World) (e : Ending) (w' : World) : Prop :=
  Below W.heap.size W w' ∧ ∃ k u i q t b, (∀ pt n, r = .ok pt n → (⟨k, u, i, q, t, b⟩ : PK.Rp) = PK.plainP pt) ∧ e = .returned (.tuple #[.agg #[.int .u8 (k : Nat), .int .u64 (u : Nat), .int .i64 i, .int .u64 (q : Nat), .string t, .bool b], .int .i64 (Res.nn r : Nat), .int .i64 (Res.ee r : Nat)])
theorem FPost.all {r : Res PK.Pt} {W w' : World} {e : Ending} (h : FPost r W e w') : FAll r W e w' := by
  cases r with
  | ok pt n =>
    obtain ⟨hb, rfl⟩ := h
    refine ⟨hb, (PK.plainP pt).k, (PK.plainP pt).u, (PK.plainP pt).i, (PK.plainP pt).p, (PK.plainP pt).s, (PK.plainP pt).b, ?_, rfl⟩
    intro pt' n' e
    injection e with e1 e2
    subst e1
    rfl
  | bad code n =>
    obtain ⟨hb, x, rfl⟩ := h
    exact ⟨hb, x.k, x.u, x.i, x.p, x.s, x.b, (fun _ _ e => by cases e), rfl⟩
theorem numR_bad_le {l : List UInt8} {e n : Nat} (h : numR l = .bad e n) : n ≤ l.length := by
  unfold numR at h
  split at h
  · cases h
  · rename_i x y e hne hx
    injection h with h1 h2
    subst h1 h2
    have := PK.numL_len _ _ _ _ _ _ hx
    omega
theorem partR_bad_le {k : Nat} {m : Int} {l : List UInt8} {e n : Nat} (h : partR k m l = .bad e n) : n ≤ l.length := by
  unfold partR at h
  repeat' split at h
  · cases hr : numR l with
    | ok x j => rw [hr] at h; cases h
    | bad e j => rw [hr] at h; injection h with h1 h2; subst h2; exact numR_bad_le hr
  · cases hr : numR l with
    | ok x j => rw [hr] at h; cases h
    | bad e j => rw [hr] at h; injection h with h1 h2; subst h2; exact numR_bad_le hr
  · unfold floR at h
    repeat' split at h
    · injection h with h1 h2; omega
    · cases h
    · injection h with h1 h2; omega
  · cases hr : numR l with
    | ok x j =>
      have hj := (numR_len hr).2
      rw [txtR_of hr] at h
      repeat' split at h
      · injection h with h1 h2; omega
      · injection h with h1 h2; omega
      · cases h
    | bad e j => rw [txtR_bad hr] at h; injection h with h1 h2; subst h2; exact numR_bad_le hr
  · cases l with
    | nil => injection h with h1 h2; omega
    | cons x l =>
      unfold flagR at h
      repeat' split at h
      · rename_i hh; cases hh
      · injection h with h1 h2; simp; omega
      · cases h
  · injection h with h1 h2; omega
theorem first_at (A : Option Addr) (c n : Nat) (xs : List UInt8) (k : Nat) (m : Int) (r : Res PK.Pt) (w : World) (hb : Bts w A xs) (hl : Lim xs.length) (hcap : xs.length ≤ c) (hm : (Lit.int .i64 m).wf = true) (hn : xs.length = n) (hr : partR k m xs = r) :
    Calls Try.prog 43 #[.slice A n c, .int .u8 k, .int .i64 m] w (FAll r w) := by
  subst hn hr
  exact (first_any A c xs k m w hb hl hcap hm).mono fun _ _ h => h.all

set_option maxHeartbeats 1000000 in
set_option maxRecDepth 100000 in
theorem rread_any (A : Option Addr) (c : Nat) (bs : List UInt8) (ks : ByteArray) (m : Int) (w : World) (hb : Bts w A bs) (hl : Lim bs.length) (hcap : bs.length ≤ c) (hk : Lim ks.size) (hm : (Lit.int .i64 m).wf = true) :
    Calls Try.prog 19 #[.slice A bs.length c, .string ks, .int .i64 m] w (RRPost (partsR m ks.data.toList bs) w) := by
  obtain ⟨i0, hi0, hz0, hz1, hz2⟩ := info_parts rpart_info
  have hks : (ks.size : Int) ≤ 4294967296 := by unfold Lim at hk; omega
  have hbl : (bs.length : Int) ≤ 4294967296 := by unfold Lim at hl; omega
  have HB := Lib.hid hb
  clear hb
  go_enter Try.func19, Try.ntmps19
  go_wp2_with fail
  go_loopw [9, 10, 11] (fun t9 t10 t11 wr => ∃ (i at_ : Nat) (ps : List PK.Pt) (rs : List PK.Rp) (A2 : Option Addr) (c2 : Nat), t9 = .slice A2 rs.length c2 ∧ t10 = .int .i64 at_ ∧ t11 = .int .i64 i ∧ RRInv m ks.data.toList bs w i at_ ps rs A2 c2 wr) (fun _ _ t11 _ => ks.size - (intOf t11).toNat)
  case atStart =>
    refine ⟨0, 0, [], [], _, 0, rfl, rfl, rfl, ?_⟩
    exact ⟨by rw [lift_nil]; rfl, rfl, rfl, World.ownsRow_lit (base := 0) (e := 60) (size := 6) w #[] 0 (Nat.zero_le _) (Nat.zero_le _) rfl, (fun k e => by injection e with e; exact Nat.le_of_eq e), (Below.refl _ w).alloc (Nat.le_refl _) _, Nat.zero_le _, Nat.zero_le _⟩
  case round =>
    obtain ⟨i, at_, ps, rs, A2, c2, rfl, rfl, rfl, hv⟩ := hrel
    have hle := hv.le
    by_cases hlt : i < ks.size
    · have hsp := hv.spec
      rw [ks_drop ks i hlt] at hsp
      have hcut := HB.out.cut at_ (bs.length - at_) c (by omega) hcap
      rw [List.take_of_length_le (by rw [List.length_drop]; omega)] at hcut
      have hdl : (bs.drop at_).length = bs.length - at_ := List.length_drop ..
      obtain ⟨r, hr⟩ : ∃ r, partR (ks[i]).toNat m (bs.drop at_) = r := ⟨_, rfl⟩
      have hx : ∀ W, Below wr.heap.size wr W → Calls Try.prog 43 #[.slice (cutA A at_ c) (bs.length - at_) (c - at_), .int .u8 (ks[i]).toNat, .int .i64 m] W (FAll r W) :=
        fun W hW => first_at _ _ _ _ _ m r W ((hcut.below hv.bel).below (hW.mono (Nat.le_refl _))) (hl.le (by omega)) (by omega) hm hdl hr
      have Hx := Lib.hid hx
      have Hsp := Lib.hid hsp
      have Hv := Lib.hid hv
      have Hr := Lib.hid hr
      have hsl := slice_from A bs.length c at_ hle
      clear hx hsp hv hr hcut hdl
      go_wp2_with fail
      go_cut [12, 13, 14] from 16 to 44 (fun s12 s13 s14 wx => ∃ (g k u : Nat) (ii : Int) (q : Nat) (t : ByteArray) (b : Bool), (∀ pt n, r = .ok pt n → (⟨k, u, ii, q, t, b⟩ : PK.Rp) = PK.plainP pt) ∧ s12 = .pointer (some ⟨g, 0, none⟩) ∧ s13 = .int .i64 (Res.nn r : Nat) ∧ s14 = .int .i64 (Res.ee r : Nat) ∧ wx.heap[g]? = some (.cells #[.int .u8 k, .int .u64 u, .int .i64 ii, .int .u64 q, .string t, .bool b] 60 (0, 0)) ∧ Below wr.heap.size wr wx)
      case first =>
        go_region_with (go_at_call 43; first | (refine (Hx.out _ (below_a wr)).mono ?_; rintro e w1 ⟨hb1, k, u, ii, q, t, b, hpt, rfl⟩) | (refine (Hx.out _ (below_b wr _)).mono ?_; rintro e w1 ⟨hb1, k, u, ii, q, t, b, hpt, rfl⟩; have hq := new_row hb1; have q0 := (cell_of_row w1 _ 0 _ _ (0, 0) hq).trans rfl; have q1 := (cell_of_row w1 _ 1 _ _ (0, 0) hq).trans rfl; have q2 := (cell_of_row w1 _ 2 _ _ (0, 0) hq).trans rfl; have q3 := (cell_of_row w1 _ 3 _ _ (0, 0) hq).trans rfl; have q4 := (cell_of_row w1 _ 4 _ _ (0, 0) hq).trans rfl; have q5 := (cell_of_row w1 _ 5 _ _ (0, 0) hq).trans rfl; have qf := fun o => frozen_of_row w1 _ o _ _ hq))
        all_goals (try go_wp2_with fail)
        all_goals go_meet
        · exact ⟨_, k, u, ii, q, t, b, hpt, rfl, rfl, rfl, heap_alloc_new _ _, ((below_a wr).trans hb1).alloc hb1.size _⟩
        all_goals
          have hB1 : Below wr.heap.size wr w1 := (below_b wr _).trans (hb1.mono (by show wr.heap.size ≤ (wr.alloc _).heap.size; simp))
          exact ⟨_, k, u, ii, q, t, b, hpt, rfl, rfl, rfl, six_stores hq, hB1.trans (six_below _ _ _ _ _ _ hB1.size (Nat.le_refl _))⟩
      case rest =>
        obtain ⟨g, k, u, ii, q, t, b, hpt, rfl, rfl, rfl, hg, hb1⟩ := hcut
        have hsp := Hsp.out
        have hB : Below w.heap.size w wc := Hv.out.bel.trans (hb1.mono Hv.out.bel.size)
        cases r with
        | bad code n =>
          rw [partsR_bad Hr.out] at hsp
          replace hsp : partsR m ks.data.toList bs = .bad code (at_ + n) := hsp
          have hnl := partR_bad_le Hr.out
          rw [List.length_drop] at hnl
          have hnI : (at_ : Int) + (n : Int) ≤ 4294967296 := by omega
          have Hs2 := Lib.hid hsp
          have hc0 : code ≠ 0 := fun e => partR_code _ _ _ _ (e ▸ Hr.out)
          have hc0' : ¬ (code : Int) = 0 := by omega
          clear hsp hg hpt
          simp only [Res.nn, Res.ee]
          go_wp2
          go_ret3
          exact RRPost.mis Hs2.out (by omega) rfl hB
        | ok pt n =>
          have hpl := hpt pt n rfl
          have hone := partR_one (ks[i]).toNat_lt Hr.out
          have hnl : at_ + n ≤ bs.length := by
            have := hone.2.1
            rw [List.length_drop] at this
            omega
          rw [partsR_cons Hr.out, lift_lift, List.drop_drop] at hsp
          have Hs2 := Lib.hid hsp
          have Hpl := Lib.hid hpl
          have Ho := Lib.hid (own_below Hv.out.own hb1)
          have d := fun o => cell_of_row wc g o _ _ (0, 0) hg
          have d0 : wc.cell? ⟨g, 0, none⟩ = some (.int .u8 k) := (d 0).trans rfl
          have d1 : wc.cell? ⟨g, 1, none⟩ = some (.int .u64 u) := (d 1).trans rfl
          have d2 : wc.cell? ⟨g, 2, none⟩ = some (.int .i64 ii) := (d 2).trans rfl
          have d3 : wc.cell? ⟨g, 3, none⟩ = some (.int .u64 q) := (d 3).trans rfl
          have d4 : wc.cell? ⟨g, 4, none⟩ = some (.string t) := (d 4).trans rfl
          have d5 : wc.cell? ⟨g, 5, none⟩ = some (.bool b) := (d 5).trans rfl
          have hl1 : Lim (rs.length + 1) := hk.le (by have := Hv.out.len; omega)
          have hnI : (at_ : Int) + (n : Int) ≤ 4294967296 := by omega
          clear hsp hpl hone hpt hg d
          simp only [Res.nn, Res.ee]
          go_wp2_with (first
            | (at_builtin
               refine wpList_append_at rfl (.tmp 41) (.tmp 43) _ _ rfl 60 i0 _ 6 56 Try.underlying34 hi0 hz0 hz1 hz2 rfl A2 rs.length c2 (rpCells rs) rfl (Ho.out.alloc _) _ 1 _ rfl (src_newk Try.underlying34 _ (PK.Rp.cells ⟨k, u, ii, q, t, b⟩) _ rfl rfl (rp_one _)) hl1.len (hl1.fit 56 (by omega)) ?_
               intro A3 c3' w3 ho3 hg3 hat3))
          go_roundw
          case rel =>
            refine ⟨i + 1, at_ + n, ps ++ [pt], rs ++ [PK.plainP pt], A3, c3', ?_, by go_num, by go_num, ?_⟩
            · rw [List.length_append]; rfl
            · refine Hv.out.next (hb1.alloc hb1.size _) hg3 hat3 Hs2.out hnl hlt ?_
              rw [← Hpl.out]
              exact ho3
          case measure => simp [intOf]; omega
    · have hie : i = ks.size := by have := hv.il; have h2 : ks.data.toList.length = ks.size := rfl; omega
      subst hie
      have hsp := hv.spec
      rw [List.drop_of_length_le (show ks.data.toList.length ≤ ks.size from Nat.le_refl _)] at hsp
      replace hsp : partsR m ks.data.toList bs = lift ps at_ (if bs.drop at_ = [] then .ok [] 0 else .bad 3 0) := hsp
      by_cases hend : at_ < bs.length
      · rw [if_neg (by intro e; have := congrArg List.length e; rw [List.length_drop] at this; simp at this; omega)] at hsp
        have Hsp := Lib.hid (show partsR m ks.data.toList bs = .bad 3 at_ from hsp)
        have hei : (at_ : Int) < (bs.length : Int) := by omega
        have hB := hv.bel
        clear hsp hv
        go_wp2
        go_ret3
        exact RRPost.mis Hsp.out rfl rfl hB
      · have hae : at_ = bs.length := by omega
        rw [if_pos (by rw [hae, List.drop_length])] at hsp
        replace hsp : partsR m ks.data.toList bs = .ok (ps ++ []) at_ := hsp
        rw [List.append_nil] at hsp
        have Hsp := Lib.hid hsp
        have hei : ¬ (at_ : Int) < (bs.length : Int) := by omega
        have Hv := Lib.hid hv
        clear hsp hv hae
        go_wp2
        go_ret3
        exact RRPost.good Hsp.out Hv.out.rsq Hv.out.bel Hv.out.own

end Go.Proofs.Ytmfjacehompmmaa
