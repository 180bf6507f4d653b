/- The walk of PackWrites: a writer holds what was written; what it hands out is memory of its own. -/
import Derived.Test.YtmfjacehompmmaaPackCuts
namespace Go.Proofs.Ytmfjacehompmmaa
open Go.RowKit MM

/-- A writer at p that holds zs, and beside it a slice of one's own that holds xs. -/
structure WInv (E : TypeId) (wb : World) (p : Nat) (A1 : Option Addr) (c1 : Nat) (zs : List UInt8) (A2 : Option Addr) (c2 : Nat) (xs : List UInt8) (wr : World) : Prop where
  wrt : Wr E wr p A1 c1 zs
  own : wr.ownsRow 0 E 1 (.slice A2 xs.length c2) xs.length (bc xs)
  ne : ∀ k, ob A2 = some k → k ≠ p ∧ ob A1 ≠ some k
  bel : Below wb.heap.size wb wr
  n1 : ∀ k, ob A1 = some k → wb.heap.size ≤ k
  n2 : ∀ k, ob A2 = some k → wb.heap.size ≤ k
  pp : p = wb.heap.size

theorem ob_lt {w : World} {A : Option Addr} {base : Nat} {e : TypeId} {size n c : Nat} {ys : List Value} (h : w.ownsRow base e size (.slice A n c) n ys) {k : Nat} (hk : ob A = some k) : k < w.heap.size := by
  cases A with
  | none => cases hk
  | some ad => injection hk with hk; subst hk; exact own_inside h ad rfl

theorem plain_one (q : PK.Pt) (rs : List PK.Rp) (w : World) (hok : q.ok) (hrs : [q].map PK.plainP = rs) :
    Calls Try.prog 17 #[.slice (some ⟨w.heap.size, 0, none⟩) 1 1] (w.alloc (.cells q.cells 45)) (FreshR rs (w.alloc (.cells q.cells 45))) := by
  have h1 : [q].length ≤ maxLen := by show 1 ≤ maxLen; decide
  have hp := Pts.new w 45 [q] h1
  have hc : (ptCells [q]).toArray = q.cells := by simp [ptCells]
  rw [hc] at hp
  exact plain_at _ 1 [q] rs _ hp (fun r hr => by simp only [List.mem_singleton] at hr; subst hr; exact hok) (by show Lim 1; unfold Lim; omega) hrs
theorem WInv.start (E t : TypeId) (w : World) : WInv E w w.heap.size none 0 [] (some ⟨w.heap.size + 1, 0, none⟩) 0 [] ((w.alloc (.cells #[.slice none 0 0] t)).alloc (.cells #[] E)) := by
  have hs : (w.alloc (.cells #[.slice none 0 0] t)).heap.size = w.heap.size + 1 := by simp
  have ho := World.ownsRow_lit (base := 0) (e := E) (size := 1) (w.alloc (.cells #[.slice none 0 0] t)) #[] 0 (Nat.zero_le _) (Nat.zero_le _) rfl
  rw [hs] at ho
  refine ⟨(Wr.new E t w).alloc _, ho, ?_, ((Below.refl _ w).alloc (Nat.le_refl _) _).alloc (by omega) _, (fun k e => by cases e), ?_, rfl⟩
  · intro k e
    have e : some (w.heap.size + 1) = some k := e
    injection e with e
    exact ⟨by omega, by simp [ob]⟩
  · intro k e
    have e : some (w.heap.size + 1) = some k := e
    injection e with e
    omega

section
variable {E : TypeId} {wb wr : World} {p : Nat} {A1 A2 : Option Addr} {c1 c2 : Nat} {zs xs : List UInt8}
/-- Behind a call of the writer. -/
theorem WInv.wrote {A3 : Option Addr} {c3 : Nat} {o : Obj} {w4 : World} {ys : List UInt8} (h : WInv E wb p A1 c1 zs A2 c2 xs wr) (hw : Wr E w4 p A3 c3 ys) (hs : WS p A1 A3 (wr.alloc o) w4) : WInv E wb p A3 c3 ys A2 c2 xs w4 := by
  have hsz : (wr.alloc o).heap.size = wr.heap.size + 1 := by simp
  have hk : Kp (fun k => k = p ∨ ob A1 = some k) wr w4 := (((Kp.refl (fun _ => False) wr).alloc o).mono (S' := fun k => k = p ∨ ob A1 = some k) (fun _ _ x => x.elim)).trans hs.kp (fun _ _ x => x)
  refine ⟨hw, hk.own h.own ?_, ?_, h.bel.trans (hk.below h.bel.size ?_), ?_, h.n2, h.pp⟩
  · rintro k e (x | x)
    · rw [ownBlock_slice] at e; exact (h.ne k e).1 x
    · rw [ownBlock_slice] at e; exact (h.ne k e).2 x
  · intro k e
    refine ⟨(h.ne k e).1, fun x => ?_⟩
    rcases hs.at_ with y | ⟨g, y, hg⟩
    · exact (h.ne k e).2 (y ▸ x)
    · rw [y] at x; injection x with x; have := ob_lt h.own e; omega
  · rintro j hj (x | x)
    · have := h.pp; omega
    · have := h.n1 j x; omega
  · intro k e
    rcases hs.at_ with y | ⟨g, y, hg⟩
    · exact h.n1 k (y ▸ e)
    · rw [y] at e; injection e with e; have := h.bel.size; omega
theorem WInv.box {A3 : Option Addr} {o : Obj} {w4 : World} (h : WInv E wb p A1 c1 zs A2 c2 xs wr) (hs : WS p A1 A3 (wr.alloc o) w4) : w4.heap[wr.heap.size]? = some o := by
  refine (hs.kp.block _ (by simp) ?_).trans (heap_alloc_new wr o)
  rintro (x | x)
  · have := h.wrt.lt; omega
  · have := ob_lt h.wrt.own x; omega
/-- Behind what reaches neither. -/
theorem WInv.below {w4 : World} (h : WInv E wb p A1 c1 zs A2 c2 xs wr) (hb : Below wr.heap.size wr w4) : WInv E wb p A1 c1 zs A2 c2 xs w4 :=
  ⟨h.wrt.keep (Kp.of_below hb (fun _ => False)) (fun x => x) (fun _ _ x => x), own_below h.own hb, h.ne, h.bel.trans (hb.mono h.bel.size), h.n1, h.n2, h.pp⟩
/-- Behind an append. -/
theorem WInv.grew {A4 : Option Addr} {c4 n : Nat} {ys : List UInt8} {vs : List Value} {w8 : World} (h : WInv E wb p A1 c1 zs A2 c2 xs wr) (ho : w8.ownsRow 0 E 1 (.slice A4 n c4) n vs) (hg : wr.grownBy w8 (ob A2)) (hat : ob A4 = ob A2 ∨ ob A4 = some wr.heap.size) (hn : n = ys.length) (hz : vs = bc ys) :
    WInv E wb p A1 c1 zs A4 c4 ys w8 := by
  subst hn hz
  have hk : Kp (fun k => ob A2 = some k) wr w8 := (Kp.refl _ wr).grown hg (fun k e => .inl e)
  have hp := h.wrt.lt
  refine ⟨h.wrt.keep hk (fun x => (h.ne p x).1 rfl) (fun k e x => (h.ne k x).2 e), ho, ?_, h.bel.trans (hk.below h.bel.size ?_), h.n1, ?_, h.pp⟩
  · intro k e
    rcases hat with y | y
    · exact h.ne k (y ▸ e)
    · rw [y] at e
      injection e with e
      refine ⟨by omega, fun x => ?_⟩
      have := ob_lt h.wrt.own x
      omega
  · intro j hj x
    have := h.n2 j x
    omega
  · intro k e
    rcases hat with y | y
    · exact h.n2 k (y ▸ e)
    · rw [y] at e; injection e with e; have := h.bel.size; omega
end

/-- Of a slice of one's own whatever cells may have turned. -/
def Sev (A : Option Addr) (n : Nat) (w w' : World) : Prop := Kp (fun k => ob A = some k) w w' ∧ ∀ j, j < n → ∃ g v, A = some ⟨g, 0, none⟩ ∧ w'.cell? ⟨g, j, none⟩ = some v ∧ w'.frozen? ⟨g, j, none⟩ = false
theorem Sev.start {E : TypeId} {w : World} {A : Option Addr} {c : Nat} {xs : List UInt8} (h : w.ownsRow 0 E 1 (.slice A xs.length c) xs.length (bc xs)) : Sev A xs.length w w := by
  refine ⟨Kp.refl _ _, fun j hj => ?_⟩
  rcases h.2 with ⟨hv, h0⟩ | ⟨g, cap, cur, hv, _, hg, _⟩
  · omega
  · injection hv with hA _ hc
    subst hA hc
    refine ⟨g, .int .u8 (xs[j]).toNat, rfl, ?_, frozen_of_row _ _ j _ _ hg⟩
    rw [h.cellAt j (by omega), bc_get xs j hj]
theorem Sev.step {g n j : Nat} {w w' : World} (h : Sev (some ⟨g, 0, none⟩) n w w') (hj : j < n) (v : Value) : Sev (some ⟨g, 0, none⟩) n w (w'.setCell ⟨g, j, none⟩ v) := by
  refine ⟨h.1.setCell (p := ⟨g, j, none⟩) (.inl rfl) v, fun i hi => ?_⟩
  obtain ⟨g', u, e, hc, hf⟩ := h.2 i hi
  injection e with e
  injection e with e
  subst e
  obtain ⟨_, u2, _, hc2, _⟩ := h.2 j hj
  by_cases hij : i = j
  · subst hij
    exact ⟨g, v, rfl, World.cell?_setCell_same _ _ _ hc, by rw [World.frozen?_setCell]; exact hf⟩
  · exact ⟨g, u, rfl, by rw [World.cell?_setCell_other _ _ _ _ (by intro e; injection e with _ e; exact hij e.symm)]; exact hc, by rw [World.frozen?_setCell]; exact hf⟩

set_option maxHeartbeats 4000000 in
set_option maxRecDepth 100000 in
theorem packWrites_any (A : Option Addr) (c : Nat) (qs : List PK.Pt) (w : World) (hqs : ∀ q ∈ qs, q.ok ∧ q.s.size ≤ maxLen) (hp : Pts w A qs) :
    Calls Try.prog 8 #[.slice A qs.length c] w fun e w' => e = .returned (.bool true) ∧ Below w.heap.size w w' := by
  obtain ⟨i0, hi0, hz0, hz1, hz2⟩ := info_parts byte_info
  have hok : ∀ q ∈ qs, q.ok := fun q hq => (hqs q hq).1
  have Hok := Lib.hid hok
  have Hp := Lib.hid hp
  have Hs := Lib.hid (show ∀ q ∈ qs, q.s.size ≤ maxLen from fun q hq => (hqs q hq).2)
  have Hk := Lib.hid (show ∀ q ∈ qs, q.k < 256 from fun q hq => (hok q hq).k)
  clear hok hp hqs
  go_enter Try.func8, Try.ntmps8
  go_wp2_with (go_at_call 12; refine (speaks_any _).mono ?_; rintro e w1 ⟨rfl, hb1⟩)
  refine (kinds_any A c qs _ (Hp.out.below hb1) Hs.out Hk.out).mono ?_
  unfold KPost
  cases hfew : PK.few qs with
  | false =>
    rintro e w2 ⟨rfl, hb2⟩
    rw [if_neg (by simp)]
    go_wp2
    go_ret
    exact ⟨rfl, hb1.trans (hb2.mono hb1.size)⟩
  | true =>
    rintro e w2 ⟨rfl, hb2⟩
    rw [if_pos rfl]
    have hB2 : Below w.heap.size w w2 := hb1.trans (hb2.mono hb1.size)
    clear hb1 hb2
    obtain ⟨hfine, h40, hlim⟩ := few_fine Hok.out hfew
    have hn' : (qs.length : Int) ≤ 40 := by omega
    have Hfine := Lib.hid hfine
    have Hlim := Lib.hid hlim
    have Hp2 := Lib.hid (Hp.out.below hB2)
    clear hfew hfine hlim
    go_wp2_with fail
    go_loopw [6, 23] (fun tw ti wr => ∃ (i : Nat) (A1 : Option Addr) (c1 : Nat) (A2 : Option Addr) (c2 : Nat) (xs : List UInt8), xs = PK.partsB (qs.take i) ∧ tw = .slice A2 xs.length c2 ∧ ti = .int .i64 i ∧ i ≤ qs.length ∧ WInv 5 w2 w2.heap.size A1 c1 xs A2 c2 xs wr) (fun _ t _ => qs.length - (intOf t).toNat)
    case atStart => exact ⟨0, none, 0, _, 0, [], rfl, rfl, rfl, Nat.zero_le _, WInv.start _ _ w2⟩
    case round =>
      obtain ⟨i, A1, c1, A2, c2, xs, hxs, rfl, rfl, hi, hv⟩ := hrel
      by_cases hlt : i < qs.length
      · rcases Hp2.out with rfl | ⟨b, off, rfl, hbl, hcell⟩
        · simp at hlt
        have hcs := hcell i qs[i] (List.getElem?_eq_getElem hlt)
        have hqo := Hok.out qs[i] (List.getElem_mem _)
        obtain ⟨_, hkd, hsz, hsz2⟩ := Hfine.out qs[i] (List.getElem_mem _)
        have htk : PK.partsB (qs.take (i + 1)) = PK.partsB (qs.take i) ++ PK.partB qs[i] := PK.partsB_take qs i hlt
        have hle := PK.partsB_le qs (i + 1)
        rw [htk, List.length_append] at hle
        have hl1 := Hlim.out.le hle
        rw [← hxs] at htk hl1
        generalize qs[i] = q at *
        obtain ⟨zs, hzs⟩ : ∃ zs, xs ++ PK.partB q = zs := ⟨_, rfl⟩
        have hl2 : Lim zs.length := by rw [← hzs, List.length_append]; exact hl1
        have hl3 : Lim (PK.partB q).length := hl1.le (by omega)
        have hzl : (zs.length : Int) < 4294967296 := by unfold Lim at hl2; omega
        have Hxs := Lib.hid (show zs = PK.partsB (qs.take (i + 1)) from by rw [htk, hzs])
        have Hzs := Lib.hid hzs
        have hpl : PK.refsB [PK.plainP q] = PK.partB q := by rw [← PK.refB_plain]; show PK.refB (PK.plainP q) ++ [] = _; rw [List.append_nil]
        have Hpl := Lib.hid hpl
        have Hqo := Lib.hid hqo
        have Hv := Lib.hid hv
        obtain ⟨sa, hsa⟩ : ∃ sa : ByteArray, sa = ⟨zs.toArray⟩ := ⟨_, rfl⟩
        have Hsa := Lib.hid hsa
        have Hzl := Lib.hid (show xs.length + (PK.partB q).length = zs.length from by rw [← hzs, List.length_append])
        have Hzb := Lib.hid (show bc xs ++ bc (PK.partB q) = bc zs from by rw [← hzs, bc_append])
        obtain ⟨rs, hrs⟩ : ∃ rs, [q].map PK.plainP = rs := ⟨_, rfl⟩
        have Hrs := Lib.hid hrs
        have hrl : rs.length = 1 := by rw [← hrs]; rfl
        have Hrl := Lib.hid hrl
        have hl4 : Lim rs.length := by rw [hrl]; unfold Lim; omega
        have Hrp := Lib.hid (show PK.refsB rs = PK.partB q from by rw [← hrs]; exact hpl)
        have Hrok := Lib.hid (show ∀ r ∈ rs, r.ok from by rw [← hrs]; intro r hr; simp only [List.map_cons, List.map_nil, List.mem_singleton] at hr; subst hr; exact plain_ok hqo)
        clear htk hle hxs hzs hpl hcell hsz hsz2 hrs hrl
        obtain ⟨qk, qu, qi, qf, qs', qb⟩ := q
        have hbw := hv.bel
        have c0 : wr.cell? ⟨b, off + i * 6, none⟩ = some (.int .u8 qk) := (hbw.cell (p := ⟨b, off + i * 6, none⟩) hbl).trans (hcs 0 _ rfl)
        have c1' : wr.cell? ⟨b, off + i * 6 + 1, none⟩ = some (.int .u64 qu) := (hbw.cell (p := ⟨b, off + i * 6 + 1, none⟩) hbl).trans (hcs 1 _ rfl)
        have c2' : wr.cell? ⟨b, off + i * 6 + 2, none⟩ = some (.int .i64 qi) := (hbw.cell (p := ⟨b, off + i * 6 + 2, none⟩) hbl).trans (hcs 2 _ rfl)
        have c3' : wr.cell? ⟨b, off + i * 6 + 3, none⟩ = some (.float .f64 qf) := (hbw.cell (p := ⟨b, off + i * 6 + 3, none⟩) hbl).trans (hcs 3 _ rfl)
        have c4' : wr.cell? ⟨b, off + i * 6 + 4, none⟩ = some (.string qs') := (hbw.cell (p := ⟨b, off + i * 6 + 4, none⟩) hbl).trans (hcs 4 _ rfl)
        have c5' : wr.cell? ⟨b, off + i * 6 + 5, none⟩ = some (.bool qb) := (hbw.cell (p := ⟨b, off + i * 6 + 5, none⟩) hbl).trans (hcs 5 _ rfl)
        clear hcs hv hqo hbw
        rcases kind5 hkd with rfl | rfl | rfl | rfl | rfl
        all_goals
          clear hkd
          go_wp2_with (first
            | (go_at_call 22; refine (wu_any w2.heap.size A1 c1 xs qu _ (Hv.out.wrt.alloc _) hl1).mono ?_; rintro e w4 ⟨rfl, A3, c3, hw4, hs4⟩; have hw4 : Wr 5 w4 w2.heap.size A3 c3 zs := Hzs.out ▸ hw4; have hbx := Hv.out.box hs4; have hv4 := Hv.out.wrote hw4 hs4; have HV4 := Lib.hid hv4; have d0 := (cell_of_row w4 _ 0 _ _ (0, 0) hbx).trans rfl; have d1 := (cell_of_row w4 _ 1 _ _ (0, 0) hbx).trans rfl; have d2 := (cell_of_row w4 _ 2 _ _ (0, 0) hbx).trans rfl; have d3 := (cell_of_row w4 _ 3 _ _ (0, 0) hbx).trans rfl; have d4 := (cell_of_row w4 _ 4 _ _ (0, 0) hbx).trans rfl; have d5 := (cell_of_row w4 _ 5 _ _ (0, 0) hbx).trans rfl; clear hw4 hs4 hv4 hbx)
            | (go_at_call 23; refine (wi_any w2.heap.size A1 c1 xs qi _ (Hv.out.wrt.alloc _) Hqo.out.i hl1).mono ?_; rintro e w4 ⟨rfl, A3, c3, hw4, hs4⟩; have hw4 : Wr 5 w4 w2.heap.size A3 c3 zs := Hzs.out ▸ hw4; have hbx := Hv.out.box hs4; have hv4 := Hv.out.wrote hw4 hs4; have HV4 := Lib.hid hv4; have d0 := (cell_of_row w4 _ 0 _ _ (0, 0) hbx).trans rfl; have d1 := (cell_of_row w4 _ 1 _ _ (0, 0) hbx).trans rfl; have d2 := (cell_of_row w4 _ 2 _ _ (0, 0) hbx).trans rfl; have d3 := (cell_of_row w4 _ 3 _ _ (0, 0) hbx).trans rfl; have d4 := (cell_of_row w4 _ 4 _ _ (0, 0) hbx).trans rfl; have d5 := (cell_of_row w4 _ 5 _ _ (0, 0) hbx).trans rfl; clear hw4 hs4 hv4 hbx)
            | (go_at_call 24; refine (wf_any w2.heap.size A1 c1 xs qf _ Hqo.out.f (Hv.out.wrt.alloc _) (hl1.le (by show xs.length + 8 ≤ xs.length + (PK.placeB (MF.key qf)).length; rw [PK.placeB_length]; omega))).mono ?_; rintro e w4 ⟨rfl, A3, c3, hw4, hs4⟩; have hw4 : Wr 5 w4 w2.heap.size A3 c3 zs := Hzs.out ▸ hw4; have hbx := Hv.out.box hs4; have hv4 := Hv.out.wrote hw4 hs4; have HV4 := Lib.hid hv4; have d0 := (cell_of_row w4 _ 0 _ _ (0, 0) hbx).trans rfl; have d1 := (cell_of_row w4 _ 1 _ _ (0, 0) hbx).trans rfl; have d2 := (cell_of_row w4 _ 2 _ _ (0, 0) hbx).trans rfl; have d3 := (cell_of_row w4 _ 3 _ _ (0, 0) hbx).trans rfl; have d4 := (cell_of_row w4 _ 4 _ _ (0, 0) hbx).trans rfl; have d5 := (cell_of_row w4 _ 5 _ _ (0, 0) hbx).trans rfl; clear hw4 hs4 hv4 hbx)
            | (go_at_call 25; refine (ws_any w2.heap.size A1 c1 xs qs' _ (Hv.out.wrt.alloc _) hl1).mono ?_; rintro e w4 ⟨rfl, A3, c3, hw4, hs4⟩; have hw4 : Wr 5 w4 w2.heap.size A3 c3 zs := Hzs.out ▸ hw4; have hbx := Hv.out.box hs4; have hv4 := Hv.out.wrote hw4 hs4; have HV4 := Lib.hid hv4; have d0 := (cell_of_row w4 _ 0 _ _ (0, 0) hbx).trans rfl; have d1 := (cell_of_row w4 _ 1 _ _ (0, 0) hbx).trans rfl; have d2 := (cell_of_row w4 _ 2 _ _ (0, 0) hbx).trans rfl; have d3 := (cell_of_row w4 _ 3 _ _ (0, 0) hbx).trans rfl; have d4 := (cell_of_row w4 _ 4 _ _ (0, 0) hbx).trans rfl; have d5 := (cell_of_row w4 _ 5 _ _ (0, 0) hbx).trans rfl; clear hw4 hs4 hv4 hbx)
            | (go_at_call 26; refine (flag_any w2.heap.size A1 c1 xs qb _ (Hv.out.wrt.alloc _) hl1).mono ?_; rintro e w4 ⟨rfl, A3, c3, hw4, hs4⟩; have hw4 : Wr 5 w4 w2.heap.size A3 c3 zs := Hzs.out ▸ hw4; have hbx := Hv.out.box hs4; have hv4 := Hv.out.wrote hw4 hs4; have HV4 := Lib.hid hv4; have d0 := (cell_of_row w4 _ 0 _ _ (0, 0) hbx).trans rfl; have d1 := (cell_of_row w4 _ 1 _ _ (0, 0) hbx).trans rfl; have d2 := (cell_of_row w4 _ 2 _ _ (0, 0) hbx).trans rfl; have d3 := (cell_of_row w4 _ 3 _ _ (0, 0) hbx).trans rfl; have d4 := (cell_of_row w4 _ 4 _ _ (0, 0) hbx).trans rfl; have d5 := (cell_of_row w4 _ 5 _ _ (0, 0) hbx).trans rfl; clear hw4 hs4 hv4 hbx)
            | (go_at_call 17
               refine (plain_one ⟨_, qu, qi, qf, qs', qb⟩ rs w4 Hqo.out Hrs.out).mono ?_
               rintro e w5 ⟨A5, c5, rfl, ho5, hn5, hb5⟩
               have hv5 := HV4.out.below (((Below.refl _ w4).alloc (Nat.le_refl _) _).trans (hb5.mono (by simp)))
               have HV5 := Lib.hid hv5
               have Hr5 := Lib.hid (Rps.own ho5)
               clear ho5 hn5 hb5 hv5)
            | (go_at_call 16
               refine (rwrite_at A5 c5 rs _ _ Hrok.out Hr5.out hl4 hl3 Hrp.out).mono ?_
               rintro e w6 ⟨A6, c6, rfl, ho6, hn6, hb6⟩
               have hv6 := HV5.out.below hb6
               have HV6 := Lib.hid hv6
               have Ho6 := Lib.hid ho6
               clear ho6 hn6 hb6 hv6)
            | (at_builtin
               refine wpList_append_at rfl (.tmp 54) (.tmp 58) _ _ rfl 5 i0 _ 1 1 Try.underlying26 hi0 hz0 hz1 hz2 rfl A2 xs.length c2 (bc xs) rfl HV6.out.own _ _ _ rfl (Bts.src Try.underlying26 (Bts.own Ho6.out) (fun e => by subst e; exact own_cap Ho6.out)) hl1.len hl1.fits ?_
               intro A4 c4 w7 ho7 hg7 hat7
               have hv7 := HV6.out.grew ho7 hg7 hat7 Hzl.out Hzb.out
               rw [Hzl.out]
               have HV7 := Lib.hid hv7
               clear ho7 hg7 hat7 hv7)
            | (go_at_call 27
               refine (bytes_any w2.heap.size A3 c3 zs _ HV7.out.wrt hl2).mono ?_
               rintro e w8 ⟨A8, c8, rfl, ho8, hn8, hb8⟩
               have hv8 := HV7.out.below hb8
               have HV8 := Lib.hid hv8
               have hcv1 := conv_own ho8 rfl Hsa.out
               have hcv2 := conv_own hv8.own rfl Hsa.out
               have Ho8 := Lib.hid ho8
               have Hn8 := Lib.hid hn8
               have Hb8 := Lib.hid hb8
               clear ho8 hn8 hb8 hv8)
            | (go_at_call 28
               refine (wlen_any w2.heap.size A3 c3 zs _ HV8.out.wrt).mono ?_
               rintro e w9 ⟨rfl, rfl⟩))
          clear hcv1 hcv2 d0 d1 d2 d3 d4 d5 c0 c1' c2' c3' c4' c5'
          go_loopw [74] (fun t wx => ∃ j : Nat, t = .int .i64 j ∧ j ≤ zs.length ∧ Sev A8 zs.length w8 wx) (fun t _ => zs.length - (intOf t).toNat)
          case atStart => exact ⟨0, rfl, Nat.zero_le _, Sev.start Ho8.out⟩
          case round =>
            obtain ⟨j, rfl, hj, hse⟩ := hrel
            by_cases hlj : j < zs.length
            · obtain ⟨g, v, rfl, hcell, hfro⟩ := hse.2 j hlj
              go_wp2
              go_roundw
              case rel => exact ⟨j + 1, by go_num, by omega, hse.step hlj _⟩
              case measure => simp [intOf]; omega
            · have hj' : j = zs.length := by omega
              subst hj'
              go_wp2_with fail
              have hv9 := HV7.out.below (below_drew (Hb8.out.trans (hse.1.below Hb8.out.size (fun k hk x => by have := Hn8.out k x; omega))))
              have HV9 := Lib.hid hv9
              have hcv5 := conv_own hv9.own rfl Hsa.out
              clear hse hv9
              go_region_with (go_at_call 27; refine (bytes_any w2.heap.size A3 c3 zs _ HV9.out.wrt hl2).mono ?_; rintro e w10 ⟨A10, c10, rfl, ho10, hn10, hb10⟩; have hv10 := HV9.out.below hb10; have hcv6 := conv_own ho10 rfl Hsa.out; have hcv7 := conv_own hv10.own rfl Hsa.out; have HV10 := Lib.hid hv10; clear ho10 hn10 hb10 hv10)
              all_goals
                clear hcv5 hcv6 hcv7 hlj hj hsa hl1 hl2 hl3 hl4 hzl Hzl Hzb Hrp Hrok Hrs Hsa Hb8 Hn8 Ho8 HV9 HV8 HV7 HV6 HV5 HV4 Ho6 Hr5
                go_wp2_with fail
                refine ⟨⟨i + 1, A3, c3, A4, c4, zs, Hxs.out, rfl, by go_num, by omega, HV10.out⟩, ?_⟩
                simp [intOf]
                omega
      · have hi' : i = qs.length := by omega
        subst hi'
        go_wp2_with (go_at_call 28; refine (wlen_any w2.heap.size A1 c1 xs _ hv.wrt).mono ?_; rintro e w4 ⟨rfl, rfl⟩)
        go_ret
        exact ⟨rfl, hB2.trans (hv.bel.mono hB2.size)⟩

end Go.Proofs.Ytmfjacehompmmaa
