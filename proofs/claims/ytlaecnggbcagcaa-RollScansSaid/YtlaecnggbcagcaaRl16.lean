/- A roll in memory of which a slice tells the entries: how things stand within the laws of layer 19. -/
import Derived.Test.YtlaecnggbcagcaaRl15
namespace Go.Proofs.Ytlaecnggbcagcaa
open Go.RowKit MM
set_option linter.unusedVariables false
set_option linter.unusedSimpArgs false

theorem OwnT.nowK {T S : Nat → Prop} {w w' : World} {p : Nat} {d : Dk} (h : OwnT T w p d) (hk : Kp S w w') (hn : ∀ k, T k → ¬ S k) : OwnT (fun k => T k ∧ (k < w.heap.size ∨ w'.heap.size ≤ k)) w' p d := by
  obtain ⟨G, N, Pd, h1, h2, h3⟩ := h.1.mono (B' := fun k => T k ∧ k < w.heap.size) fun k hk x => ⟨x, hk⟩
  exact ⟨⟨G, N, Pd, h1.keep hk fun k e => hn k (h2 k e).1, fun k e => ⟨(h2 k e).1, .inl (h2 k e).2⟩, h3⟩, fun k hk' => ⟨h.2 k (Nat.le_trans hk.size hk'), .inr hk'⟩⟩
theorem Rol.nowK {b0 : Nat} {T S : Nat → Prop} {w w' : World} {p q : Nat} {d : Dk} {a e : Nat} (h : Rol b0 T w p q d a e) (hk : Kp S w w') (hn : ∀ k, T k → ¬ S k) (hq : ¬ S q) : Rol b0 (fun k => T k ∧ (k < w.heap.size ∨ w'.heap.size ≤ k)) w' p q d a e :=
  ⟨h.own.nowK hk hn, h.box.kp hk hq, fun x => h.nq x.1, fun k x => h.low k x.1, h.lowq, Nat.le_trans h.le hk.size⟩
/-- A slice of one's own, of slices that were handed in. -/
def WantV (w wr : World) (W : Option Addr) (cw : Nat) (fs : List (List UInt8)) : Prop :=
  ∃ vs, wr.ownsRow 0 51 1 (.slice W fs.length cw) fs.length vs ∧ ∀ (j : Nat) (v : Value) (x : List UInt8), fs[j]? = some x → vs[j]? = some v → EntA w v x
theorem WantV.ents {w wr : World} {W : Option Addr} {cw : Nat} {fs : List (List UInt8)} (h : WantV w wr W cw fs) (hb : Below w.heap.size w wr) : EntsA wr W fs := by
  obtain ⟨vs, ho, hv⟩ := h
  by_cases h0 : fs = []
  · exact .inl h0
  have hl : 0 < fs.length := List.length_pos_iff.2 h0
  have hlen : vs.length = fs.length := by have := ho.1; omega
  obtain ⟨g, c, he⟩ := own_at1 ho hl
  injection he with h1 _ _
  subst h1
  refine .inr ⟨g, 0, rfl, (ho.lt g (by rw [ownBlock_slice]; rfl)).2, fun i x hx => ?_⟩
  have hi : i < fs.length := (List.getElem?_eq_some_iff.1 hx).1
  have hvi : vs[i]? = some (vs[i]'(by omega)) := List.getElem?_eq_getElem (by omega)
  exact ⟨_, by rw [Nat.zero_add, ho.cellAt i (by omega), hvi], (hv i _ x hx hvi).below hb⟩

structure RkI (w wr : World) (P R gs fs : List (List UInt8)) (room k p q g : Nat) (T : Nat → Prop) (d : Dk) (W : Option Addr) (cw : Nat) : Prop where
  rol : Rol w.heap.size T wr p q d (P.length + (flE gs).length) (P.length + room)
  st : RSt d P R gs k
  sum : room = (flE gs).length + k
  few : d.pend.length + k ≤ room
  lim : room ≤ 300
  pl : P.length ≤ 10
  box : wr.heap[g]? = some (.cells (arV P.length room) 65 (0, 0))
  ng : ¬ T g ∧ ¬ g = q
  want : WantV w wr W cw fs
  wb : ∀ kk, ob W = some kk → w.heap.size ≤ kk ∧ ¬ T kk ∧ kk ≠ q ∧ kk ≠ g
  bel : Below w.heap.size w wr
section
variable {w wr w' : World} {P R gs fs : List (List UInt8)} {room k p q g : Nat} {T : Nat → Prop} {d : Dk} {W : Option Addr} {cw : Nat}
theorem RkI.below (h : RkI w wr P R gs fs room k p q g T d W cw) (hb : Below wr.heap.size wr w') : RkI w w' P R gs fs room k p q g T d W cw :=
  ⟨h.rol.below hb, h.st, h.sum, h.few, h.lim, h.pl, (hb.block _ (lt_of_heap h.box)).trans h.box, h.ng, by
    obtain ⟨vs, ho, hv⟩ := h.want
    exact ⟨vs, own_below ho hb, hv⟩, h.wb, h.bel.trans (hb.mono h.bel.size)⟩
theorem RkI.kp (h : RkI w wr P R gs fs room k p q g T d W cw) {d' : Dk} {gs' : List (List UInt8)} {k' : Nat} (hr : Rol w.heap.size T w' p q d' (P.length + (flE gs').length) (P.length + room)) (hk : Kp (fun k => T k ∨ k = q) wr w') (st' : RSt d' P R gs' k') (sum' : room = (flE gs').length + k') (few' : d'.pend.length + k' ≤ room) :
    RkI w w' P R gs' fs room k' p q g T d' W cw :=
  ⟨hr, st', sum', few', h.lim, h.pl, (hk.block _ (lt_of_heap h.box) (by rintro (x | x); exact h.ng.1 x; exact h.ng.2 x)).trans h.box, h.ng, by
    obtain ⟨vs, ho, hv⟩ := h.want
    refine ⟨vs, hk.own ho (fun k e => ?_), hv⟩
    rw [ownBlock_slice] at e
    have := h.wb k e
    rintro (x | x)
    · exact this.2.1 x
    · exact this.2.2.1 x, h.wb, h.bel.trans (h.rol.bel hk)⟩
theorem RkI.left (h : RkI w wr P R gs fs room k p q g T d W cw) : Calls Try.prog 45 #[.pointer (some ⟨q, 0, none⟩)] wr fun x w' => x = .returned (.int .i64 (k : Int)) ∧ RkI w w' P R gs fs room k p q g T d W cw ∧ Below wr.heap.size wr w' :=
  (left_any q p _ _ wr h.rol.box (by have := h.sum; omega) (by have := h.lim; have := h.pl; omega)).mono fun x w' hh =>
    ⟨by rw [hh.1, show P.length + room - (P.length + (flE gs).length) = k by have := h.sum; omega], h.below hh.2, hh.2⟩
theorem RkI.app (h : RkI w wr P R gs fs room k p q g T d W cw) (A : Option Addr) (c : Nat) (b : List UInt8) (hb : Bts wr A b) (hbc : b.length ≤ c) (hbn : A = none → c = 0) (hbl : b.length ≤ 100000) {d' : Dk} {gs' : List (List UInt8)} {k' er a' : Nat}
    (hx : d.app (P.length + (flE gs).length) (P.length + room) b = (d', er, a')) (ha : a' = P.length + (flE gs').length) (st' : RSt d' P R gs' k') (sum' : room = (flE gs').length + k') (few' : d'.pend.length + k' ≤ room) :
    Calls Try.prog 48 #[.pointer (some ⟨q, 0, none⟩), .slice A b.length c] wr fun x w' => x = .returned (.int .i64 (er : Nat)) ∧ RkI w w' P R gs' fs room k' p q g T d' W cw :=
  (rol_append A c b wr hb hbc hbn hbl (by have := h.sum; omega) (by have := h.lim; have := h.pl; omega) (by have := h.few; have := h.lim; omega) h.rol).mono fun x w' hh => by
    obtain ⟨h1, h2, h3⟩ := hh
    rw [hx] at h1 h2
    exact ⟨h1, h.kp (by rw [← ha]; exact h2) h3 st' sum' few'⟩
theorem RkI.app_long (h : RkI w wr P R gs fs room k p q g T d W cw) (A : Option Addr) (c : Nat) (b : List UInt8) (hb : Bts wr A b) (hbc : b.length ≤ c) (hbn : A = none → c = 0) (hbl : b.length ≤ 100000) (hl : 3840 < b.length) :
    Calls Try.prog 48 #[.pointer (some ⟨q, 0, none⟩), .slice A b.length c] wr fun x w' => x = .returned (.int .i64 3) ∧ RkI w w' P R gs fs room k p q g T d W cw :=
  h.app A c b hb hbc hbn hbl (h.st.app_long hl) rfl h.st h.sum h.few
theorem RkI.app_full (h : RkI w wr P R gs fs room k p q g T d W cw) (A : Option Addr) (c : Nat) (b : List UInt8) (hb : Bts wr A b) (hbc : b.length ≤ c) (hbn : A = none → c = 0) (hbl : b.length ≤ 100000) (hl : b.length ≤ 3840) (hk : k < needN b.length) :
    Calls Try.prog 48 #[.pointer (some ⟨q, 0, none⟩), .slice A b.length c] wr fun x w' => x = .returned (.int .i64 8) ∧ RkI w w' P R gs fs room k p q g T d W cw :=
  h.app A c b hb hbc hbn hbl (h.st.app_full hl (by have := h.sum; omega)) rfl h.st h.sum h.few
theorem RkI.app_ok (h : RkI w wr P R gs fs room k p q g T d W cw) (A : Option Addr) (c : Nat) (b : List UInt8) (hb : Bts wr A b) (hbc : b.length ≤ c) (hbn : A = none → c = 0) (hbl : b.length ≤ 100000) (hl : b.length ≤ 3840) (hk : needN b.length ≤ k) :
    ∃ d', (RSt d' P R (gs ++ [b]) (k - needN b.length) ∧ d'.good = d.good ∧ d'.pend = d.pend ++ atL (P.length + (flE gs).length) (secsL b)) ∧ Calls Try.prog 48 #[.pointer (some ⟨q, 0, none⟩), .slice A b.length c] wr fun x w' => x = .returned (.int .i64 0) ∧ RkI w w' P R (gs ++ [b]) fs room (k - needN b.length) p q g T d' W cw := by
  obtain ⟨d', h1, h2, h3, h4⟩ := h.st.app hl hk (a := P.length + (flE gs).length) (e := P.length + room) rfl (by have := h.sum; omega)
  refine ⟨d', ⟨h2, h3, h4⟩, h.app A c b hb hbc hbn hbl h1 (by rw [flE_snoc, List.length_append, secsL_len]; omega) h2 (by have := h.sum; rw [flE_snoc, List.length_append, secsL_len]; omega) (by have := h.few; rw [h4, List.length_append, atL_len, secsL_len]; omega)⟩
theorem RkI.push (h : RkI w wr P R gs fs room k p q g T d W cw) (o : Obj) {w2 : World} {W2 : Option Addr} {cw2 : Nat} {vs : List Value} {v : Value} {x : List UInt8} (hv : ∀ (j : Nat) (v : Value) (x : List UInt8), fs[j]? = some x → vs[j]? = some v → EntA w v x) (hl : vs.length = fs.length)
    (ho : w2.ownsRow 0 51 1 (.slice W2 (fs.length + 1) cw2) (fs.length + 1) (vs ++ [v])) (hg : (wr.alloc o).grownBy w2 (ob W)) (hat : ob W2 = ob W ∨ ob W2 = some (wr.alloc o).heap.size) (he : EntA w v x) :
    RkI w w2 P R gs (fs ++ [x]) room k p q g (fun k => T k ∧ (k < wr.heap.size ∨ w2.heap.size ≤ k)) d W2 cw2 := by
  have hk : Kp (fun k => ob W = some k) wr w2 := ((Kp.refl _ wr).alloc o).grown hg fun k e => .inl e
  have hW : ∀ k, ob W = some k → k < wr.heap.size := fun k e => by
    obtain ⟨vs0, ho0, _⟩ := h.want
    exact (ho0.lt k (by rw [ownBlock_slice]; exact e)).2
  have hb2 : ∀ k, ob W2 = some k → k < w2.heap.size := fun k e => (ho.lt k (by rw [ownBlock_slice]; exact e)).2
  have hs : (wr.alloc o).heap.size = wr.heap.size + 1 := by simp
  have hq := lt_of_heap h.rol.box
  have hgl := lt_of_heap h.box
  refine ⟨h.rol.nowK hk (fun k t e => (h.wb k e).2.1 t) (fun e => (h.wb q e).2.2.1 rfl), h.st, h.sum, h.few, h.lim, h.pl, (hk.block _ hgl (fun e => (h.wb g e).2.2.2 rfl)).trans h.box, ⟨fun x => h.ng.1 x.1, h.ng.2⟩, ⟨vs ++ [v], by rw [List.length_append]; exact ho, fun j v' x' hx hv' => ?_⟩, fun kk e => ?_, h.bel.trans (hk.below h.bel.size fun i hi e => by have := (h.wb i e).1; omega)⟩
  · by_cases hj : j < fs.length
    · rw [List.getElem?_append_left hj] at hx
      rw [List.getElem?_append_left (by omega)] at hv'
      exact hv j v' x' hx hv'
    · rw [List.getElem?_append_right (by omega)] at hx
      rw [List.getElem?_append_right (by omega), hl] at hv'
      cases hjj : j - fs.length with
      | zero =>
        rw [hjj] at hx hv'
        injection hx with hx
        injection hv' with hv'
        subst hx hv'
        exact he
      | succ m => rw [hjj] at hx; cases hx
  · rcases hat with y | y
    · rw [y] at e
      obtain ⟨h1, h2, h3, h4⟩ := h.wb kk e
      exact ⟨h1, fun x => h2 x.1, h3, h4⟩
    · have hlt := hb2 kk e
      rw [y] at e
      injection e with e
      have := h.bel.size
      exact ⟨by omega, fun x => by rcases x.2 with z | z <;> omega, by omega, by omega⟩
end

end Go.Proofs.Ytlaecnggbcagcaa
