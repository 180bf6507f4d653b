/- Layer 7: a row of records that is written in its middle. -/
import Derived.Test.YtbkcmnmbcldjoaaGreatDoorSh4P7c
import Derived.Deep.MidRow
import Derived.Laws.MakeOwn
import Derived.Test.YtbkcmnmbcldjoaaGreatDoorShYP7c
import Derived.Test.YtbkcmnmbcldjoaaGreatDoorSh5P7c
namespace Go.Proofs.YtbkcmnmbcldjoaaGreatDoor
open Go.RowKit MM
set_option linter.unusedVariables false
set_option linter.unusedSimpArgs false
theorem setCells_block (g : Nat) (t : TypeId) : ∀ (vs : List Value) (o : Nat) (w : World) (cs : Array Value), w.heap[g]? = some (.cells cs t (0, 0)) → ∃ cs', (w.setCells g o vs).heap[g]? = some (.cells cs' t (0, 0)) ∧ cs'.size = cs.size
  | [], o, w, cs, h => ⟨cs, h, rfl⟩
  | v :: vs, o, w, cs, h => by
    obtain ⟨cs', h1, h2⟩ := setCells_block g t vs (o + 1) (w.setCell ⟨g, o, none⟩ v) _ (heap_setCell_same w g o cs t v h)
    exact ⟨cs', h1, by rw [h2]; simp⟩
theorem setCells_kp (g : Nat) {S : Nat → Prop} (hS : S g) {w0 : World} : ∀ (vs : List Value) (o : Nat) (w : World), Kp S w0 w → Kp S w0 (w.setCells g o vs)
  | [], o, w, h => h
  | v :: vs, o, w, h => setCells_kp g hS vs (o + 1) _ (Kp.setCell h (p := ⟨g, o, none⟩) (.inl hS) v)
/-- A block that holds records, one behind the other. -/
structure PsAt (w : World) (g : Nat) (l : List Rl) : Prop where
  row : ∃ cs, w.heap[g]? = some (.cells cs 25 (0, 0)) ∧ cs.size = l.length * 8
  at_ : ∀ k x, l[k]? = some x → ∀ j v, x.cells[j]? = some v → w.cell? ⟨g, k * 8 + j, none⟩ = some v
theorem PsAt.keep {w w' : World} {g : Nat} {l : List Rl} (h : PsAt w g l) {S : Nat → Prop} (hk : Kp S w w') (hn : ¬ S g) : PsAt w' g l := by
  obtain ⟨⟨cs, h1, h2⟩, h3⟩ := h
  exact ⟨⟨cs, (hk.block _ (lt_of_heap h1) hn).trans h1, h2⟩, fun k x hx j v hv => hk.cell (h3 k x hx j v hv) hn⟩
theorem PsAt.range {w : World} {g : Nat} {l : List Rl} (h : PsAt w g l) {k : Nat} {x : Rl} (hx : l[k]? = some x) : w.rangeAt g (k * 8) x.cells.toList := fun j v hv => h.at_ k x hx j v (by rw [Array.getElem?_toList] at hv; exact hv)
theorem PsAt.there {w : World} {g : Nat} {l : List Rl} (h : PsAt w g l) {k : Nat} (hk : k < l.length) : w.there g (k * 8) 8 := fun j hj => by
  obtain ⟨⟨cs, h1, h2⟩, _⟩ := h
  refine ⟨?_, frozen_of_row _ _ _ _ _ h1⟩
  rw [cell_of_row w _ _ _ _ (0, 0) h1, Array.getElem?_eq_getElem (by omega)]
  rfl
theorem rl_size (x : Rl) : x.cells.toList.length = 8 := rfl
theorem range_same {w : World} {g o : Nat} {vs : List Value} (ht : w.there g o vs.length) {j : Nat} {v : Value} (hv : vs[j]? = some v) : (w.setCells g o vs).cell? ⟨g, o + j, none⟩ = some v := World.rangeAt_setCells_same w g o vs ht j v hv
theorem range_apart {w : World} {g o o' : Nat} {us vs : List Value} (h : w.rangeAt g o' us) (ha : o' + us.length ≤ o ∨ o + vs.length ≤ o') {j : Nat} {v : Value} (hv : us[j]? = some v) : (w.setCells g o vs).cell? ⟨g, o' + j, none⟩ = some v := World.rangeAt_setCells_apart h g o vs (.inr ha) j v hv
theorem PsAt.store {w : World} {g : Nat} {l : List Rl} (h : PsAt w g l) {k : Nat} (hk : k < l.length) (y : Rl) : PsAt (w.setCells g (k * 8) y.cells.toList) g (l.set k y) := by
  have ht : w.there g (k * 8) y.cells.toList.length := h.there hk
  have hrg := fun i x (hx : l[i]? = some x) => h.range hx
  have hyj : ∀ j v, y.cells[j]? = some v → y.cells.toList[j]? = some v := fun j v hv => by rw [Array.getElem?_toList]; exact hv
  have hys := rl_size y
  have hy : ∀ x : Rl, l[k]? ≠ none → (l.set k y)[k]? = some x → x = y := fun x _ hx => by
    rw [List.getElem?_set_self hk] at hx
    injection hx with hx
    exact hx.symm
  obtain ⟨⟨cs, h1, h2⟩, h3⟩ := h
  have hb := setCells_block g 25 y.cells.toList (k * 8) w cs h1
  generalize hvs : y.cells.toList = vs at *
  obtain ⟨cs', h4, h5⟩ := hb
  refine ⟨⟨cs', h4, by rw [h5, h2, List.length_set]⟩, fun i x hx j v hv => ?_⟩
  by_cases hik : i = k
  · subst hik
    obtain rfl := hy x (by rw [List.getElem?_eq_getElem hk]; simp) hx
    exact range_same ht (hyj j v hv)
  · rw [List.getElem?_set_ne (by omega)] at hx
    have h6 := hrg i x hx
    have hxs := rl_size x
    have hxj : x.cells.toList[j]? = some v := by rw [Array.getElem?_toList]; exact hv
    generalize x.cells.toList = us at *
    exact range_apart h6 (by omega) hxj
theorem PsAt.recs {w : World} {g : Nat} {l : List Rl} (h : PsAt w g l) (ha : ∀ x ∈ l, RecIn w x.r x.A x.c) (hl : l.length ≤ maxLen) : RecsIn w (some ⟨g, 0, none⟩) l := by
  obtain ⟨⟨cs, h1, h2⟩, h3⟩ := h
  exact ⟨.inr ⟨g, 0, rfl, lt_of_heap h1, fun i x hx j v hv => by rw [Nat.zero_add]; exact h3 i x hx j v hv⟩, ha, hl⟩
/-- A block that was just made, of noughts: n records of nothing. -/
abbrev zcells : Array Value := #[.int .i64 0, .int .i64 0, .int .i64 0, .int .i64 0, .float .f64 0, .int .i64 0, .string ⟨#[]⟩, .slice none 0 0]
theorem made_at (n k j : Nat) (hk : k < n) (hj : j < 8) : (madeCells zcells (n * 8))[k * 8 + j]? = some zcells[j]! := by
  have h1 : k * 8 + j < n * 8 := by omega
  have h2 : (k * 8 + j) % 8 = j := by omega
  unfold madeCells
  rw [Array.getElem?_map, Array.getElem?_eq_getElem (by simpa using h1), Array.getElem_range]
  show some zcells[(k * 8 + j) % 8]! = _
  rw [h2]
theorem PsAt.made (w : World) (n : Nat) : PsAt (w.alloc (.cells (madeCells zcells (n * 8)) 25)) w.heap.size (List.replicate n ⟨RC.zero, none, 0⟩) := by
  refine ⟨⟨_, heap_alloc_new w _, by rw [size_madeCells]; simp⟩, fun k x hx j v hv => ?_⟩
  obtain ⟨hk, hx⟩ := List.getElem?_eq_some_iff.1 hx
  rw [List.getElem_replicate] at hx
  rw [List.length_replicate] at hk
  subst hx
  have hj : j < 8 := (Array.getElem?_eq_some_iff.1 hv).1
  rw [cell_of_row _ _ _ _ _ (0, 0) (heap_alloc_new w _), made_at n k j hk hj]
  have h3 : (⟨RC.zero, none, 0⟩ : Rl).cells = zcells := rfl
  rw [h3, Array.getElem?_eq_getElem hj] at hv
  rw [← hv, getElem!_pos zcells j hj]
theorem rec_infoV : (Tryz.prog.info? 25).map (fun i => (i.zero, i.size, i.bytes)) = some (some (.agg zcells), 8, 88) := by kernel_rfl
theorem range_kp {w W : World} {b o : Nat} {cs : List Value} {S : Nat → Prop} (h : w.rangeAt b o cs) (hk : Kp S w W) (hn : ¬ S b) : W.rangeAt b o cs := fun j v hv => hk.cell (h j v hv) hn
end Go.Proofs.YtbkcmnmbcldjoaaGreatDoor

namespace Go.Proofs.YtbkcmnmbcldjoaaGreatDoor
open Go.RowKit MM
set_option linter.unusedVariables false
set_option linter.unusedSimpArgs false
/-- A sum's slice. -/
def sumR (p : Int) : RC.Rc := ⟨2, p, 0, 0, 0, 0, ⟨#[]⟩, []⟩
theorem sumR_ok {p : Int} (h : RC.I64 p) : (sumR p).ok := ⟨rfl, h, rfl, rfl, (show MF.W64 0 by unfold MF.W64; decide), rfl, fun x hx => by cases hx⟩
theorem sumR_chk (p : Int) : RC.chk (sumR p) = 0 := by kernel_rfl
theorem chk_add {key : ByteArray} {n n2 : Int} {x : Nat} {s : ByteArray} {m : RC.Rc} {must : Bool} {k : Int} (ha : AC.Ac.ok ⟨k, key, n, x, s, m, must⟩) (hk : k = 10 ∨ k = 11) (hc : AC.chk ⟨k, key, n, x, s, m, must⟩ = 0) : AC.chk ⟨7, key, n2, x, s, m, must⟩ = 0 := by
  have hm := AC.chk_may ha hc
  have hx : x = 0 := hm.x (by show AC.hasX k = false; rcases hk with rfl | rfl <;> rfl)
  have hs : s = ⟨#[]⟩ := hm.s (by show AC.hasS k = false; rcases hk with rfl | rfl <;> rfl)
  have hmk : m = RC.zero := hm.m (by show AC.hasM k = false; rcases hk with rfl | rfl <;> rfl)
  have hkey : 1 ≤ key.size ∧ key.size ≤ 24 := hm.key
  subst hx hs hmk
  unfold AC.chk
  have hb : AC.beyond ⟨7, key, n2, 0, ⟨#[]⟩, RC.zero, must⟩ = false := by
    unfold AC.beyond
    simp [AC.hasN, AC.hasX, AC.hasS, AC.hasM, RC.same_refl, RC.strEq_refl, RC.same_refl']
  have hp : MF.proper 0 = true := by decide
  rw [if_pos (show AC.known 7 = true from rfl), if_pos hkey, hb]
  simp [AC.most, AC.amount, AC.endE, hp]
  rfl
theorem do_sum {a : AC.Ac} (ha : a.ok) (hc : AC.chk a = 0) (hk : a.kind = 10 ∨ a.kind = 11) (p : Int) : SH.do_ (sumR p) a = sumR (RU.w64 (p + if a.kind = 10 then a.n else RU.w64 (-a.n))) := by
  obtain ⟨k, key, n, x, s, m, must⟩ := a
  have hk : k = 10 ∨ k = 11 := hk
  have h7 : ∀ n2, AC.chk ⟨7, key, n2, x, s, m, must⟩ = 0 := fun n2 => chk_add ha hk hc
  have hr : ∀ n2, refE (ownR (sumR p) true) true ⟨7, key, n2, x, s, m, must⟩ = 0 := fun n2 => by
    show refE (sumR p) true ⟨7, key, n2, x, s, m, must⟩ = 0
    unfold refE
    rw [if_neg (by rw [h7]; simp), if_pos rfl, if_neg (by rw [sumR_chk]; simp)]
    rfl
  have h8 : ∀ n2, (RU.apply (sumR p) true ⟨7, key, n2, x, s, m, must⟩).1 = sumR (RU.w64 (p + n2)) := fun n2 => by
    unfold RU.apply
    rw [if_pos (hr n2)]
    rfl
  rcases hk with rfl | rfl
  · exact h8 n
  · exact h8 (RU.w64 (-n))
def upS (l : List Rm) : Nat := (l.map (·.up)).sum
def dnS (l : List Rm) : Nat := (l.map (·.down)).sum
theorem portions_sum (c q : Nat) : ∀ m : Nat, ((List.range m).map fun k => if k < c then q + 1 else q).sum = m * q + min m c
  | 0 => by simp
  | m + 1 => by
    rw [List.range_succ, List.map_append, List.sum_append, portions_sum c q m, Nat.succ_mul]
    simp only [List.map_cons, List.map_nil, List.sum_cons, List.sum_nil]
    split <;> omega
theorem portion_all (t : Nat) {n : Nat} (hn : 1 ≤ n) : ((List.range n).map fun k => SH.portion t k n).sum = t := by
  have h1 : ((List.range n).map fun k => SH.portion t k n) = (List.range n).map fun k => if k < t % n then t / n + 1 else t / n := rfl
  rw [h1, portions_sum]
  have h2 := Nat.mod_lt t (show 0 < n by omega)
  have h3 := Nat.div_add_mod t n
  rw [Nat.min_eq_right (by omega)]
  exact h3
theorem rooms_up (x : Rm) {n : Nat} (hn : 1 ≤ n) : upS (SH.rooms x n) = x.up := by
  unfold upS SH.rooms
  rw [List.map_map]
  exact portion_all x.up hn
theorem rooms_down (x : Rm) {n : Nat} (hn : 1 ≤ n) : dnS (SH.rooms x n) = x.down := by
  unfold dnS SH.rooms
  rw [List.map_map]
  exact portion_all x.down hn
theorem up_set : ∀ (l : List Rm) (k : Nat) (x y : Rm), l[k]? = some x → upS (l.set k y) + x.up = upS l + y.up
  | [], k, x, y, h => by simp at h
  | z :: l, 0, x, y, h => by
    simp at h
    subst h
    show (y.up + (l.map (·.up)).sum) + z.up = (z.up + (l.map (·.up)).sum) + y.up
    omega
  | z :: l, k + 1, x, y, h => by
    have ih := up_set l k x y (by simpa using h)
    show (z.up + upS (l.set k y)) + x.up = (z.up + upS l) + y.up
    omega
theorem dn_set : ∀ (l : List Rm) (k : Nat) (x y : Rm), l[k]? = some x → dnS (l.set k y) + x.down = dnS l + y.down
  | [], k, x, y, h => by simp at h
  | z :: l, 0, x, y, h => by
    simp at h
    subst h
    show (y.down + (l.map (·.down)).sum) + z.down = (z.down + (l.map (·.down)).sum) + y.down
    omega
  | z :: l, k + 1, x, y, h => by
    have ih := dn_set l k x y (by simpa using h)
    show (z.down + dnS (l.set k y)) + x.down = (z.down + dnS l) + y.down
    omega
theorem int_set : ∀ (l : List Int) (k : Nat) (x y : Int), l[k]? = some x → (l.set k y).sum + x = l.sum + y
  | [], k, x, y, h => by simp at h
  | z :: l, 0, x, y, h => by
    simp at h
    subst h
    show (y + l.sum) + z = (z + l.sum) + y
    omega
  | z :: l, k + 1, x, y, h => by
    have ih := int_set l k x y (by simpa using h)
    show (z + (l.set k y).sum) + x = (z + l.sum) + y
    omega
def numF (q : Int) (ps : List Int) : Int := ps.foldl (fun x p => RU.w64 (x + p)) q
theorem numF_mod : ∀ (ps : List Int) (q : Int), (numF q ps - q - ps.sum) % 18446744073709551616 = 0
  | [], q => by show (q - q - 0) % _ = 0; omega
  | p :: ps, q => by
    have ih := numF_mod ps (RU.w64 (q + p))
    show (numF (RU.w64 (q + p)) ps - q - (p + ps.sum)) % _ = 0
    generalize numF (RU.w64 (q + p)) ps = z at *
    unfold RU.w64 wrap64 at ih
    omega
theorem numF_i64 : ∀ (ps : List Int) {q : Int}, RC.I64 q → RC.I64 (numF q ps)
  | [], q, h => h
  | p :: ps, q, h => numF_i64 ps (i64_w64 (q + p))
theorem puts_num : ∀ (ps : List Int) (q : RC.Rc), (ps.map sumR).foldl (SH.put 4) q = { q with num := numF q.num ps }
  | [], q => rfl
  | p :: ps, q => by
    show (ps.map sumR).foldl (SH.put 4) (SH.put 4 q (sumR p)) = _
    rw [puts_num ps]
    rfl
theorem merge_num {r : RC.Rc} (hk : r.kind = 4) (ps : List Int) : SH.merge r (ps.map sumR) = { r with num := numF r.num ps } := by
  have hn : SH.regains r.kind (ps.map sumR) = [] := by unfold SH.regains; rw [if_neg (by omega)]
  unfold SH.merge
  rw [hn]
  show (ps.map sumR).foldl (SH.put r.kind) r = _
  rw [show SH.put r.kind = SH.put 4 by rw [hk]]
  exact puts_num ps r
theorem draw_one (kind : Int) (names : List ByteArray) (rs : List Rm) (k : Int) (a : AC.Ac) (h : SH.drawE kind names rs k [a] = 0) : ∃ (i : Nat) (x : Rm), k = (i : Int) ∧ i < rs.length ∧ rs[i]? = some x ∧ SH.takeE kind names x a = 0 ∧ SH.drawR kind names rs k [a] = rs.set i (SH.takeR kind names x a) := by
  have h0 := h
  unfold SH.drawE at h
  split at h
  · rename_i hk
    obtain ⟨i, rfl⟩ : ∃ i : Nat, k = (i : Int) := ⟨k.toNat, by omega⟩
    have hi : i < rs.length := by omega
    rw [Int.toNat_natCast, List.getElem?_eq_getElem hi] at h
    have h2 : (SH.takeAll kind names rs[i] [a]).1 = 0 := h
    have h3 : SH.takeE kind names rs[i] a = 0 := by
      by_cases h4 : SH.takeE kind names rs[i] a ≠ 0
      · unfold SH.takeAll at h2
        rw [if_pos h4] at h2
        exact h2
      · omega
    refine ⟨i, rs[i], rfl, hi, List.getElem?_eq_getElem hi, h3, ?_⟩
    unfold SH.drawR
    rw [if_pos h0, Int.toNat_natCast, List.getElem?_eq_getElem hi]
    show rs.set i (SH.takeAll kind names rs[i] [a]).2 = _
    unfold SH.takeAll
    rw [if_neg (by omega)]
    rfl
  · cases h
theorem take_ok {kind : Int} {names : List ByteArray} {x : Rm} {a : AC.Ac} (h : SH.takeE kind names x a = 0) : AC.chk a = 0 ∧ SH.splits kind a.kind = true ∧ (SH.need names a).up ≤ x.up ∧ (SH.need names a).down ≤ x.down ∧ SH.takeR kind names x a = ⟨x.up - (SH.need names a).up, x.down - (SH.need names a).down⟩ := by
  have hr : SH.takeR kind names x a = ⟨x.up - (SH.need names a).up, x.down - (SH.need names a).down⟩ := by unfold SH.takeR; rw [if_pos h]
  unfold SH.takeE at h
  split at h
  · rename_i h1; exact absurd h h1
  · rename_i h1
    split at h
    · cases h
    · rename_i h2
      split at h
      · split at h <;> cases h
      · rename_i h3
        split at h
        · cases h
        · rename_i h4
          exact ⟨by omega, by simpa using h2, by omega, by omega, hr⟩
theorem purse_kinds {k : Int} (h : SH.splits 4 k = true) : k = 10 ∨ k = 11 := by
  unfold SH.splits at h
  rw [Bool.and_eq_true] at h
  rcases SH.gath_iff.1 h.1 with rfl | rfl | rfl | rfl | rfl | rfl | rfl | rfl
  · exact absurd h.2 (by decide)
  · exact absurd h.2 (by decide)
  · exact .inl rfl
  · exact .inr rfl
  · exact absurd h.2 (by decide)
  · exact absurd h.2 (by decide)
  · exact absurd h.2 (by decide)
  · exact absurd h.2 (by decide)
/-- A purse that is split, and what its workers did and drew. -/
structure ShI (r : RC.Rc) (n : Nat) (ps : List Int) (rs : List Rm) (num : Int) (inn out : Nat) : Prop where
  lp : ps.length = n
  lr : rs.length = n
  pi : ∀ p ∈ ps, RC.I64 p
  nm : RC.I64 num
  sm : (num - r.num - ps.sum) % 18446744073709551616 = 0
  up : upS rs + inn = (SH.all r).up
  dn : dnS rs + out = (SH.all r).down
theorem zeros_sum : ∀ n : Nat, (List.replicate n (0 : Int)).sum = 0
  | 0 => rfl
  | n + 1 => by rw [List.replicate_succ]; show 0 + (List.replicate n (0 : Int)).sum = 0; rw [zeros_sum n]; rfl
theorem ShI.start {r : RC.Rc} (hr : r.ok) {n : Nat} (hn : 1 ≤ n) : ShI r n (List.replicate n 0) (SH.rooms (SH.all r) n) r.num 0 0 :=
  ⟨by simp, rooms_len _ _, fun p hp => by rw [List.eq_of_mem_replicate hp]; rfl, hr.num, by rw [zeros_sum]; omega, by rw [rooms_up _ hn]; rfl, by rw [rooms_down _ hn]; rfl⟩
theorem ShI.mem_set {l : List Int} {k : Nat} {y : Int} (h : ∀ p ∈ l, RC.I64 p) (hy : RC.I64 y) : ∀ p ∈ l.set k y, RC.I64 p := fun p hp => by
  rcases List.mem_or_eq_of_mem_set hp with h1 | h1
  · exact h p h1
  · rw [h1]; exact hy
theorem ShI.step {r : RC.Rc} {n : Nat} {ps : List Int} {rs : List Rm} {num : Int} {inn out : Nat} (h : ShI r n ps rs num inn out) {a : AC.Ac} (ha : a.ok) {i : Nat} {x : Rm} {p : Int} (hx : rs[i]? = some x) (hp : ps[i]? = some p) (ht : SH.takeE 4 [] x a = 0) :
    AC.chk a = 0 ∧ 0 ≤ a.n ∧ a.n ≤ 2305843009213693952 ∧ SH.do_ (sumR p) a = sumR (RU.w64 (p + if a.kind = 10 then a.n else RU.w64 (-a.n))) ∧
    ((a.kind = 10 ∧ ShI r n (ps.set i (RU.w64 (p + if a.kind = 10 then a.n else RU.w64 (-a.n)))) (rs.set i (SH.takeR 4 [] x a)) (RU.w64 (num + a.n)) (inn + a.n.toNat) out) ∨
     (a.kind = 11 ∧ ShI r n (ps.set i (RU.w64 (p + if a.kind = 10 then a.n else RU.w64 (-a.n)))) (rs.set i (SH.takeR 4 [] x a)) (RU.w64 (num - a.n)) inn (out + a.n.toNat))) := by
  obtain ⟨hc, hs, h1, h2, h3⟩ := take_ok ht
  have hk := purse_kinds hs
  obtain ⟨k, key, m, y, s, mk, must⟩ := a
  have hb : 0 ≤ m ∧ m ≤ 2305843009213693952 := by
    have h9 : AC.amount ⟨k, key, m, y, s, mk, must⟩ = true := by
      unfold AC.chk at hc
      split at hc
      · split at hc
        · split at hc
          · cases hc
          · split at hc
            · cases hc
            · split at hc
              · assumption
              · cases hc
        · cases hc
      · cases hc
    unfold AC.amount at h9
    rw [if_pos hk] at h9
    exact of_decide_eq_true h9
  have hd := do_sum ha hc hk p
  have hi := int_set ps i p (RU.w64 (p + if k = 10 then m else RU.w64 (-m))) hp
  have hu := up_set rs i x (SH.takeR 4 [] x ⟨k, key, m, y, s, mk, must⟩) hx
  have hv := dn_set rs i x (SH.takeR 4 [] x ⟨k, key, m, y, s, mk, must⟩) hx
  have hsm := h.sm
  have hup := h.up
  have hdn := h.dn
  refine ⟨hc, hb.1, hb.2, hd, ?_⟩
  have hk : k = 10 ∨ k = 11 := hk
  rcases hk with rfl | rfl
  · refine .inl ⟨rfl, by simp [h.lp], by simp [h.lr], ShI.mem_set h.pi (i64_w64 _), i64_w64 _, ?_, ?_, ?_⟩
    · rw [if_pos rfl] at hi ⊢
      generalize (ps.set i (RU.w64 (p + m))).sum = z at *
      unfold RU.w64 wrap64 at hi ⊢
      show ((num + m + 9223372036854775808) % 18446744073709551616 - 9223372036854775808 - r.num - z) % 18446744073709551616 = 0
      omega
    · rw [h3] at hu ⊢
      have e1 : (SH.need [] ⟨10, key, m, y, s, mk, must⟩) = ⟨m.toNat, 0⟩ := rfl
      rw [e1] at hu h1 ⊢
      simp only at hu h1 ⊢
      show upS _ + (inn + m.toNat) = _
      omega
    · rw [h3] at hv ⊢
      have e1 : (SH.need [] ⟨10, key, m, y, s, mk, must⟩) = ⟨m.toNat, 0⟩ := rfl
      rw [e1] at hv h2 ⊢
      simp only at hv h2 ⊢
      omega
  · refine .inr ⟨rfl, by simp [h.lp], by simp [h.lr], ShI.mem_set h.pi (i64_w64 _), i64_w64 _, ?_, ?_, ?_⟩
    · rw [if_neg (show ¬ (11 : Int) = 10 by decide)] at hi ⊢
      generalize (ps.set i (RU.w64 (p + RU.w64 (-m)))).sum = z at *
      unfold RU.w64 wrap64 at hi ⊢
      show ((num - m + 9223372036854775808) % 18446744073709551616 - 9223372036854775808 - r.num - z) % 18446744073709551616 = 0
      omega
    · rw [h3] at hu ⊢
      have e1 : (SH.need [] ⟨11, key, m, y, s, mk, must⟩) = ⟨0, m.toNat⟩ := rfl
      rw [e1] at hu h1 ⊢
      simp only at hu h1 ⊢
      omega
    · rw [h3] at hv ⊢
      have e1 : (SH.need [] ⟨11, key, m, y, s, mk, must⟩) = ⟨0, m.toNat⟩ := rfl
      rw [e1] at hv h2 ⊢
      simp only at hv h2 ⊢
      show dnS _ + (out + m.toNat) = _
      omega
theorem ShI.num_eq {r : RC.Rc} {n : Nat} {ps : List Int} {rs : List Rm} {num : Int} {inn out : Nat} (h : ShI r n ps rs num inn out) (hr : r.ok) : numF r.num ps = num := by
  have h1 := numF_mod ps r.num
  have h2 := i64_lims (numF_i64 ps hr.num)
  have h3 := i64_lims h.nm
  have h4 := h.sm
  omega
theorem slice_purse {r : RC.Rc} (h : RC.chk r = 0) (hk : r.kind = 4) : SH.slice r = (sumR 0, true) := by
  unfold SH.slice SH.empty
  rw [if_neg (by rw [h]; simp), if_pos (by omega)]
  rfl
theorem new_ok {r : RC.Rc} {k : Int} (h : SH.newE r k = 0) : (∃ n : Nat, k = (n : Int) ∧ 1 ≤ n ∧ n ≤ 8) ∧ RC.chk r = 0 := by
  unfold SH.newE at h
  split at h
  · cases h
  · rename_i h1
    split at h
    · rename_i h2; exact absurd h h2
    · rename_i h2
      exact ⟨⟨k.toNat, by omega, by omega, by omega⟩, by omega⟩
theorem up_mem : ∀ {l : List Rm} {x : Rm}, x ∈ l → x.up ≤ upS l ∧ x.down ≤ dnS l
  | z :: l, x, h => by
    rcases List.mem_cons.1 h with rfl | h
    · exact ⟨by show x.up ≤ x.up + (l.map (·.up)).sum; omega, by show x.down ≤ x.down + (l.map (·.down)).sum; omega⟩
    · obtain ⟨h1, h2⟩ := up_mem h
      exact ⟨by show x.up ≤ z.up + upS l; omega, by show x.down ≤ z.down + dnS l; omega⟩
theorem up_take : ∀ (l : List Rm) (i : Nat) (x : Rm), l[i]? = some x → upS (l.take (i + 1)) = upS (l.take i) + x.up ∧ dnS (l.take (i + 1)) = dnS (l.take i) + x.down
  | [], i, x, h => by simp at h
  | z :: l, 0, x, h => by
    simp at h
    subst h
    exact ⟨by show z.up + 0 = 0 + z.up; omega, by show z.down + 0 = 0 + z.down; omega⟩
  | z :: l, i + 1, x, h => by
    obtain ⟨h1, h2⟩ := up_take l i x (by simpa using h)
    exact ⟨by show z.up + upS (l.take (i + 1)) = (z.up + upS (l.take i)) + x.up; omega, by show z.down + dnS (l.take (i + 1)) = (z.down + dnS (l.take i)) + x.down; omega⟩
theorem up_front : ∀ (l : List Rm) (i : Nat), upS (l.take i) ≤ upS l ∧ dnS (l.take i) ≤ dnS l
  | [], i => by simp
  | z :: l, 0 => ⟨Nat.zero_le _, Nat.zero_le _⟩
  | z :: l, i + 1 => by
    obtain ⟨h1, h2⟩ := up_front l i
    exact ⟨by show z.up + upS (l.take i) ≤ z.up + upS l; omega, by show z.down + dnS (l.take i) ≤ z.down + dnS l; omega⟩
theorem all_purse {r : RC.Rc} (hk : r.kind = 4) : SH.all r = ⟨(r.high - r.num).toNat, (r.num - r.low).toNat⟩ := by
  unfold SH.all
  rw [if_neg (by omega), if_pos hk]
theorem drawR_no {kind : Int} {names : List ByteArray} {rs : List Rm} {k : Int} {l : List AC.Ac} (h : SH.drawE kind names rs k l ≠ 0) : SH.drawR kind names rs k l = rs := by
  unfold SH.drawR
  rw [if_neg h]
end Go.Proofs.YtbkcmnmbcldjoaaGreatDoor
