/- Contracts of package rule: where an item stands in a list. -/
import Derived.Test.YtbkcmnmbcldjoaaGreatDoorRcMP7d
import Derived.Test.YtbkcmnmbcldjoaaGreatDoorRecNP7d
import Derived.Test.YtbkcmnmbcldjoaaGreatDoorRuOP7d
import Derived.Test.YtbkcmnmbcldjoaaGreatDoorRuNP7d
import Derived.Test.YtbkcmnmbcldjoaaGreatDoorRuMP7d
import Derived.Deep.RegionHeld3
import Derived.Deep.QuietTactic
import Derived.BigQuiet
namespace RU
open Go Go.RowKit RC
theorem find_is : ∀ {l : List It} {x : It} {i : Nat}, (∀ j (h : j < l.length), j < i → better l[j] x = true) → i ≤ l.length → (∀ h : i < l.length, better l[i] x = false) → find l x = i
  | [], x, i, _, h2, _ => by simp at h2; subst h2; rfl
  | y :: l, x, 0, _, _, h3 => by
    have h := h3 (by simp)
    unfold find
    rw [if_neg (by simpa using h)]
  | y :: l, x, i + 1, h1, h2, h3 => by
    have h := h1 0 (by simp) (by omega)
    unfold find
    rw [if_pos (by simpa using h)]
    congr 1
    refine find_is (fun j hj hji => ?_) (by simpa using h2) (fun hi => ?_)
    · have := h1 (j + 1) (by simp; omega) (by omega)
      simpa using this
    · have := h3 (by simp; omega)
      simpa using this
theorem at_yes {l : List It} {x : It} {i : Nat} (h : find l x = i) (hi : i < l.length) : at_ l x = !better x l[i] := by
  unfold at_
  rw [h, List.getElem?_eq_getElem hi]
theorem at_no {l : List It} {x : It} (h : find l x = l.length) : at_ l x = false := by
  unfold at_
  rw [h, List.getElem?_eq_none (Nat.le_refl _)]
end RU
namespace Go.Proofs.YtbkcmnmbcldjoaaGreatDoor
open Go.RowKit MM
def FdPost (l : List RC.It) (x : RC.It) (w : World) (e : Ending) (w' : World) : Prop :=
  e = .returned (.tuple #[.int .i64 (RU.find l x : Nat), .bool (RU.at_ l x)]) ∧ Below w.heap.size w w'
theorem FdPost.mk {l : List RC.It} {x : RC.It} {w w' : World} {i : Nat} {b : Bool} (h1 : RU.find l x = i) (h2 : RU.at_ l x = b) (hb : Below w.heap.size w w') : FdPost l x w (.returned (.tuple #[.int .i64 (i : Nat), .bool b])) w' := by
  subst h1 h2; exact ⟨rfl, hb⟩
set_option maxHeartbeats 4000000 in
set_option maxRecDepth 100000 in
theorem find_any (l : List RC.It) (sx : Nat) (nx : ByteArray) (A : Option Addr) (c : Nat) (w : World) (hI : Its w A l) (hn : Lim l.length) (hs : ∀ y ∈ l, MF.W64 y.score) (hx : MF.W64 sx) :
    Calls Tryz.prog 150 #[.slice A l.length c, itV ⟨sx, nx⟩] w (FdPost l ⟨sx, nx⟩ w) := by
  have HI := Lib.hid hI
  have HS := Lib.hid hs
  have hlb : (l.length : Int) ≤ 4294967296 := by unfold Lim at hn; omega
  clear hI hn hs
  go_enter Tryz.func150, Tryz.ntmps150
  go_wp2_with fail
  go_loopw [6] (fun t6 wr => ∃ i : Nat, t6 = .int .i64 i ∧ i ≤ l.length ∧ (∀ j (h : j < l.length), j < i → RC.better l[j] ⟨sx, nx⟩ = true) ∧ wr.heap[w.heap.size]? = some (.cells #[.float .f64 sx, .string nx] 91 (0, 0)) ∧ Below w.heap.size w wr) (fun t6 _ => l.length - (intOf t6).toNat)
  case atStart => exact ⟨0, rfl, Nat.zero_le _, fun j h h0 => absurd h0 (by omega), heap_alloc_new w _, below1 w _⟩
  case round =>
    obtain ⟨i, rfl, hi, hall, hbox, hbel⟩ := hrel
    have Hall := Lib.hid hall
    have HB := Lib.hid hbel
    have Hbox := Lib.hid hbox
    have x0 : wr.cell? ⟨w.heap.size, 0, none⟩ = some (.float .f64 sx) := (cell_of_row wr _ 0 _ _ (0, 0) hbox).trans rfl
    have x1 : wr.cell? ⟨w.heap.size, 1, none⟩ = some (.string nx) := (cell_of_row wr _ 1 _ _ (0, 0) hbox).trans rfl
    clear hall hbel hbox
    by_cases hlt : i < l.length
    · rcases HI.out with hE | ⟨b, off, rfl, hb, hc⟩
      · have hE : l = [] := hE
        subst hE; simp at hlt
      replace hc : ∀ (i : Nat) (x : RC.It), l[i]? = some x → w.cell? ⟨b, off + i * 2, none⟩ = some (.float .f64 x.score) ∧ w.cell? ⟨b, off + i * 2 + 1, none⟩ = some (.string x.name) := hc
      obtain ⟨a0, a1⟩ := hc i l[i] (List.getElem?_eq_getElem hlt)
      have wa := HS.out _ (List.getElem_mem hlt)
      have Hat := Lib.hid (fun h => RU.at_yes (l := l) (x := ⟨sx, nx⟩) (i := i) h hlt)
      have Hfd := Lib.hid (fun (h : RC.better l[i] ⟨sx, nx⟩ = false) => RU.find_is Hall.out hi (fun _ => h))
      have Hnx := Lib.hid (fun (h : RC.better l[i] ⟨sx, nx⟩ = true) j (hj : j < l.length) (hji : j < i + 1) => (show RC.better l[j] ⟨sx, nx⟩ = true by rcases Nat.lt_succ_iff_lt_or_eq.1 hji with h' | h'; exact Hall.out j hj h'; subst h'; exact h))
      generalize l[i] = y at *
      obtain ⟨ys, yn⟩ := y
      replace a0 : wr.cell? ⟨b, off + i * 2, none⟩ = some (.float .f64 ys) := below_keep HB.out a0
      replace a1 : wr.cell? ⟨b, off + i * 2 + 1, none⟩ = some (.string yn) := below_keep HB.out a1
      replace wa : MF.W64 ys := wa
      have hi1 : decide ((i : Int) < (l.length : Int)) = true := by simp; omega
      have hi0 : (i : Int) < (l.length : Int) := by omega
      have HBt := Lib.hid (fun u => better_any ⟨ys, yn⟩ ⟨sx, nx⟩ u wa hx)
      have HBo := Lib.hid (fun u => better_any ⟨sx, nx⟩ ⟨ys, yn⟩ u hx wa)
      clear hc
      generalize RC.better ⟨ys, yn⟩ ⟨sx, nx⟩ = t at *
      generalize RC.better ⟨sx, nx⟩ ⟨ys, yn⟩ = o at *
      cases t
      · go_wp2_with fail
        go_region_held3 (fun w' => w'.cell? ⟨w.heap.size, 0, none⟩ = some (.float .f64 sx) ∧ w'.cell? ⟨w.heap.size, 1, none⟩ = some (.string nx) ∧ w'.cell? ⟨b, off + i * 2, none⟩ = some (.float .f64 ys) ∧ w'.cell? ⟨b, off + i * 2 + 1, none⟩ = some (.string yn) ∧ Below wr.heap.size wr w')
          (first
            | (go_split_ands; exact ⟨by assumption, by assumption, by assumption, by assumption, below_drew (Below.refl _ _)⟩)
            | (go_split_ands; exact ⟨by assumption, by assumption, by assumption, by assumption, below_drew (by assumption)⟩)
            | (go_split_ands; exact ⟨below_keep hb1 (by assumption), below_keep hb1 (by assumption), below_keep hb1 (by assumption), below_keep hb1 (by assumption), Below.trans (by assumption) (hb1.mono (Below.size (by assumption)))⟩))
          (first
            | (go_at_call 146; go_split_ands; (with_reducible refine (HBt.out _).mono ?_); rintro e w1 ⟨rfl, hb1⟩))
        rename_i hH
        obtain ⟨x0', x1', a0', a1', hB1⟩ := hH
        have HB1 := Lib.hid (HB.out.trans (hB1.mono HB.out.size))
        clear x0 x1 a0 a1 hb1 hB1 HBt Hbox
        go_wp2_with fail
        go_region_held3 (fun w' => w'.cell? ⟨w.heap.size, 0, none⟩ = some (.float .f64 sx) ∧ w'.cell? ⟨w.heap.size, 1, none⟩ = some (.string nx) ∧ w'.cell? ⟨b, off + i * 2, none⟩ = some (.float .f64 ys) ∧ w'.cell? ⟨b, off + i * 2 + 1, none⟩ = some (.string yn) ∧ Below w1.heap.size w1 w')
          (first
            | (go_split_ands; exact ⟨by assumption, by assumption, by assumption, by assumption, below_drew (Below.refl _ _)⟩)
            | (go_split_ands; exact ⟨by assumption, by assumption, by assumption, by assumption, below_drew (by assumption)⟩)
            | (go_split_ands; exact ⟨below_keep hb2 (by assumption), below_keep hb2 (by assumption), below_keep hb2 (by assumption), below_keep hb2 (by assumption), Below.trans (by assumption) (hb2.mono (Below.size (by assumption)))⟩))
          (first
            | (go_at_call 146; go_split_ands; (with_reducible refine (HBo.out _).mono ?_); rintro e w2 ⟨rfl, hb2⟩))
        rename_i hH
        obtain ⟨-, -, -, -, hB2⟩ := hH
        go_wp2_with fail
        refine bodyPost_ret (v := .tuple #[.int .i64 (i : Nat), .bool (!o)]) (by simp [results, Tryz.results150, go_sem]) rfl ?_
        exact FdPost.mk (Hfd.out (by trivial)) (Hat.out (Hfd.out (by trivial))) (HB1.out.trans (hB2.mono HB1.out.size))
      · go_wp2_with fail
        go_region_held3 (fun w' => w'.cell? ⟨w.heap.size, 0, none⟩ = some (.float .f64 sx) ∧ w'.cell? ⟨w.heap.size, 1, none⟩ = some (.string nx) ∧ w'.cell? ⟨b, off + i * 2, none⟩ = some (.float .f64 ys) ∧ w'.cell? ⟨b, off + i * 2 + 1, none⟩ = some (.string yn) ∧ Below wr.heap.size wr w')
          (first
            | (go_split_ands; exact ⟨by assumption, by assumption, by assumption, by assumption, below_drew (Below.refl _ _)⟩)
            | (go_split_ands; exact ⟨by assumption, by assumption, by assumption, by assumption, below_drew (by assumption)⟩)
            | (go_split_ands; exact ⟨below_keep hb1 (by assumption), below_keep hb1 (by assumption), below_keep hb1 (by assumption), below_keep hb1 (by assumption), Below.trans (by assumption) (hb1.mono (Below.size (by assumption)))⟩))
          (first
            | (go_at_call 146; go_split_ands; (with_reducible refine (HBt.out _).mono ?_); rintro e w1 ⟨rfl, hb1⟩))
        rename_i hH
        obtain ⟨-, -, -, -, hB1⟩ := hH
        have HB1 := Lib.hid (HB.out.trans (hB1.mono HB.out.size))
        have Hb1 := Lib.hid ((hB1.block _ (lt_of_heap Hbox.out)).trans Hbox.out)
        clear x0 x1 a0 a1 hb1 hB1 HBt Hbox
        go_wp2_with fail
        exact ⟨⟨i + 1, by simp, by omega, Hnx.out (by trivial), Hb1.out, HB1.out⟩, by simp [intOf]; omega⟩
    · have hi1 : decide ((i : Int) < (l.length : Int)) = false := by simp; omega
      obtain rfl : i = l.length := by omega
      have Hf := Lib.hid (RU.find_is Hall.out (Nat.le_refl _) (fun h => absurd h (by omega)))
      go_wp2_with fail
      go_quiet (fail)
      go_wp2_with fail
      go_quiet (fail)
      go_wp2_with fail
      refine bodyPost_ret (v := .tuple #[.int .i64 (l.length : Nat), .bool false]) (by simp [results, Tryz.results150, go_sem]) rfl ?_
      first | exact FdPost.mk Hf.out (RU.at_no Hf.out) (below_drewN (below_drewN HB.out _) _) | exact FdPost.mk Hf.out (RU.at_no Hf.out) (below_drewN HB.out _) | exact FdPost.mk Hf.out (RU.at_no Hf.out) (below_drew (below_drew HB.out))
end Go.Proofs.YtbkcmnmbcldjoaaGreatDoor
namespace RU
open Go Go.RowKit RC
theorem at_lt {l : List It} {x : It} (h : at_ l x = true) : find l x < l.length := by
  unfold at_ at h
  cases hq : l[find l x]? with
  | none => rw [hq] at h; cases h
  | some y => exact (List.getElem?_eq_some_iff.1 hq).1
end RU
namespace Go.Proofs.YtbkcmnmbcldjoaaGreatDoor
open Go.RowKit MM
/-- What a changing answers that may write into the list that it was handed. -/
def CwPost (q : RC.Rc) (code : Nat) (A : Option Addr) (w : World) (e : Ending) (w' : World) : Prop :=
  ∃ A' c', e = .returned (.tuple #[recV q A' c', .int .i64 (code : Nat)]) ∧ w'.ownsRow 0 91 2 (.slice A' q.list.length c') q.list.length (itCells q.list) ∧ (∀ k, ob A' = some k → ob A = some k ∨ w.heap.size ≤ k) ∧ Kp (fun k => ob A = some k) w w'
set_option maxHeartbeats 2000000 in
set_option maxRecDepth 100000 in
theorem ruleLeave_no (r : RC.Rc) (a : AC.Ac) (A L : Option Addr) (c cl : Nat) (w : World) (ho : w.ownsRow 0 91 2 (.slice A r.list.length c) r.list.length (itCells r.list)) (hn : Lim r.list.length) (hs : ∀ y ∈ r.list, MF.W64 y.score) (h : RU.at_ r.list ⟨0, a.s⟩ = false) :
    Calls Tryz.prog 133 #[recV r A c, actV a L cl] w (CwPost r 0 A w) := by
  have HF := Lib.hid (fun u (h : Its u A r.list) => find_any r.list 0 a.s A c u h hn hs w0)
  unfold FdPost at HF
  rw [h] at HF
  have HO := Lib.hid ho
  have hin : ∀ k, ob A = some k → k < w.heap.size := fun k e => by
    cases A with
    | none => cases e
    | some ad => have := own_inside ho ad rfl; injection e with e; have e' : ad.block = k := e; omega
  have HIn := Lib.hid hin
  clear hn hs h ho hin
  generalize RU.find r.list ⟨0, a.s⟩ = p at *
  go_enter Tryz.func133, Tryz.ntmps133
  go_wp2_with fail
  refine (HF.out _ (Its.own (own_below HO.out (below3 w _ _ _)))).mono ?_
  rintro e w1 ⟨rfl, hb⟩
  have hs := hb.size
  simp only [World.size_alloc] at hs
  have e0 := (hb.block w.heap.size (by simp only [World.size_alloc]; omega)).trans ((heap_alloc_old _ _ (by simp only [World.size_alloc]; omega)).trans (heap_alloc2_old w _ _))
  have e2 := (hb.block (w.heap.size + 1 + 1) (by simp only [World.size_alloc]; omega)).trans (heap_new _ _ _ (by simp))
  have HB := Lib.hid (show Below w.heap.size w w1 from (below3 w _ _ _).trans (hb.mono (by simp only [World.size_alloc]; omega)))
  have c0 := fun o => cell_of_row w1 _ o _ _ (0, 0) e0
  have cR := fun o => cell_of_row w1 _ o _ _ (0, 0) e2
  have fR : ∀ o, w1.frozen? ⟨w.heap.size + 1 + 1, o, none⟩ = false := fun o => frozen_of_row _ _ o _ _ e2
  clear hb e0 e2
  go_wp2_with fail
  refine bodyPost_ret (v := .tuple #[recV r A c, .int .i64 0]) (by simp [results, Tryz.results133, go_sem, cR]) rfl ?_
  generalize hwf : World.setCell _ _ _ = wf
  have hk : Kp (fun k => k = w.heap.size + 1 + 1) w1 wf := by rw [← hwf]; exact kp8g (Kp.refl _ _) (Or.inl rfl)
  clear hwf
  have hk2 : Kp (fun k => ob A = some k) w wf := (Kp.of_below HB.out _).trans hk (fun i hi x => by have x' : i = w.heap.size + 1 + 1 := x; omega)
  exact ⟨A, c, rfl, hk.own (own_below HO.out HB.out) (fun k e x => by rw [ownBlock_slice] at e; have := HIn.out k e; have x' : k = w.heap.size + 1 + 1 := x; omega), fun k e => .inl e, hk2⟩
set_option maxHeartbeats 2000000 in
set_option maxRecDepth 100000 in
theorem ruleLeave_yes (r : RC.Rc) (a : AC.Ac) (A L : Option Addr) (c cl : Nat) (w : World) (ho : w.ownsRow 0 91 2 (.slice A r.list.length c) r.list.length (itCells r.list)) (hn : Lim r.list.length) (hs : ∀ y ∈ r.list, MF.W64 y.score) (h : RU.at_ r.list ⟨0, a.s⟩ = true) :
    Calls Tryz.prog 133 #[recV r A c, actV a L cl] w (CwPost { r with list := RU.lose r.list ⟨0, a.s⟩ } 0 A w) := by
  have HF := Lib.hid (fun u (h : Its u A r.list) => find_any r.list 0 a.s A c u h hn hs w0)
  unfold FdPost at HF
  have hp := RU.at_lt h
  rw [h] at HF
  unfold RU.lose
  have HO := Lib.hid ho
  obtain ⟨k, n, lo, hi, x, cap, t, l⟩ := r
  replace hp : RU.find l ⟨0, a.s⟩ < l.length := hp
  have ho' : w.ownsRow 0 91 2 (.slice A l.length c) l.length (itCells l) := HO.out
  clear HO
  have HO := Lib.hid ho'
  clear ho'
  rcases HO.out.2 with ⟨hv, h0⟩ | ⟨g, cc, cur, hv, -, hg, hc, hm, hcs, hcl⟩
  · exfalso; have h0 : l.length = 0 := h0; omega
  injection hv with hA _ hcc
  subst hA hcc
  have hgl : g < w.heap.size := lt_of_heap hg
  have hlim : (l.length : Int) ≤ 4294967296 := by have hn' : Lim l.length := hn; unfold Lim at hn'; omega
  have HD := Lib.hid (fun u (hgu : u.heap[g]? = some (.cells cur 91 (0, 0))) => delete_any l (RU.find l ⟨0, a.s⟩) hp g c cur u hgu hc hm hcs hcl)
  have HG := Lib.hid hg
  clear hn hs h ho hg hm hcs hcl
  generalize hq : RU.find l ⟨0, a.s⟩ = p at *
  have hpi : (p : Int) ≤ 4294967296 := by omega
  have hcast : ((p + 1 : Nat) : Int) = (p : Int) + 1 := by omega
  rw [hcast] at HD
  clear hcast
  go_enter Tryz.func133, Tryz.ntmps133
  go_wp2_with fail
  refine (HF.out _ (Its.own (own_below HO.out (below3 w _ _ _)))).mono ?_
  rintro e w1 ⟨rfl, hb⟩
  have hsz := hb.size
  simp only [World.size_alloc] at hsz
  have e0 := (hb.block w.heap.size (by simp only [World.size_alloc]; omega)).trans ((heap_alloc_old _ _ (by simp only [World.size_alloc]; omega)).trans (heap_alloc2_old w _ _))
  have e2 := (hb.block (w.heap.size + 1 + 1) (by simp only [World.size_alloc]; omega)).trans (heap_new _ _ _ (by simp))
  have HB := Lib.hid (show Below w.heap.size w w1 from (below3 w _ _ _).trans (hb.mono (by simp only [World.size_alloc]; omega)))
  have R0 := Lib.hid e0
  have R2 := Lib.hid e2
  have c0 := fun o => cell_of_row w1 _ o _ _ (0, 0) e0
  clear hb e0 e2
  go_wp2_with fail
  refine (HD.out _ ((HB.out.block _ hgl).trans HG.out)).mono ?_
  rintro e w2 ⟨rfl, ho2, hk2⟩
  have e0 := (hk2.block _ (lt_of_heap R0.out) (by show ¬ w.heap.size = g; omega)).trans R0.out
  have e2 := (hk2.block _ (lt_of_heap R2.out) (by show ¬ w.heap.size + 1 + 1 = g; omega)).trans R2.out
  have d0 := fun o => cell_of_row w2 _ o _ _ (0, 0) e0
  have f0 : ∀ o, w2.frozen? ⟨w.heap.size, o, none⟩ = false := fun o => frozen_of_row _ _ o _ _ e0
  have cR := fun o => cell_of_row w2 _ o _ _ (0, 0) e2
  have fR : ∀ o, w2.frozen? ⟨w.heap.size + 1 + 1, o, none⟩ = false := fun o => frozen_of_row _ _ o _ _ e2
  have HO2 := Lib.hid ho2
  have HK2 := Lib.hid hk2
  clear ho2 hk2 e0 e2 c0
  go_wp2_with fail
  have hlen : (l.take p ++ l.drop (p + 1)).length = l.length - 1 := by rw [List.length_append, List.length_take, List.length_drop]; omega
  refine bodyPost_ret (v := .tuple #[.agg (recC k n lo hi x cap t (.slice (some ⟨g, 0, none⟩) (l.length - 1) c)), .int .i64 0]) (by simp [results, Tryz.results133, go_sem, cR]) rfl ?_
  generalize hwf : World.setCell _ _ _ = wf
  have hk : Kp (fun k => k = w.heap.size ∨ k = w.heap.size + 1 + 1) w2 wf := by
    rw [← hwf]
    exact kp8g (Kp.setCell (S := fun k => k = w.heap.size ∨ k = w.heap.size + 1 + 1) (Kp.refl _ _) (Or.inl (Or.inl rfl)) _) (Or.inl (Or.inr rfl))
  clear hwf
  have hk3 : Kp (fun k => ob (some (⟨g, 0, none⟩ : Addr)) = some k) w wf := ((Kp.of_below HB.out _).trans HK2.out (fun i hi x => by have x' : i = g := x; rw [x']; rfl)).trans hk (fun i hi x => by rcases x with x | x <;> omega)
  refine ⟨some ⟨g, 0, none⟩, c, ?_, ?_, fun k e => .inl e, hk3⟩
  · show _ = Ending.returned (.tuple #[.agg (recC k n lo hi x cap t (.slice (some ⟨g, 0, none⟩) (l.take p ++ l.drop (p + 1)).length c)), .int .i64 0])
    rw [hlen]
  · show wf.ownsRow 0 91 2 (.slice (some ⟨g, 0, none⟩) (l.take p ++ l.drop (p + 1)).length c) (l.take p ++ l.drop (p + 1)).length (itCells (l.take p ++ l.drop (p + 1)))
    rw [hlen]
    exact hk.own HO2.out (fun k e x => by rw [ownBlock_slice] at e; injection e with e; have e' : g = k := e; rcases x with x | x <;> omega)
end Go.Proofs.YtbkcmnmbcldjoaaGreatDoor
namespace Go.Proofs.YtbkcmnmbcldjoaaGreatDoor
open Go.RowKit MM
/-- What a doing answers that may write into the list that it was handed. -/
def DwPost (q : RC.Rc) (code : Nat) (A : Option Addr) (w : World) (e : Ending) (w' : World) : Prop :=
  ∃ A' c', e = .returned (.tuple #[recV q A' c', ansV code 0 RC.zero none 0]) ∧ w'.ownsRow 0 91 2 (.slice A' q.list.length c') q.list.length (itCells q.list) ∧ (∀ k, ob A' = some k → ob A = some k ∨ w.heap.size ≤ k) ∧ Kp (fun k => ob A = some k) w w'
set_option maxHeartbeats 2000000 in
set_option maxRecDepth 100000 in
theorem changeW_leave (b : Nat) (r q : RC.Rc) (a : AC.Ac) (A L : Option Addr) (c cl : Nat) (w : World) (hb : w.cell? ⟨b, 0, none⟩ = some (.func (.func 133) #[] #[])) (hin : ∀ k, ob A = some k → k < w.heap.size) (HC : ∀ u, Below w.heap.size w u → Calls Tryz.prog 133 #[recV r A c, actV a L cl] u (CwPost q 0 A u)) :
    Calls Tryz.prog 147 #[recV r A c, actV a L cl, .pointer (some ⟨b, 0, none⟩)] w (DwPost q 0 A w) := by
  have hb4 := fun o1 o2 o3 o4 => func_keep hb o1 o2 o3 o4
  have HC' := Lib.hid HC
  clear hb HC
  go_enter Tryz.func147, Tryz.ntmps147
  go_wp2_with fail
  refine (HC'.out _ (below4 w _ _ _ _)).mono ?_
  rintro e w1 ⟨A', c', rfl, ho1, hn1, hk1⟩
  have hs := hk1.size
  simp only [World.size_alloc] at hs hn1
  have n0 : ¬ ob A = some w.heap.size := fun e => by have := hin _ e; omega
  have n2 : ¬ ob A = some (w.heap.size + 1 + 1) := fun e => by have := hin _ e; omega
  have n3 : ¬ ob A = some (w.heap.size + 1 + 1 + 1) := fun e => by have := hin _ e; omega
  have e0 := (hk1.block w.heap.size (by simp only [World.size_alloc]; omega) n0).trans ((heap_alloc_old _ _ (by simp only [World.size_alloc]; omega)).trans ((heap_alloc_old _ _ (by simp only [World.size_alloc]; omega)).trans (heap_alloc2_old w _ _)))
  have e2 := (hk1.block (w.heap.size + 1 + 1) (by simp only [World.size_alloc]; omega) n2).trans ((heap_alloc_old _ _ (by simp only [World.size_alloc]; omega)).trans (heap_new _ _ _ (by simp)))
  have e3 := (hk1.block (w.heap.size + 1 + 1 + 1) (by simp only [World.size_alloc]; omega) n3).trans (heap_new _ _ _ (by simp))
  have HK := Lib.hid (show Kp (fun k => ob A = some k) w w1 from (Kp.of_below (below4 w _ _ _ _) _).same hk1)
  have c0 := fun o => cell_of_row w1 _ o _ _ (0, 0) e0
  have c2 := fun o => cell_of_row w1 _ o _ _ (0, 0) e2
  have c3 := fun o => cell_of_row w1 _ o _ _ (0, 0) e3
  have f2 : ∀ o, w1.frozen? ⟨w.heap.size + 1 + 1, o, none⟩ = false := fun o => frozen_of_row _ _ o _ _ e2
  have f3 : ∀ o, w1.frozen? ⟨w.heap.size + 1 + 1 + 1, o, none⟩ = false := fun o => frozen_of_row _ _ o _ _ e3
  have R2 := Lib.hid e2
  have R3 := Lib.hid e3
  have HO := Lib.hid ho1
  have HN := Lib.hid hn1
  have Hin := Lib.hid hin
  have z0 : w.heap.size < w1.heap.size := by omega
  have z2 : w.heap.size + 1 + 1 < w1.heap.size := by omega
  have z3 : w.heap.size + 1 + 1 + 1 < w1.heap.size := by omega
  clear hk1 ho1 hn1 hin e0 e2 e3 hs n0 n2 n3
  go_wp2_with fail
  generalize hwf : World.alloc _ _ = wf
  have X2 : wf.heap[w.heap.size + 1 + 1]? = some (.cells (recC q.kind q.num q.low q.high q.real q.cap q.text (.slice A' q.list.length c')) 25 (0, 0)) := by
    rw [← hwf]
    exact (heap_alloc_old _ _ (by simp; omega)).trans ((ans_other (by omega)).trans (rec_stores R2.out))
  have X3 : wf.heap[w.heap.size + 1 + 1 + 1]? = some (.cells (ansC 0 0 RC.zero none 0) 82 (0, 0)) := by
    rw [← hwf]
    exact (heap_alloc_old _ _ (by simp; omega)).trans (ans_all ((rec_stores_other (by omega)).trans R3.out))
  have hk : Kp (fun k => k = w.heap.size + 1 + 1 ∨ k = w.heap.size + 1 + 1 + 1) w1 wf := by
    rw [← hwf]
    exact (kp10 (kp8g (Kp.refl _ w1) (Or.inl (Or.inl rfl))) (Or.inl (Or.inr rfl))).alloc _
  have HOf := Lib.hid (hk.own HO.out (fun k e x => by
    rw [ownBlock_slice] at e
    rcases HN.out k e with h | h
    · have := Hin.out k h
      rcases x with x | x <;> omega
    · rcases x with x | x <;> omega))
  have HNf := Lib.hid (show ∀ k, ob A' = some k → ob A = some k ∨ w.heap.size ≤ k from fun k e => by
    rcases HN.out k e with h | h
    · exact .inl h
    · exact .inr (by omega))
  have HKf := Lib.hid (show Kp (fun k => ob A = some k) w wf from HK.out.trans hk (fun i hi x => by rcases x with x | x <;> omega))
  have k2 := fun o => cell_of_row wf _ o _ _ (0, 0) X2
  have k3 := fun o => cell_of_row wf _ o _ _ (0, 0) X3
  clear hwf X2 X3 c0 c2 c3 f2 f3 hb4 hk
  exact bodyPost_ret (v := .tuple #[recV q A' c', ansV 0 0 RC.zero none 0]) (by simp [results, Tryz.results147, go_sem, k2, k3]) rfl ⟨A', c', rfl, HOf.out, HNf.out, HKf.out⟩
set_option maxHeartbeats 2000000 in
set_option maxRecDepth 100000 in
theorem changeW_join (b : Nat) (r q : RC.Rc) (a : AC.Ac) (A L : Option Addr) (c cl : Nat) (w : World) (hb : w.cell? ⟨b, 0, none⟩ = some (.func (.func 132) #[] #[])) (hin : ∀ k, ob A = some k → k < w.heap.size) (HC : ∀ u, Below w.heap.size w u → Calls Tryz.prog 132 #[recV r A c, actV a L cl] u (CwPost q 0 A u)) :
    Calls Tryz.prog 147 #[recV r A c, actV a L cl, .pointer (some ⟨b, 0, none⟩)] w (DwPost q 0 A w) := by
  have hb4 := fun o1 o2 o3 o4 => func_keep hb o1 o2 o3 o4
  have HC' := Lib.hid HC
  clear hb HC
  go_enter Tryz.func147, Tryz.ntmps147
  go_wp2_with fail
  refine (HC'.out _ (below4 w _ _ _ _)).mono ?_
  rintro e w1 ⟨A', c', rfl, ho1, hn1, hk1⟩
  have hs := hk1.size
  simp only [World.size_alloc] at hs hn1
  have n0 : ¬ ob A = some w.heap.size := fun e => by have := hin _ e; omega
  have n2 : ¬ ob A = some (w.heap.size + 1 + 1) := fun e => by have := hin _ e; omega
  have n3 : ¬ ob A = some (w.heap.size + 1 + 1 + 1) := fun e => by have := hin _ e; omega
  have e0 := (hk1.block w.heap.size (by simp only [World.size_alloc]; omega) n0).trans ((heap_alloc_old _ _ (by simp only [World.size_alloc]; omega)).trans ((heap_alloc_old _ _ (by simp only [World.size_alloc]; omega)).trans (heap_alloc2_old w _ _)))
  have e2 := (hk1.block (w.heap.size + 1 + 1) (by simp only [World.size_alloc]; omega) n2).trans ((heap_alloc_old _ _ (by simp only [World.size_alloc]; omega)).trans (heap_new _ _ _ (by simp)))
  have e3 := (hk1.block (w.heap.size + 1 + 1 + 1) (by simp only [World.size_alloc]; omega) n3).trans (heap_new _ _ _ (by simp))
  have HK := Lib.hid (show Kp (fun k => ob A = some k) w w1 from (Kp.of_below (below4 w _ _ _ _) _).same hk1)
  have c0 := fun o => cell_of_row w1 _ o _ _ (0, 0) e0
  have c2 := fun o => cell_of_row w1 _ o _ _ (0, 0) e2
  have c3 := fun o => cell_of_row w1 _ o _ _ (0, 0) e3
  have f2 : ∀ o, w1.frozen? ⟨w.heap.size + 1 + 1, o, none⟩ = false := fun o => frozen_of_row _ _ o _ _ e2
  have f3 : ∀ o, w1.frozen? ⟨w.heap.size + 1 + 1 + 1, o, none⟩ = false := fun o => frozen_of_row _ _ o _ _ e3
  have R2 := Lib.hid e2
  have R3 := Lib.hid e3
  have HO := Lib.hid ho1
  have HN := Lib.hid hn1
  have Hin := Lib.hid hin
  have z0 : w.heap.size < w1.heap.size := by omega
  have z2 : w.heap.size + 1 + 1 < w1.heap.size := by omega
  have z3 : w.heap.size + 1 + 1 + 1 < w1.heap.size := by omega
  clear hk1 ho1 hn1 hin e0 e2 e3 hs n0 n2 n3
  go_wp2_with fail
  generalize hwf : World.alloc _ _ = wf
  have X2 : wf.heap[w.heap.size + 1 + 1]? = some (.cells (recC q.kind q.num q.low q.high q.real q.cap q.text (.slice A' q.list.length c')) 25 (0, 0)) := by
    rw [← hwf]
    exact (heap_alloc_old _ _ (by simp; omega)).trans ((ans_other (by omega)).trans (rec_stores R2.out))
  have X3 : wf.heap[w.heap.size + 1 + 1 + 1]? = some (.cells (ansC 0 0 RC.zero none 0) 82 (0, 0)) := by
    rw [← hwf]
    exact (heap_alloc_old _ _ (by simp; omega)).trans (ans_all ((rec_stores_other (by omega)).trans R3.out))
  have hk : Kp (fun k => k = w.heap.size + 1 + 1 ∨ k = w.heap.size + 1 + 1 + 1) w1 wf := by
    rw [← hwf]
    exact (kp10 (kp8g (Kp.refl _ w1) (Or.inl (Or.inl rfl))) (Or.inl (Or.inr rfl))).alloc _
  have HOf := Lib.hid (hk.own HO.out (fun k e x => by
    rw [ownBlock_slice] at e
    rcases HN.out k e with h | h
    · have := Hin.out k h
      rcases x with x | x <;> omega
    · rcases x with x | x <;> omega))
  have HNf := Lib.hid (show ∀ k, ob A' = some k → ob A = some k ∨ w.heap.size ≤ k from fun k e => by
    rcases HN.out k e with h | h
    · exact .inl h
    · exact .inr (by omega))
  have HKf := Lib.hid (show Kp (fun k => ob A = some k) w wf from HK.out.trans hk (fun i hi x => by rcases x with x | x <;> omega))
  have k2 := fun o => cell_of_row wf _ o _ _ (0, 0) X2
  have k3 := fun o => cell_of_row wf _ o _ _ (0, 0) X3
  clear hwf X2 X3 c0 c2 c3 f2 f3 hb4 hk
  exact bodyPost_ret (v := .tuple #[recV q A' c', ansV 0 0 RC.zero none 0]) (by simp [results, Tryz.results147, go_sem, k2, k3]) rfl ⟨A', c', rfl, HOf.out, HNf.out, HKf.out⟩
set_option maxHeartbeats 2000000 in
set_option maxRecDepth 100000 in
theorem changeW_offer (b : Nat) (r q : RC.Rc) (a : AC.Ac) (A L : Option Addr) (c cl : Nat) (w : World) (hb : w.cell? ⟨b, 0, none⟩ = some (.func (.func 135) #[] #[])) (hin : ∀ k, ob A = some k → k < w.heap.size) (HC : ∀ u, Below w.heap.size w u → Calls Tryz.prog 135 #[recV r A c, actV a L cl] u (CwPost q 0 A u)) :
    Calls Tryz.prog 147 #[recV r A c, actV a L cl, .pointer (some ⟨b, 0, none⟩)] w (DwPost q 0 A w) := by
  have hb4 := fun o1 o2 o3 o4 => func_keep hb o1 o2 o3 o4
  have HC' := Lib.hid HC
  clear hb HC
  go_enter Tryz.func147, Tryz.ntmps147
  go_wp2_with fail
  refine (HC'.out _ (below4 w _ _ _ _)).mono ?_
  rintro e w1 ⟨A', c', rfl, ho1, hn1, hk1⟩
  have hs := hk1.size
  simp only [World.size_alloc] at hs hn1
  have n0 : ¬ ob A = some w.heap.size := fun e => by have := hin _ e; omega
  have n2 : ¬ ob A = some (w.heap.size + 1 + 1) := fun e => by have := hin _ e; omega
  have n3 : ¬ ob A = some (w.heap.size + 1 + 1 + 1) := fun e => by have := hin _ e; omega
  have e0 := (hk1.block w.heap.size (by simp only [World.size_alloc]; omega) n0).trans ((heap_alloc_old _ _ (by simp only [World.size_alloc]; omega)).trans ((heap_alloc_old _ _ (by simp only [World.size_alloc]; omega)).trans (heap_alloc2_old w _ _)))
  have e2 := (hk1.block (w.heap.size + 1 + 1) (by simp only [World.size_alloc]; omega) n2).trans ((heap_alloc_old _ _ (by simp only [World.size_alloc]; omega)).trans (heap_new _ _ _ (by simp)))
  have e3 := (hk1.block (w.heap.size + 1 + 1 + 1) (by simp only [World.size_alloc]; omega) n3).trans (heap_new _ _ _ (by simp))
  have HK := Lib.hid (show Kp (fun k => ob A = some k) w w1 from (Kp.of_below (below4 w _ _ _ _) _).same hk1)
  have c0 := fun o => cell_of_row w1 _ o _ _ (0, 0) e0
  have c2 := fun o => cell_of_row w1 _ o _ _ (0, 0) e2
  have c3 := fun o => cell_of_row w1 _ o _ _ (0, 0) e3
  have f2 : ∀ o, w1.frozen? ⟨w.heap.size + 1 + 1, o, none⟩ = false := fun o => frozen_of_row _ _ o _ _ e2
  have f3 : ∀ o, w1.frozen? ⟨w.heap.size + 1 + 1 + 1, o, none⟩ = false := fun o => frozen_of_row _ _ o _ _ e3
  have R2 := Lib.hid e2
  have R3 := Lib.hid e3
  have HO := Lib.hid ho1
  have HN := Lib.hid hn1
  have Hin := Lib.hid hin
  have z0 : w.heap.size < w1.heap.size := by omega
  have z2 : w.heap.size + 1 + 1 < w1.heap.size := by omega
  have z3 : w.heap.size + 1 + 1 + 1 < w1.heap.size := by omega
  clear hk1 ho1 hn1 hin e0 e2 e3 hs n0 n2 n3
  go_wp2_with fail
  generalize hwf : World.alloc _ _ = wf
  have X2 : wf.heap[w.heap.size + 1 + 1]? = some (.cells (recC q.kind q.num q.low q.high q.real q.cap q.text (.slice A' q.list.length c')) 25 (0, 0)) := by
    rw [← hwf]
    exact (heap_alloc_old _ _ (by simp; omega)).trans ((ans_other (by omega)).trans (rec_stores R2.out))
  have X3 : wf.heap[w.heap.size + 1 + 1 + 1]? = some (.cells (ansC 0 0 RC.zero none 0) 82 (0, 0)) := by
    rw [← hwf]
    exact (heap_alloc_old _ _ (by simp; omega)).trans (ans_all ((rec_stores_other (by omega)).trans R3.out))
  have hk : Kp (fun k => k = w.heap.size + 1 + 1 ∨ k = w.heap.size + 1 + 1 + 1) w1 wf := by
    rw [← hwf]
    exact (kp10 (kp8g (Kp.refl _ w1) (Or.inl (Or.inl rfl))) (Or.inl (Or.inr rfl))).alloc _
  have HOf := Lib.hid (hk.own HO.out (fun k e x => by
    rw [ownBlock_slice] at e
    rcases HN.out k e with h | h
    · have := Hin.out k h
      rcases x with x | x <;> omega
    · rcases x with x | x <;> omega))
  have HNf := Lib.hid (show ∀ k, ob A' = some k → ob A = some k ∨ w.heap.size ≤ k from fun k e => by
    rcases HN.out k e with h | h
    · exact .inl h
    · exact .inr (by omega))
  have HKf := Lib.hid (show Kp (fun k => ob A = some k) w wf from HK.out.trans hk (fun i hi x => by rcases x with x | x <;> omega))
  have k2 := fun o => cell_of_row wf _ o _ _ (0, 0) X2
  have k3 := fun o => cell_of_row wf _ o _ _ (0, 0) X3
  clear hwf X2 X3 c0 c2 c3 f2 f3 hb4 hk
  exact bodyPost_ret (v := .tuple #[recV q A' c', ansV 0 0 RC.zero none 0]) (by simp [results, Tryz.results147, go_sem, k2, k3]) rfl ⟨A', c', rfl, HOf.out, HNf.out, HKf.out⟩
end Go.Proofs.YtbkcmnmbcldjoaaGreatDoor
namespace Go.Proofs.YtbkcmnmbcldjoaaGreatDoor
open Go.RowKit MM
set_option maxHeartbeats 2000000 in
set_option maxRecDepth 100000 in
theorem ruleJoin_had (r : RC.Rc) (a : AC.Ac) (A L : Option Addr) (c cl : Nat) (w : World) (ho : w.ownsRow 0 91 2 (.slice A r.list.length c) r.list.length (itCells r.list)) (hn : Lim r.list.length) (hs : ∀ y ∈ r.list, MF.W64 y.score) (h : RU.at_ r.list ⟨0, a.s⟩ = true) :
    Calls Tryz.prog 132 #[recV r A c, actV a L cl] w (CwPost r 0 A w) := by
  have HF := Lib.hid (fun u (h : Its u A r.list) => find_any r.list 0 a.s A c u h hn hs w0)
  unfold FdPost at HF
  rw [h] at HF
  have HO := Lib.hid ho
  have hin : ∀ k, ob A = some k → k < w.heap.size := fun k e => by
    cases A with
    | none => cases e
    | some ad => have := own_inside ho ad rfl; injection e with e; have e' : ad.block = k := e; omega
  have HIn := Lib.hid hin
  clear hn hs h ho hin
  generalize RU.find r.list ⟨0, a.s⟩ = p at *
  go_enter Tryz.func132, Tryz.ntmps132
  go_wp2_with fail
  refine (HF.out _ (Its.own (own_below HO.out (below4 w _ _ _ _)))).mono ?_
  rintro e w1 ⟨rfl, hb⟩
  have hs := hb.size
  simp only [World.size_alloc] at hs
  have e0 := (hb.block w.heap.size (by simp only [World.size_alloc]; omega)).trans ((heap_alloc_old _ _ (by simp only [World.size_alloc]; omega)).trans ((heap_alloc_old _ _ (by simp only [World.size_alloc]; omega)).trans (heap_alloc2_old w _ _)))
  have e2 := (hb.block (w.heap.size + 1 + 1) (by simp only [World.size_alloc]; omega)).trans ((heap_alloc_old _ _ (by simp only [World.size_alloc]; omega)).trans (heap_new _ _ _ (by simp)))
  have HB := Lib.hid (show Below w.heap.size w w1 from (below4 w _ _ _ _).trans (hb.mono (by simp only [World.size_alloc]; omega)))
  have c0 := fun o => cell_of_row w1 _ o _ _ (0, 0) e0
  have cR := fun o => cell_of_row w1 _ o _ _ (0, 0) e2
  have fR : ∀ o, w1.frozen? ⟨w.heap.size + 1 + 1, o, none⟩ = false := fun o => frozen_of_row _ _ o _ _ e2
  clear hb e0 e2
  go_wp2_with fail
  refine bodyPost_ret (v := .tuple #[recV r A c, .int .i64 0]) (by simp [results, Tryz.results132, go_sem, cR]) rfl ?_
  generalize hwf : World.setCell _ _ _ = wf
  have hk : Kp (fun k => k = w.heap.size + 1 + 1) w1 wf := by rw [← hwf]; exact kp8g (Kp.refl _ _) (Or.inl rfl)
  clear hwf
  have hk2 : Kp (fun k => ob A = some k) w wf := (Kp.of_below HB.out _).trans hk (fun i hi x => by have x' : i = w.heap.size + 1 + 1 := x; omega)
  exact ⟨A, c, rfl, hk.own (own_below HO.out HB.out) (fun k e x => by rw [ownBlock_slice] at e; have := HIn.out k e; have x' : k = w.heap.size + 1 + 1 := x; omega), fun k e => .inl e, hk2⟩
set_option maxHeartbeats 2000000 in
set_option maxRecDepth 100000 in
theorem ruleJoin_full (r : RC.Rc) (a : AC.Ac) (A L : Option Addr) (c cl : Nat) (w : World) (ho : w.ownsRow 0 91 2 (.slice A r.list.length c) r.list.length (itCells r.list)) (hn : Lim r.list.length) (hs : ∀ y ∈ r.list, MF.W64 y.score) (h : RU.at_ r.list ⟨0, a.s⟩ = false) (hf : r.cap ≤ (r.list.length : Int)) :
    Calls Tryz.prog 132 #[recV r A c, actV a L cl] w (CgPost r 8 A c w) := by
  have HF := Lib.hid (fun u (h : Its u A r.list) => find_any r.list 0 a.s A c u h hn hs w0)
  unfold FdPost at HF
  rw [h] at HF
  have HO := Lib.hid ho
  have hin : ∀ k, ob A = some k → k < w.heap.size := fun k e => by
    cases A with
    | none => cases e
    | some ad => have := own_inside ho ad rfl; injection e with e; have e' : ad.block = k := e; omega
  have HIn := Lib.hid hin
  clear hn hs h ho hin
  generalize RU.find r.list ⟨0, a.s⟩ = p at *
  have hf1 : decide (r.cap ≤ (r.list.length : Int)) = true := by simpa using hf
  go_enter Tryz.func132, Tryz.ntmps132
  go_wp2_with fail
  refine (HF.out _ (Its.own (own_below HO.out (below4 w _ _ _ _)))).mono ?_
  rintro e w1 ⟨rfl, hb⟩
  have hs := hb.size
  simp only [World.size_alloc] at hs
  have e0 := (hb.block w.heap.size (by simp only [World.size_alloc]; omega)).trans ((heap_alloc_old _ _ (by simp only [World.size_alloc]; omega)).trans ((heap_alloc_old _ _ (by simp only [World.size_alloc]; omega)).trans (heap_alloc2_old w _ _)))
  have e2 := (hb.block (w.heap.size + 1 + 1) (by simp only [World.size_alloc]; omega)).trans ((heap_alloc_old _ _ (by simp only [World.size_alloc]; omega)).trans (heap_new _ _ _ (by simp)))
  have HB := Lib.hid (show Below w.heap.size w w1 from (below4 w _ _ _ _).trans (hb.mono (by simp only [World.size_alloc]; omega)))
  have c0 := fun o => cell_of_row w1 _ o _ _ (0, 0) e0
  have cR := fun o => cell_of_row w1 _ o _ _ (0, 0) e2
  have fR : ∀ o, w1.frozen? ⟨w.heap.size + 1 + 1, o, none⟩ = false := fun o => frozen_of_row _ _ o _ _ e2
  clear hb e0 e2
  go_wp2_with fail
  refine bodyPost_ret (v := .tuple #[recV r A c, .int .i64 8]) (by simp [results, Tryz.results132, go_sem, cR]) rfl ?_
  generalize hwf : World.setCell _ _ _ = wf
  have hk : Kp (fun k => k = w.heap.size + 1 + 1) w1 wf := by rw [← hwf]; exact kp8g (Kp.refl _ _) (Or.inl rfl)
  clear hwf
  exact ⟨rfl, HB.out.trans (hk.below (by omega) (fun i hi x => by have x' : i = w.heap.size + 1 + 1 := x; omega))⟩
set_option maxHeartbeats 2000000 in
set_option maxRecDepth 100000 in
theorem ruleJoin_in (r : RC.Rc) (a : AC.Ac) (A L : Option Addr) (c cl : Nat) (w : World) (ho : w.ownsRow 0 91 2 (.slice A r.list.length c) r.list.length (itCells r.list)) (hcap : r.list.length ≤ c) (hk1000 : r.list.length ≤ 1000) (hn : Lim r.list.length) (hs : ∀ y ∈ r.list, MF.W64 y.score) (h : RU.at_ r.list ⟨0, a.s⟩ = false) (hf : (r.list.length : Int) < r.cap) :
    Calls Tryz.prog 132 #[recV r A c, actV a L cl] w (CwPost { r with list := RU.lay r.list ⟨0, a.s⟩ } 0 A w) := by
  have HF := Lib.hid (fun u (h : Its u A r.list) => find_any r.list 0 a.s A c u h hn hs w0)
  unfold FdPost at HF
  have hp := RU.find_le r.list ⟨0, a.s⟩
  rw [h] at HF
  unfold RU.lay
  have hin : ∀ k, ob A = some k → k < w.heap.size := fun k e => by
    cases A with
    | none => cases e
    | some ad => have := own_inside ho ad rfl; injection e with e; have e' : ad.block = k := e; omega
  have HIn := Lib.hid hin
  obtain ⟨k, n, lo, hi, x, cap, t, l⟩ := r
  replace hp : RU.find l ⟨0, a.s⟩ ≤ l.length := hp
  replace hf : (l.length : Int) < cap := hf
  replace hcap : l.length ≤ c := hcap
  have HO := Lib.hid (show w.ownsRow 0 91 2 (.slice A l.length c) l.length (itCells l) from ho)
  have hlim : (l.length : Int) ≤ 4294967296 := by have hn' : Lim l.length := hn; unfold Lim at hn'; omega
  have HD := Lib.hid (fun u gv (hou : u.ownsRow 0 91 2 (.slice A l.length c) l.length (itCells l)) hv hne => insert_any l ⟨0, a.s⟩ (RU.find l ⟨0, a.s⟩) gv hp hk1000 A c u hou hcap hv hne)
  clear hn hs h ho hin hk1000
  generalize hq : RU.find l ⟨0, a.s⟩ = p at *
  have hpi : (p : Int) ≤ 4294967296 := by omega
  have hf1 : decide (cap ≤ (l.length : Int)) = false := by simp; omega
  go_enter Tryz.func132, Tryz.ntmps132
  go_wp2_with fail
  refine (HF.out _ (Its.own (own_below HO.out (below4 w _ _ _ _)))).mono ?_
  rintro e w1 ⟨rfl, hb⟩
  have hsz := hb.size
  simp only [World.size_alloc] at hsz
  have e0 := (hb.block w.heap.size (by simp only [World.size_alloc]; omega)).trans ((heap_alloc_old _ _ (by simp only [World.size_alloc]; omega)).trans ((heap_alloc_old _ _ (by simp only [World.size_alloc]; omega)).trans (heap_alloc2_old w _ _)))
  have e2 := (hb.block (w.heap.size + 1 + 1) (by simp only [World.size_alloc]; omega)).trans ((heap_alloc_old _ _ (by simp only [World.size_alloc]; omega)).trans (heap_new _ _ _ (by simp)))
  have e3 := (hb.block (w.heap.size + 1 + 1 + 1) (by simp only [World.size_alloc]; omega)).trans (heap_new _ _ _ (by simp))
  have HB := Lib.hid (show Below w.heap.size w w1 from (below4 w _ _ _ _).trans (hb.mono (by simp only [World.size_alloc]; omega)))
  have R0 := Lib.hid e0
  have R2 := Lib.hid e2
  have c0 := fun o => cell_of_row w1 _ o _ _ (0, 0) e0
  have c3 := fun o => cell_of_row w1 _ o _ _ (0, 0) e3
  clear hb e0 e2 e3
  go_wp2_with fail
  refine (HD.out _ _ (own_below (own_below HO.out HB.out) (below1 w1 _)) (heap_alloc_new w1 _) (fun e => by have := HIn.out _ e; omega)).mono ?_
  rintro e w2 ⟨A2, c2, rfl, ho2, hfr, hk2⟩
  have HIx := Lib.hid hfr
  have e0 := (hk2.block w.heap.size (by simp only [World.size_alloc]; omega) (fun e => by have := HIn.out _ e; omega)).trans ((heap_alloc_old _ _ (by omega)).trans R0.out)
  have e2 := (hk2.block (w.heap.size + 1 + 1) (by simp only [World.size_alloc]; omega) (fun e => by have := HIn.out _ e; omega)).trans ((heap_alloc_old _ _ (by omega)).trans R2.out)
  have d0 := fun o => cell_of_row w2 _ o _ _ (0, 0) e0
  have f0 : ∀ o, w2.frozen? ⟨w.heap.size, o, none⟩ = false := fun o => frozen_of_row _ _ o _ _ e0
  have cR := fun o => cell_of_row w2 _ o _ _ (0, 0) e2
  have fR : ∀ o, w2.frozen? ⟨w.heap.size + 1 + 1, o, none⟩ = false := fun o => frozen_of_row _ _ o _ _ e2
  have HO2 := Lib.hid ho2
  have HK2 := Lib.hid (show Kp (fun k => ob A = some k) w w2 from ((Kp.of_below HB.out _).alloc _).same hk2)
  clear ho2 hk2 e0 e2 c0 c3 hfr
  generalize hL : l.take p ++ (⟨0, a.s⟩ : RC.It) :: l.drop p = l2 at *
  go_wp2_with fail
  refine bodyPost_ret (v := .tuple #[.agg (recC k n lo hi x cap t (.slice A2 l2.length c2)), .int .i64 0]) (by simp [results, Tryz.results132, go_sem, cR]) rfl ?_
  generalize hwf : World.setCell _ _ _ = wf
  have hk : Kp (fun k => k = w.heap.size ∨ k = w.heap.size + 1 + 1) w2 wf := by
    rw [← hwf]
    exact kp8g (Kp.setCell (S := fun k => k = w.heap.size ∨ k = w.heap.size + 1 + 1) (Kp.refl _ _) (Or.inl (Or.inl rfl)) _) (Or.inl (Or.inr rfl))
  clear hwf
  have hfr : ∀ k, ob A2 = some k → ob A = some k ∨ w1.heap.size ≤ k := fun k e => (HIx.out k e).imp id (fun h => by simp only [World.size_alloc] at h; omega)
  have hk3 : Kp (fun k => ob A = some k) w wf := HK2.out.trans hk (fun i hi x => by rcases x with x | x <;> omega)
  refine ⟨A2, c2, rfl, hk.own HO2.out (fun k e x => ?_), fun k e => (hfr k e).imp id (fun h => by omega), hk3⟩
  rw [ownBlock_slice] at e
  rcases hfr k e with h | h
  · have := HIn.out k h
    rcases x with x | x <;> omega
  · rcases x with x | x <;> omega
end Go.Proofs.YtbkcmnmbcldjoaaGreatDoor
namespace Go.Proofs.YtbkcmnmbcldjoaaGreatDoor
open Go.RowKit MM
set_option maxHeartbeats 2000000 in
set_option maxRecDepth 100000 in
theorem ruleOffer_had (r : RC.Rc) (a : AC.Ac) (A L : Option Addr) (c cl : Nat) (w : World) (ho : w.ownsRow 0 91 2 (.slice A r.list.length c) r.list.length (itCells r.list)) (hn : Lim r.list.length) (hs : ∀ y ∈ r.list, MF.W64 y.score) (hx : MF.W64 a.x) (h : RU.at_ r.list ⟨a.x, a.s⟩ = true) :
    Calls Tryz.prog 135 #[recV r A c, actV a L cl] w (CwPost r 0 A w) := by
  have HF := Lib.hid (fun u (h : Its u A r.list) => find_any r.list a.x a.s A c u h hn hs hx)
  unfold FdPost at HF
  rw [h] at HF
  have HO := Lib.hid ho
  have hin : ∀ k, ob A = some k → k < w.heap.size := fun k e => by
    cases A with
    | none => cases e
    | some ad => have := own_inside ho ad rfl; injection e with e; have e' : ad.block = k := e; omega
  have HIn := Lib.hid hin
  clear hn hs h ho hin
  generalize RU.find r.list ⟨a.x, a.s⟩ = p at *
  go_enter Tryz.func135, Tryz.ntmps135
  go_wp2_with fail
  refine (HF.out _ (Its.own (own_below HO.out (below4 w _ _ _ _)))).mono ?_
  rintro e w1 ⟨rfl, hb⟩
  have hs := hb.size
  simp only [World.size_alloc] at hs
  have e0 := (hb.block w.heap.size (by simp only [World.size_alloc]; omega)).trans ((heap_alloc_old _ _ (by simp only [World.size_alloc]; omega)).trans ((heap_alloc_old _ _ (by simp only [World.size_alloc]; omega)).trans (heap_alloc2_old w _ _)))
  have e2 := (hb.block (w.heap.size + 1 + 1) (by simp only [World.size_alloc]; omega)).trans ((heap_alloc_old _ _ (by simp only [World.size_alloc]; omega)).trans (heap_new _ _ _ (by simp)))
  have HB := Lib.hid (show Below w.heap.size w w1 from (below4 w _ _ _ _).trans (hb.mono (by simp only [World.size_alloc]; omega)))
  have c0 := fun o => cell_of_row w1 _ o _ _ (0, 0) e0
  have cR := fun o => cell_of_row w1 _ o _ _ (0, 0) e2
  have fR : ∀ o, w1.frozen? ⟨w.heap.size + 1 + 1, o, none⟩ = false := fun o => frozen_of_row _ _ o _ _ e2
  clear hb e0 e2
  go_wp2_with fail
  refine bodyPost_ret (v := .tuple #[recV r A c, .int .i64 0]) (by simp [results, Tryz.results135, go_sem, cR]) rfl ?_
  generalize hwf : World.setCell _ _ _ = wf
  have hk : Kp (fun k => k = w.heap.size + 1 + 1) w1 wf := by rw [← hwf]; exact kp8g (Kp.refl _ _) (Or.inl rfl)
  clear hwf
  have hk2 : Kp (fun k => ob A = some k) w wf := (Kp.of_below HB.out _).trans hk (fun i hi x => by have x' : i = w.heap.size + 1 + 1 := x; omega)
  exact ⟨A, c, rfl, hk.own (own_below HO.out HB.out) (fun k e x => by rw [ownBlock_slice] at e; have := HIn.out k e; have x' : k = w.heap.size + 1 + 1 := x; omega), fun k e => .inl e, hk2⟩
set_option maxHeartbeats 2000000 in
set_option maxRecDepth 100000 in
theorem ruleOffer_in (r : RC.Rc) (a : AC.Ac) (A L : Option Addr) (c cl : Nat) (w : World) (ho : w.ownsRow 0 91 2 (.slice A r.list.length c) r.list.length (itCells r.list)) (hcap : r.list.length ≤ c) (hk1000 : r.list.length ≤ 1000) (hn : Lim r.list.length) (hs : ∀ y ∈ r.list, MF.W64 y.score) (hx : MF.W64 a.x) (h : RU.at_ r.list ⟨a.x, a.s⟩ = false) (hf : (r.list.length : Int) < r.cap) :
    Calls Tryz.prog 135 #[recV r A c, actV a L cl] w (CwPost { r with list := RU.lay r.list ⟨a.x, a.s⟩ } 0 A w) := by
  have HF := Lib.hid (fun u (h : Its u A r.list) => find_any r.list a.x a.s A c u h hn hs hx)
  unfold FdPost at HF
  have hp := RU.find_le r.list ⟨a.x, a.s⟩
  rw [h] at HF
  unfold RU.lay
  have hin : ∀ k, ob A = some k → k < w.heap.size := fun k e => by
    cases A with
    | none => cases e
    | some ad => have := own_inside ho ad rfl; injection e with e; have e' : ad.block = k := e; omega
  have HIn := Lib.hid hin
  obtain ⟨k, n, lo, hi, x, cap, t, l⟩ := r
  replace hp : RU.find l ⟨a.x, a.s⟩ ≤ l.length := hp
  replace hf : (l.length : Int) < cap := hf
  replace hcap : l.length ≤ c := hcap
  have HO := Lib.hid (show w.ownsRow 0 91 2 (.slice A l.length c) l.length (itCells l) from ho)
  have hlim : (l.length : Int) ≤ 4294967296 := by have hn' : Lim l.length := hn; unfold Lim at hn'; omega
  have HD := Lib.hid (fun u gv (hou : u.ownsRow 0 91 2 (.slice A l.length c) l.length (itCells l)) hv hne => insert_any l ⟨a.x, a.s⟩ (RU.find l ⟨a.x, a.s⟩) gv hp hk1000 A c u hou hcap hv hne)
  clear hn hs h ho hin hk1000
  generalize hq : RU.find l ⟨a.x, a.s⟩ = p at *
  have hpi : (p : Int) ≤ 4294967296 := by omega
  go_enter Tryz.func135, Tryz.ntmps135
  go_wp2_with fail
  refine (HF.out _ (Its.own (own_below HO.out (below4 w _ _ _ _)))).mono ?_
  rintro e w1 ⟨rfl, hb⟩
  have hsz := hb.size
  simp only [World.size_alloc] at hsz
  have e0 := (hb.block w.heap.size (by simp only [World.size_alloc]; omega)).trans ((heap_alloc_old _ _ (by simp only [World.size_alloc]; omega)).trans ((heap_alloc_old _ _ (by simp only [World.size_alloc]; omega)).trans (heap_alloc2_old w _ _)))
  have e2 := (hb.block (w.heap.size + 1 + 1) (by simp only [World.size_alloc]; omega)).trans ((heap_alloc_old _ _ (by simp only [World.size_alloc]; omega)).trans (heap_new _ _ _ (by simp)))
  have e3 := (hb.block (w.heap.size + 1 + 1 + 1) (by simp only [World.size_alloc]; omega)).trans (heap_new _ _ _ (by simp))
  have HB := Lib.hid (show Below w.heap.size w w1 from (below4 w _ _ _ _).trans (hb.mono (by simp only [World.size_alloc]; omega)))
  have R0 := Lib.hid e0
  have R2 := Lib.hid e2
  have c0 := fun o => cell_of_row w1 _ o _ _ (0, 0) e0
  have c3 := fun o => cell_of_row w1 _ o _ _ (0, 0) e3
  clear hb e0 e2 e3
  go_wp2_with fail
  refine (HD.out _ _ (own_below (own_below HO.out HB.out) (below1 w1 _)) (heap_alloc_new w1 _) (fun e => by have := HIn.out _ e; omega)).mono ?_
  rintro e w2 ⟨A2, c2, rfl, ho2, hfr, hk2⟩
  have HIx := Lib.hid hfr
  have e0 := (hk2.block w.heap.size (by simp only [World.size_alloc]; omega) (fun e => by have := HIn.out _ e; omega)).trans ((heap_alloc_old _ _ (by omega)).trans R0.out)
  have e2 := (hk2.block (w.heap.size + 1 + 1) (by simp only [World.size_alloc]; omega) (fun e => by have := HIn.out _ e; omega)).trans ((heap_alloc_old _ _ (by omega)).trans R2.out)
  have d0 := fun o => cell_of_row w2 _ o _ _ (0, 0) e0
  have f0 : ∀ o, w2.frozen? ⟨w.heap.size, o, none⟩ = false := fun o => frozen_of_row _ _ o _ _ e0
  have cR := fun o => cell_of_row w2 _ o _ _ (0, 0) e2
  have fR : ∀ o, w2.frozen? ⟨w.heap.size + 1 + 1, o, none⟩ = false := fun o => frozen_of_row _ _ o _ _ e2
  have HO2 := Lib.hid ho2
  have HK2 := Lib.hid (show Kp (fun k => ob A = some k) w w2 from ((Kp.of_below HB.out _).alloc _).same hk2)
  clear ho2 hk2 e0 e2 c0 c3 hfr
  have hL2 : (l.take p ++ (⟨a.x, a.s⟩ : RC.It) :: l.drop p).length = l.length + 1 := by rw [List.length_append, List.length_take, List.length_cons, List.length_drop]; omega
  generalize hL : l.take p ++ (⟨a.x, a.s⟩ : RC.It) :: l.drop p = l2 at *
  have hf1 : decide (cap < (l2.length : Int)) = false := by simp; omega
  have hf2 : ¬ cap < (l2.length : Int) := by omega
  clear hL2
  go_wp2_with fail
  refine bodyPost_ret (v := .tuple #[.agg (recC k n lo hi x cap t (.slice A2 l2.length c2)), .int .i64 0]) (by simp [results, Tryz.results135, go_sem, cR]) rfl ?_
  generalize hwf : World.setCell _ _ _ = wf
  have hk : Kp (fun k => k = w.heap.size ∨ k = w.heap.size + 1 + 1) w2 wf := by
    rw [← hwf]
    exact kp8g (Kp.setCell (S := fun k => k = w.heap.size ∨ k = w.heap.size + 1 + 1) (Kp.refl _ _) (Or.inl (Or.inl rfl)) _) (Or.inl (Or.inr rfl))
  clear hwf
  have hfr : ∀ k, ob A2 = some k → ob A = some k ∨ w1.heap.size ≤ k := fun k e => (HIx.out k e).imp id (fun h => by simp only [World.size_alloc] at h; omega)
  have hk3 : Kp (fun k => ob A = some k) w wf := HK2.out.trans hk (fun i hi x => by rcases x with x | x <;> omega)
  refine ⟨A2, c2, rfl, hk.own HO2.out (fun k e x => ?_), fun k e => (hfr k e).imp id (fun h => by omega), hk3⟩
  rw [ownBlock_slice] at e
  rcases hfr k e with h | h
  · have := HIn.out k h
    rcases x with x | x <;> omega
  · rcases x with x | x <;> omega
set_option maxHeartbeats 2000000 in
set_option maxRecDepth 100000 in
theorem ruleOffer_cut (r : RC.Rc) (a : AC.Ac) (A L : Option Addr) (c cl : Nat) (w : World) (ho : w.ownsRow 0 91 2 (.slice A r.list.length c) r.list.length (itCells r.list)) (hcap : r.list.length ≤ c) (hk1000 : r.list.length ≤ 1000) (hn : Lim r.list.length) (hs : ∀ y ∈ r.list, MF.W64 y.score) (hx : MF.W64 a.x) (h : RU.at_ r.list ⟨a.x, a.s⟩ = false) (m : Nat) (hcm : r.cap = (m : Int)) (hf : m ≤ r.list.length) :
    Calls Tryz.prog 135 #[recV r A c, actV a L cl] w (CwPost { r with list := (RU.lay r.list ⟨a.x, a.s⟩).take m } 0 A w) := by
  have HF := Lib.hid (fun u (h : Its u A r.list) => find_any r.list a.x a.s A c u h hn hs hx)
  unfold FdPost at HF
  have hp := RU.find_le r.list ⟨a.x, a.s⟩
  rw [h] at HF
  unfold RU.lay
  have hin : ∀ k, ob A = some k → k < w.heap.size := fun k e => by
    cases A with
    | none => cases e
    | some ad => have := own_inside ho ad rfl; injection e with e; have e' : ad.block = k := e; omega
  have HIn := Lib.hid hin
  obtain ⟨k, n, lo, hi, x, cap, t, l⟩ := r
  replace hp : RU.find l ⟨a.x, a.s⟩ ≤ l.length := hp
  replace hf : m ≤ l.length := hf
  replace hcm : cap = (m : Int) := hcm
  subst hcm
  replace hcap : l.length ≤ c := hcap
  have HO := Lib.hid (show w.ownsRow 0 91 2 (.slice A l.length c) l.length (itCells l) from ho)
  have hlim : (l.length : Int) ≤ 4294967296 := by have hn' : Lim l.length := hn; unfold Lim at hn'; omega
  have HD := Lib.hid (fun u gv (hou : u.ownsRow 0 91 2 (.slice A l.length c) l.length (itCells l)) hv hne => insert_any l ⟨a.x, a.s⟩ (RU.find l ⟨a.x, a.s⟩) gv hp hk1000 A c u hou hcap hv hne)
  clear hn hs h ho hin hk1000
  generalize hq : RU.find l ⟨a.x, a.s⟩ = p at *
  have hpi : (p : Int) ≤ 4294967296 := by omega
  go_enter Tryz.func135, Tryz.ntmps135
  go_wp2_with fail
  refine (HF.out _ (Its.own (own_below HO.out (below4 w _ _ _ _)))).mono ?_
  rintro e w1 ⟨rfl, hb⟩
  have hsz := hb.size
  simp only [World.size_alloc] at hsz
  have e0 := (hb.block w.heap.size (by simp only [World.size_alloc]; omega)).trans ((heap_alloc_old _ _ (by simp only [World.size_alloc]; omega)).trans ((heap_alloc_old _ _ (by simp only [World.size_alloc]; omega)).trans (heap_alloc2_old w _ _)))
  have e2 := (hb.block (w.heap.size + 1 + 1) (by simp only [World.size_alloc]; omega)).trans ((heap_alloc_old _ _ (by simp only [World.size_alloc]; omega)).trans (heap_new _ _ _ (by simp)))
  have e3 := (hb.block (w.heap.size + 1 + 1 + 1) (by simp only [World.size_alloc]; omega)).trans (heap_new _ _ _ (by simp))
  have HB := Lib.hid (show Below w.heap.size w w1 from (below4 w _ _ _ _).trans (hb.mono (by simp only [World.size_alloc]; omega)))
  have R0 := Lib.hid e0
  have R2 := Lib.hid e2
  have c0 := fun o => cell_of_row w1 _ o _ _ (0, 0) e0
  have c3 := fun o => cell_of_row w1 _ o _ _ (0, 0) e3
  clear hb e0 e2 e3
  go_wp2_with fail
  refine (HD.out _ _ (own_below (own_below HO.out HB.out) (below1 w1 _)) (heap_alloc_new w1 _) (fun e => by have := HIn.out _ e; omega)).mono ?_
  rintro e w2 ⟨A2, c2, rfl, ho2, hfr, hk2⟩
  have HIx := Lib.hid hfr
  have e0 := (hk2.block w.heap.size (by simp only [World.size_alloc]; omega) (fun e => by have := HIn.out _ e; omega)).trans ((heap_alloc_old _ _ (by omega)).trans R0.out)
  have e2 := (hk2.block (w.heap.size + 1 + 1) (by simp only [World.size_alloc]; omega) (fun e => by have := HIn.out _ e; omega)).trans ((heap_alloc_old _ _ (by omega)).trans R2.out)
  have d0 := fun o => cell_of_row w2 _ o _ _ (0, 0) e0
  have f0 : ∀ o, w2.frozen? ⟨w.heap.size, o, none⟩ = false := fun o => frozen_of_row _ _ o _ _ e0
  have cR := fun o => cell_of_row w2 _ o _ _ (0, 0) e2
  have fR : ∀ o, w2.frozen? ⟨w.heap.size + 1 + 1, o, none⟩ = false := fun o => frozen_of_row _ _ o _ _ e2
  have HO2 := Lib.hid ho2
  have HK2 := Lib.hid (show Kp (fun k => ob A = some k) w w2 from ((Kp.of_below HB.out _).alloc _).same hk2)
  clear ho2 hk2 e0 e2 c0 c3 hfr
  have hL2 : (l.take p ++ (⟨a.x, a.s⟩ : RC.It) :: l.drop p).length = l.length + 1 := by rw [List.length_append, List.length_take, List.length_cons, List.length_drop]; omega
  generalize hL : l.take p ++ (⟨a.x, a.s⟩ : RC.It) :: l.drop p = l2 at *
  rcases HO2.out.2 with ⟨hv, h0⟩ | ⟨g, cc, cur, hv, -, hg, hc, hm, hcs, hcl⟩
  · exfalso; omega
  injection hv with hA _ hcc
  subst hA hcc
  have hf1 : decide ((m : Int) < (l2.length : Int)) = true := by simp; omega
  have hf2 : (m : Int) < (l2.length : Int) := by omega
  have hf3 : (m : Int) ≤ (c2 : Int) := by omega
  have hml : m ≤ l2.length := by omega
  have HO3 := Lib.hid (show w2.ownsRow 0 91 2 (.slice (some ⟨g, 0, none⟩) m c2) m (itCells (l2.take m)) from ⟨by rw [itCells_length, List.length_take]; omega, .inr ⟨g, c2, cur, rfl, Nat.zero_le _, hg, by omega, hm, hcs, by
    rw [itCells_take, ← hcl, List.take_take]; congr 1; omega⟩⟩)
  have HML := Lib.hid (show (l2.take m).length = m by rw [List.length_take]; omega)
  have hgg := HIx.out g rfl
  have hcb : (c2 : Int) ≤ 9223372036854775807 := by unfold maxLen at hm; omega
  clear hL2 hg hm hcs hcl HO2 hc
  go_wp2_with fail
  refine bodyPost_ret (v := .tuple #[.agg (recC k n lo hi x (m : Int) t (.slice (some ⟨g, 0, none⟩) m c2)), .int .i64 0]) (by simp [results, Tryz.results135, go_sem, cR]) rfl ?_
  generalize hwf : World.setCell _ _ _ = wf
  have hk : Kp (fun k => k = w.heap.size ∨ k = w.heap.size + 1 + 1) w2 wf := by
    rw [← hwf]
    exact kp8g (Kp.setCell (S := fun k => k = w.heap.size ∨ k = w.heap.size + 1 + 1) (Kp.setCell (S := fun k => k = w.heap.size ∨ k = w.heap.size + 1 + 1) (Kp.refl _ _) (Or.inl (Or.inl rfl)) _) (Or.inl (Or.inl rfl)) _) (Or.inl (Or.inr rfl))
  clear hwf
  have hfr : ∀ k, ob (some (⟨g, 0, none⟩ : Addr)) = some k → ob A = some k ∨ w1.heap.size ≤ k := fun k e => (HIx.out k e).imp id (fun h => by simp only [World.size_alloc] at h; omega)
  have hk3 : Kp (fun k => ob A = some k) w wf := HK2.out.trans hk (fun i hi x => by rcases x with x | x <;> omega)
  have hown : wf.ownsRow 0 91 2 (.slice (some ⟨g, 0, none⟩) m c2) m (itCells (l2.take m)) := hk.own HO3.out (fun k e x => by
    rw [ownBlock_slice] at e
    rcases hfr k e with h | h
    · have := HIn.out k h
      rcases x with x | x <;> omega
    · rcases x with x | x <;> omega)
  refine ⟨some ⟨g, 0, none⟩, c2, ?_, ?_, fun k e => (hfr k e).imp id (fun h => by omega), hk3⟩
  · show _ = Ending.returned (.tuple #[.agg (recC k n lo hi x (m : Int) t (.slice (some ⟨g, 0, none⟩) (l2.take m).length c2)), .int .i64 0])
    rw [HML.out]
  · show wf.ownsRow 0 91 2 (.slice (some ⟨g, 0, none⟩) (l2.take m).length c2) (l2.take m).length (itCells (l2.take m))
    rw [HML.out]
    exact hown
end Go.Proofs.YtbkcmnmbcldjoaaGreatDoor
namespace Go.Proofs.YtbkcmnmbcldjoaaGreatDoor
open Go.RowKit MM
set_option maxHeartbeats 1000000 in
set_option maxRecDepth 100000 in
theorem changeJoin_full (b : Nat) (r : RC.Rc) (a : AC.Ac) (A L : Option Addr) (c cl : Nat) (w : World) (hb : w.cell? ⟨b, 0, none⟩ = some (.func (.func 132) #[] #[])) (ho : w.ownsRow 0 91 2 (.slice A r.list.length c) r.list.length (itCells r.list)) (hn : Lim r.list.length) (hs : ∀ y ∈ r.list, MF.W64 y.score) (h : RU.at_ r.list ⟨0, a.s⟩ = false) (hf : r.cap ≤ (r.list.length : Int)) :
    Calls Tryz.prog 147 #[recV r A c, actV a L cl, .pointer (some ⟨b, 0, none⟩)] w (DoPost r A c 8 w) := by
  have hb4 := fun o1 o2 o3 o4 => func_keep hb o1 o2 o3 o4
  have Hh := Lib.hid (fun u hu => ruleJoin_full r a A L c cl u (own_below ho hu) hn hs h hf)
  clear h ho hn hs hf
  clear hb
  go_enter Tryz.func147, Tryz.ntmps147
  go_wp2_with fail
  refine (Hh.out _ (below4 w _ _ _ _)).mono ?_
  rintro e w1 ⟨rfl, hb1⟩
  have hs := hb1.size
  simp only [World.size_alloc] at hs
  have e0 := (hb1.block w.heap.size (by simp only [World.size_alloc]; omega)).trans ((heap_alloc_old _ _ (by simp only [World.size_alloc]; omega)).trans ((heap_alloc_old _ _ (by simp only [World.size_alloc]; omega)).trans (heap_alloc2_old w _ _)))
  have e2 := (hb1.block (w.heap.size + 1 + 1) (by simp only [World.size_alloc]; omega)).trans ((heap_alloc_old _ _ (by simp only [World.size_alloc]; omega)).trans (heap_new _ _ _ (by simp)))
  have e3 := (hb1.block (w.heap.size + 1 + 1 + 1) (by simp only [World.size_alloc]; omega)).trans (heap_new _ _ _ (by simp))
  have c0 := fun o => cell_of_row w1 _ o _ _ (0, 0) e0
  have c2 := fun o => cell_of_row w1 _ o _ _ (0, 0) e2
  have c3 := fun o => cell_of_row w1 _ o _ _ (0, 0) e3
  have f2 : ∀ o, w1.frozen? ⟨w.heap.size + 1 + 1, o, none⟩ = false := fun o => frozen_of_row _ _ o _ _ e2
  have f3 : ∀ o, w1.frozen? ⟨w.heap.size + 1 + 1 + 1, o, none⟩ = false := fun o => frozen_of_row _ _ o _ _ e3
  have HB := Lib.hid (show Below w.heap.size w w1 from (below4 w _ _ _ _).trans (hb1.mono (by simp only [World.size_alloc]; omega)))
  have R2 := Lib.hid e2
  have R3 := Lib.hid e3
  have z0 : w.heap.size < w1.heap.size := by omega
  have z2 : w.heap.size + 1 + 1 < w1.heap.size := by omega
  have z3 : w.heap.size + 1 + 1 + 1 < w1.heap.size := by omega
  clear hb1 e0 e2 e3 hs
  go_wp2_with fail
  generalize hwf : World.alloc _ _ = wf
  have X2 : wf.heap[w.heap.size + 1 + 1]? = some (.cells (recC (r.kind) (r.num) (r.low) (r.high) (r.real) (r.cap) (r.text) (.slice A r.list.length c)) 25 (0, 0)) := by
    rw [← hwf]
    exact (heap_alloc_old _ _ (by simp; omega)).trans ((ans_other (by omega)).trans (rec_stores R2.out))
  have X3 : wf.heap[w.heap.size + 1 + 1 + 1]? = some (.cells (ansC 8 0 RC.zero none 0) 82 (0, 0)) := by
    rw [← hwf]
    exact (heap_alloc_old _ _ (by simp; omega)).trans (ans_all ((rec_stores_other (by omega)).trans R3.out))
  have HBf := Lib.hid (show Below w.heap.size w wf by
    rw [← hwf]
    exact (below10 (below8c HB.out (by omega)) (by omega)).alloc (by have := HB.out.size; simp; omega) _)
  have k2 := fun o => cell_of_row wf _ o _ _ (0, 0) X2
  have k3 := fun o => cell_of_row wf _ o _ _ (0, 0) X3
  clear hwf X2 X3 c0 c2 c3 f2 f3 hb4
  exact bodyPost_ret (v := .tuple #[recV r A c, ansV 8 0 RC.zero none 0]) (by simp [results, Tryz.results147, go_sem, k2, k3]) rfl ⟨rfl, HBf.out⟩
theorem in_of_own {A : Option Addr} {n c : Nat} {w : World} {cs : List Value} (ho : w.ownsRow 0 91 2 (.slice A n c) n cs) : ∀ k, ob A = some k → k < w.heap.size := fun k e => by
  cases A with
  | none => cases e
  | some ad => have := own_inside ho ad rfl; injection e with e; have e' : ad.block = k := e; omega
/-- What a Leave leaves. -/
def RU.left (r : RC.Rc) (a : AC.Ac) : RC.Rc := if RU.at_ r.list ⟨0, a.s⟩ then { r with list := RU.lose r.list ⟨0, a.s⟩ } else r
/-- What an Offer leaves. -/
def RU.offered (r : RC.Rc) (a : AC.Ac) : RC.Rc := if RU.at_ r.list ⟨a.x, a.s⟩ then r else if (r.list.length : Int) < r.cap then { r with list := RU.lay r.list ⟨a.x, a.s⟩ } else { r with list := (RU.lay r.list ⟨a.x, a.s⟩).take r.cap.toNat }
/-- What a Join leaves that isn't refused. -/
def RU.joined (r : RC.Rc) (a : AC.Ac) : RC.Rc := if RU.at_ r.list ⟨0, a.s⟩ then r else { r with list := RU.lay r.list ⟨0, a.s⟩ }
theorem changeLeave_any (b : Nat) (r : RC.Rc) (a : AC.Ac) (A L : Option Addr) (c cl : Nat) (w : World) (hb : w.cell? ⟨b, 0, none⟩ = some (.func (.func 133) #[] #[])) (ho : w.ownsRow 0 91 2 (.slice A r.list.length c) r.list.length (itCells r.list)) (hn : Lim r.list.length) (hs : ∀ y ∈ r.list, MF.W64 y.score) :
    Calls Tryz.prog 147 #[recV r A c, actV a L cl, .pointer (some ⟨b, 0, none⟩)] w (DwPost (RU.left r a) 0 A w) := by
  refine changeW_leave b r _ a A L c cl w hb (in_of_own ho) fun u hu => ?_
  unfold RU.left
  cases h : RU.at_ r.list ⟨0, a.s⟩
  · exact ruleLeave_no r a A L c cl u (own_below ho hu) hn hs h
  · exact ruleLeave_yes r a A L c cl u (own_below ho hu) hn hs h
theorem changeJoin_fits (b : Nat) (r : RC.Rc) (a : AC.Ac) (A L : Option Addr) (c cl : Nat) (w : World) (hb : w.cell? ⟨b, 0, none⟩ = some (.func (.func 132) #[] #[])) (ho : w.ownsRow 0 91 2 (.slice A r.list.length c) r.list.length (itCells r.list)) (hcap : r.list.length ≤ c) (hk : r.list.length ≤ 1000) (hn : Lim r.list.length) (hs : ∀ y ∈ r.list, MF.W64 y.score) (hf : RU.at_ r.list ⟨0, a.s⟩ = true ∨ (r.list.length : Int) < r.cap) :
    Calls Tryz.prog 147 #[recV r A c, actV a L cl, .pointer (some ⟨b, 0, none⟩)] w (DwPost (RU.joined r a) 0 A w) := by
  refine changeW_join b r _ a A L c cl w hb (in_of_own ho) fun u hu => ?_
  unfold RU.joined
  cases h : RU.at_ r.list ⟨0, a.s⟩
  · refine ruleJoin_in r a A L c cl u (own_below ho hu) hcap hk hn hs h ?_
    rcases hf with hf | hf
    · rw [h] at hf; cases hf
    · exact hf
  · exact ruleJoin_had r a A L c cl u (own_below ho hu) hn hs h
theorem changeOffer_any (b : Nat) (r : RC.Rc) (a : AC.Ac) (A L : Option Addr) (c cl : Nat) (w : World) (hb : w.cell? ⟨b, 0, none⟩ = some (.func (.func 135) #[] #[])) (ho : w.ownsRow 0 91 2 (.slice A r.list.length c) r.list.length (itCells r.list)) (hcap : r.list.length ≤ c) (hk : r.list.length ≤ 1000) (hn : Lim r.list.length) (hs : ∀ y ∈ r.list, MF.W64 y.score) (hx : MF.W64 a.x) (h0 : 0 ≤ r.cap) :
    Calls Tryz.prog 147 #[recV r A c, actV a L cl, .pointer (some ⟨b, 0, none⟩)] w (DwPost (RU.offered r a) 0 A w) := by
  refine changeW_offer b r _ a A L c cl w hb (in_of_own ho) fun u hu => ?_
  unfold RU.offered
  cases h : RU.at_ r.list ⟨a.x, a.s⟩
  · by_cases hf : (r.list.length : Int) < r.cap
    · rw [if_pos hf]
      exact ruleOffer_in r a A L c cl u (own_below ho hu) hcap hk hn hs hx h hf
    · rw [if_neg hf]
      exact ruleOffer_cut r a A L c cl u (own_below ho hu) hcap hk hn hs hx h r.cap.toNat (by omega) (by omega)
  · exact ruleOffer_had r a A L c cl u (own_below ho hu) hn hs hx h
end Go.Proofs.YtbkcmnmbcldjoaaGreatDoor
