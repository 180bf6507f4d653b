/- Contract: parts that bytes are. -/
import Derived.Test.YtmfjacehompmmaaCaught
namespace Go.Proofs.Ytmfjacehompmmaa
open Go.RowKit MM

/-- The parts that bytes are, in plain words. -/
def lift {α : Type} (ps : List α) (n : Nat) : Res (List α) → Res (List α)
  | .ok qs k => .ok (ps ++ qs) (n + k)
  | .bad e k => .bad e (n + k)
def partsR (m : Int) : List UInt8 → List UInt8 → Res (List PK.Pt)
  | [], l => if l = [] then .ok [] 0 else .bad 3 0
  | k :: ks, l =>
    match partR k.toNat m l with
    | .bad e n => .bad e n
    | .ok p n => lift [p] n (partsR m ks (l.drop n))
theorem lift_lift {α : Type} (ps qs : List α) (n k : Nat) (r : Res (List α)) : lift ps n (lift qs k r) = lift (ps ++ qs) (n + k) r := by
  cases r <;> simp [lift, Nat.add_assoc]

/-- Parts as cells. -/
def ptCells (ps : List PK.Pt) : List Value := ps.flatMap fun q => q.cells.toList
theorem ptCells_snoc (ps : List PK.Pt) (q : PK.Pt) : ptCells (ps ++ [q]) = ptCells ps ++ q.cells.toList := by simp [ptCells]

theorem part_info : (Try.prog.info? 45).map (fun i => (i.zero, i.size, i.bytes)) = some (some (.agg #[.int .u8 0, .int .u64 0, .int .i64 0, .float .f64 0, .string ⟨#[]⟩, .bool false]), 6, 56) := by kernel_rfl

theorem pt_one (q : PK.Pt) : ∀ u ∈ q.cells.toList, u.oneCell' = true := by
  intro u hu
  simp only [PK.Pt.cells, List.mem_cons, List.mem_nil_iff, or_false] at hu
  rcases hu with rfl | rfl | rfl | rfl | rfl | rfl <;> rfl
theorem lift_nil {α : Type} (r : Res (List α)) : lift [] 0 r = r := by cases r <;> simp [lift]
theorem partsR_cons {m : Int} {k : UInt8} {ks l : List UInt8} {p : PK.Pt} {n : Nat} (h : partR k.toNat m l = .ok p n) : partsR m (k :: ks) l = lift [p] n (partsR m ks (l.drop n)) := by
  show (match partR k.toNat m l with | .bad e n => Res.bad e n | .ok p n => lift [p] n (partsR m ks (l.drop n))) = _
  rw [h]
theorem partsR_bad {m : Int} {k : UInt8} {ks l : List UInt8} {e n : Nat} (h : partR k.toNat m l = .bad e n) : partsR m (k :: ks) l = .bad e n := by
  show (match partR k.toNat m l with | .bad e n => Res.bad e n | .ok p n => lift [p] n (partsR m ks (l.drop n))) = _
  rw [h]
theorem ks_drop (ks : ByteArray) (i : Nat) (h : i < ks.size) : ks.data.toList.drop i = ks[i] :: ks.data.toList.drop (i + 1) := by
  rw [List.drop_eq_getElem_cons (by rw [size_list]; exact h)]
  rfl

/-- What Read leaves. -/
def ReadPost (r : Res (List PK.Pt)) (w : World) (e : Ending) (w' : World) : Prop :=
  match r with
  | .ok ps _ => ∃ A c, e = .returned (.tuple #[.slice A ps.length c, fltV 0 0]) ∧ w'.ownsRow 0 45 6 (.slice A ps.length c) ps.length (ptCells ps) ∧ (∀ k, ob A = some k → w.heap.size ≤ k) ∧ Below w.heap.size w w'
  | .bad code n => e = .returned (.tuple #[.slice none 0 0, fltV code n]) ∧ Below w.heap.size w w'

/-- What holds at each round's head. -/
structure ReadInv (m : Int) (ks bs : List UInt8) (w : World) (q : Nat) (A1 : Option Addr) (c1 : Nat) (i at_ : Nat) (ps : List PK.Pt) (A2 : Option Addr) (c2 : Nat) (wr : World) : Prop where
  spec : partsR m ks bs = lift ps at_ (partsR m (ks.drop i) (bs.drop at_))
  len : ps.length = i
  rd : Rd 5 wr q A1 c1 bs at_
  own : wr.ownsRow 0 45 6 (.slice A2 ps.length c2) ps.length (ptCells ps)
  new : ∀ k, ob A2 = some k → w.heap.size < k ∧ k ≠ q ∧ ob A1 ≠ some k
  res : wr.heap[w.heap.size]? = some (.cells #[.int .i64 0, .int .i64 0] 30 (0, 0))
  below : Below w.heap.size w wr
  q : w.heap.size < q
  a1 : ∀ k, ob A1 = some k → w.heap.size < k

section
variable {m : Int} {ks bs : List UInt8} {w wr w2 w3 : World} {q : Nat} {A1 A2 A3 : Option Addr} {c1 c2 c3 i at_ n : Nat} {ps : List PK.Pt} {pt : PK.Pt} {o : Obj}
theorem ReadInv.lt (hv : ReadInv m ks bs w q A1 c1 i at_ ps A2 c2 wr) : w.heap.size < wr.heap.size := by
  have h := hv.res
  rcases Nat.lt_or_ge w.heap.size wr.heap.size with x | x
  · exact x
  · rw [Array.getElem?_eq_none x] at h; cases h
theorem ReadInv.res2 (hv : ReadInv m ks bs w q A1 c1 i at_ ps A2 c2 wr) (hk : Kp (fun k => k = q) wr w2) : w2.heap[w.heap.size]? = some (.cells #[.int .i64 0, .int .i64 0] 30 (0, 0)) :=
  (hk.block _ hv.lt (fun e => by have h1 : w.heap.size = q := e; have := hv.q; omega)).trans hv.res
theorem ReadInv.cells (hv : ReadInv m ks bs w q A1 c1 i at_ ps A2 c2 wr) (hk : Kp (fun k => k = q) wr w2) :
    w2.cell? ⟨w.heap.size, 0, none⟩ = some (.int .i64 0) ∧ w2.cell? ⟨w.heap.size, 1, none⟩ = some (.int .i64 0) ∧ ∀ o, w2.frozen? ⟨w.heap.size, o, none⟩ = false :=
  ⟨(cell_of_row _ _ 0 _ _ (0, 0) (hv.res2 hk)).trans rfl, (cell_of_row _ _ 1 _ _ (0, 0) (hv.res2 hk)).trans rfl, fun o => frozen_of_row _ _ o _ _ (hv.res2 hk)⟩
theorem readBad {r : Res (List PK.Pt)} {code n : Nat} {z : Int} {w' : World} (h : r = .bad code n) (hz : z = (n : Int)) (hb : Below w.heap.size w w') :
    ReadPost r w (.returned (.tuple #[.slice none 0 0, .agg #[.int .i64 (code : Int), .int .i64 z]])) w' := by
  subst h hz
  exact ⟨rfl, hb⟩
theorem ReadInv.below2 (hv : ReadInv m ks bs w q A1 c1 i at_ ps A2 c2 wr) (hk : Kp (fun k => k = q) wr w2) : Below w.heap.size wr w2 :=
  hk.below (Nat.le_of_lt hv.lt) (fun j hj e => by have h1 : j = q := e; have := hv.q; omega)
theorem readOk {r : Res (List PK.Pt)} {n : Nat} {w' : World} (h : r = .ok ps n) (ho : w'.ownsRow 0 45 6 (.slice A2 ps.length c2) ps.length (ptCells ps)) (hn : ∀ k, ob A2 = some k → w.heap.size ≤ k) (hb : Below w.heap.size w w') :
    ReadPost r w (.returned (.tuple #[.slice A2 ps.length c2, .agg #[.int .i64 0, .int .i64 0]])) w' := by
  subst h
  exact ⟨A2, c2, rfl, ho, hn, hb⟩
theorem ReadInv.own2 (hv : ReadInv m ks bs w q A1 c1 i at_ ps A2 c2 wr) (hk : Kp (fun k => k = q) wr w2) : w2.ownsRow 0 45 6 (.slice A2 ps.length c2) ps.length (ptCells ps) :=
  hk.own hv.own (fun k e x => (hv.new k (by rw [ownBlock_slice] at e; exact e)).2.1 x)
theorem ReadInv.next (hv : ReadInv m ks bs w q A1 c1 i at_ ps A2 c2 wr) (hk : Kp (fun k => k = q) wr w2) (hr : Rd 5 w2 q A1 c1 bs (at_ + n))
    (hs : partsR m ks bs = lift (ps ++ [pt]) (at_ + n) (partsR m (ks.drop (i + 1)) (bs.drop (at_ + n)))) (hg : (w2.alloc o).grownBy w3 (ob A2)) (hat : ob A3 = ob A2 ∨ ob A3 = some (w2.alloc o).heap.size)
    (ho : w3.ownsRow 0 45 6 (.slice A3 (ps ++ [pt]).length c3) (ps ++ [pt]).length (ptCells (ps ++ [pt]))) : ReadInv m ks bs w q A1 c1 (i + 1) (at_ + n) (ps ++ [pt]) A3 c3 w3 := by
  have hK : Kp (fun k => ob A2 = some k) w2 w3 := ((Kp.refl _ w2).alloc o).grown hg (fun k e => .inl e)
  have hlt := hv.lt
  have hin := own_inside hr.own
  refine ⟨hs, by rw [List.length_append, hv.len]; rfl, hr.keep hK (fun e => (hv.new q e).2.1 rfl) (fun k e x => (hv.new k x).2.2 e), ho, fun k e => ?_, ?_, ?_, hv.q, hv.a1⟩
  · rcases hat with x | x
    · exact hv.new k (x ▸ e)
    · rw [x] at e
      injection e with e
      have e' : (w2.alloc o).heap.size = w2.heap.size + 1 := by simp
      have := hk.size
      have := hr.lt
      have h2 : (w2.alloc o).heap.size = k := e
      refine ⟨by omega, by omega, fun x1 => ?_⟩
      cases A1 with
      | none => cases x1
      | some ad =>
        have h3 := hin ad rfl
        injection x1 with x1
        have h4 : ad.block = k := x1
        omega
  · refine (hK.block _ (Nat.lt_of_lt_of_le hlt hk.size) (fun e => ?_)).trans (hv.res2 hk)
    have := (hv.new _ e).1
    omega
  · refine hv.below.trans ((hk.below (B := w.heap.size) (by omega) ?_).trans (hK.below (by have := hk.size; omega) ?_))
    · intro j hj e
      have h1 : j = q := e
      have := hv.q
      omega
    · intro j hj e
      have := (hv.new _ e).1
      omega
end

set_option maxHeartbeats 1000000 in
set_option maxRecDepth 100000 in
theorem read_any (A : Option Addr) (c : Nat) (bs : List UInt8) (ks : ByteArray) (m : Int) (w : World) (hb : Bts w A bs) (hl : Lim bs.length) (hk : Lim ks.size) (hm : (Lit.int .i64 m).wf = true) :
    Calls Try.prog 15 #[.slice A bs.length c, .string ks, .int .i64 m] w (ReadPost (partsR m ks.data.toList bs) w) := by
  have hmf : ∀ (fn : Fn) (first cap : Array Value) (w : World), (Instr.makeFunc fn first cap).run Try.prog w = .ok (.func fn first cap) w := fun _ _ _ _ => rfl
  obtain ⟨i0, hi0, hz0, hz1, hz2⟩ := info_parts part_info
  have HB := Lib.hid hb
  clear hb
  have hks : (ks.size : Int) ≤ 4294967296 := by unfold Lim at hk; omega
  go_enter_defers Try.func15, Try.ntmps15
  go_wp2_with fail
  refine (new_any A c bs _ (HB.out.alloc _) hl).mono ?_
  rintro e w1 ⟨q, A1, c1, rfl, hr1, hq1, ha1, hb1⟩
  go_wp2_with fail
  go_loopw [9, 10, 16] (fun t9 _ t16 wr => ∃ (i at_ : Nat) (ps : List PK.Pt) (A2 : Option Addr) (c2 : Nat), t9 = .slice A2 ps.length c2 ∧ t16 = .int .i64 i ∧ i ≤ ks.size ∧ ReadInv m ks.data.toList bs w q A1 c1 i at_ ps A2 c2 wr) (fun _ _ t16 _ => ks.size - (intOf t16).toNat)
  case atStart =>
    refine ⟨0, 0, [], none, 0, rfl, rfl, Nat.zero_le _, ?_⟩
    have hsz : (w.alloc (.cells #[.int .i64 0, .int .i64 0] 30)).heap.size = w.heap.size + 1 := by simp
    rw [hsz] at hq1 ha1 hb1
    exact ⟨by rw [lift_nil]; rfl, rfl, hr1, World.ownsRow_nil _ _ _ _, (fun k e => by cases e), (hb1.block _ (by omega)).trans (heap_alloc_new w _), ((Below.refl _ w).alloc (Nat.le_refl _) _).trans (hb1.mono (by omega)), hq1, ha1⟩
  case round =>
    obtain ⟨i, at_, ps, A2, c2, rfl, rfl, hi, hv⟩ := hrel
    by_cases hlt : i < ks.size
    · have hx := rpart_any q A1 c1 bs at_ (ks[i]).toNat m wr (ks[i]).toNat_lt hm hv.rd
      have hsp := hv.spec
      rw [ks_drop ks i hlt] at hsp
      cases hR : partR (ks[i]).toNat m (bs.drop at_) with
      | ok pt n =>
        rw [hR] at hx
        rw [partsR_cons hR, lift_lift, List.drop_drop] at hsp
        have hone := pt_one pt
        have hsn := ptCells_snoc ps pt
        obtain ⟨pk, pu, pi, pf, pS, pb⟩ := pt
        have hx : Calls Try.prog 39 #[.pointer (some ⟨q, 0, none⟩), .int .u8 (ks[i]).toNat, .int .i64 m] wr (fun e w' => e = .returned (.agg #[.int .u8 pk, .int .u64 pu, .int .i64 pi, .float .f64 pf, .string pS, .bool pb]) ∧ Rd 5 w' q A1 c1 bs (at_ + n) ∧ Kp (fun k => k = q) wr w') := hx
        have Hx := Lib.hid hx
        have Hsp := Lib.hid hsp
        have Hone := Lib.hid hone
        have Hsn := Lib.hid hsn
        have hl1 : Lim (ps.length + 1) := hk.le (by have := hv.len; omega)
        clear hx hR hsp hone hsn
        go_wp2_with fail
        refine Hx.out.mono ?_
        rintro e w2 ⟨rfl, hr2, hk2⟩
        have ho2 : w2.ownsRow 0 45 6 (.slice A2 ps.length c2) ps.length (ptCells ps) := hk2.own hv.own (fun k e x => (hv.new k (by rw [ownBlock_slice] at e; exact e)).2.1 x)
        clear Hx
        go_wp2_with (first
          | (at_builtin
             refine wpList_append_at rfl (.tmp 19) (.tmp 26) _ _ rfl 45 i0 _ 6 56 Try.underlying22 hi0 hz0 hz1 hz2 rfl A2 ps.length c2 (ptCells ps) rfl (ho2.alloc _) _ 1 _ rfl (src_new Try.underlying22 _ _ rfl Hone.out) hl1.len (hl1.fit 56 (by omega)) ?_
             intro A3 c3 w3 ho3 hg3 hat3))
        go_roundw
        case rel =>
          have hlen : (ps ++ [(⟨pk, pu, pi, pf, pS, pb⟩ : PK.Pt)]).length = ps.length + 1 := by simp
          refine ⟨i + 1, at_ + n, ps ++ [⟨pk, pu, pi, pf, pS, pb⟩], A3, c3, by rw [hlen], by go_num, by omega, ?_⟩
          exact hv.next hk2 hr2 Hsp.out hg3 hat3 (by rw [hlen, Hsn.out]; exact ho3)
        case measure => simp [intOf]; omega
      | bad code n =>
        rw [hR] at hx
        rw [partsR_bad hR] at hsp
        have hsp : partsR m ks.data.toList bs = .bad code (at_ + n) := hsp
        have Hx := Lib.hid hx
        have Hsp := Lib.hid hsp
        clear hx hR hsp
        go_wp2_with fail
        refine Hx.out.mono ?_
        rintro e w2 ⟨rfl, hr2, hk2⟩
        obtain ⟨hc0, hc1, hf0⟩ := hv.cells hk2
        go_wp2
        rw [show ((at_ : Int) + (n : Int)) = ((at_ + n : Nat) : Int) by omega]
        refine leaves_cons (f := 37) (args := #[.pointer (some ⟨w.heap.size, 0, none⟩)]) (by simp) (by simp [go_sem]) ?_
        refine (catch_fault w.heap.size _ _ code (at_ + n) [] _ hc0 hc1 hf0).mono ?_
        rintro e u' w'' ⟨rfl, rfl, w5, hb5, rfl⟩
        have hc0' := (hb5.cell (p := ⟨w.heap.size, 0, none⟩) (Nat.lt_of_lt_of_le hv.lt hk2.size)).trans hc0
        have hc1' := (hb5.cell (p := ⟨w.heap.size, 1, none⟩) (Nat.lt_of_lt_of_le hv.lt hk2.size)).trans hc1
        simp [Leaves, settle, results, Try.results15, go_sem, hc0', hc1']
        exact readBad (n := at_ + n) Hsp.out (by omega) ((((hv.below.trans (hv.below2 hk2)).trans (hb5.mono (Nat.le_of_lt (Nat.lt_of_lt_of_le hv.lt hk2.size)))).setCell (Nat.le_refl _) _).setCell (Nat.le_refl _) _)
    · have hx := rend_any q A1 c1 bs at_ wr hv.rd
      have hsp0 := hv.spec
      rw [List.drop_eq_nil_of_le (by rw [size_list]; omega)] at hsp0
      by_cases hE : bs.drop at_ = []
      · have hER : endR (bs.drop at_) = .ok () 0 := by unfold endR; rw [if_pos hE]
        rw [hER] at hx
        have hsp : partsR m ks.data.toList bs = .ok ps (at_ + 0) := by
          rw [hsp0]; show lift ps at_ (if bs.drop at_ = [] then _ else _) = _; rw [if_pos hE]; show Res.ok (ps ++ []) _ = _; rw [List.append_nil]
        have Hx := Lib.hid hx
        have Hsp := Lib.hid hsp
        clear hx hsp0 hsp hE hER
        go_wp2_with fail
        refine Hx.out.mono ?_
        rintro e w2 ⟨rfl, hr2, hk2⟩
        obtain ⟨hc0, hc1, hf0⟩ := hv.cells hk2
        have hlt2 := Nat.lt_of_lt_of_le hv.lt hk2.size
        go_wp2
        refine leaves_cons (f := 37) (args := #[.pointer (some ⟨w.heap.size, 0, none⟩)]) (by simp) (by simp [go_sem]) ?_
        refine (catch_none w.heap.size (.int .i64 0) (.int .i64 0) _ ?_ ?_ ?_).mono ?_
        · simp [go_sem, hc0]
        · simp [go_sem, hc1]
        · intro o; simp [hf0]
        rintro e u' w'' ⟨rfl, rfl, w5, hb5, rfl⟩
        have hc0' := (hb5.cell (p := ⟨w.heap.size, 0, none⟩) (by simpa [World.setCell] using hlt2)).trans (by simp [go_sem, hc0] : _ = some (.int .i64 0))
        have hc1' := (hb5.cell (p := ⟨w.heap.size, 1, none⟩) (by simpa [World.setCell] using hlt2)).trans (by simp [go_sem, hc1] : _ = some (.int .i64 0))
        simp [Leaves, settle, results, Try.results15, go_sem, hc0', hc1']
        have hK0 : Kp (fun k => k = w.heap.size) w2 ((w2.setCell ⟨w.heap.size, 0, none⟩ (.int .i64 0)).setCell ⟨w.heap.size, 1, none⟩ (.int .i64 0)) :=
          Kp.setCell (S := fun k => k = w.heap.size) (p := ⟨w.heap.size, 1, none⟩) (Kp.setCell (S := fun k => k = w.heap.size) (p := ⟨w.heap.size, 0, none⟩) (Kp.refl _ w2) (.inl rfl) _) (.inl rfl) _
        have hK1 := hK0.same (Kp.of_below hb5 (fun k => k = w.heap.size))
        have hK2 : Kp (fun k => k = w.heap.size) w2 ((w5.setCell ⟨w.heap.size, 0, none⟩ (.int .i64 0)).setCell ⟨w.heap.size, 1, none⟩ (.int .i64 0)) :=
          Kp.setCell (S := fun k => k = w.heap.size) (p := ⟨w.heap.size, 1, none⟩) (Kp.setCell (S := fun k => k = w.heap.size) (p := ⟨w.heap.size, 0, none⟩) hK1 (.inl rfl) _) (.inl rfl) _
        exact readOk Hsp.out (hK2.own (hv.own2 hk2) (fun k e x => by rw [ownBlock_slice] at e; have := (hv.new k e).1; have h1 : k = w.heap.size := x; omega)) (fun k e => Nat.le_of_lt (hv.new k e).1)
          ((hv.below.trans (hv.below2 hk2)).trans (hK2.below (Nat.le_of_lt hlt2) (fun j hj e => by have h1 : j = w.heap.size := e; omega)))
      · have hER : endR (bs.drop at_) = .bad 3 0 := by unfold endR; rw [if_neg hE]
        rw [hER] at hx
        have hsp : partsR m ks.data.toList bs = .bad 3 at_ := by rw [hsp0]; show lift ps at_ (if bs.drop at_ = [] then _ else _) = _; rw [if_neg hE]; rfl
        have Hx := Lib.hid hx
        have Hsp := Lib.hid hsp
        clear hx hsp hE hER hsp0
        go_wp2_with fail
        refine Hx.out.mono ?_
        rintro e w2 ⟨rfl, hr2, hk2⟩
        obtain ⟨hc0, hc1, hf0⟩ := hv.cells hk2
        go_wp2
        refine leaves_cons (f := 37) (args := #[.pointer (some ⟨w.heap.size, 0, none⟩)]) (by simp) (by simp [go_sem]) ?_
        refine (catch_fault w.heap.size _ _ 3 at_ [] _ hc0 hc1 hf0).mono ?_
        rintro e u' w'' ⟨rfl, rfl, w5, hb5, rfl⟩
        have hc0' := (hb5.cell (p := ⟨w.heap.size, 0, none⟩) (Nat.lt_of_lt_of_le hv.lt hk2.size)).trans hc0
        have hc1' := (hb5.cell (p := ⟨w.heap.size, 1, none⟩) (Nat.lt_of_lt_of_le hv.lt hk2.size)).trans hc1
        simp [Leaves, settle, results, Try.results15, go_sem, hc0', hc1']
        exact readBad (n := at_) Hsp.out rfl ((((hv.below.trans (hv.below2 hk2)).trans (hb5.mono (Nat.le_of_lt (Nat.lt_of_lt_of_le hv.lt hk2.size)))).setCell (Nat.le_refl _) _).setCell (Nat.le_refl _) _)

end Go.Proofs.Ytmfjacehompmmaa
