/- Contracts of the document's own answers for layer 4: an act as parts. -/
import Derived.Test.YtaaeefndhmfceaaGreatDoorRef3k
import Derived.Test.YtaaeefndhmfceaaGreatDoorRef4b
namespace Go.Proofs.YtaaeefndhmfceaaGreatDoor
open Go.RowKit MM

def pB (b : Bool) : PK.Rp := ⟨98, 0, 0, 0, ⟨#[]⟩, b⟩
def nP (a : AC.Ac) : List PK.Rp := if AC.hasN a.kind then [pI a.n] else []
def xP (a : AC.Ac) : List PK.Rp := if AC.hasX a.kind then [pF a.x] else []
def sP (a : AC.Ac) : List PK.Rp := if AC.hasS a.kind then [pS a.s] else []
def mP (a : AC.Ac) : List PK.Rp := if AC.hasM a.kind then recP a.make else []
/-- An act as the document's parts. -/
def actP (a : AC.Ac) : List PK.Rp := [pU a.kind.toNat, pB a.must, pS a.key] ++ (nP a ++ (xP a ++ (sP a ++ mP a)))
theorem refsB_act (a : AC.Ac) (hm : AC.hasM a.kind = true → RC.known a.make.kind = true) : PK.refsB (actP a) = AC.actB a := by
  have one : ∀ q, PK.refsB [q] = PK.refB q := fun q => by show PK.refB q ++ [] = _; simp
  have h3 : PK.refsB [pU a.kind.toNat, pB a.must, pS a.key] = PK.digits a.kind.toNat ++ (PK.flagB a.must ++ PK.textB a.key.data.toList) := by
    show PK.refB (pU a.kind.toNat) ++ (PK.refB (pB a.must) ++ (PK.refB (pS a.key) ++ [])) = _
    rw [List.append_nil]; rfl
  have hn : PK.refsB (nP a) = AC.nB a := by unfold nP AC.nB; split; exact one _; rfl
  have hx : PK.refsB (xP a) = AC.xB a := by unfold xP AC.xB; split; exact one _; rfl
  have hs : PK.refsB (sP a) = AC.sB a := by unfold sP AC.sB; split; exact one _; rfl
  have hmm : PK.refsB (mP a) = AC.mB a := by
    unfold mP AC.mB
    split
    · rename_i h; exact refsB_rec a.make (hm h)
    · rfl
  unfold actP AC.actB AC.fieldB
  rw [PK.refsB_append, PK.refsB_append, PK.refsB_append, PK.refsB_append, h3, hn, hx, hs, hmm]
  simp only [List.append_assoc]
theorem actP_len (a : AC.Ac) (hm : AC.hasM a.kind = true → RC.May a.make) : (actP a).length ≤ 110 := by
  have h1 : (nP a).length ≤ 1 := by unfold nP; split <;> simp
  have h2 : (xP a).length ≤ 1 := by unfold xP; split <;> simp
  have h3 : (sP a).length ≤ 1 := by unfold sP; split <;> simp
  have h4 : (mP a).length ≤ 100 := by
    unfold mP
    split
    · rename_i h; exact recP_len _ (hm h)
    · simp
  unfold actP
  simp only [List.length_append, List.length_cons, List.length_nil]
  omega
theorem actP_ok (a : AC.Ac) (ha : a.ok) (hk : 0 ≤ a.kind ∧ a.kind ≤ 21) (hm : AC.hasM a.kind = true → RC.May a.make) : ∀ q ∈ actP a, q.ok := by
  intro q hq
  unfold actP at hq
  simp only [List.mem_append, List.mem_cons, List.not_mem_nil, or_false] at hq
  rcases hq with (rfl | rfl | rfl) | h | h | h | h
  · exact pU_ok _ (by omega)
  · exact ⟨by show (98 : Nat) < 256; omega, w0, rfl, w0⟩
  · exact pS_ok _
  · unfold nP at h; split at h
    · simp at h; subst h; exact pI_ok _ ha.n
    · cases h
  · unfold xP at h; split at h
    · simp at h; subst h; exact pF_ok _ ha.x
    · cases h
  · unfold sP at h; split at h
    · simp at h; subst h; exact pS_ok _
    · cases h
  · unfold mP at h; split at h
    · rename_i hh; exact recP_ok _ ha.make (hm hh) q h
    · cases h

theorem rpCells_append (a b : List PK.Rp) : rpCells (a ++ b) = rpCells a ++ rpCells b := by simp [rpCells]
theorem rpCells_len (a : List PK.Rp) : (rpCells a).length = a.length * 6 := by
  induction a with
  | nil => rfl
  | cons q l ih =>
    have e : rpCells (q :: l) = q.cells.toList ++ rpCells l := by simp [rpCells]
    have h6 : q.cells.toList.length = 6 := by simp [PK.Rp.cells]
    rw [e, List.length_append, ih, List.length_cons, h6]
    omega
theorem rpCells_one (a : List PK.Rp) : ∀ u ∈ rpCells a, u.oneCell' = true := by
  intro u hu
  simp only [rpCells, List.mem_flatMap] at hu
  obtain ⟨q, _, hq⟩ := hu
  exact rp_one q u hq
/-- New parts as what is appended. -/
theorem src_own {P : Program} {w : World} {tx e' : TypeId} (hk : P.underlying tx = some (.slice e')) {A : Option Addr} {c : Nat} {qs : List PK.Rp} (ho : w.ownsRow 0 115 6 (.slice A qs.length c) qs.length (rpCells qs)) : Src P 6 tx (.slice A qs.length c) qs.length (rpCells qs) w := by
  rcases ho.2 with ⟨hv, h0⟩ | ⟨g, cap, cur, hv, _⟩
  · have hq : qs = [] := List.eq_nil_of_length_eq_zero h0
    subst hq
    injection hv with hA _ hc
    subst hA
    exact Src.ofNil _ hk _
  · injection hv with hA _ hc
    subst hA hc
    exact Src.ofSlice _ hk _ _ _ (rpCells qs) (rpCells_len qs) (fun j u hu => ho.cells (g := g) rfl j u hu) (rpCells_one qs)

/-- Parts that are new, and the act's own box. -/
structure PAt (row : Array Value) (w : World) (qs : List PK.Rp) (A1 : Option Addr) (c1 : Nat) (wr : World) : Prop where
  own : wr.ownsRow 0 115 6 (.slice A1 qs.length c1) qs.length (rpCells qs)
  new : ∀ b, ob A1 = some b → w.heap.size < b
  box : wr.heap[w.heap.size]? = some (.cells row 27 (0, 0))
  below : Below w.heap.size w wr
section
variable {row : Array Value} {w : World} {qs rs : List PK.Rp} {A1 A3 : Option Addr} {c1 c3 n : Nat} {wr wm w3 : World} {zs : List Value}
theorem PAt.more (h : PAt row w qs A1 c1 wr) (hk : Below wr.heap.size wr wm) (hg : wm.grownBy w3 (ob A1)) (hat : ob A3 = ob A1 ∨ ob A3 = some wm.heap.size)
    (hn : n = rs.length) (hz : zs = rpCells rs) (ho : w3.ownsRow 0 115 6 (.slice A3 (qs.length + n) c3) (qs.length + n) (rpCells qs ++ zs)) : PAt row w (qs ++ rs) A3 c3 w3 := by
  subst hn hz
  have hlt := lt_of_heap h.box
  have hK : Kp (fun k => ob A1 = some k) wm w3 := (Kp.refl _ wm).grown hg (fun k e => .inl e)
  refine ⟨?_, fun b e => ?_, ?_, ?_⟩
  · rw [rpCells_append, List.length_append]; exact ho
  · rcases hat with x | x
    · exact h.new b (x ▸ e)
    · rw [x] at e; injection e with e; have := hk.size; omega
  · exact (hK.block _ (Nat.lt_of_lt_of_le hlt hk.size) (fun e => by have := h.new _ e; omega)).trans ((hk.block _ hlt).trans h.box)
  · exact (h.below.trans (hk.mono h.below.size)).trans (hK.below (Nat.le_trans h.below.size hk.size) (fun j hj e => by have := h.new _ e; omega))
theorem PAt.look (h : PAt row w qs A1 c1 wr) (hk : Below wr.heap.size wr wm) : PAt row w qs A1 c1 wm :=
  ⟨own_below h.own hk, h.new, (hk.block _ (lt_of_heap h.box)).trans h.box, h.below.trans (hk.mono h.below.size)⟩
theorem PAt.fresh (h : PAt row w qs A1 c1 wr) (hq : rs = qs) {L : Nat} (hl : L = qs.length) : FreshR rs w (.returned (.slice A1 L c1)) wr := by
  subst hq hl
  exact ⟨A1, c1, rfl, h.own, fun k e => Nat.le_of_lt (h.new k e), h.below⟩
end

set_option maxHeartbeats 4000000 in
set_option maxRecDepth 100000 in
theorem rparts4_0 (k : Nat) (key : ByteArray) (n : Int) (x : Nat) (s : ByteArray) (m : RC.Rc) (must : Bool) (A : Option Addr) (c : Nat) (w : World) (hk2 : k ≤ 21) (gN : AC.hasN k = false) (gX : AC.hasX k = false) (gS : AC.hasS k = false) (gM : AC.hasM k = false) :
    Calls Tryz.prog 43 #[actV ⟨(k : Int), key, n, x, s, m, must⟩ A c] w (FreshR (actP ⟨(k : Int), key, n, x, s, m, must⟩) w) := by
  obtain ⟨i0, hi0, hz0, hz1, hz2⟩ := info_parts rpart_info
  have k1 : ((k : Int) == 1) = false := by unfold AC.hasM at gM; simp at gM; simp; omega
  have HP := Lib.hid (show actP ⟨(k : Int), key, n, x, s, m, must⟩ = (([pU k, pB must, pS key])) by unfold actP nP xP sP mP; simp [gN, gX, gS, gM])
  have GN := Lib.hid gN
  have GX := Lib.hid gX
  have GS := Lib.hid gS
  clear gN gX gS gM
  go_enter Tryz.func43, Tryz.ntmps43
  go_wp2_with fail
  generalize hw1 : World.alloc (World.alloc _ _) _ = w1
  have P0 : PAt (actC ⟨(k : Int), key, n, x, s, m, must⟩ A c) w [pU k, pB must, pS key] (some ⟨w.heap.size + 1, 0, none⟩) 3 w1 := by
    rw [← hw1]
    refine ⟨?_, fun b e => (by injection e with e; have e' : w.heap.size + 1 = b := e; omega), heap_alloc2_old w _ _, below2 w _ _⟩
    have ho := World.ownsRow_lit (base := 0) (e := 115) (size := 6) (w.alloc (.cells (actC ⟨(k : Int), key, n, x, s, m, must⟩ A c) 27)) #[.int .u8 117, .int .u64 k, .int .i64 0, .int .u64 0, .string ⟨#[]⟩, .bool false, .int .u8 98, .int .u64 0, .int .i64 0, .int .u64 0, .string ⟨#[]⟩, .bool must, .int .u8 115, .int .u64 0, .int .i64 0, .int .u64 0, .string key, .bool false] 3 (Nat.zero_le _) (by decide) rfl
    rw [World.size_alloc] at ho
    exact ho
  have H0 := Lib.hid P0
  clear P0 hw1
  have c0 := fun o => cell_of_row w1 _ o _ _ (0, 0) H0.out.box
  have hlt := lt_of_heap H0.out.box
  refine (rHas_is (k : Int) 110 false _ (by omega) (by rw [show (110 : Nat).toUInt8 = 110 from rfl, fld_n]; exact GN.out)).mono ?_
  rintro e u1 ⟨rfl, hb⟩
  have H1 := Lib.hid (H0.out.look hb)
  clear hb c0 hlt H0
  have c0 := fun o => cell_of_row u1 _ o _ _ (0, 0) H1.out.box
  have hlt := lt_of_heap H1.out.box
  go_wp2_with fail
  refine (rHas_is (k : Int) 120 false _ (by omega) (by rw [show (120 : Nat).toUInt8 = 120 from rfl, fld_x]; exact GX.out)).mono ?_
  rintro e u2 ⟨rfl, hb⟩
  have H2 := Lib.hid (H1.out.look hb)
  clear hb c0 hlt H1
  have c0 := fun o => cell_of_row u2 _ o _ _ (0, 0) H2.out.box
  have hlt := lt_of_heap H2.out.box
  go_wp2_with fail
  refine (rHas_is (k : Int) 115 false _ (by omega) (by rw [show (115 : Nat).toUInt8 = 115 from rfl, fld_s]; exact GS.out)).mono ?_
  rintro e u3 ⟨rfl, hb⟩
  have H3 := Lib.hid (H2.out.look hb)
  clear hb c0 hlt H2
  have c0 := fun o => cell_of_row u3 _ o _ _ (0, 0) H3.out.box
  have hlt := lt_of_heap H3.out.box
  go_wp2_with fail
  go_ret
  exact H3.out.fresh HP.out rfl

set_option maxHeartbeats 4000000 in
set_option maxRecDepth 100000 in
theorem rparts4_n (k : Nat) (key : ByteArray) (n : Int) (x : Nat) (s : ByteArray) (m : RC.Rc) (must : Bool) (A : Option Addr) (c : Nat) (w : World) (hk2 : k ≤ 21) (gN : AC.hasN k = true) (gX : AC.hasX k = false) (gS : AC.hasS k = false) (gM : AC.hasM k = false) :
    Calls Tryz.prog 43 #[actV ⟨(k : Int), key, n, x, s, m, must⟩ A c] w (FreshR (actP ⟨(k : Int), key, n, x, s, m, must⟩) w) := by
  obtain ⟨i0, hi0, hz0, hz1, hz2⟩ := info_parts rpart_info
  have k1 : ((k : Int) == 1) = false := by unfold AC.hasM at gM; simp at gM; simp; omega
  have HP := Lib.hid (show actP ⟨(k : Int), key, n, x, s, m, must⟩ = (([pU k, pB must, pS key]) ++ [pI n]) by unfold actP nP xP sP mP; simp [gN, gX, gS, gM])
  have GN := Lib.hid gN
  have GX := Lib.hid gX
  have GS := Lib.hid gS
  clear gN gX gS gM
  go_enter Tryz.func43, Tryz.ntmps43
  go_wp2_with fail
  generalize hw1 : World.alloc (World.alloc _ _) _ = w1
  have P0 : PAt (actC ⟨(k : Int), key, n, x, s, m, must⟩ A c) w [pU k, pB must, pS key] (some ⟨w.heap.size + 1, 0, none⟩) 3 w1 := by
    rw [← hw1]
    refine ⟨?_, fun b e => (by injection e with e; have e' : w.heap.size + 1 = b := e; omega), heap_alloc2_old w _ _, below2 w _ _⟩
    have ho := World.ownsRow_lit (base := 0) (e := 115) (size := 6) (w.alloc (.cells (actC ⟨(k : Int), key, n, x, s, m, must⟩ A c) 27)) #[.int .u8 117, .int .u64 k, .int .i64 0, .int .u64 0, .string ⟨#[]⟩, .bool false, .int .u8 98, .int .u64 0, .int .i64 0, .int .u64 0, .string ⟨#[]⟩, .bool must, .int .u8 115, .int .u64 0, .int .i64 0, .int .u64 0, .string key, .bool false] 3 (Nat.zero_le _) (by decide) rfl
    rw [World.size_alloc] at ho
    exact ho
  have H0 := Lib.hid P0
  clear P0 hw1
  have c0 := fun o => cell_of_row w1 _ o _ _ (0, 0) H0.out.box
  have hlt := lt_of_heap H0.out.box
  refine (rHas_is (k : Int) 110 true _ (by omega) (by rw [show (110 : Nat).toUInt8 = 110 from rfl, fld_n]; exact GN.out)).mono ?_
  rintro e u1 ⟨rfl, hb⟩
  have H1 := Lib.hid (H0.out.look hb)
  clear hb c0 hlt H0
  have c0 := fun o => cell_of_row u1 _ o _ _ (0, 0) H1.out.box
  have hlt := lt_of_heap H1.out.box
  go_wp2_with (first
    | (at_builtin
       refine wpList_append_at rfl _ _ _ _ rfl 115 i0 _ 6 56 Tryz.underlying73 hi0 hz0 hz1 hz2 rfl _ _ _ _ rfl (H1.out.own.alloc _) _ 1 _ rfl (src_newn Tryz.underlying73 _ _ 1 _ rfl rfl (one6 _ _ _ _ _ _ rfl rfl rfl rfl rfl rfl)) (by show _ ≤ maxLen; unfold maxLen; simp) (by simp) ?_
       intro A2 c2 u2 ho hg hat
       have H2 := Lib.hid (H1.out.more (rs := [pI n]) (below1 _ _) hg hat rfl rfl ho)
       clear ho hg hat c0 hlt H1
       have c0 := fun o => cell_of_row u2 _ o _ _ (0, 0) H2.out.box
       have hlt := lt_of_heap H2.out.box))
  refine (rHas_is (k : Int) 120 false _ (by omega) (by rw [show (120 : Nat).toUInt8 = 120 from rfl, fld_x]; exact GX.out)).mono ?_
  rintro e u3 ⟨rfl, hb⟩
  have H3 := Lib.hid (H2.out.look hb)
  clear hb c0 hlt H2
  have c0 := fun o => cell_of_row u3 _ o _ _ (0, 0) H3.out.box
  have hlt := lt_of_heap H3.out.box
  go_wp2_with fail
  refine (rHas_is (k : Int) 115 false _ (by omega) (by rw [show (115 : Nat).toUInt8 = 115 from rfl, fld_s]; exact GS.out)).mono ?_
  rintro e u4 ⟨rfl, hb⟩
  have H4 := Lib.hid (H3.out.look hb)
  clear hb c0 hlt H3
  have c0 := fun o => cell_of_row u4 _ o _ _ (0, 0) H4.out.box
  have hlt := lt_of_heap H4.out.box
  go_wp2_with fail
  go_ret
  exact H4.out.fresh HP.out rfl

set_option maxHeartbeats 4000000 in
set_option maxRecDepth 100000 in
theorem rparts4_x (k : Nat) (key : ByteArray) (n : Int) (x : Nat) (s : ByteArray) (m : RC.Rc) (must : Bool) (A : Option Addr) (c : Nat) (w : World) (hk2 : k ≤ 21) (gN : AC.hasN k = false) (gX : AC.hasX k = true) (gS : AC.hasS k = false) (gM : AC.hasM k = false) (hx : MF.W64 x) :
    Calls Tryz.prog 43 #[actV ⟨(k : Int), key, n, x, s, m, must⟩ A c] w (FreshR (actP ⟨(k : Int), key, n, x, s, m, must⟩) w) := by
  obtain ⟨i0, hi0, hz0, hz1, hz2⟩ := info_parts rpart_info
  have k1 : ((k : Int) == 1) = false := by unfold AC.hasM at gM; simp at gM; simp; omega
  have HP := Lib.hid (show actP ⟨(k : Int), key, n, x, s, m, must⟩ = (([pU k, pB must, pS key]) ++ [pF x]) by unfold actP nP xP sP mP; simp [gN, gX, gS, gM])
  have GN := Lib.hid gN
  have GX := Lib.hid gX
  have GS := Lib.hid gS
  clear gN gX gS gM
  have HPl := Lib.hid (fun w => rplace1_any x w hx)
  clear hx
  go_enter Tryz.func43, Tryz.ntmps43
  go_wp2_with fail
  generalize hw1 : World.alloc (World.alloc _ _) _ = w1
  have P0 : PAt (actC ⟨(k : Int), key, n, x, s, m, must⟩ A c) w [pU k, pB must, pS key] (some ⟨w.heap.size + 1, 0, none⟩) 3 w1 := by
    rw [← hw1]
    refine ⟨?_, fun b e => (by injection e with e; have e' : w.heap.size + 1 = b := e; omega), heap_alloc2_old w _ _, below2 w _ _⟩
    have ho := World.ownsRow_lit (base := 0) (e := 115) (size := 6) (w.alloc (.cells (actC ⟨(k : Int), key, n, x, s, m, must⟩ A c) 27)) #[.int .u8 117, .int .u64 k, .int .i64 0, .int .u64 0, .string ⟨#[]⟩, .bool false, .int .u8 98, .int .u64 0, .int .i64 0, .int .u64 0, .string ⟨#[]⟩, .bool must, .int .u8 115, .int .u64 0, .int .i64 0, .int .u64 0, .string key, .bool false] 3 (Nat.zero_le _) (by decide) rfl
    rw [World.size_alloc] at ho
    exact ho
  have H0 := Lib.hid P0
  clear P0 hw1
  have c0 := fun o => cell_of_row w1 _ o _ _ (0, 0) H0.out.box
  have hlt := lt_of_heap H0.out.box
  refine (rHas_is (k : Int) 110 false _ (by omega) (by rw [show (110 : Nat).toUInt8 = 110 from rfl, fld_n]; exact GN.out)).mono ?_
  rintro e u1 ⟨rfl, hb⟩
  have H1 := Lib.hid (H0.out.look hb)
  clear hb c0 hlt H0
  have c0 := fun o => cell_of_row u1 _ o _ _ (0, 0) H1.out.box
  have hlt := lt_of_heap H1.out.box
  go_wp2_with fail
  refine (rHas_is (k : Int) 120 true _ (by omega) (by rw [show (120 : Nat).toUInt8 = 120 from rfl, fld_x]; exact GX.out)).mono ?_
  rintro e u2 ⟨rfl, hb⟩
  have H2 := Lib.hid (H1.out.look hb)
  clear hb c0 hlt H1
  have c0 := fun o => cell_of_row u2 _ o _ _ (0, 0) H2.out.box
  have hlt := lt_of_heap H2.out.box
  go_wp2_with fail
  refine (HPl.out _).mono ?_
  rintro e ux ⟨rfl, rfl⟩
  go_wp2_with (first
    | (at_builtin
       refine wpList_append_at rfl _ _ _ _ rfl 115 i0 _ 6 56 Tryz.underlying73 hi0 hz0 hz1 hz2 rfl _ _ _ _ rfl (H2.out.own.alloc _) _ 1 _ rfl (src_newn Tryz.underlying73 _ _ 1 _ rfl rfl (one6 _ _ _ _ _ _ rfl rfl rfl rfl rfl rfl)) (by show _ ≤ maxLen; unfold maxLen; simp) (by simp) ?_
       intro A3 c3 u3 ho hg hat
       have H3 := Lib.hid (H2.out.more (rs := [pF x]) (below1 _ _) hg hat rfl rfl ho)
       clear ho hg hat c0 hlt H2
       have c0 := fun o => cell_of_row u3 _ o _ _ (0, 0) H3.out.box
       have hlt := lt_of_heap H3.out.box))
  refine (rHas_is (k : Int) 115 false _ (by omega) (by rw [show (115 : Nat).toUInt8 = 115 from rfl, fld_s]; exact GS.out)).mono ?_
  rintro e u4 ⟨rfl, hb⟩
  have H4 := Lib.hid (H3.out.look hb)
  clear hb c0 hlt H3
  have c0 := fun o => cell_of_row u4 _ o _ _ (0, 0) H4.out.box
  have hlt := lt_of_heap H4.out.box
  go_wp2_with fail
  go_ret
  exact H4.out.fresh HP.out rfl

set_option maxHeartbeats 4000000 in
set_option maxRecDepth 100000 in
theorem rparts4_s (k : Nat) (key : ByteArray) (n : Int) (x : Nat) (s : ByteArray) (m : RC.Rc) (must : Bool) (A : Option Addr) (c : Nat) (w : World) (hk2 : k ≤ 21) (gN : AC.hasN k = false) (gX : AC.hasX k = false) (gS : AC.hasS k = true) (gM : AC.hasM k = false) :
    Calls Tryz.prog 43 #[actV ⟨(k : Int), key, n, x, s, m, must⟩ A c] w (FreshR (actP ⟨(k : Int), key, n, x, s, m, must⟩) w) := by
  obtain ⟨i0, hi0, hz0, hz1, hz2⟩ := info_parts rpart_info
  have k1 : ((k : Int) == 1) = false := by unfold AC.hasM at gM; simp at gM; simp; omega
  have HP := Lib.hid (show actP ⟨(k : Int), key, n, x, s, m, must⟩ = (([pU k, pB must, pS key]) ++ [pS s]) by unfold actP nP xP sP mP; simp [gN, gX, gS, gM])
  have GN := Lib.hid gN
  have GX := Lib.hid gX
  have GS := Lib.hid gS
  clear gN gX gS gM
  go_enter Tryz.func43, Tryz.ntmps43
  go_wp2_with fail
  generalize hw1 : World.alloc (World.alloc _ _) _ = w1
  have P0 : PAt (actC ⟨(k : Int), key, n, x, s, m, must⟩ A c) w [pU k, pB must, pS key] (some ⟨w.heap.size + 1, 0, none⟩) 3 w1 := by
    rw [← hw1]
    refine ⟨?_, fun b e => (by injection e with e; have e' : w.heap.size + 1 = b := e; omega), heap_alloc2_old w _ _, below2 w _ _⟩
    have ho := World.ownsRow_lit (base := 0) (e := 115) (size := 6) (w.alloc (.cells (actC ⟨(k : Int), key, n, x, s, m, must⟩ A c) 27)) #[.int .u8 117, .int .u64 k, .int .i64 0, .int .u64 0, .string ⟨#[]⟩, .bool false, .int .u8 98, .int .u64 0, .int .i64 0, .int .u64 0, .string ⟨#[]⟩, .bool must, .int .u8 115, .int .u64 0, .int .i64 0, .int .u64 0, .string key, .bool false] 3 (Nat.zero_le _) (by decide) rfl
    rw [World.size_alloc] at ho
    exact ho
  have H0 := Lib.hid P0
  clear P0 hw1
  have c0 := fun o => cell_of_row w1 _ o _ _ (0, 0) H0.out.box
  have hlt := lt_of_heap H0.out.box
  refine (rHas_is (k : Int) 110 false _ (by omega) (by rw [show (110 : Nat).toUInt8 = 110 from rfl, fld_n]; exact GN.out)).mono ?_
  rintro e u1 ⟨rfl, hb⟩
  have H1 := Lib.hid (H0.out.look hb)
  clear hb c0 hlt H0
  have c0 := fun o => cell_of_row u1 _ o _ _ (0, 0) H1.out.box
  have hlt := lt_of_heap H1.out.box
  go_wp2_with fail
  refine (rHas_is (k : Int) 120 false _ (by omega) (by rw [show (120 : Nat).toUInt8 = 120 from rfl, fld_x]; exact GX.out)).mono ?_
  rintro e u2 ⟨rfl, hb⟩
  have H2 := Lib.hid (H1.out.look hb)
  clear hb c0 hlt H1
  have c0 := fun o => cell_of_row u2 _ o _ _ (0, 0) H2.out.box
  have hlt := lt_of_heap H2.out.box
  go_wp2_with fail
  refine (rHas_is (k : Int) 115 true _ (by omega) (by rw [show (115 : Nat).toUInt8 = 115 from rfl, fld_s]; exact GS.out)).mono ?_
  rintro e u3 ⟨rfl, hb⟩
  have H3 := Lib.hid (H2.out.look hb)
  clear hb c0 hlt H2
  have c0 := fun o => cell_of_row u3 _ o _ _ (0, 0) H3.out.box
  have hlt := lt_of_heap H3.out.box
  go_wp2_with (first
    | (at_builtin
       refine wpList_append_at rfl _ _ _ _ rfl 115 i0 _ 6 56 Tryz.underlying73 hi0 hz0 hz1 hz2 rfl _ _ _ _ rfl (H3.out.own.alloc _) _ 1 _ rfl (src_newn Tryz.underlying73 _ _ 1 _ rfl rfl (one6 _ _ _ _ _ _ rfl rfl rfl rfl rfl rfl)) (by show _ ≤ maxLen; unfold maxLen; simp) (by simp) ?_
       intro A4 c4 u4 ho hg hat
       have H4 := Lib.hid (H3.out.more (rs := [pS s]) (below1 _ _) hg hat rfl rfl ho)
       clear ho hg hat c0 hlt H3
       have c0 := fun o => cell_of_row u4 _ o _ _ (0, 0) H4.out.box
       have hlt := lt_of_heap H4.out.box))
  go_ret
  exact H4.out.fresh HP.out rfl

set_option maxHeartbeats 4000000 in
set_option maxRecDepth 100000 in
theorem rparts4_xs (k : Nat) (key : ByteArray) (n : Int) (x : Nat) (s : ByteArray) (m : RC.Rc) (must : Bool) (A : Option Addr) (c : Nat) (w : World) (hk2 : k ≤ 21) (gN : AC.hasN k = false) (gX : AC.hasX k = true) (gS : AC.hasS k = true) (gM : AC.hasM k = false) (hx : MF.W64 x) :
    Calls Tryz.prog 43 #[actV ⟨(k : Int), key, n, x, s, m, must⟩ A c] w (FreshR (actP ⟨(k : Int), key, n, x, s, m, must⟩) w) := by
  obtain ⟨i0, hi0, hz0, hz1, hz2⟩ := info_parts rpart_info
  have k1 : ((k : Int) == 1) = false := by unfold AC.hasM at gM; simp at gM; simp; omega
  have HP := Lib.hid (show actP ⟨(k : Int), key, n, x, s, m, must⟩ = (([pU k, pB must, pS key]) ++ [pF x] ++ [pS s]) by unfold actP nP xP sP mP; simp [gN, gX, gS, gM])
  have GN := Lib.hid gN
  have GX := Lib.hid gX
  have GS := Lib.hid gS
  clear gN gX gS gM
  have HPl := Lib.hid (fun w => rplace1_any x w hx)
  clear hx
  go_enter Tryz.func43, Tryz.ntmps43
  go_wp2_with fail
  generalize hw1 : World.alloc (World.alloc _ _) _ = w1
  have P0 : PAt (actC ⟨(k : Int), key, n, x, s, m, must⟩ A c) w [pU k, pB must, pS key] (some ⟨w.heap.size + 1, 0, none⟩) 3 w1 := by
    rw [← hw1]
    refine ⟨?_, fun b e => (by injection e with e; have e' : w.heap.size + 1 = b := e; omega), heap_alloc2_old w _ _, below2 w _ _⟩
    have ho := World.ownsRow_lit (base := 0) (e := 115) (size := 6) (w.alloc (.cells (actC ⟨(k : Int), key, n, x, s, m, must⟩ A c) 27)) #[.int .u8 117, .int .u64 k, .int .i64 0, .int .u64 0, .string ⟨#[]⟩, .bool false, .int .u8 98, .int .u64 0, .int .i64 0, .int .u64 0, .string ⟨#[]⟩, .bool must, .int .u8 115, .int .u64 0, .int .i64 0, .int .u64 0, .string key, .bool false] 3 (Nat.zero_le _) (by decide) rfl
    rw [World.size_alloc] at ho
    exact ho
  have H0 := Lib.hid P0
  clear P0 hw1
  have c0 := fun o => cell_of_row w1 _ o _ _ (0, 0) H0.out.box
  have hlt := lt_of_heap H0.out.box
  refine (rHas_is (k : Int) 110 false _ (by omega) (by rw [show (110 : Nat).toUInt8 = 110 from rfl, fld_n]; exact GN.out)).mono ?_
  rintro e u1 ⟨rfl, hb⟩
  have H1 := Lib.hid (H0.out.look hb)
  clear hb c0 hlt H0
  have c0 := fun o => cell_of_row u1 _ o _ _ (0, 0) H1.out.box
  have hlt := lt_of_heap H1.out.box
  go_wp2_with fail
  refine (rHas_is (k : Int) 120 true _ (by omega) (by rw [show (120 : Nat).toUInt8 = 120 from rfl, fld_x]; exact GX.out)).mono ?_
  rintro e u2 ⟨rfl, hb⟩
  have H2 := Lib.hid (H1.out.look hb)
  clear hb c0 hlt H1
  have c0 := fun o => cell_of_row u2 _ o _ _ (0, 0) H2.out.box
  have hlt := lt_of_heap H2.out.box
  go_wp2_with fail
  refine (HPl.out _).mono ?_
  rintro e ux ⟨rfl, rfl⟩
  go_wp2_with (first
    | (at_builtin
       refine wpList_append_at rfl _ _ _ _ rfl 115 i0 _ 6 56 Tryz.underlying73 hi0 hz0 hz1 hz2 rfl _ _ _ _ rfl (H2.out.own.alloc _) _ 1 _ rfl (src_newn Tryz.underlying73 _ _ 1 _ rfl rfl (one6 _ _ _ _ _ _ rfl rfl rfl rfl rfl rfl)) (by show _ ≤ maxLen; unfold maxLen; simp) (by simp) ?_
       intro A3 c3 u3 ho hg hat
       have H3 := Lib.hid (H2.out.more (rs := [pF x]) (below1 _ _) hg hat rfl rfl ho)
       clear ho hg hat c0 hlt H2
       have c0 := fun o => cell_of_row u3 _ o _ _ (0, 0) H3.out.box
       have hlt := lt_of_heap H3.out.box))
  refine (rHas_is (k : Int) 115 true _ (by omega) (by rw [show (115 : Nat).toUInt8 = 115 from rfl, fld_s]; exact GS.out)).mono ?_
  rintro e u4 ⟨rfl, hb⟩
  have H4 := Lib.hid (H3.out.look hb)
  clear hb c0 hlt H3
  have c0 := fun o => cell_of_row u4 _ o _ _ (0, 0) H4.out.box
  have hlt := lt_of_heap H4.out.box
  go_wp2_with (first
    | (at_builtin
       refine wpList_append_at rfl _ _ _ _ rfl 115 i0 _ 6 56 Tryz.underlying73 hi0 hz0 hz1 hz2 rfl _ _ _ _ rfl (H4.out.own.alloc _) _ 1 _ rfl (src_newn Tryz.underlying73 _ _ 1 _ rfl rfl (one6 _ _ _ _ _ _ rfl rfl rfl rfl rfl rfl)) (by show _ ≤ maxLen; unfold maxLen; simp) (by simp) ?_
       intro A5 c5 u5 ho hg hat
       have H5 := Lib.hid (H4.out.more (rs := [pS s]) (below1 _ _) hg hat rfl rfl ho)
       clear ho hg hat c0 hlt H4
       have c0 := fun o => cell_of_row u5 _ o _ _ (0, 0) H5.out.box
       have hlt := lt_of_heap H5.out.box))
  go_ret
  exact H5.out.fresh HP.out rfl

set_option maxHeartbeats 4000000 in
set_option maxRecDepth 100000 in
theorem rparts4_m (k : Nat) (key : ByteArray) (n : Int) (x : Nat) (s : ByteArray) (m : RC.Rc) (must : Bool) (A : Option Addr) (c : Nat) (w : World) (hk2 : k ≤ 21) (gN : AC.hasN k = false) (gX : AC.hasX k = false) (gS : AC.hasS k = false) (gM : AC.hasM k = true) (hr : m.ok) (hm : RC.May m) (hI : Its w A m.list) :
    Calls Tryz.prog 43 #[actV ⟨(k : Int), key, n, x, s, m, must⟩ A c] w (FreshR (actP ⟨(k : Int), key, n, x, s, m, must⟩) w) := by
  obtain ⟨i0, hi0, hz0, hz1, hz2⟩ := info_parts rpart_info
  have k1 : ((k : Int) == 1) = true := by unfold AC.hasM at gM; simp at gM; simp; omega
  have HP := Lib.hid (show actP ⟨(k : Int), key, n, x, s, m, must⟩ = (([pU k, pB must, pS key]) ++ recP m) by unfold actP nP xP sP mP; simp [gN, gX, gS, gM])
  have GN := Lib.hid gN
  have GX := Lib.hid gX
  have GS := Lib.hid gS
  clear gN gX gS gM
  have HRp := Lib.hid (fun w hI => rparts_any m A c w hr hm hI)
  have HI := Lib.hid hI
  have HRl := Lib.hid (recP_len m hm)
  clear hr hm hI
  go_enter Tryz.func43, Tryz.ntmps43
  go_wp2_with fail
  generalize hw1 : World.alloc (World.alloc _ _) _ = w1
  have P0 : PAt (actC ⟨(k : Int), key, n, x, s, m, must⟩ A c) w [pU k, pB must, pS key] (some ⟨w.heap.size + 1, 0, none⟩) 3 w1 := by
    rw [← hw1]
    refine ⟨?_, fun b e => (by injection e with e; have e' : w.heap.size + 1 = b := e; omega), heap_alloc2_old w _ _, below2 w _ _⟩
    have ho := World.ownsRow_lit (base := 0) (e := 115) (size := 6) (w.alloc (.cells (actC ⟨(k : Int), key, n, x, s, m, must⟩ A c) 27)) #[.int .u8 117, .int .u64 k, .int .i64 0, .int .u64 0, .string ⟨#[]⟩, .bool false, .int .u8 98, .int .u64 0, .int .i64 0, .int .u64 0, .string ⟨#[]⟩, .bool must, .int .u8 115, .int .u64 0, .int .i64 0, .int .u64 0, .string key, .bool false] 3 (Nat.zero_le _) (by decide) rfl
    rw [World.size_alloc] at ho
    exact ho
  have H0 := Lib.hid P0
  clear P0 hw1
  have c0 := fun o => cell_of_row w1 _ o _ _ (0, 0) H0.out.box
  have hlt := lt_of_heap H0.out.box
  refine (rHas_is (k : Int) 110 false _ (by omega) (by rw [show (110 : Nat).toUInt8 = 110 from rfl, fld_n]; exact GN.out)).mono ?_
  rintro e u1 ⟨rfl, hb⟩
  have H1 := Lib.hid (H0.out.look hb)
  clear hb c0 hlt H0
  have c0 := fun o => cell_of_row u1 _ o _ _ (0, 0) H1.out.box
  have hlt := lt_of_heap H1.out.box
  go_wp2_with fail
  refine (rHas_is (k : Int) 120 false _ (by omega) (by rw [show (120 : Nat).toUInt8 = 120 from rfl, fld_x]; exact GX.out)).mono ?_
  rintro e u2 ⟨rfl, hb⟩
  have H2 := Lib.hid (H1.out.look hb)
  clear hb c0 hlt H1
  have c0 := fun o => cell_of_row u2 _ o _ _ (0, 0) H2.out.box
  have hlt := lt_of_heap H2.out.box
  go_wp2_with fail
  refine (rHas_is (k : Int) 115 false _ (by omega) (by rw [show (115 : Nat).toUInt8 = 115 from rfl, fld_s]; exact GS.out)).mono ?_
  rintro e u3 ⟨rfl, hb⟩
  have H3 := Lib.hid (H2.out.look hb)
  clear hb c0 hlt H2
  have c0 := fun o => cell_of_row u3 _ o _ _ (0, 0) H3.out.box
  have hlt := lt_of_heap H3.out.box
  go_wp2_with fail
  refine (HRp.out _ (HI.out.below H3.out.below)).mono ?_
  rintro e um ⟨Am, cm, rfl, hom, hnm, hbm⟩
  have Hm := Lib.hid (H3.out.look hbm)
  have Hom := Lib.hid hom
  clear hbm hom hnm c0 hlt H3
  have c0 := fun o => cell_of_row um _ o _ _ (0, 0) Hm.out.box
  have hRl := HRl.out
  go_wp2_with (first
    | (at_builtin
       refine wpList_append_at rfl _ _ _ _ rfl 115 i0 _ 6 56 Tryz.underlying73 hi0 hz0 hz1 hz2 rfl _ _ _ _ rfl Hm.out.own _ (recP m).length _ rfl (src_own Tryz.underlying73 Hom.out) (by show _ ≤ maxLen; unfold maxLen; simp; omega) (by omega) ?_
       intro A9 c9 u9 ho hg hat
       have H9 := Lib.hid (Hm.out.more (rs := recP m) (Below.refl _ _) hg hat rfl rfl ho)
       clear ho hg hat c0))
  go_ret
  exact H9.out.fresh HP.out (show 3 + (recP m).length = _ by rw [List.length_append]; rfl)

end Go.Proofs.YtaaeefndhmfceaaGreatDoor
