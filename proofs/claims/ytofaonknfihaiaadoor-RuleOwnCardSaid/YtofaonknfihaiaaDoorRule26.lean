/- Contracts of package rule: what stays so behind acts; how things stand while acts are done one behind the other. -/
import Derived.Test.YtofaonknfihaiaaDoorRule25
import Derived.Test.YtofaonknfihaiaaDoorOpn4rm
namespace Go.Proofs.YtofaonknfihaiaaDoor
open Go.RowKit MM

theorem i64_w64 (n : Int) : RC.I64 (RU.w64 n) := by
  unfold RC.I64 RU.w64
  have h1 : IntKind.i64.min = -9223372036854775808 := by decide
  have h2 : IntKind.i64.max = 9223372036854775807 := by decide
  simp only [Lit.wf, Bool.and_eq_true, decide_eq_true_eq, h1, h2]
  unfold wrap64
  omega
theorem RU.list_lay {l : List RC.It} {x : RC.It} (hl : ∀ y ∈ l, MF.W64 y.score) (hx : MF.W64 x.score) : ∀ y ∈ RU.lay l x, MF.W64 y.score := by
  intro y hy
  unfold RU.lay at hy
  rcases List.mem_append.1 hy with h | h
  · exact hl y (List.mem_of_mem_take h)
  · rcases List.mem_cons.1 h with rfl | h
    · exact hx
    · exact hl y (List.mem_of_mem_drop h)
theorem RU.list_lose {l : List RC.It} {x : RC.It} (hl : ∀ y ∈ l, MF.W64 y.score) : ∀ y ∈ RU.lose l x, MF.W64 y.score := by
  intro y hy
  unfold RU.lose at hy
  rcases List.mem_append.1 hy with h | h
  · exact hl y (List.mem_of_mem_take h)
  · exact hl y (List.mem_of_mem_drop h)
theorem RU.lay_len (l : List RC.It) (x : RC.It) : (RU.lay l x).length = l.length + 1 := by
  have := RU.find_le l x
  unfold RU.lay
  simp
  omega
theorem RU.lose_len (l : List RC.It) (x : RC.It) : (RU.lose l x).length ≤ l.length := by
  have := RU.find_le l x
  unfold RU.lose
  simp
  omega
theorem joined_ok {q : RC.Rc} {a : AC.Ac} (hq : q.ok) : (RU.joined q a).ok := by
  unfold RU.joined
  split
  · exact hq
  · exact ⟨hq.kind, hq.num, hq.low, hq.high, hq.real, hq.cap, RU.list_lay hq.list w0⟩
theorem left_ok {q : RC.Rc} {a : AC.Ac} (hq : q.ok) : (RU.left q a).ok := by
  unfold RU.left
  split
  · exact ⟨hq.kind, hq.num, hq.low, hq.high, hq.real, hq.cap, RU.list_lose hq.list⟩
  · exact hq
theorem offered_ok {q : RC.Rc} {a : AC.Ac} (hq : q.ok) (hx : MF.W64 a.x) : (RU.offered q a).ok := by
  unfold RU.offered
  split
  · exact hq
  · split
    · exact ⟨hq.kind, hq.num, hq.low, hq.high, hq.real, hq.cap, RU.list_lay hq.list hx⟩
    · exact ⟨hq.kind, hq.num, hq.low, hq.high, hq.real, hq.cap, fun y hy => RU.list_lay hq.list hx y (List.mem_of_mem_take hy)⟩
theorem num_ok {q : RC.Rc} (hq : q.ok) (n : Int) : ({ q with num := RU.w64 n } : RC.Rc).ok := ⟨hq.kind, i64_w64 n, hq.low, hq.high, hq.real, hq.cap, hq.list⟩
theorem real_ok {q : RC.Rc} (hq : q.ok) {x : Nat} (hx : MF.W64 x) : ({ q with real := x } : RC.Rc).ok := ⟨hq.kind, hq.num, hq.low, hq.high, hx, hq.cap, hq.list⟩
theorem text_ok {q : RC.Rc} (hq : q.ok) (s : ByteArray) : ({ q with text := s } : RC.Rc).ok := ⟨hq.kind, hq.num, hq.low, hq.high, hq.real, hq.cap, hq.list⟩

theorem doR_all {P : RC.Rc × RU.Ans → Prop} {q : RC.Rc} {a : AC.Ac} (hq : ∀ c, P (q, RU.err c)) (h1 : P (a.make, RU.err 0)) (h2 : P (RC.zero, RU.err 0)) (h3 : P (q, ⟨0, q.kind, RC.zero⟩)) (h4 : P (q, ⟨0, 0, q⟩)) (h5 : P ({ q with text := a.s }, RU.err 0)) (h6 : P ({ q with text := a.s }, ⟨0, 0, q⟩)) (h7 : P ({ q with num := RU.w64 (q.num + a.n) }, RU.err 0)) (h8b : P ({ q with num := RU.w64 (q.num + a.n) }, RU.err 0)) (h10b : P ({ q with num := RU.w64 (q.num + a.n) }, RU.err 0)) (h11b : P ({ q with num := RU.w64 (q.num - a.n) }, RU.err 0)) (h13 : P ({ q with real := MF.mx q.real a.x }, RU.err 0)) (h14 : P ({ q with real := MF.mn q.real a.x }, RU.err 0)) (h15 : P ({ q with real := MF.plus q.real a.x }, RU.err 0)) (h16 : P ({ q with real := MF.times q.real a.x }, RU.err 0)) (h17 : P ({ q with real := a.x }, RU.err 0)) (h18 : P (RU.joined q a, RU.err 0)) (h19 : P (RU.left q a, RU.err 0)) (h21 : P (RU.offered q a, RU.err 0)) : P (RU.doR q a) := by
  unfold RU.doR
  by_cases k1 : a.kind = 1
  · rw [if_pos k1]; exact h1
  rw [if_neg k1]
  by_cases k2 : a.kind = 2
  · rw [if_pos k2]; exact h2
  rw [if_neg k2]
  by_cases k3 : a.kind = 3
  · rw [if_pos k3]; exact h3
  rw [if_neg k3]
  by_cases k4 : a.kind = 4
  · rw [if_pos k4]; exact h4
  rw [if_neg k4]
  by_cases k5 : a.kind = 5
  · rw [if_pos k5]; exact h5
  rw [if_neg k5]
  by_cases k6 : a.kind = 6
  · rw [if_pos k6]; exact h6
  rw [if_neg k6]
  by_cases k7 : a.kind = 7
  · rw [if_pos k7]; exact h7
  rw [if_neg k7]
  by_cases k8 : a.kind = 8
  · rw [if_pos k8]
    split
    · exact hq _
    · exact h8b
  rw [if_neg k8]
  by_cases k9 : a.kind = 9
  · rw [if_pos k9]
    split
    · exact hq _
    · exact hq _
  rw [if_neg k9]
  by_cases k10 : a.kind = 10
  · rw [if_pos k10]
    split
    · exact hq _
    · exact h10b
  rw [if_neg k10]
  by_cases k11 : a.kind = 11
  · rw [if_pos k11]
    split
    · exact hq _
    · exact h11b
  rw [if_neg k11]
  by_cases k12 : a.kind = 12
  · rw [if_pos k12]
    split
    · exact hq _
    · exact hq _
  rw [if_neg k12]
  by_cases k13 : a.kind = 13
  · rw [if_pos k13]; exact h13
  rw [if_neg k13]
  by_cases k14 : a.kind = 14
  · rw [if_pos k14]; exact h14
  rw [if_neg k14]
  by_cases k15 : a.kind = 15
  · rw [if_pos k15]; exact h15
  rw [if_neg k15]
  by_cases k16 : a.kind = 16
  · rw [if_pos k16]; exact h16
  rw [if_neg k16]
  by_cases k17 : a.kind = 17
  · rw [if_pos k17]; exact h17
  rw [if_neg k17]
  by_cases k18 : a.kind = 18
  · rw [if_pos k18]
    split
    · exact h18
    · exact hq _
  rw [if_neg k18]
  by_cases k19 : a.kind = 19
  · rw [if_pos k19]; exact h19
  rw [if_neg k19]
  by_cases k20 : a.kind = 20
  · rw [if_pos k20]
    split
    · exact hq _
    · exact hq _
  rw [if_neg k20]
  by_cases k21 : a.kind = 21
  · rw [if_pos k21]; exact h21
  rw [if_neg k21]
  exact hq 0
theorem doR_ok {q : RC.Rc} {a : AC.Ac} (h : Can q a) : (RU.doR q a).1.ok ∧ (RU.doR q a).2.rc.ok := by
  have hq := h.rok
  have ha := h.aok
  have hz := RC.zero_ok
  exact doR_all (P := fun x => x.1.ok ∧ x.2.rc.ok) (fun c => ⟨hq, hz⟩) ⟨ha.make, hz⟩ ⟨hz, hz⟩ ⟨hq, hz⟩ ⟨hq, hq⟩ ⟨text_ok hq _, hz⟩ ⟨text_ok hq _, hq⟩ ⟨num_ok hq _, hz⟩ ⟨num_ok hq _, hz⟩ ⟨num_ok hq _, hz⟩ ⟨num_ok hq _, hz⟩ ⟨real_ok hq (MF.w_mx hq.real ha.x), hz⟩ ⟨real_ok hq (MF.w_mn hq.real ha.x), hz⟩ ⟨real_ok hq (MF.w_plus _ _), hz⟩ ⟨real_ok hq (MF.w_times _ _), hz⟩ ⟨real_ok hq ha.x, hz⟩ ⟨joined_ok hq, hz⟩ ⟨left_ok hq, hz⟩ ⟨offered_ok hq ha.x, hz⟩
theorem joined_len (q : RC.Rc) (a : AC.Ac) : (RU.joined q a).list.length ≤ q.list.length + 1 := by
  unfold RU.joined
  split
  · omega
  · show (RU.lay _ _).length ≤ _
    rw [RU.lay_len]
    omega
theorem left_len (q : RC.Rc) (a : AC.Ac) : (RU.left q a).list.length ≤ q.list.length := by
  unfold RU.left
  split
  · exact RU.lose_len _ _
  · omega
theorem offered_len (q : RC.Rc) (a : AC.Ac) : (RU.offered q a).list.length ≤ q.list.length + 1 := by
  unfold RU.offered
  split
  · omega
  · split
    · show (RU.lay _ _).length ≤ _
      rw [RU.lay_len]
      omega
    · show ((RU.lay _ _).take _).length ≤ _
      rw [List.length_take, RU.lay_len]
      omega
theorem doR_len {q : RC.Rc} {a : AC.Ac} (h : Can q a) : (RU.doR q a).1.list.length ≤ 1000 ∧ (RU.doR q a).2.rc.list.length ≤ 1000 := by
  have hq := h.len
  have ha := h.made
  have hz : (0 : Nat) ≤ 1000 := Nat.zero_le _
  have hq1 : q.list.length ≤ 1000 := by omega
  have h1 := joined_len q a
  have h2 := left_len q a
  have h3 := offered_len q a
  exact doR_all (P := fun x => x.1.list.length ≤ 1000 ∧ x.2.rc.list.length ≤ 1000) (fun c => ⟨hq1, hz⟩) ⟨ha, hz⟩ ⟨hz, hz⟩ ⟨hq1, hz⟩ ⟨hq1, hq1⟩ ⟨hq1, hz⟩ ⟨hq1, hq1⟩ ⟨hq1, hz⟩ ⟨hq1, hz⟩ ⟨hq1, hz⟩ ⟨hq1, hz⟩ ⟨hq1, hz⟩ ⟨hq1, hz⟩ ⟨hq1, hz⟩ ⟨hq1, hz⟩ ⟨hq1, hz⟩ ⟨by show (RU.joined q a).list.length ≤ 1000; omega, hz⟩ ⟨by show (RU.left q a).list.length ≤ 1000; omega, hz⟩ ⟨by show (RU.offered q a).list.length ≤ 1000; omega, hz⟩

theorem apply_ok {r : RC.Rc} {there : Bool} {a : AC.Ac} (hr : r.ok) (ha : a.ok) : (RU.apply r there a).1.ok ∧ (RU.apply r there a).2.2.rc.ok := by
  unfold RU.apply
  split
  · rename_i h; exact doR_ok (can_of hr ha h)
  · exact ⟨ownR_ok hr, RC.zero_ok⟩
theorem apply_lim {r : RC.Rc} {there : Bool} {a : AC.Ac} (hr : r.ok) (ha : a.ok) (n : Lim r.list.length) : Lim (RU.apply r there a).1.list.length ∧ Lim (RU.apply r there a).2.2.rc.list.length := by
  unfold RU.apply
  split
  · rename_i h
    have h1 := doR_len (can_of hr ha h)
    constructor
    · have := h1.1; unfold Lim; show (RU.doR _ _).1.list.length < _; omega
    · have := h1.2; unfold Lim; show (RU.doR _ _).2.rc.list.length < _; omega
  · exact ⟨n.le (ownR_len r there), by unfold Lim; show (0 : Nat) < 4294967296; omega⟩

/-- Acts one behind the other: what is there behind the first i of them. -/
def RU.st (r : RC.Rc) (there : Bool) (l : List AC.Ac) : Nat → RC.Rc × Bool × List RU.Ans
  | 0 => (r, there, [])
  | i + 1 => match l[i]? with
    | none => RU.st r there l i
    | some a => ((RU.apply (RU.st r there l i).1 (RU.st r there l i).2.1 a).1, (RU.apply (RU.st r there l i).1 (RU.st r there l i).2.1 a).2.1, (RU.st r there l i).2.2 ++ [(RU.apply (RU.st r there l i).1 (RU.st r there l i).2.1 a).2.2])
theorem RU.st_next (r : RC.Rc) (there : Bool) (l : List AC.Ac) (i : Nat) (a : AC.Ac) (h : l[i]? = some a) : RU.st r there l (i + 1) = ((RU.apply (RU.st r there l i).1 (RU.st r there l i).2.1 a).1, (RU.apply (RU.st r there l i).1 (RU.st r there l i).2.1 a).2.1, (RU.st r there l i).2.2 ++ [(RU.apply (RU.st r there l i).1 (RU.st r there l i).2.1 a).2.2]) := by
  show (match l[i]? with | none => RU.st r there l i | some a => _) = _
  rw [h]

/-- An answer, and where its list lies. -/
structure An where
  x : RU.Ans
  A : Option Addr
  c : Nat
def An.cells (y : An) : List Value := (ansC y.x.code y.x.num y.x.rc y.A y.c).toList
def anCells : List An → List Value
  | [] => []
  | y :: l => y.cells ++ anCells l
theorem anCells_append : ∀ a b : List An, anCells (a ++ b) = anCells a ++ anCells b
  | [], _ => rfl
  | y :: a, b => by show y.cells ++ anCells (a ++ b) = (y.cells ++ anCells a) ++ anCells b; rw [anCells_append a b, List.append_assoc]

theorem in_row {A : Option Addr} {n c size base : Nat} {T : TypeId} {w : World} {cs : List Value} (ho : w.ownsRow base T size (.slice A n c) n cs) : ∀ k, ob A = some k → k < w.heap.size := fun k e => by
  cases A with
  | none => cases e
  | some ad => have := own_inside ho ad rfl; injection e with e; have e' : ad.block = k := e; omega

/-- How things stand behind i acts. -/
structure RwAt (r : RC.Rc) (th : Bool) (l : List AC.Ac) (w : World) (i : Nat) (q : RC.Rc) (t : Bool) (A : Option Addr) (c : Nat) (ys : List An) (B : Option Addr) (cb : Nat) (wr : World) : Prop where
  box : wr.heap[w.heap.size]? = some (.cells (recC q.kind q.num q.low q.high q.real q.cap q.text (.slice A q.list.length c)) 25 (0, 0))
  res : wr.heap[w.heap.size + 1]? = some (.cells (recC 0 0 0 0 0 0 ⟨#[]⟩ (.slice none 0 0)) 25 (0, 0))
  own : wr.ownsRow 0 49 2 (.slice A q.list.length c) q.list.length (itCells q.list)
  ans : wr.ownsRow 0 34 10 (.slice B i cb) i (anCells ys)
  its : ∀ y ∈ ys, Its wr y.A y.x.rc.list
  newA : ∀ k, ob A = some k → w.heap.size + 2 ≤ k ∧ ob B ≠ some k
  newB : ∀ k, ob B = some k → w.heap.size + 2 ≤ k
  newY : ∀ y ∈ ys, ∀ k, ob y.A = some k → w.heap.size + 2 ≤ k ∧ k < wr.heap.size ∧ ob B ≠ some k
  below : Below w.heap.size w wr
  state : RU.st r th l i = (q, t, ys.map (·.x))
  rok : q.ok
  lim : Lim q.list.length
  yok : ∀ y ∈ ys, y.x.rc.ok ∧ Lim y.x.rc.list.length
  len : ys.length = i

/-- What Row answers. -/
def RwPost (r : RC.Rc) (th : Bool) (l : List AC.Ac) (w : World) (e : Ending) (w' : World) : Prop :=
  ∃ q t A c ys B cb, e = .returned (.tuple #[recV q A c, .bool t, .slice B l.length cb]) ∧ RU.st r th l l.length = (q, t, ys.map (·.x)) ∧ ys.length = l.length ∧ w'.ownsRow 0 49 2 (.slice A q.list.length c) q.list.length (itCells q.list) ∧ w'.ownsRow 0 34 10 (.slice B l.length cb) l.length (anCells ys) ∧ (∀ y ∈ ys, Its w' y.A y.x.rc.list) ∧ q.ok ∧ Lim q.list.length ∧ (∀ y ∈ ys, y.x.rc.ok ∧ Lim y.x.rc.list.length) ∧ (∀ k, ob A = some k → w.heap.size ≤ k) ∧ (∀ k, ob B = some k → w.heap.size ≤ k) ∧ Below w.heap.size w w'

end Go.Proofs.YtofaonknfihaiaaDoor
