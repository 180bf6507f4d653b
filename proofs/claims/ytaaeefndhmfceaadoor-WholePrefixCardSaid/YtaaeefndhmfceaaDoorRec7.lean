/- Contracts of package rec: lists are read. -/
import Derived.Test.YtaaeefndhmfceaaDoorRec6
namespace Go.Proofs.YtaaeefndhmfceaaDoor
open Go.RowKit MM

def itCells (xs : List RC.It) : List Value := xs.flatMap fun x => [.float .f64 x.score, .string x.name]
theorem itCells_snoc (xs : List RC.It) (x : RC.It) : itCells (xs ++ [x]) = itCells xs ++ [.float .f64 x.score, .string x.name] := by simp [itCells]
theorem itCells_length (xs : List RC.It) : (itCells xs).length = xs.length * 2 := by
  induction xs with
  | nil => rfl
  | cons q l ih =>
    have : itCells (q :: l) = [.float .f64 q.score, .string q.name] ++ itCells l := by simp [itCells]
    rw [this, List.length_append, ih]
    simp
    omega
theorem itCells_get : ∀ (xs : List RC.It) (i : Nat) (x : RC.It), xs[i]? = some x → (itCells xs)[i * 2]? = some (.float .f64 x.score) ∧ (itCells xs)[i * 2 + 1]? = some (.string x.name)
  | [], i, x, h => by simp at h
  | q :: l, i, x, h => by
    have e : itCells (q :: l) = [.float .f64 q.score, .string q.name] ++ itCells l := by simp [itCells]
    rw [e]
    cases i with
    | zero =>
      simp only [List.getElem?_cons_zero, Option.some.injEq] at h
      subst h
      exact ⟨rfl, rfl⟩
    | succ i =>
      have ih := itCells_get l i x (by simpa using h)
      rw [show (i + 1) * 2 = i * 2 + 2 by omega]
      constructor
      · rw [List.getElem?_append_right (by simp)]; exact ih.1
      · rw [List.getElem?_append_right (by simp)]
        rw [show i * 2 + 2 + 1 - ([Value.float .f64 q.score, .string q.name] : List Value).length = i * 2 + 1 by simp]
        exact ih.2
theorem Its.own {w : World} {A : Option Addr} {c : Nat} {xs : List RC.It} {E : TypeId} (h : w.ownsRow 0 E 2 (.slice A xs.length c) xs.length (itCells xs)) : Its w A xs := by
  rcases h.2 with ⟨hv, h0⟩ | ⟨g, cap, cur, hv, _⟩
  · exact .inl (List.eq_nil_of_length_eq_zero h0)
  · injection hv with hA _ hc
    subst hA hc
    refine .inr ⟨g, 0, rfl, own_inside h _ rfl, fun i x hx => ?_⟩
    obtain ⟨h1, h2⟩ := itCells_get xs i x hx
    have a := h.cells (g := g) rfl (i * 2) _ h1
    have b := h.cells (g := g) rfl (i * 2 + 1) _ h2
    rw [MM.add_plain] at a b
    exact ⟨a, by rw [← Nat.add_assoc] at b; exact b⟩

theorem item_info : (Tryd.prog.info? 49).map (fun i => (i.zero, i.size, i.bytes)) = some (some (.agg #[.float .f64 0, .string ⟨#[]⟩]), 2, 24) := by kernel_rfl

/-- How many, and then these. -/
def countR (k : Nat) (l : List UInt8) : Res (List RC.It) := andR (uptoR 32 l) l fun n l2 => itsR k n l2
theorem itsR_cons {k m : Nat} {l : List UInt8} {x : RC.It} {n : Nat} (h : itR k l = .ok x n) : itsR k (m + 1) l = lift [x] n (itsR k m (l.drop n)) := by
  show andR (itR k l) l _ = _
  rw [andR_ok h]
  cases itsR k m (l.drop n) <;> rfl
theorem itsR_bad {k m : Nat} {l : List UInt8} {e n : Nat} (h : itR k l = .bad e n) : itsR k (m + 1) l = .bad e n := by
  show andR (itR k l) l _ = _
  rw [andR_bad h]

/-- What holds at each round's head. -/
structure TakeInv (k N at0 : Nat) (bs : List UInt8) (w : World) (p : Nat) (A : Option Addr) (c : Nat) (i d : Nat) (xs : List RC.It) (A2 : Option Addr) (c2 : Nat) (wr : World) : Prop where
  spec : itsR k N (bs.drop at0) = lift xs d (itsR k (N - i) (bs.drop (at0 + d)))
  len : xs.length = i
  rd : Rd 5 wr p A c bs (at0 + d)
  own : wr.ownsRow 0 49 2 (.slice A2 xs.length c2) xs.length (itCells xs)
  new : ∀ k, ob A2 = some k → w.heap.size ≤ k
  kp : Kp (fun k => k = p) w wr
section
variable {k N at0 : Nat} {bs : List UInt8} {w wr w2 w3 : World} {p : Nat} {A A2 A3 : Option Addr} {c i d n c2 c3 : Nat} {xs : List RC.It} {x : RC.It} {o : Obj}
theorem TakeInv.own2 (hv : TakeInv k N at0 bs w p A c i d xs A2 c2 wr) (hp : p < w.heap.size) (hk : Kp (fun k => k = p) wr w2) : w2.ownsRow 0 49 2 (.slice A2 xs.length c2) xs.length (itCells xs) :=
  hk.own hv.own (fun k e x => by rw [ownBlock_slice] at e; have := hv.new k e; have x' : k = p := x; omega)
theorem TakeInv.next (hv : TakeInv k N at0 bs w p A c i d xs A2 c2 wr) (hp : p < w.heap.size) (hA : ∀ k, ob A = some k → k < w.heap.size) (hi : i < N) (hk : Kp (fun k => k = p) wr w2) (hr : Rd 5 w2 p A c bs (at0 + d + n))
    (hs : itR k (bs.drop (at0 + d)) = .ok x n) (hg : (w2.alloc o).grownBy w3 (ob A2)) (hat : ob A3 = ob A2 ∨ ob A3 = some (w2.alloc o).heap.size)
    (ho : w3.ownsRow 0 49 2 (.slice A3 (xs ++ [x]).length c3) (xs ++ [x]).length (itCells (xs ++ [x]))) : TakeInv k N at0 bs w p A c (i + 1) (d + n) (xs ++ [x]) A3 c3 w3 := by
  have hK : Kp (fun k => ob A2 = some k) w2 w3 := ((Kp.refl _ w2).alloc o).grown hg (fun k e => .inl e)
  refine ⟨?_, by rw [List.length_append, hv.len]; rfl, ?_, ho, fun k e => ?_, ?_⟩
  · rw [hv.spec, show N - i = (N - (i + 1)) + 1 by omega, itsR_cons hs, lift_lift, List.drop_drop, Nat.add_assoc]
  · rw [← Nat.add_assoc]
    exact hr.keep hK (fun e => by have := hv.new p e; omega) (fun k e x => by have := hA k e; have := hv.new k x; omega)
  · rcases hat with x | x
    · exact hv.new k (x ▸ e)
    · rw [x] at e
      injection e with e
      have e' : (w2.alloc o).heap.size = w2.heap.size + 1 := by simp
      have := hk.size
      have := hv.kp.size
      have h2 : (w2.alloc o).heap.size = k := e
      omega
  · exact (hv.kp.same hk).trans hK (fun i hi e => by have := hv.new i e; omega)
end

end Go.Proofs.YtaaeefndhmfceaaDoor
