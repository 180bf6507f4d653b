/- Contracts of package rec: lists are read. -/
import Derived.Test.YtaaeefndhmfceaaGreatDoorRec6
namespace Go.Proofs.YtaaeefndhmfceaaGreatDoor
open Go.RowKit MM

def itCells (xs : List RC.It) : List Value := xs.flatMap fun x => [.float .f64 x.score, .string x.name]
theorem itCells_snoc (xs : List RC.It) (x : RC.It) : itCells (xs ++ [x]) = itCells xs ++ [.float .f64 x.score, .string x.name] := by simp [itCells]
theorem itCells_length (xs : List RC.It) : (itCells xs).length = xs.length * 2 := by
  induction xs with
  | nil => rfl
  | cons q l ih =>
    have : itCells (q :: l) = [.float .f64 q.score, .string q.name] ++ itCells l := by simp [itCells]
    rw [this, List.length_append, ih]
    simp
    omega
theorem itCells_get : ∀ (xs : List RC.It) (i : Nat) (x : RC.It), xs[i]? = some x → (itCells xs)[i * 2]? = some (.float .f64 x.score) ∧ (itCells xs)[i * 2 + 1]? = some (.string x.name)
  | [], i, x, h => by simp at h
  | q :: l, i, x, h => by
    have e : itCells (q :: l) = [.float .f64 q.score, .string q.name] ++ itCells l := by simp [itCells]
    rw [e]
    cases i with
    | zero =>
      simp only [List.getElem?_cons_zero, Option.some.injEq] at h
      subst h
      exact ⟨rfl, rfl⟩
    | succ i =>
      have ih := itCells_get l i x (by simpa using h)
      rw [show (i + 1) * 2 = i * 2 + 2 by omega]
      constructor
      · rw [List.getElem?_append_right (by simp)]; exact ih.1
      · rw [List.getElem?_append_right (by simp)]
        rw [show i * 2 + 2 + 1 - ([Value.float .f64 q.score, .string q.name] : List Value).length = i * 2 + 1 by simp]
        exact ih.2
theorem Its.own {w : World} {A : Option Addr} {c : Nat} {xs : List RC.It} {E : TypeId} (h : w.ownsRow 0 E 2 (.slice A xs.length c) xs.length (itCells xs)) : Its w A xs := by
  rcases h.2 with ⟨hv, h0⟩ | ⟨g, cap, cur, hv, _⟩
  · exact .inl (List.eq_nil_of_length_eq_zero h0)
  · injection hv with hA _ hc
    subst hA hc
    refine .inr ⟨g, 0, rfl, own_inside h _ rfl, fun i x hx => ?_⟩
    obtain ⟨h1, h2⟩ := itCells_get xs i x hx
    have a := h.cells (g := g) rfl (i * 2) _ h1
    have b := h.cells (g := g) rfl (i * 2 + 1) _ h2
    rw [MM.add_plain] at a b
    exact ⟨a, by rw [← Nat.add_assoc] at b; exact b⟩

theorem item_info : (Tryz.prog.info? 88).map (fun i => (i.zero, i.size, i.bytes)) = some (some (.agg #[.float .f64 0, .string ⟨#[]⟩]), 2, 24) := by kernel_rfl

/-- How many, and then these. -/
def countR (k : Nat) (l : List UInt8) : Res (List RC.It) := andR (uptoR 32 l) l fun n l2 => itsR k n l2
theorem itsR_cons {k m : Nat} {l : List UInt8} {x : RC.It} {n : Nat} (h : itR k l = .ok x n) : itsR k (m + 1) l = lift [x] n (itsR k m (l.drop n)) := by
  show andR (itR k l) l _ = _
  rw [andR_ok h]
  cases itsR k m (l.drop n) <;> rfl
theorem itsR_bad {k m : Nat} {l : List UInt8} {e n : Nat} (h : itR k l = .bad e n) : itsR k (m + 1) l = .bad e n := by
  show andR (itR k l) l _ = _
  rw [andR_bad h]

def LPost (p : Nat) (A : Option Addr) (c : Nat) (bs : List UInt8) (at_ : Nat) (r : Res (List RC.It)) (w : World) (e : Ending) (w' : World) : Prop :=
  match r with
  | .ok xs n => ∃ A' c', e = .returned (.slice A' xs.length c') ∧ w'.ownsRow 0 88 2 (.slice A' xs.length c') xs.length (itCells xs) ∧ (∀ k, ob A' = some k → w.heap.size ≤ k) ∧ Rd 5 w' p A c bs (at_ + n) ∧ Kp (fun k => k = p) w w'
  | .bad code n => e = thr 34 code (at_ + n) ∧ Rd 5 w' p A c bs (at_ + n) ∧ Kp (fun k => k = p) w w'

section
variable {p : Nat} {A : Option Addr} {c : Nat} {bs : List UInt8} {at_ m n code : Nat} {r : Res (List RC.It)} {w w' : World} {z y : Int} {xs : List RC.It}
theorem LPost.mkBad (h : r = .bad code n) (hy : y = (code : Int)) (hz : z = ((at_ + n : Nat) : Int)) (hm : m = at_ + n) (hr : Rd 5 w' p A c bs m) (hk : Kp (fun k => k = p) w w') :
    LPost p A c bs at_ r w (.panicked [{ v := .iface 34 (.agg #[.int .i64 y, .int .i64 z]), recovered := false }]) w' := by
  subst h hy hz hm
  exact ⟨rfl, hr, hk⟩
theorem LPost.mkOk {A' : Option Addr} {c' : Nat} (h : r = .ok xs n) (ho : w'.ownsRow 0 88 2 (.slice A' xs.length c') xs.length (itCells xs)) (hn : ∀ k, ob A' = some k → w.heap.size ≤ k) (hm : m = at_ + n) (hr : Rd 5 w' p A c bs m) (hk : Kp (fun k => k = p) w w') :
    LPost p A c bs at_ r w (.returned (.slice A' xs.length c')) w' := by
  subst h hm
  exact ⟨A', c', rfl, ho, hn, hr, hk⟩
end

/-- What holds at each round's head. -/
structure TakeInv (k N at0 : Nat) (bs : List UInt8) (w : World) (p : Nat) (A : Option Addr) (c : Nat) (i d : Nat) (xs : List RC.It) (A2 : Option Addr) (c2 : Nat) (wr : World) : Prop where
  spec : itsR k N (bs.drop at0) = lift xs d (itsR k (N - i) (bs.drop (at0 + d)))
  len : xs.length = i
  rd : Rd 5 wr p A c bs (at0 + d)
  own : wr.ownsRow 0 88 2 (.slice A2 xs.length c2) xs.length (itCells xs)
  new : ∀ k, ob A2 = some k → w.heap.size ≤ k
  kp : Kp (fun k => k = p) w wr
section
variable {k N at0 : Nat} {bs : List UInt8} {w wr w2 w3 : World} {p : Nat} {A A2 A3 : Option Addr} {c i d n c2 c3 : Nat} {xs : List RC.It} {x : RC.It} {o : Obj}
theorem TakeInv.own2 (hv : TakeInv k N at0 bs w p A c i d xs A2 c2 wr) (hp : p < w.heap.size) (hk : Kp (fun k => k = p) wr w2) : w2.ownsRow 0 88 2 (.slice A2 xs.length c2) xs.length (itCells xs) :=
  hk.own hv.own (fun k e x => by rw [ownBlock_slice] at e; have := hv.new k e; have x' : k = p := x; omega)
theorem TakeInv.next (hv : TakeInv k N at0 bs w p A c i d xs A2 c2 wr) (hp : p < w.heap.size) (hA : ∀ k, ob A = some k → k < w.heap.size) (hi : i < N) (hk : Kp (fun k => k = p) wr w2) (hr : Rd 5 w2 p A c bs (at0 + d + n))
    (hs : itR k (bs.drop (at0 + d)) = .ok x n) (hg : (w2.alloc o).grownBy w3 (ob A2)) (hat : ob A3 = ob A2 ∨ ob A3 = some (w2.alloc o).heap.size)
    (ho : w3.ownsRow 0 88 2 (.slice A3 (xs ++ [x]).length c3) (xs ++ [x]).length (itCells (xs ++ [x]))) : TakeInv k N at0 bs w p A c (i + 1) (d + n) (xs ++ [x]) A3 c3 w3 := by
  have hK : Kp (fun k => ob A2 = some k) w2 w3 := ((Kp.refl _ w2).alloc o).grown hg (fun k e => .inl e)
  refine ⟨?_, by rw [List.length_append, hv.len]; rfl, ?_, ho, fun k e => ?_, ?_⟩
  · rw [hv.spec, show N - i = (N - (i + 1)) + 1 by omega, itsR_cons hs, lift_lift, List.drop_drop, Nat.add_assoc]
  · rw [← Nat.add_assoc]
    exact hr.keep hK (fun e => by have := hv.new p e; omega) (fun k e x => by have := hA k e; have := hv.new k x; omega)
  · rcases hat with x | x
    · exact hv.new k (x ▸ e)
    · rw [x] at e
      injection e with e
      have e' : (w2.alloc o).heap.size = w2.heap.size + 1 := by simp
      have := hk.size
      have := hv.kp.size
      have h2 : (w2.alloc o).heap.size = k := e
      omega
  · exact (hv.kp.same hk).trans hK (fun i hi e => by have := hv.new i e; omega)
end

set_option maxHeartbeats 1000000 in
set_option maxRecDepth 100000 in
theorem takeItems_any (k : Nat) (p : Nat) (A : Option Addr) (c : Nat) (bs : List UInt8) (at_ : Nat) (w : World) (hk : k = 8 ∨ k = 9) (hr : Rd 5 w p A c bs at_) :
    Calls Tryz.prog 167 #[.pointer (some ⟨p, 0, none⟩), .int .i64 k] w (LPost p A c bs at_ (countR k (bs.drop at_)) w) := by
  obtain ⟨i0, hi0, hz0, hz1, hz2⟩ := info_parts item_info
  have hx := rupto_any p A c bs at_ 32 w rfl hr
  have Hk := Lib.hid hk
  have hp := hr.lt
  have Hin := Lib.hid (rd_in hr)
  unfold countR
  cases hU : uptoR 32 (bs.drop at_) with
  | bad e n =>
    rw [hU] at hx
    have Hx := Lib.hid hx
    clear hx hU hk
    go_enter Tryz.func167, Tryz.ntmps167
    go_wp2_with fail
    refine Hx.out.mono ?_
    rintro e w1 ⟨rfl, hr2, hk2⟩
    go_wp2
    exact ⟨rfl, LPost.mkBad (n := n) rfl rfl (by omega) rfl hr2 hk2⟩
  | ok N n0 =>
    rw [hU] at hx
    have hN : N ≤ 32 := (uptoR_one hU).2.2
    have Hx := Lib.hid hx
    rw [andR_ok rfl, List.drop_drop]
    have hN' : (N : Int) ≤ 32 := by omega
    clear hx hU hk
    go_enter Tryz.func167, Tryz.ntmps167
    go_wp2_with fail
    refine Hx.out.mono ?_
    rintro e w1 ⟨rfl, hr1, hk1⟩
    clear Hx
    go_wp2_with fail
    go_loopw [6, 10] (fun t6 t10 wr => ∃ (i d : Nat) (xs : List RC.It) (A2 : Option Addr) (c2 : Nat), t6 = .slice A2 xs.length c2 ∧ t10 = .int .i64 i ∧ i ≤ N ∧ TakeInv k N (at_ + n0) bs w p A c i d xs A2 c2 wr) (fun _ t10 _ => N - (intOf t10).toNat)
    case atStart => exact ⟨0, 0, [], none, 0, rfl, rfl, Nat.zero_le _, ⟨by rw [lift_nil]; rfl, rfl, hr1, World.ownsRow_nil _ _ _ _, (fun k e => by cases e), hk1⟩⟩
    case round =>
      obtain ⟨i, d, xs, A2, c2, rfl, rfl, hi, hv⟩ := hrel
      by_cases hlt : i < N
      · have hy := takeItem_any k p A c bs (at_ + n0 + d) wr Hk.out hv.rd
        have hi1 : (i : Int) < (N : Int) := by omega
        have HV := Lib.hid hv
        cases hI : itR k (bs.drop (at_ + n0 + d)) with
        | bad e n =>
          rw [hI] at hy
          have hsp := hv.spec
          rw [show N - i = (N - (i + 1)) + 1 by omega, itsR_bad hI] at hsp
          have Hy := Lib.hid hy
          have Hsp := Lib.hid (show itsR k N (bs.drop (at_ + n0)) = .bad e (d + n) from hsp)
          clear hy hI hsp hv
          go_wp2_with fail
          refine Hy.out.mono ?_
          rintro e w2 ⟨rfl, hr2, hk2⟩
          go_wp2
          exact ⟨rfl, LPost.mkBad (n := n0 + (d + n)) (by rw [Hsp.out]; rfl) rfl (by omega) (by omega) hr2 (HV.out.kp.same hk2)⟩
        | ok x n =>
          rw [hI] at hy
          have HI := Lib.hid hI
          obtain ⟨s, t⟩ := x
          have Hy := Lib.hid (show Calls Tryz.prog 174 #[.pointer (some ⟨p, 0, none⟩), .int .i64 k] wr (fun e w' => e = .returned (.agg #[.float .f64 s, .string t]) ∧ Rd 5 w' p A c bs (at_ + n0 + d + n) ∧ Kp (fun k => k = p) wr w') from hy)
          have Hone := Lib.hid (show ∀ u ∈ [Value.float .f64 s, .string t], u.oneCell' = true from by intro u hu; simp at hu; rcases hu with rfl | rfl <;> rfl)
          have hl1 : Lim (xs.length + 1) := by have := hv.len; unfold Lim; omega
          clear hy hI hv
          go_wp2_with fail
          refine Hy.out.mono ?_
          rintro e w2 ⟨rfl, hr2, hk2⟩
          have ho2 := HV.out.own2 hp hk2
          clear Hy
          go_wp2_with (first
            | (at_builtin
               refine wpList_append_at rfl (.tmp 12) (.tmp 16) _ _ rfl 88 i0 _ 2 24 Tryz.underlying23 hi0 hz0 hz1 hz2 rfl A2 xs.length c2 (itCells xs) rfl (ho2.alloc _) _ 1 _ rfl (src_new Tryz.underlying23 _ _ rfl Hone.out) hl1.len (hl1.fit 24 (by omega)) ?_
               intro A3 c3 w3 ho3 hg3 hat3))
          go_roundw
          case rel =>
            have hlen : (xs ++ [(⟨s, t⟩ : RC.It)]).length = xs.length + 1 := by simp
            refine ⟨i + 1, d + n, xs ++ [⟨s, t⟩], A3, c3, by rw [hlen], by go_num, by omega, ?_⟩
            exact HV.out.next hp Hin.out hlt hk2 hr2 HI.out hg3 hat3 (by rw [hlen, itCells_snoc]; exact ho3)
          case measure => simp [intOf]; omega
      · have hi' : i = N := by omega
        subst hi'
        have hsp := hv.spec
        rw [Nat.sub_self] at hsp
        have Hsp := Lib.hid (show itsR k i (bs.drop (at_ + n0)) = .ok xs d from hsp.trans (by show Res.ok (xs ++ []) (d + 0) = _; simp))
        have HV := Lib.hid hv
        clear hsp hv
        go_wp2
        go_ret
        exact LPost.mkOk (n := n0 + d) (by rw [Hsp.out]; rfl) HV.out.own HV.out.new (by omega) HV.out.rd HV.out.kp

end Go.Proofs.YtaaeefndhmfceaaGreatDoor
