/- Contracts of package rec: items are read. -/
import Derived.Test.YtaaeefndhmfceaaDoorRec4
import Derived.Test.YtaaeefndhmfceaaDoorRec5
import Derived.Test.YtaaeefndhmfceaaDoorRcR
namespace Go.Proofs.YtaaeefndhmfceaaDoor
open Go.RowKit MM

/-- A record's kind. -/
def kindR (l : List UInt8) : Res Nat := andR (uptoR 9 l) l fun k _ => if k = 0 then .bad 5 0 else .ok k 0
theorem recR_kind (l : List UInt8) : recR l = andR (kindR l) l fun k l1 => andR (fieldR k l1) l1 fun r _ => endC r := by
  unfold recR kindR
  cases h : uptoR 9 l with
  | bad e n => rfl
  | ok k n =>
    rw [andR_ok rfl, andR_ok rfl]
    unfold bodyR
    by_cases hk : k = 0
    · rw [if_pos hk, if_pos hk]; rfl
    · rw [if_neg hk, if_neg hk]; rfl

/-- Blocks that were laid just ahead of a call that reads are there behind it. -/
theorem lt_of_heap {w : World} {k : Nat} {o : Obj} (h : w.heap[k]? = some o) : k < w.heap.size := (Array.getElem?_eq_some_iff.1 h).1
theorem rd_new {p : Nat} {w w1 : World} {o : Obj} (hk : Kp (fun k => k = p) (w.alloc o) w1) (hp : p < w.heap.size) : w1.heap[w.heap.size]? = some o :=
  (hk.block _ (by simp) (by omega)).trans (heap_alloc_new w o)
theorem rd_out {A : Option Addr} {c : Nat} {bs : List UInt8} {m p B : Nat} {w w' : World} (h : Rd 5 w p A c bs m) (hp : p < B) (hA : ∀ k, ob A = some k → k < B) (hk : Kp (fun k => B ≤ k) w w') : Rd 5 w' p A c bs m :=
  h.keep hk (by omega) (fun k e x => by have := hA k e; omega)
theorem rd_in {A : Option Addr} {c : Nat} {bs : List UInt8} {m p : Nat} {w : World} (h : Rd 5 w p A c bs m) : ∀ k, ob A = some k → k < w.heap.size := by
  intro k e
  cases A with
  | none => cases e
  | some ad =>
    have := own_inside h.own ad rfl
    injection e with e
    have e' : ad.block = k := e
    omega

end Go.Proofs.YtaaeefndhmfceaaDoor
