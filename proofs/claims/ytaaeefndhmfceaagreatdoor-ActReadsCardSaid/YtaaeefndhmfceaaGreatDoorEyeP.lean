/- Contracts of the document's own answers for layer 2: an eye that reads parts. -/
import Derived.Test.YtaaeefndhmfceaaGreatDoorPkE
import Derived.Test.YtaaeefndhmfceaaGreatDoorRec6
import Derived.Test.YtaaeefndhmfceaaGreatDoorRef3a
import Derived.Deep.RegionHeld3
namespace Go.Proofs.YtaaeefndhmfceaaGreatDoor
open Go.RowKit MM

theorem slice_from (A : Option Addr) (n c lo : Nat) (h1 : lo ≤ n) (w : World) : (Instr.slice 30 (.slice A n c) (some (.int .i64 (lo : Int))) none none).run Tryz.prog w = .ok (.slice (cutA A lo c) (n - lo) (c - lo)) w := by
  have h1' : (lo : Int) ≤ (n : Int) := by omega
  have h0 : (0 : Int) ≤ (lo : Int) := by omega
  go_simp
  rfl
def Res.nn {α : Type} : Res α → Nat
  | .ok _ n => n
  | .bad _ n => n
def Res.ee {α : Type} : Res α → Nat
  | .ok _ _ => 0
  | .bad e _ => e
/-- What First answers, whether it is well or not. -/
def FAll (r : Res PK.Pt) (W : World) (e : Ending) (w' : World) : Prop :=
  Below W.heap.size W w' ∧ ∃ k u i q t b, (∀ pt n, r = .ok pt n → (⟨k, u, i, q, t, b⟩ : PK.Rp) = PK.plainP pt) ∧ e = .returned (.tuple #[.agg #[.int .u8 (k : Nat), .int .u64 (u : Nat), .int .i64 i, .int .u64 (q : Nat), .string t, .bool b], .int .i64 (Res.nn r : Nat), .int .i64 (Res.ee r : Nat)])
theorem FPost.all {r : Res PK.Pt} {W w' : World} {e : Ending} (h : FPost r W e w') : FAll r W e w' := by
  cases r with
  | ok pt n =>
    obtain ⟨hb, rfl⟩ := h
    refine ⟨hb, (PK.plainP pt).k, (PK.plainP pt).u, (PK.plainP pt).i, (PK.plainP pt).p, (PK.plainP pt).s, (PK.plainP pt).b, ?_, rfl⟩
    intro pt' n' e
    injection e with e1 e2
    subst e1
    rfl
  | bad code n =>
    obtain ⟨hb, x, rfl⟩ := h
    exact ⟨hb, x.k, x.u, x.i, x.p, x.s, x.b, (fun _ _ e => by cases e), rfl⟩
theorem numR_bad_le {l : List UInt8} {e n : Nat} (h : numR l = .bad e n) : n ≤ l.length := by
  unfold numR at h
  split at h
  · cases h
  · rename_i x y e hne hx
    injection h with h1 h2
    subst h1 h2
    have := PK.numL_len _ _ _ _ _ _ hx
    omega
theorem partR_bad_le {k : Nat} {m : Int} {l : List UInt8} {e n : Nat} (h : partR k m l = .bad e n) : n ≤ l.length := by
  unfold partR at h
  repeat' split at h
  · cases hr : numR l with
    | ok x j => rw [hr] at h; cases h
    | bad e j => rw [hr] at h; injection h with h1 h2; subst h2; exact numR_bad_le hr
  · cases hr : numR l with
    | ok x j => rw [hr] at h; cases h
    | bad e j => rw [hr] at h; injection h with h1 h2; subst h2; exact numR_bad_le hr
  · unfold floR at h
    repeat' split at h
    · injection h with h1 h2; omega
    · cases h
    · injection h with h1 h2; omega
  · cases hr : numR l with
    | ok x j =>
      have hj := (numR_len hr).2
      rw [txtR_of hr] at h
      repeat' split at h
      · injection h with h1 h2; omega
      · injection h with h1 h2; omega
      · cases h
    | bad e j => rw [txtR_bad hr] at h; injection h with h1 h2; subst h2; exact numR_bad_le hr
  · cases l with
    | nil => injection h with h1 h2; omega
    | cons x l =>
      unfold flagR at h
      repeat' split at h
      · rename_i hh; cases hh
      · injection h with h1 h2; simp; omega
      · cases h
  · injection h with h1 h2; omega
theorem first_at (A : Option Addr) (c n : Nat) (xs : List UInt8) (k : Nat) (m : Int) (r : Res PK.Pt) (w : World) (hb : Bts w A xs) (hl : Lim xs.length) (hcap : xs.length ≤ c) (hm : (Lit.int .i64 m).wf = true) (hn : xs.length = n) (hr : partR k m xs = r) :
    Calls Tryz.prog 150 #[.slice A n c, .int .u8 k, .int .i64 m] w (FAll r w) := by
  subst hn hr
  exact (first_any A c xs k m w hb hl hcap hm).mono fun _ _ h => h.all

theorem numR_bad_pos {l : List UInt8} {e n : Nat} (h : numR l = .bad e n) : 0 < e := by
  unfold numR at h
  split at h
  · cases h
  · rename_i x y e hne hx
    injection h with h1 h2
    subst h1
    exact Nat.pos_of_ne_zero (fun e0 => by subst e0; exact hne rfl)
theorem partR_bad_pos {k : Nat} {m : Int} {l : List UInt8} {e n : Nat} (h : partR k m l = .bad e n) : 0 < e := by
  unfold partR at h
  repeat' split at h
  · cases hr : numR l with
    | ok x j => rw [hr] at h; cases h
    | bad e j => rw [hr] at h; injection h with h1 h2; subst h1; exact numR_bad_pos hr
  · cases hr : numR l with
    | ok x j => rw [hr] at h; cases h
    | bad e j => rw [hr] at h; injection h with h1 h2; subst h1; exact numR_bad_pos hr
  · unfold floR at h
    repeat' split at h
    · injection h with h1 h2; omega
    · cases h
    · injection h with h1 h2; omega
  · cases hr : numR l with
    | ok x j =>
      rw [txtR_of hr] at h
      repeat' split at h
      · injection h with h1 h2; omega
      · injection h with h1 h2; omega
      · cases h
    | bad e j => rw [txtR_bad hr] at h; injection h with h1 h2; subst h1; exact numR_bad_pos hr
  · cases l with
    | nil => injection h with h1 h2; omega
    | cons x l =>
      unfold flagR at h
      repeat' split at h
      · rename_i hh; cases hh
      · injection h with h1 h2; omega
      · cases h
  · injection h with h1 h2; omega

/-- An eye: where it lies, what it reads, how far it is, and what was wrong. -/
structure Ey (w : World) (p : Nat) (A : Option Addr) (c : Nat) (bs : List UInt8) (at_ E : Nat) : Prop where
  row : w.heap[p]? = some (.cells #[.slice A bs.length c, .int .i64 at_, .int .i64 E] 77 (0, 0))
  bts : Bts w A bs
  ne : bs ≠ [] → ∀ ad, A = some ad → ad.block ≠ p
  cap : bs.length ≤ c
  le : at_ ≤ bs.length
  lim : Lim bs.length
theorem Ey.below {w w' : World} {p : Nat} {A : Option Addr} {c : Nat} {bs : List UInt8} {at_ E : Nat} (h : Ey w p A c bs at_ E) (hb : Below w.heap.size w w') : Ey w' p A c bs at_ E :=
  ⟨(hb.block _ (lt_of_heap h.row)).trans h.row, h.bts.below hb, h.ne, h.cap, h.le, h.lim⟩
theorem Bts.set {w w' : World} {p : Nat} {A : Option Addr} {bs : List UInt8} (h : Bts w A bs) (hne : bs ≠ [] → ∀ ad, A = some ad → ad.block ≠ p) (hk : Kp (fun k => k = p) w w') : Bts w' A bs := by
  by_cases hb : bs = []
  · subst hb; exact Bts.nil A
  · exact h.kp hk (fun ad e => hne hb ad e)

theorem akeep {w : World} {a : Addr} {v : Value} (h : w.cell? a = some v) (o : Obj) : (w.alloc o).cell? a = some v := below_keep (below1 w o) h

theorem far6 {w : World} {g : Nat} {a : Addr} {v c0 c1 c2 c3 c4 c5 : Value} (h : w.cell? a = some v) (hn : a.block ≠ g) : ((((((w.setCell ⟨g, 0, none⟩ c0).setCell ⟨g, 1, none⟩ c1).setCell ⟨g, 2, none⟩ c2).setCell ⟨g, 3, none⟩ c3).setCell ⟨g, 4, none⟩ c4).setCell ⟨g, 5, none⟩ c5).cell? a = some v := by
  refine Kp.cell (S := fun k => k = g) ?_ h hn
  iterate 6 refine Kp.setCell ?_ (Or.inl (by exact rfl)) _
  exact Kp.refl _ _
theorem below6 {B : Nat} {w0 w : World} {g : Nat} {c0 c1 c2 c3 c4 c5 : Value} (h : Below B w0 w) (hg : B ≤ g) : Below B w0 ((((((w.setCell ⟨g, 0, none⟩ c0).setCell ⟨g, 1, none⟩ c1).setCell ⟨g, 2, none⟩ c2).setCell ⟨g, 3, none⟩ c3).setCell ⟨g, 4, none⟩ c4).setCell ⟨g, 5, none⟩ c5) := by
  iterate 6 refine Below.setCell ?_ hg _
  exact h

/-- The part that comes next, and how the eye then stands. -/
def zeroRp : PK.Rp := ⟨0, 0, 0, 0, ⟨#[]⟩, false⟩
def PtPost (p : Nat) (A : Option Addr) (c : Nat) (bs : List UInt8) (at_ : Nat) (r : Res PK.Pt) (w : World) (e : Ending) (w' : World) : Prop :=
  Kp (fun k => k = p) w w' ∧ match r with
  | .ok pt n => (∃ k u i q t b, (⟨k, u, i, q, t, b⟩ : PK.Rp) = PK.plainP pt ∧ e = .returned (.agg #[.int .u8 (k : Nat), .int .u64 (u : Nat), .int .i64 i, .int .u64 (q : Nat), .string t, .bool b])) ∧ Ey w' p A c bs (at_ + n) 0
  | .bad code n => e = .returned (.agg #[.int .u8 0, .int .u64 0, .int .i64 0, .int .u64 0, .string ⟨#[]⟩, .bool false]) ∧ Ey w' p A c bs (at_ + n) code

set_option maxHeartbeats 1000000 in
set_option maxRecDepth 100000 in
/-- Where something was wrong ahead nothing more is read. -/
theorem epart_no (p : Nat) (A : Option Addr) (c : Nat) (bs : List UInt8) (at_ E : Nat) (k : Nat) (m : Int) (w : World) (hE : 0 < E) (he : Ey w p A c bs at_ E) :
    Calls Tryz.prog 87 #[.pointer (some ⟨p, 0, none⟩), .int .u8 k, .int .i64 m] w fun e w' => e = .returned (.agg #[.int .u8 0, .int .u64 0, .int .i64 0, .int .u64 0, .string ⟨#[]⟩, .bool false]) ∧ Below w.heap.size w w' := by
  have c0 := fun o => cell_of_row w _ o _ _ (0, 0) he.row
  have hlt := lt_of_heap he.row
  have hE' : ((E : Int) != 0) = true := by simp; omega
  clear he
  go_enter Tryz.func87, Tryz.ntmps87
  go_wp2_with fail
  exact bodyPost_ret (v := .agg #[.int .u8 0, .int .u64 0, .int .i64 0, .int .u64 0, .string ⟨#[]⟩, .bool false]) (by simp [results, Tryz.results87, go_sem]) rfl ⟨rfl, below1 w _⟩

end Go.Proofs.YtaaeefndhmfceaaGreatDoor
