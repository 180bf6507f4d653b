/- Contracts of the document's own answers for layer 2: parts as bytes. -/
import Derived.Test.YtmfjacehompmmaaRef02b
import Derived.Lib.ConvBytes
import Derived.Deep.RegionLaw
namespace PK
open Go

/-- A part of the document's: a floating number by its place. -/
structure Rp where
  k : Nat
  u : Nat
  i : Int
  p : Nat
  s : ByteArray
  b : Bool
structure Rp.ok (q : Rp) : Prop where
  k : q.k < 256
  u : MF.W64 q.u
  i : (Lit.int .i64 q.i).wf = true
  p : MF.W64 q.p
def Rp.cells (q : Rp) : Array Value := #[.int .u8 q.k, .int .u64 q.u, .int .i64 q.i, .int .u64 q.p, .string q.s, .bool q.b]
/-- It as bytes. -/
def refB (q : Rp) : List UInt8 :=
  if q.k = 117 then digits q.u else if q.k = 105 then digits (zig q.i) else if q.k = 102 then placeB q.p else if q.k = 115 then textB q.s.data.toList else if q.k = 98 then flagB q.b else []
def refsB : List Rp → List UInt8
  | [] => []
  | q :: l => refB q ++ refsB l
theorem refsB_append (a b : List Rp) : refsB (a ++ b) = refsB a ++ refsB b := by
  induction a with
  | nil => rfl
  | cons p l ih => simp [refsB, ih]
theorem refsB_take (l : List Rp) (i : Nat) (h : i < l.length) : refsB (l.take (i + 1)) = refsB (l.take i) ++ refB l[i] := by
  rw [List.take_succ_eq_append_getElem h, refsB_append]; simp [refsB]
theorem refsB_le (l : List Rp) (i : Nat) : (refsB (l.take i)).length ≤ (refsB l).length := by
  have := congrArg List.length (refsB_append (l.take i) (l.drop i))
  rw [List.take_append_drop, List.length_append] at this
  omega
/-- A part as the document's, without what its kind doesn't have. -/
def plainP (q : Pt) : Rp := ⟨q.k, if q.k = 117 then q.u else 0, if q.k = 105 then q.i else 0, if q.k = 102 then MF.key q.f else 0, if q.k = 115 then q.s else ⟨#[]⟩, if q.k = 98 then q.b else false⟩
theorem refB_plain (q : Pt) : refB (plainP q) = partB q := by
  unfold refB plainP partB
  by_cases h1 : q.k = 117
  · simp [h1]
  by_cases h2 : q.k = 105
  · simp [h2]
  by_cases h3 : q.k = 102
  · simp [h3]
  by_cases h4 : q.k = 115
  · simp [h4]
  by_cases h5 : q.k = 98
  · simp [h5]
  simp [h1, h2, h3, h4, h5]
theorem refsB_plain (l : List Pt) : refsB (l.map plainP) = partsB l := by
  induction l with
  | nil => rfl
  | cons q l ih => simp [refsB, partsB, ih, refB_plain]
end PK
namespace Go.Proofs.Ytmfjacehompmmaa
open Go.RowKit MM

theorem below_bw (w : World) (e : TypeId) (s : ByteArray) : Below w.heap.size w (Lib.bytesWorld w e s) :=
  ⟨rfl, rfl, rfl, by rw [Lib.bytesWorld_size]; omega, fun j hj => Lib.bytesWorld_at_old w e s j hj⟩
theorem bw_keep {w : World} {e : TypeId} {s : ByteArray} {a : Addr} {v : Value} (h : w.cell? a = some v) : (Lib.bytesWorld w e s).cell? a = some v :=
  (Lib.bytesWorld_old w e s a (World.block_lt_of_cell? w a h)).trans h
theorem below_keep {w w' : World} {a : Addr} {v : Value} (hb : Below w.heap.size w w') (h : w.cell? a = some v) : w'.cell? a = some v :=
  (hb.cell (World.block_lt_of_cell? w a h)).trans h
theorem bts_bw (w : World) (e : TypeId) (s : ByteArray) : Bts (Lib.bytesWorld w e s) (some ⟨w.heap.size, 0, none⟩) s.data.toList := by
  intro j v hv
  have hj : j < s.data.toList.length := by
    have := (List.getElem?_eq_some_iff.1 hv).1
    rwa [bc_length] at this
  rw [bc_get _ j hj] at hv
  injection hv with hv
  subst hv
  rw [MM.add_plain, Nat.zero_add, Lib.bytesWorld_cell w e s j (by rwa [sz_list] at hj)]
  rw [List.getD_eq_getElem?_getD, List.getElem?_eq_getElem hj]
  rfl
theorem src_bw {tx e' : TypeId} (hk : Try.prog.underlying tx = some (.slice e')) (w : World) (e : TypeId) (s : ByteArray) (c : Nat) : Src Try.prog 1 tx (.slice (some ⟨w.heap.size, 0, none⟩) s.size c) s.size (bc s.data.toList) (Lib.bytesWorld w e s) :=
  (bts_bw w e s).src (c := c) hk (by simp)

theorem src_bw2 {tx e' : TypeId} (hk : Try.prog.underlying tx = some (.slice e')) (w : World) (e : TypeId) (s : ByteArray) (c : Nat) {w1 : World} (hb : Below (Lib.bytesWorld w e s).heap.size (Lib.bytesWorld w e s) w1) : Src Try.prog 1 tx (.slice (some ⟨w.heap.size, 0, none⟩) s.size c) s.size (bc s.data.toList) w1 :=
  ((bts_bw w e s).below hb).src (c := c) hk (by simp)

set_option maxHeartbeats 400000 in
set_option maxRecDepth 100000 in
theorem rone_text (u : Nat) (i : Int) (p : Nat) (s : ByteArray) (b : Bool) (w : World) (hl : Lim (PK.textB s.data.toList).length) :
    Calls Try.prog 41 #[.agg #[.int .u8 115, .int .u64 u, .int .i64 i, .int .u64 p, .string s, .bool b]] w (FreshB (PK.textB s.data.toList) w) := by
  obtain ⟨i0, hi0, hz0, hz1, hz2⟩ := info_parts byte_info
  have hcvs : ∀ w : World, (convert 9 26 (.string s)).run Try.prog w = .ok (.slice (some ⟨w.heap.size, 0, none⟩) s.size (grownCap w s.size 0 5)) (Lib.bytesWorld w 5 s) :=
    fun w => Lib.run_convert_string_bytes w 9 26 5 s Try.underlying9 Try.underlying26 Try.underlying5
  have hlt : (PK.textB s.data.toList).length = (PK.digits s.size).length + s.size := by unfold PK.textB; rw [List.length_append]; rfl
  have hw : MF.W64 s.size := by unfold MF.W64; unfold Lim at hl; omega
  have hlim : Lim ((PK.digits s.size).length + s.size) := by rw [← hlt]; exact hl
  have hs32 : (s.size : Int) < 4294967296 := by unfold Lim at hlim; omega
  have Hw := Lib.hid hw
  have hwr : IntKind.u64.wrap (s.size : Int) = (s.size : Int) := by rw [IntKind.wrap_u64]; unfold MF.W64 at hw; omega
  clear hl hlt hw
  go_enter Try.func41, Try.ntmps41
  go_wp2
  obtain ⟨w0, hw0⟩ : ∃ w0, w0 = w.alloc (.cells #[.int .u8 115, .int .u64 u, .int .i64 i, .int .u64 p, .string s, .bool b] 60) := ⟨_, rfl⟩
  rw [← hw0]
  have hc4 : w0.cell? ⟨w.heap.size, 4, none⟩ = some (.string s) := by rw [hw0]; exact (cell_of_row _ _ 4 _ _ (0, 0) (heap_alloc_new w _)).trans rfl
  have hbw : Below w.heap.size w w0 := by rw [hw0]; exact (Below.refl _ w).alloc (Nat.le_refl _) _
  have hsz : w0.heap.size = w.heap.size + 1 := by rw [hw0]; simp
  have hlt0 : w.heap.size < w0.heap.size := by omega
  clear hw0
  have hc4d : w0.drew.cell? ⟨w.heap.size, 4, none⟩ = some (.string s) := hc4
  have hc4b := bw_keep (e := 5) (s := s) hc4d
  go_region_law (first
      | (refine step_append_at rfl (.tmp 29) (.tmp 32) _ _ rfl 5 i0 _ 1 1 Try.underlying26 hi0 hz0 hz1 hz2 rfl A1 (PK.digits s.size).length c1 (bc (PK.digits s.size)) (by simp [Act.eval]) (own_below ho1 (below_bw _ _ _)) _ s.size _ (by simp [Act.eval]) (src_bw Try.underlying26 _ _ _ (grownCap w1 s.size 0 5)) hlim.len hlim.fits ?_; intro A2 c2 w2 ho2 hg2 hat2)
      | (refine step_append_at rfl (.tmp 29) (.tmp 32) _ _ rfl 5 i0 _ 1 1 Try.underlying26 hi0 hz0 hz1 hz2 rfl A1 (PK.digits s.size).length c1 (bc (PK.digits s.size)) (by simp [Act.eval]) (ho1) _ s.size _ (by simp [Act.eval]) (src_bw2 Try.underlying26 _ _ _ (grownCap w0.drew s.size 0 5) hb1) hlim.len hlim.fits ?_; intro A2 c2 w2 ho2 hg2 hat2)
      | (go_simp; go_at_call 61; refine (rdigits_any s.size _ Hw.out).mono ?_; rintro e w1 ⟨A1, c1, rfl, ho1, hn1, hb1⟩; have hc41 : w1.cell? ⟨w.heap.size, 4, none⟩ = some (.string s) := below_keep hb1 (by assumption)))
  all_goals
    have hkd : Kp (fun _ => False) w w0.drew := (Kp.of_below hbw _).drew
    have hsd : w.heap.size ≤ w0.drew.heap.size := hkd.size
    have hkb : Kp (fun _ => False) w (Lib.bytesWorld w0.drew 5 s) := hkd.trans (Kp.of_below (below_bw w0.drew 5 s) (fun _ => False)) (fun _ _ x => x)
    have hsb : w.heap.size ≤ (Lib.bytesWorld w0.drew 5 s).heap.size := hkb.size
    have hlen : (PK.digits s.size).length + s.size = (PK.textB s.data.toList).length := by unfold PK.textB; rw [List.length_append]; rfl
    have hbc : bc (PK.digits s.size) ++ bc s.data.toList = bc (PK.textB s.data.toList) := by unfold PK.textB; rw [bc_append]; rfl
    have hk2 : Kp (fun _ => False) w w2 := by
      first
        | exact ((hkd.trans (Kp.of_below hb1 (fun _ => False)) (fun _ _ x => x)).trans (Kp.of_below (below_bw w1 5 s) (fun _ => False)) (fun _ _ x => x)).grown hg2 (fun k e => .inr (Nat.le_trans hsd (hn1 k e)))
        | exact (hkb.trans (Kp.of_below hb1 (fun _ => False)) (fun _ _ x => x)).grown hg2 (fun k e => .inr (Nat.le_trans hsb (hn1 k e)))
    clear hc4 hc4d hc4b hc41 hcvs hwr
    go_wp2
    go_ret
    exact FreshB.of_own ho2 hlen hbc (hk2.below (Nat.le_refl _) (fun _ _ x => x))

end Go.Proofs.Ytmfjacehompmmaa
