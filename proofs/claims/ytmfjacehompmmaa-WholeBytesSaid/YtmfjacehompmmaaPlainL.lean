/- Contracts of what the statements of layer 2 are made of: plain. -/
import Derived.Test.YtmfjacehompmmaaKinds
namespace Go.Proofs.Ytmfjacehompmmaa
open Go.RowKit MM

def rpCells (qs : List PK.Rp) : List Value := qs.flatMap fun q => q.cells.toList
theorem rpCells_snoc (qs : List PK.Rp) (q : PK.Rp) : rpCells (qs ++ [q]) = rpCells qs ++ q.cells.toList := by simp [rpCells]
theorem rpart_info : (Try.prog.info? 60).map (fun i => (i.zero, i.size, i.bytes)) = some (some (.agg #[.int .u8 0, .int .u64 0, .int .i64 0, .int .u64 0, .string ⟨#[]⟩, .bool false]), 6, 56) := by kernel_rfl
theorem rp_one (q : PK.Rp) : ∀ u ∈ q.cells.toList, u.oneCell' = true := by
  intro u hu
  simp only [PK.Rp.cells, List.mem_cons, List.mem_nil_iff, or_false] at hu
  rcases hu with rfl | rfl | rfl | rfl | rfl | rfl <;> rfl

/-- New parts of the document's. -/
def FreshR (qs : List PK.Rp) (w : World) (e : Ending) (w' : World) : Prop :=
  ∃ A c, e = .returned (.slice A qs.length c) ∧ w'.ownsRow 0 60 6 (.slice A qs.length c) qs.length (rpCells qs) ∧ (∀ k, ob A = some k → w.heap.size ≤ k) ∧ Below w.heap.size w w'
theorem map_take_snoc (qs : List PK.Pt) (i : Nat) (h : i < qs.length) : (qs.take (i + 1)).map PK.plainP = (qs.take i).map PK.plainP ++ [PK.plainP qs[i]] := by
  rw [List.take_succ_eq_append_getElem h, List.map_append]; rfl

theorem src_newk {P : Program} {size : Nat} {tx e' t : TypeId} (hk : P.underlying tx = some (.slice e')) (w : World) (cs : Array Value) (k : Nat) (hw : k = w.heap.size) (hl : cs.size = size) (h1 : ∀ u ∈ cs.toList, u.oneCell' = true) :
    Src P size tx (.slice (some ⟨k, 0, none⟩) 1 1) 1 cs.toList (w.alloc (.cells cs t)) := by
  subst hw
  exact src_new hk w cs hl h1
theorem plain_next {w wr wm w3 : World} {qs : List PK.Pt} {rs : List PK.Rp} {rp : PK.Rp} {i : Nat} {A1 A3 : Option Addr} {c3 : Nat} {to t : Value} (hb1 : Below w.heap.size w wr) (hk : Kp (fun _ => False) wr wm) (hg : wm.grownBy w3 (ob A1)) (ha1 : ∀ k, ob A1 = some k → w.heap.size ≤ k)
    (hat : ob A3 = ob A1 ∨ ob A3 = some wm.heap.size) (hs : (qs.take (i + 1)).map PK.plainP = rs ++ [rp]) (hto : to = .slice A3 (rs.length + 1) c3) (ht : t = .int .i64 ((i + 1 : Nat) : Int)) (hlt : i < qs.length) (ho : w3.ownsRow 0 60 6 (.slice A3 (rs.length + 1) c3) (rs.length + 1) (rpCells rs ++ rp.cells.toList)) :
    ∃ (i : Nat) (A1 : Option Addr) (c1 : Nat) (rs : List PK.Rp), rs = (qs.take i).map PK.plainP ∧ to = .slice A1 rs.length c1 ∧ t = .int .i64 i ∧ i ≤ qs.length ∧ w3.ownsRow 0 60 6 (.slice A1 rs.length c1) rs.length (rpCells rs) ∧ Below w.heap.size w w3 ∧ (∀ k, ob A1 = some k → w.heap.size ≤ k) := by
  have hK : Kp (fun _ => False) w w3 := ((Kp.of_below hb1 (fun _ => False)).trans hk (fun _ _ x => x)).grown hg (fun k e => .inr (ha1 k e))
  refine ⟨i + 1, A3, c3, rs ++ [rp], hs.symm, ?_, ht, hlt, ?_, hK.below (Nat.le_refl _) (fun _ _ x => x), ?_⟩
  · rw [hto, List.length_append]; rfl
  · rw [rpCells_snoc, List.length_append]; exact ho
  · intro k e
    rcases hat with h | h
    · rw [h] at e; exact ha1 k e
    · rw [h] at e; injection e with e; have := hb1.size; have := hk.size; omega

set_option maxHeartbeats 2000000 in
set_option maxRecDepth 100000 in
theorem plain_any (A : Option Addr) (c : Nat) (qs : List PK.Pt) (w : World) (hp : Pts w A qs) (hok : ∀ q ∈ qs, q.ok) (hn : Lim qs.length) :
    Calls Try.prog 17 #[.slice A qs.length c] w (FreshR (qs.map PK.plainP) w) := by
  obtain ⟨i0, hi0, hz0, hz1, hz2⟩ := info_parts rpart_info
  have hn' : (qs.length : Int) ≤ 4294967296 := by unfold Lim at hn; omega
  go_enter Try.func17, Try.ntmps17
  go_wp2_with fail
  go_loopw [3, 9] (fun to t wr => ∃ (i : Nat) (A1 : Option Addr) (c1 : Nat) (rs : List PK.Rp), rs = (qs.take i).map PK.plainP ∧ to = .slice A1 rs.length c1 ∧ t = .int .i64 i ∧ i ≤ qs.length ∧ wr.ownsRow 0 60 6 (.slice A1 rs.length c1) rs.length (rpCells rs) ∧ Below w.heap.size w wr ∧ (∀ k, ob A1 = some k → w.heap.size ≤ k)) (fun _ t _ => qs.length - (intOf t).toNat)
  case atStart => exact ⟨0, none, 0, [], rfl, rfl, rfl, Nat.zero_le _, World.ownsRow_nil _ _ _ _, Below.refl _ _, fun k e => by cases e⟩
  case round =>
    obtain ⟨i, A1, c1, rs, hrs, rfl, rfl, hi, ho1, hb1, ha1⟩ := hrel
    by_cases hlt : i < qs.length
    · rcases hp with rfl | ⟨b, off, rfl, hbl, hcell⟩
      · simp at hlt
      have hcs := hcell i qs[i] (List.getElem?_eq_getElem hlt)
      have hqo := hok qs[i] (List.getElem_mem _)
      have hsn := map_take_snoc qs i hlt
      rw [← hrs] at hsn
      have hl1 : Lim (rs.length + 1) := hn.le (by rw [hrs, List.length_map, List.length_take]; omega)
      have Hsn := Lib.hid hsn
      clear hsn hcell hrs
      generalize qs[i] = q at *
      obtain ⟨qk, qu, qi, qf, qs', qb⟩ := q
      have c0 : wr.cell? ⟨b, off + i * 6, none⟩ = some (.int .u8 qk) := (hb1.cell (p := ⟨b, off + i * 6, none⟩) hbl).trans (hcs 0 _ rfl)
      have c1' : wr.cell? ⟨b, off + i * 6 + 1, none⟩ = some (.int .u64 qu) := (hb1.cell (p := ⟨b, off + i * 6 + 1, none⟩) hbl).trans (hcs 1 _ rfl)
      have c2 : wr.cell? ⟨b, off + i * 6 + 2, none⟩ = some (.int .i64 qi) := (hb1.cell (p := ⟨b, off + i * 6 + 2, none⟩) hbl).trans (hcs 2 _ rfl)
      have c3 : wr.cell? ⟨b, off + i * 6 + 3, none⟩ = some (.float .f64 qf) := (hb1.cell (p := ⟨b, off + i * 6 + 3, none⟩) hbl).trans (hcs 3 _ rfl)
      have c4 : wr.cell? ⟨b, off + i * 6 + 4, none⟩ = some (.string qs') := (hb1.cell (p := ⟨b, off + i * 6 + 4, none⟩) hbl).trans (hcs 4 _ rfl)
      have c5 : wr.cell? ⟨b, off + i * 6 + 5, none⟩ = some (.bool qb) := (hb1.cell (p := ⟨b, off + i * 6 + 5, none⟩) hbl).trans (hcs 5 _ rfl)
      have hk2 : qk < 256 := hqo.k
      have Hf := Lib.hid (show MF.W64 qf from hqo.f)
      have Ho := Lib.hid ho1
      clear hcs hqo ho1
      by_cases k0 : qk = 117
      · subst k0
        go_wp2_with (first
          | (at_builtin
             refine wpList_append_at rfl (.tmp 44) (.tmp 46) _ _ rfl 60 i0 _ 6 56 Try.underlying34 hi0 hz0 hz1 hz2 rfl A1 rs.length c1 (rpCells rs) rfl (((Ho.out.alloc _).alloc _).alloc _) _ 1 _ rfl (src_newk Try.underlying34 _ (PK.Rp.cells ⟨117, qu, 0, 0, ⟨#[]⟩, false⟩) _ (by simp) rfl (rp_one _)) hl1.len (hl1.fit 56 (by omega)) ?_
             intro A3 c3' w3 ho3 hg3 hat3))
        go_roundw
        case rel =>
          refine plain_next (rp := ⟨117, qu, 0, 0, ⟨#[]⟩, false⟩) hb1 ((((Kp.refl (fun _ => False) wr).alloc _).alloc _).alloc _) hg3 ha1 hat3 ?_ rfl (by go_num) hlt ho3
          exact Hsn.out
        case measure => simp [intOf]; omega
      by_cases k1 : qk = 105
      · subst k1
        go_wp2_with (first
          | (at_builtin
             refine wpList_append_at rfl (.tmp 44) (.tmp 46) _ _ rfl 60 i0 _ 6 56 Try.underlying34 hi0 hz0 hz1 hz2 rfl A1 rs.length c1 (rpCells rs) rfl (((Ho.out.alloc _).alloc _).alloc _) _ 1 _ rfl (src_newk Try.underlying34 _ (PK.Rp.cells ⟨105, 0, qi, 0, ⟨#[]⟩, false⟩) _ (by simp) rfl (rp_one _)) hl1.len (hl1.fit 56 (by omega)) ?_
             intro A3 c3' w3 ho3 hg3 hat3))
        go_roundw
        case rel =>
          refine plain_next (rp := ⟨105, 0, qi, 0, ⟨#[]⟩, false⟩) hb1 ((((Kp.refl (fun _ => False) wr).alloc _).alloc _).alloc _) hg3 ha1 hat3 ?_ rfl (by go_num) hlt ho3
          exact Hsn.out
        case measure => simp [intOf]; omega
      by_cases k2 : qk = 102
      · subst k2
        go_wp2_with (first
          | (go_at_call 42; refine (key_any qf _ Hf.out).mono ?_; rintro e w1 ⟨rfl, rfl⟩)
          | (at_builtin
             refine wpList_append_at rfl (.tmp 44) (.tmp 46) _ _ rfl 60 i0 _ 6 56 Try.underlying34 hi0 hz0 hz1 hz2 rfl A1 rs.length c1 (rpCells rs) rfl (((Ho.out.alloc _).alloc _).alloc _) _ 1 _ rfl (src_newk Try.underlying34 _ (PK.Rp.cells ⟨102, 0, 0, MF.key qf, ⟨#[]⟩, false⟩) _ (by simp) rfl (rp_one _)) hl1.len (hl1.fit 56 (by omega)) ?_
             intro A3 c3' w3 ho3 hg3 hat3))
        go_roundw
        case rel =>
          refine plain_next (rp := ⟨102, 0, 0, MF.key qf, ⟨#[]⟩, false⟩) hb1 ((((Kp.refl (fun _ => False) wr).alloc _).alloc _).alloc _) hg3 ha1 hat3 ?_ rfl (by go_num) hlt ho3
          exact Hsn.out
        case measure => simp [intOf]; omega
      by_cases k3 : qk = 115
      · subst k3
        go_wp2_with (first
          | (at_builtin
             refine wpList_append_at rfl (.tmp 44) (.tmp 46) _ _ rfl 60 i0 _ 6 56 Try.underlying34 hi0 hz0 hz1 hz2 rfl A1 rs.length c1 (rpCells rs) rfl (((Ho.out.alloc _).alloc _).alloc _) _ 1 _ rfl (src_newk Try.underlying34 _ (PK.Rp.cells ⟨115, 0, 0, 0, qs', false⟩) _ (by simp) rfl (rp_one _)) hl1.len (hl1.fit 56 (by omega)) ?_
             intro A3 c3' w3 ho3 hg3 hat3))
        go_roundw
        case rel =>
          refine plain_next (rp := ⟨115, 0, 0, 0, qs', false⟩) hb1 ((((Kp.refl (fun _ => False) wr).alloc _).alloc _).alloc _) hg3 ha1 hat3 ?_ rfl (by go_num) hlt ho3
          exact Hsn.out
        case measure => simp [intOf]; omega
      by_cases k4 : qk = 98
      · subst k4
        go_wp2_with (first
          | (at_builtin
             refine wpList_append_at rfl (.tmp 44) (.tmp 46) _ _ rfl 60 i0 _ 6 56 Try.underlying34 hi0 hz0 hz1 hz2 rfl A1 rs.length c1 (rpCells rs) rfl (((Ho.out.alloc _).alloc _).alloc _) _ 1 _ rfl (src_newk Try.underlying34 _ (PK.Rp.cells ⟨98, 0, 0, 0, ⟨#[]⟩, qb⟩) _ (by simp) rfl (rp_one _)) hl1.len (hl1.fit 56 (by omega)) ?_
             intro A3 c3' w3 ho3 hg3 hat3))
        go_roundw
        case rel =>
          refine plain_next (rp := ⟨98, 0, 0, 0, ⟨#[]⟩, qb⟩) hb1 ((((Kp.refl (fun _ => False) wr).alloc _).alloc _).alloc _) hg3 ha1 hat3 ?_ rfl (by go_num) hlt ho3
          exact Hsn.out
        case measure => simp [intOf]; omega
      have h0' : ¬ (qk : Int) = 117 := by omega
      have h1' : ¬ (qk : Int) = 105 := by omega
      have h2' : ¬ (qk : Int) = 102 := by omega
      have h3' : ¬ (qk : Int) = 115 := by omega
      have h4' : ¬ (qk : Int) = 98 := by omega
      have hpl : PK.plainP ⟨qk, qu, qi, qf, qs', qb⟩ = ⟨qk, 0, 0, 0, ⟨#[]⟩, false⟩ := by
        unfold PK.plainP
        simp only [if_neg k0, if_neg k1, if_neg k2, if_neg k3, if_neg k4]
      have Hpl := Lib.hid hpl
      clear hpl
      go_wp2_with (first
        | (at_builtin
           refine wpList_append_at rfl (.tmp 44) (.tmp 46) _ _ rfl 60 i0 _ 6 56 Try.underlying34 hi0 hz0 hz1 hz2 rfl A1 rs.length c1 (rpCells rs) rfl (((Ho.out.alloc _).alloc _).alloc _) _ 1 _ rfl (src_newk Try.underlying34 _ (PK.Rp.cells ⟨qk, 0, 0, 0, ⟨#[]⟩, false⟩) _ (by simp) rfl (rp_one _)) hl1.len (hl1.fit 56 (by omega)) ?_
           intro A3 c3' w3 ho3 hg3 hat3))
      go_roundw
      case rel =>
        refine plain_next (rp := ⟨qk, 0, 0, 0, ⟨#[]⟩, false⟩) hb1 ((((Kp.refl (fun _ => False) wr).alloc _).alloc _).alloc _) hg3 ha1 hat3 ?_ rfl (by go_num) hlt ho3
        rw [← Hpl.out]
        exact Hsn.out
      case measure => simp [intOf]; omega
    · have hi' : i = qs.length := by omega
      subst hi'
      rw [List.take_length] at hrs
      subst hrs
      go_wp2
      go_ret
      exact ⟨A1, c1, rfl, ho1, ha1, hb1⟩

end Go.Proofs.Ytmfjacehompmmaa
