/- Contracts of what the statements of layer 2 are made of: kinds, plain, same. -/
import Derived.Test.YtmfjacehompmmaaRef02d
namespace Go.Proofs.Ytmfjacehompmmaa
open Go.RowKit MM

/-- Has each part a kind, and no long text, and are there few? -/
def PK.few (qs : List PK.Pt) : Bool := decide (qs.length ≤ 40) && qs.all fun q => PK.kindOk q.k && decide (q.s.size ≤ 1000)
theorem kindsB_take (qs : List PK.Pt) (i : Nat) (h : i < qs.length) : PK.kindsB (qs.take (i + 1)) = PK.kindsB (qs.take i) ++ [qs[i].k.toUInt8] := by
  unfold PK.kindsB
  rw [List.take_succ_eq_append_getElem h, List.map_append]
  rfl

def KPost (qs : List PK.Pt) (w : World) (e : Ending) (w' : World) : Prop :=
  e = .returned (if PK.few qs then .tuple #[.string ⟨(PK.kindsB qs).toArray⟩, .bool true] else .tuple #[.string ⟨#[]⟩, .bool false]) ∧ Below w.heap.size w w'
theorem KPost.no {qs : List PK.Pt} {w w' : World} (h : PK.few qs = false) (hb : Below w.heap.size w w') : KPost qs w (.returned (.tuple #[.string ⟨#[]⟩, .bool false])) w' := by
  unfold KPost; rw [h]; exact ⟨rfl, hb⟩
theorem KPost.yes {qs : List PK.Pt} {w w' : World} (h : PK.few qs = true) (hb : Below w.heap.size w w') : KPost qs w (.returned (.tuple #[.string ⟨(PK.kindsB qs).toArray⟩, .bool true])) w' := by
  unfold KPost; rw [h]; exact ⟨rfl, hb⟩
theorem few_not {qs : List PK.Pt} {i : Nat} (hi : i < qs.length) (h : PK.kindOk qs[i].k = false ∨ 1000 < qs[i].s.size) : PK.few qs = false := by
  unfold PK.few
  rw [Bool.and_eq_false_iff]
  right
  rw [List.all_eq_false]
  refine ⟨qs[i], List.getElem_mem _, ?_⟩
  rcases h with h | h
  · simp [h]
  · simp; omega

theorem str_snoc (l : List UInt8) (c : UInt8) : (⟨l.toArray⟩ : ByteArray) ++ ⟨#[c]⟩ = ⟨(l ++ [c]).toArray⟩ := by
  apply ByteArray.ext
  show (ByteArray.append _ _).data = _
  simp

set_option maxHeartbeats 2000000 in
set_option maxRecDepth 100000 in
theorem kinds_any (A : Option Addr) (c : Nat) (qs : List PK.Pt) (w : World) (hp : Pts w A qs) (hok : ∀ q ∈ qs, q.s.size ≤ maxLen) (hko : ∀ q ∈ qs, q.k < 256) :
    Calls Try.prog 13 #[.slice A qs.length c] w (KPost qs w) := by
  by_cases h40 : 40 < qs.length
  · have hd : (40 : Int) < (qs.length : Int) := by omega
    have Hf := Lib.hid (show PK.few qs = false from by unfold PK.few; rw [decide_eq_false (by omega)]; rfl)
    go_enter Try.func13, Try.ntmps13
    go_wp2
    go_ret2
    exact KPost.no Hf.out (Below.refl _ _)
  have hd : ¬ (40 : Int) < (qs.length : Int) := by omega
  go_enter Try.func13, Try.ntmps13
  go_wp2_with fail
  go_loopw [4, 12] (fun ts t wr => ∃ i : Nat, t = .int .i64 i ∧ i ≤ qs.length ∧ ts = .string ⟨(PK.kindsB (qs.take i)).toArray⟩ ∧ (∀ j (hj : j < i) (hj' : j < qs.length), PK.kindOk qs[j].k = true ∧ qs[j].s.size ≤ 1000) ∧ Below w.heap.size w wr) (fun _ t _ => qs.length - (intOf t).toNat)
  case atStart => exact ⟨0, rfl, Nat.zero_le _, rfl, fun j hj => by omega, Below.refl _ _⟩
  case round =>
    obtain ⟨i, rfl, hi, rfl, hall, hb1⟩ := hrel
    by_cases hlt : i < qs.length
    · rcases hp with rfl | ⟨b, off, rfl, hbl, hcell⟩
      · simp at hlt
      have hcs := hcell i qs[i] (List.getElem?_eq_getElem hlt)
      have Hno := Lib.hid (fun h => few_not hlt h)
      have Hall := Lib.hid hall
      have Htk := Lib.hid (kindsB_take qs i hlt)
      have hsz := hok qs[i] (List.getElem_mem _)
      have hk2 := hko qs[i] (List.getElem_mem _)
      have Hq := Lib.hid (show qs[i] = qs[i] from rfl)
      clear hall hcell
      generalize hqe : qs[i] = q at *
      have Hqe := Lib.hid hqe
      clear hqe
      obtain ⟨qk, qu, qi, qf, qs', qb⟩ := q
      have c0 : wr.cell? ⟨b, off + i * 6, none⟩ = some (.int .u8 qk) := (hb1.cell (p := ⟨b, off + i * 6, none⟩) hbl).trans (hcs 0 _ rfl)
      have c1' : wr.cell? ⟨b, off + i * 6 + 1, none⟩ = some (.int .u64 qu) := (hb1.cell (p := ⟨b, off + i * 6 + 1, none⟩) hbl).trans (hcs 1 _ rfl)
      have c2 : wr.cell? ⟨b, off + i * 6 + 2, none⟩ = some (.int .i64 qi) := (hb1.cell (p := ⟨b, off + i * 6 + 2, none⟩) hbl).trans (hcs 2 _ rfl)
      have c3 : wr.cell? ⟨b, off + i * 6 + 3, none⟩ = some (.float .f64 qf) := (hb1.cell (p := ⟨b, off + i * 6 + 3, none⟩) hbl).trans (hcs 3 _ rfl)
      have c4 : wr.cell? ⟨b, off + i * 6 + 4, none⟩ = some (.string qs') := (hb1.cell (p := ⟨b, off + i * 6 + 4, none⟩) hbl).trans (hcs 4 _ rfl)
      have c5 : wr.cell? ⟨b, off + i * 6 + 5, none⟩ = some (.bool qb) := (hb1.cell (p := ⟨b, off + i * 6 + 5, none⟩) hbl).trans (hcs 5 _ rfl)
      clear hcs
      change qk < 256 at hk2
      change qs'.size ≤ maxLen at hsz
      have Hsz := Lib.hid hsz
      clear hsz
      cases hkd : PK.kindOk qk with
      | false =>
        have Hf := Lib.hid (Hno.out (.inl hkd))
        simp only [PK.kindOk, Bool.or_eq_false_iff, beq_eq_false_iff_ne] at hkd
        obtain ⟨⟨⟨⟨k1, k2⟩, k3⟩, k4⟩, k5⟩ := hkd
        have h1' : ¬ (qk : Int) = 117 := by omega
        have h2' : ¬ (qk : Int) = 105 := by omega
        have h3' : ¬ (qk : Int) = 102 := by omega
        have h4' : ¬ (qk : Int) = 115 := by omega
        have h5' : ¬ (qk : Int) = 98 := by omega
        clear k1 k2 k3 k4 k5
        go_wp2
        go_ret2
        exact KPost.no Hf.out (hb1.alloc hb1.size _)
      | true =>
        have hut : Utf8.encode qk = ⟨#[qk.toUInt8]⟩ := by
          rcases kind5 hkd with rfl | rfl | rfl | rfl | rfl <;> kernel_rfl
        have hnl : ¬ 9223372036854775807 < (PK.kindsB (List.take i qs)).length + (Utf8.encode qk).size := by
          rw [hut]
          have : (PK.kindsB (List.take i qs)).length ≤ 40 := by unfold PK.kindsB; rw [List.length_map, List.length_take]; omega
          show ¬ 9223372036854775807 < _ + 1
          omega
        have Hut := Lib.hid hut
        clear hut
        by_cases hbig : 1000 < qs'.size
        · have hbig' : (1000 : Int) < (qs'.size : Int) := by omega
          have Hf := Lib.hid (Hno.out (.inr hbig))
          rcases kind5 hkd with rfl | rfl | rfl | rfl | rfl
          all_goals
            clear hkd
            go_wp2
            go_ret2
            exact KPost.no Hf.out (hb1.alloc hb1.size _)
        · have hbig' : ¬ (1000 : Int) < (qs'.size : Int) := by omega
          have Hal : ∀ j (hj : j < i + 1) (hj' : j < qs.length), PK.kindOk qs[j].k = true ∧ qs[j].s.size ≤ 1000 := by
            intro j hj hj'
            by_cases hji : j = i
            · subst hji
              rw [Hqe.out]
              exact ⟨hkd, Nat.le_of_not_lt hbig⟩
            · exact Hall.out j (by omega) hj'
          have HAl := Lib.hid Hal
          clear Hal
          rcases kind5 hkd with rfl | rfl | rfl | rfl | rfl
          all_goals
            clear hkd
            go_wp2
            go_roundw
            case rel =>
              refine ⟨i + 1, by go_num, by omega, ?_, HAl.out, hb1.alloc hb1.size _⟩
              rw [Htk.out, ← str_snoc, ← Hut.out]
              rfl
            case measure => simp [intOf]; omega
    · have hi' : i = qs.length := by omega
      subst hi'
      rw [List.take_length]
      have Hf := Lib.hid (show PK.few qs = true from by
        unfold PK.few
        rw [decide_eq_true (by omega), Bool.true_and, List.all_eq_true]
        intro x hx
        obtain ⟨j, hj, rfl⟩ := List.getElem_of_mem hx
        obtain ⟨h1, h2⟩ := hall j hj hj
        rw [h1, decide_eq_true h2]; rfl)
      clear hall
      go_wp2
      go_ret2
      exact KPost.yes Hf.out hb1

end Go.Proofs.Ytmfjacehompmmaa
