/- Contract of roll.sectors: the sectors of an entry. -/
import Derived.Test.YtlaecnggbcagcaaRl2
namespace Go.Proofs.Ytlaecnggbcagcaa
open Go.RowKit MM
set_option linter.unusedVariables false
set_option linter.unusedSimpArgs false

theorem wpList_make {P : Program} {ops : Array Oper} {rest : List Oper} {o : Oper} {a : Act} {w : World} {Q : Exit → Act → World → Prop} (hgd : o.guard = none) (t e : TypeId) (x : Operand) (ho : o.op = .makeSlice t x x) (i : TypeInfo) (z : Value) (ht : P.underlying t = some (.slice e)) (hi : P.info? e = some i) (hz : i.zero = some z)
    (n : Nat) (hx : a.eval x = .int .i64 (n : Int)) (hbytes : i.bytes * n ≤ 281474976710656) (h63 : n ≤ 9223372036854775807)
    (h : wpList P ops Q rest (a.put o.dst (.slice (some ⟨w.heap.size, 0, none⟩) n n)) (w.alloc (.cells (madeCells z.cells (n * i.size)) e))) : wpList P ops Q (o :: rest) a w :=
  wpList_plain hgd fun _ hK => wp_make t e x ho i z ht hi hz n hx hbytes h63 (hK _ _ h)
/-- Rows that are gone through so far; the others are blank. -/
def cpz (L : List (List UInt8)) (i : Nat) : List (List UInt8) := L.take i ++ List.replicate (L.length - i) zs
theorem cpz_zero (L : List (List UInt8)) : cpz L 0 = List.replicate L.length zs := by simp [cpz]
theorem cpz_full (L : List (List UInt8)) : cpz L L.length = L := by simp [cpz]
theorem cpz_len (L : List (List UInt8)) {i : Nat} (h : i ≤ L.length) : (cpz L i).length = L.length := by
  unfold cpz
  rw [List.length_append, List.length_take, List.length_replicate]
  omega
theorem cpz_step (L : List (List UInt8)) {i : Nat} {s : List UInt8} (hs : L[i]? = some s) : (cpz L i).set i s = cpz L (i + 1) := by
  have hi : i < L.length := (List.getElem?_eq_some_iff.1 hs).1
  have hl : (L.take i).length = i := by rw [List.length_take]; omega
  unfold cpz
  rw [List.set_append_right _ _ (by omega), hl, Nat.sub_self, List.take_add_one, hs, show L.length - i = (L.length - (i + 1)) + 1 by omega, List.replicate_succ, List.set_cons_zero]
  simp
theorem cpz_secs {L : List (List UInt8)} (h : ∀ s ∈ L, s.length = 64) (i : Nat) : ∀ s ∈ cpz L i, s.length = 64 := fun s hs => by
  rcases List.mem_append.1 hs with x | x
  · exact h s (List.mem_of_mem_take x)
  · rw [List.eq_of_mem_replicate x]; rfl
theorem secR_len {L : List (List UInt8)} (h : ∀ s ∈ L, s.length = 64) : (secR L).flatten.length = L.length * 64 := by
  rw [flat_len (secR_ok h)]
  simp [secR]
theorem secs_there {w : World} {g i : Nat} {L : List (List UInt8)} {t : TypeId} (hL : ∀ s ∈ L, s.length = 64) (h : w.heap[g]? = some (.cells (secR L).flatten.toArray t (0, 0))) (hi : i < L.length) : w.there g (i * 64) 64 := by
  intro j hj
  refine ⟨?_, frozen_of_row w g _ _ _ h⟩
  rw [cell_of_row w g _ _ t (0, 0) h]
  have : (i + 1) * 64 ≤ L.length * 64 := Nat.mul_le_mul_right _ (by omega)
  have hl := secR_len hL
  show ((secR L).flatten.toArray[i * 64 + j]?).isSome = true
  rw [List.getElem?_toArray, List.getElem?_eq_getElem (by omega)]
  rfl
theorem secs_set {w : World} {g i : Nat} {L : List (List UInt8)} {t : TypeId} (hL : ∀ s ∈ L, s.length = 64) (h : w.heap[g]? = some (.cells (secR L).flatten.toArray t (0, 0))) (hi : i < L.length) (s : List UInt8) (hs : s.length = 64) :
    (w.setCells g (i * 64) (bc s).toArray.toList).heap[g]? = some (.cells (secR (L.set i s)).flatten.toArray t (0, 0)) := by
  have h1 := setCells_row g t (bc s) (i * 64) w _ h (by
    have : (i + 1) * 64 ≤ L.length * 64 := Nat.mul_le_mul_right _ (by omega)
    rw [bc_length, hs, secR_len hL]; omega)
  rw [show (bc s).toArray.toList = bc s by simp, h1, secR_set, flat_set (secR_ok hL) _ (by simpa [secR] using hi), bc_length, hs]
theorem secs_range {w : World} {g i : Nat} {L : List (List UInt8)} {t : TypeId} (hL : ∀ s ∈ L, s.length = 64) (h : w.heap[g]? = some (.cells (secR L).flatten.toArray t (0, 0))) {s : List UInt8} (hi : L[i]? = some s) : w.rangeAt g (i * 64) (bc s) := by
  intro j v hj
  have hj64 : j < 64 := by
    have := (List.getElem?_eq_some_iff.1 hj).1
    rw [bc_length, hL s (List.mem_of_getElem? hi)] at this
    exact this
  rw [cell_of_row w g _ _ t (0, 0) h]
  show (secR L).flatten.toArray[i * 64 + j]? = some v
  rw [List.getElem?_toArray, flat_get (secR_ok hL) (i := i) (r := bc s) (by simp [secR, hi]) hj64]
  exact hj
theorem slice_mid (A : Option Addr) (n c lo hi : Nat) (h1 : lo ≤ hi) (h2 : hi ≤ c) (w : World) : (Instr.slice 51 (.slice A n c) (some (.int .i64 (lo : Int))) (some (.int .i64 (hi : Int))) none).run Try.prog w = .ok (.slice (cutA A lo c) (hi - lo) (c - lo)) w := by
  have h1' : (lo : Int) ≤ (hi : Int) := by omega
  have h2' : (hi : Int) ≤ (c : Int) := by omega
  have h0 : (0 : Int) ≤ (lo : Int) := by omega
  go_simp
  rfl
theorem cut_none {A : Option Addr} {c lo : Nat} (h : A = none → c = 0) : cutA A lo c = none → c - lo = 0 := by
  unfold cutA
  split
  · intro e
    rw [h e]
    omega
  · cases A with
    | none => intro _; rw [h rfl]; omega
    | some a => intro e; cases e
theorem partL_eq (b : List UInt8) (i : Nat) (hi : i < needN b.length) : (b.drop (60 * i)).take (min b.length (60 * (i + 1)) - 60 * i) = (b.drop (60 * i)).take 60 := by
  rw [show 60 * (i + 1) = 60 * i + 60 by omega]
  by_cases h : b.length ≤ 60 * i + 60
  · rw [Nat.min_eq_left h, List.take_of_length_le (by rw [List.length_drop]; omega), List.take_of_length_le (by rw [List.length_drop]; omega)]
  · rw [Nat.min_eq_right (by omega), show 60 * i + 60 - 60 * i = 60 by omega]
theorem need_start {n i : Nat} (h : i < needN n) : 60 * i ≤ n := by unfold needN at h; omega

def SecsPost (b : List UInt8) (w : World) (e : Ending) (w' : World) : Prop :=
  ∃ g, e = .returned (.slice (some ⟨g, 0, none⟩) (needN b.length) (needN b.length)) ∧ w'.heap[g]? = some (.cells (secR (secsL b)).flatten.toArray 40 (0, 0)) ∧ w.heap.size ≤ g ∧ Below w.heap.size w w'

set_option maxHeartbeats 4000000 in
set_option maxRecDepth 100000 in
theorem sectors_any (A : Option Addr) (c : Nat) (b : List UInt8) (w : World) (hb : Bts w A b) (hl : b.length ≤ 3840) (hcap : b.length ≤ c) (hn : A = none → c = 0) :
    Calls Try.prog 67 #[.slice A b.length c] w (SecsPost b w) := by
  have HB := Lib.hid hb
  have HN := Lib.hid hn
  have HL := Lib.hid hl
  have HC := Lib.hid hcap
  have HM := Lib.hid (And.intro (needN_pos b.length) (needN_le hl))
  obtain ⟨L, hL⟩ : ∃ L, L = secsL b := ⟨_, rfl⟩
  have HLL := Lib.hid (show L.length = needN b.length by rw [hL, secsL_len])
  have HLs := Lib.hid (show ∀ s ∈ L, s.length = 64 by rw [hL]; exact secsL_secs b)
  have HLg := Lib.hid (show ∀ i, i < needN b.length → L[i]? = some (sealL (partL b i)) by rw [hL]; exact fun i hi => secsL_get b hi)
  have HPost := Lib.hid (show ∀ e w', (∃ g, e = .returned (.slice (some ⟨g, 0, none⟩) (needN b.length) (needN b.length)) ∧ w'.heap[g]? = some (.cells (secR L).flatten.toArray 40 (0, 0)) ∧ w.heap.size ≤ g ∧ Below w.heap.size w w') → SecsPost b w e w' by rw [hL]; exact fun e w' h => h)
  have HNd := Lib.hid (need_any b.length (by omega) w)
  obtain ⟨i0, hi0, hz0, hz1, hz2⟩ := info_parts sec_info3
  have HI := Lib.hid (And.intro hz1 hz2)
  obtain ⟨i1, hi1, hy0, hy1, hy2⟩ := info_parts byte_info
  obtain ⟨m, hm⟩ : ∃ m, m = needN b.length := ⟨_, rfl⟩
  have HMm := Lib.hid hm
  rw [← hm] at HM HLL HPost HNd
  clear hb hn hL hm hl hcap
  go_enter Try.func67, Try.ntmps67
  go_wp2_with (first
    | (go_at_call 50; refine HNd.out.mono ?_; rintro e wq ⟨rfl, hq⟩; rw [hq]; clear hq wq)
    | (refine wpList_make rfl 63 40 (.tmp 9) rfl i0 (secv zs) Try.underlying63 hi0 hz0 m (by kernel_rfl) (by have := HM.out; have := HI.out.2; rw [this]; omega) (by have := HM.out; omega) ?_
       rw [HI.out.1, made_secs]))
  generalize hw1 : World.alloc w _ = w1
  have HG1 := Lib.hid (show w1.heap[w.heap.size]? = some (.cells (secR (cpz L 0)).flatten.toArray 40 (0, 0)) by rw [← hw1, cpz_zero, HLL.out]; exact heap_alloc_new _ _)
  have HB1 := Lib.hid (show Below w.heap.size w w1 by rw [← hw1]; exact (Below.refl _ w).alloc (Nat.le_refl _) _)
  clear hw1
  go_loopw [13] (fun t wr => ∃ i : Nat, t = .int .i64 i ∧ i ≤ m ∧ wr.heap[w.heap.size]? = some (.cells (secR (cpz L i)).flatten.toArray 40 (0, 0)) ∧ Below w.heap.size w wr) (fun t _ => m - (intOf t).toNat)
  case atStart => exact ⟨0, rfl, Nat.zero_le _, HG1.out, HB1.out⟩
  case round =>
    obtain ⟨i, rfl, hi, h1, h2⟩ := hrel
    have H1 := Lib.hid h1
    have H2 := Lib.hid h2
    clear h1 h2 HG1 HB1
    by_cases hlt : i < m
    · have hlt' : (i : Int) < (m : Int) := by omega
      have hm64 : (m : Int) ≤ 64 := by have := HM.out; omega
      obtain ⟨f, hf⟩ : ∃ f, f = UInt8.ofNat (m - 1 - i) := ⟨_, rfl⟩
      have hwf : IntKind.u8.wrap ((m : Int) - 1 - (i : Int)) = (f.toNat : Int) := by
        rw [hf, follow_nat (by omega)]
        simp [IntKind.wrap, IntKind.signed, IntKind.bits]
        omega
      obtain ⟨lo, hlo⟩ : ∃ lo, lo = 60 * i := ⟨_, rfl⟩
      obtain ⟨hi2, hhi⟩ : ∃ hi2, hi2 = min b.length (60 * (i + 1)) := ⟨_, rfl⟩
      have hlb : lo ≤ b.length := by rw [hlo]; exact need_start (by rw [← HMm.out]; exact hlt)
      have hl1 : (i : Int) * 60 = (lo : Int) := by omega
      have hl2 : (if ((i : Int) + 1) * 60 < (b.length : Int) then ((i : Int) + 1) * 60 else (b.length : Int)) = (hi2 : Int) := by split <;> omega
      have hl3 : lo ≤ hi2 := by omega
      have hl4 : hi2 ≤ c := by have := HC.out; omega
      have hl5 : (lo : Int) ≤ (hi2 : Int) := by omega
      have hl6 : (hi2 : Int) ≤ (c : Int) := by omega
      have HBc := Lib.hid (show Bts wr (cutA A lo c) ((b.drop lo).take (hi2 - lo)) from (HB.out.below H2.out).cut lo (hi2 - lo) c (by omega) HC.out)
      have HP := Lib.hid (show partL b i = f :: (b.drop lo).take (hi2 - lo) by rw [hlo, hhi, partL_eq b i (by rw [← HMm.out]; exact hlt), hf, HMm.out]; rfl)
      have hcut := slice_mid A b.length c lo hi2 hl3 hl4
      obtain ⟨r, hr⟩ : ∃ r, r = (b.drop lo).take (hi2 - lo) := ⟨_, rfl⟩
      have hrl : r.length = hi2 - lo := by rw [hr, List.length_take, List.length_drop]; omega
      rw [← hr] at HBc HP
      obtain ⟨s, hs⟩ : ∃ s, s = sealL (f :: r) := ⟨_, rfl⟩
      have HLi := Lib.hid (show L[i]? = some s by rw [HLg.out i (by rw [← HMm.out]; exact hlt), HP.out, hs])
      have HSL := Lib.hid (HLs.out s (List.mem_of_getElem? HLi.out))
      have HSrc := Lib.hid (fun w9 (h9 : Bts w9 (cutA A lo c) r) => show Src Try.prog 1 51 (.slice (cutA A lo c) (hi2 - lo) (c - lo)) (hi2 - lo) (bc r) w9 from by
        have := h9.src (c := c - lo) (P := Try.prog) Try.underlying51 (cut_none HN.out)
        rwa [hrl] at this)
      have HSe := Lib.hid (fun A2 c2 w2 (h2 : Bts w2 A2 (f :: r)) => show Calls Try.prog 31 #[.slice A2 (1 + (hi2 - lo)) c2] w2 (fun e w' => e = .returned (.tuple #[secv s, .int .i64 0]) ∧ Below w2.heap.size w2 w') from by
        have h := seal_any A2 c2 (f :: r) w2 h2
        rw [show sealE (f :: r) = .tuple #[secv s, .int .i64 0] by unfold sealE; rw [if_pos (by rw [List.length_cons, hrl]; omega), hs], List.length_cons, hrl, show hi2 - lo + 1 = 1 + (hi2 - lo) by omega] at h
        exact h)
      have HB9 := Lib.hid (fun A2 c2 w2 (h2 : World.ownsRow w2 0 5 1 (.slice A2 (1 + (hi2 - lo)) c2) (1 + (hi2 - lo)) ([.int .u8 f.toNat] ++ bc r)) => show Bts w2 A2 (f :: r) from Bts.own (xs := f :: r) (by
        rw [List.length_cons, hrl, show hi2 - lo + 1 = 1 + (hi2 - lo) by omega]
        exact h2))
      have hl7 : hi2 - lo ≤ 3840 := by have := HL.out; omega
      have HHr := Lib.hid hr
      clear hr hs hf hlo hhi hlb
      go_upto_region 7 with fail
      clear hcut hl1 hl2 hwf
      go_wp2_with (first
        | (at_builtin
           refine wpList_append_at rfl (.tmp 36) (.tmp 37) _ _ rfl 5 i1 _ 1 1 Try.underlying51 hi1 hy0 hy1 hy2 rfl (some ⟨wr.heap.size, 0, none⟩) 1 1 [.int .u8 f.toNat] rfl (World.ownsRow_lit wr #[.int .u8 f.toNat] 1 (Nat.zero_le _) (by unfold maxLen; omega) rfl) _ (hi2 - lo) _ rfl (HSrc.out _ (HBc.out.alloc _)) (by unfold maxLen; omega) (by omega) ?_
           intro A2 c2 w2 ho2 hg2 hat2
           have hb2 : Below wr.heap.size wr w2 := ((Below.refl wr.heap.size wr).alloc (Nat.le_refl _) _).grown hg2 (by simp) (fun k e => by injection e with e; simp at e; omega)
           have HB2 := Lib.hid hb2
           have HO2 := Lib.hid (HB9.out _ _ _ ho2)
           clear ho2 hg2 hat2 hb2)
        | (go_at_call 31
           refine (HSe.out A2 c2 w2 HO2.out).mono ?_
           rintro e w3 ⟨rfl, hb3⟩
           have hb23 : Below wr.heap.size wr w3 := HB2.out.trans (hb3.mono HB2.out.size)
           have HG3 := Lib.hid ((hb23.block _ (lt_of_heap H1.out)).trans H1.out)
           have HB3 := Lib.hid (H2.out.trans (hb23.mono H2.out.size))
           have HT := Lib.hid (show w3.there w.heap.size (i * 64) (bc s).toArray.size by rw [bc_size, HSL.out]; exact secs_there (cpz_secs HLs.out i) HG3.out (by rw [cpz_len L (by rw [HLL.out]; exact hi), HLL.out]; exact hlt))
           clear hb3 hb23)
        | (refine wpList_store_mid rfl 40 _ _ rfl w.heap.size (i * 64) (bc s).toArray rfl rfl HT.out (sec_info' _ HSL.out) (bc_all s) ?_
           have HRc := Lib.hid (show (World.setCells w3 w.heap.size (i * 64) (bc s).toArray.toList).heap[w.heap.size]? = some (Obj.cells (secR (cpz L (i + 1))).flatten.toArray 40 (0, 0)) from by rw [← cpz_step L HLi.out]; exact secs_set (cpz_secs HLs.out i) HG3.out (by rw [cpz_len L (by rw [HLL.out]; exact hi), HLL.out]; exact hlt) s HSL.out)
           have HKc := Lib.hid (setCells_kp1 w.heap.size (i * 64) (bc s).toArray.toList w3)
           generalize World.setCells w3 w.heap.size (i * 64) (bc s).toArray.toList = w4 at *))
      go_roundw
      case rel => exact ⟨i + 1, by go_num, by omega, HRc.out, HB3.out.trans (HKc.out.below HB3.out.size (fun k hk he => by omega))⟩
      case measure => simp [intOf]; omega
    · obtain rfl : i = m := by omega
      have H3 := Lib.hid (show _ from H1.out)
      go_wp2_with fail
      go_ret
      refine HPost.out _ _ ⟨_, rfl, ?_, Nat.le_refl _, H2.out⟩
      have h3 := H1.out
      rw [show cpz L i = L by rw [← HLL.out]; exact cpz_full L] at h3
      exact h3

end Go.Proofs.Ytlaecnggbcagcaa
