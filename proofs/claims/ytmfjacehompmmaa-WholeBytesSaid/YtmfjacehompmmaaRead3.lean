/- Contracts of package pack's reader: floating numbers and texts. -/
import Derived.Test.YtmfjacehompmmaaRead2
namespace Go.Proofs.Ytmfjacehompmmaa
open Go.RowKit MM

/-- A floating number, in plain words. -/
def floR (l : List UInt8) : Res Nat :=
  if l.length < 8 then .bad 2 l.length
  else if MF.proper (MF.bk (PK.placeN (l.take 8))) then .ok (MF.bk (PK.placeN (l.take 8))) 8 else .bad 4 8

theorem floR_short {l : List UInt8} (h : l.length < 8) : floR l = .bad 2 l.length := by unfold floR; rw [if_pos h]
theorem floR_ok {l : List UInt8} (h : ¬ l.length < 8) (hp : MF.proper (MF.bk (PK.placeN (l.take 8))) = true) : floR l = .ok (MF.bk (PK.placeN (l.take 8))) 8 := by unfold floR; rw [if_neg h, if_pos hp]
theorem floR_form {l : List UInt8} (h : ¬ l.length < 8) (hp : MF.proper (MF.bk (PK.placeN (l.take 8))) = false) : floR l = .bad 4 8 := by unfold floR; rw [if_neg h, if_neg (by rw [hp]; simp)]

theorem place_bits (k b i : Nat) (hk : k < 256 ^ i) (hi : i < 8) (hb : b < 256) : bits BinOp.or IntKind.u64 (IntKind.u64.wrap ((k : Int) * 256)) (b : Int) = ((k * 256 + b : Nat) : Int) := by
  have h1 : (256 : Nat) ^ i ≤ 256 ^ 7 := Nat.pow_le_pow_right (by omega) (by omega)
  have h2 : (256 : Nat) ^ 7 = 72057594037927936 := by decide
  rw [h2] at h1
  have e1 : IntKind.u64.wrap ((k : Int) * 256) = ((k * 256 : Nat) : Int) := by rw [IntKind.wrap_u64]; omega
  rw [e1, u64_or_nat _ _ (by omega) (by omega), nat_join 8 (k * 256) b (by omega) (by omega)]

set_option maxHeartbeats 1000000 in
set_option maxRecDepth 100000 in
theorem rf_any (p : Nat) (A : Option Addr) (c : Nat) (bs : List UInt8) (at_ : Nat) (w : World) (hr : Rd 5 w p A c bs at_) :
    Calls Try.prog 58 #[.pointer (some ⟨p, 0, none⟩)] w (RPost 5 30 p A c bs at_ (fun x : Nat => .float .f64 x) (floR (bs.drop at_)) w) := by
  generalize hrest : bs.drop at_ = l
  have Hl := Lib.hid hrest
  clear hrest
  go_enter Try.func58, Try.ntmps58
  go_wp2_with fail
  go_loopw [3, 6] (fun tk ti wr => ∃ i : Nat, tk = .int .u64 (PK.placeN (l.take i) : Nat) ∧ ti = .int .i64 i ∧ i ≤ 8 ∧ i ≤ l.length ∧ Rd 5 wr p A c bs (at_ + i) ∧ Kp (fun k => k = p) w wr) (fun _ ti _ => 8 - (intOf ti).toNat)
  case atStart => exact ⟨0, by simp [PK.placeN], rfl, by omega, by omega, hr, Kp.refl _ _⟩
  case round =>
    obtain ⟨i, rfl, rfl, hi, hil, hr1, hk1⟩ := hrel
    have hx := next_any p A c bs (at_ + i) wr hr1
    rw [← List.drop_drop, Hl.out] at hx
    by_cases h8 : i < 8
    · by_cases hlt : i < l.length
      · rw [List.drop_eq_getElem_cons hlt] at hx
        have hx : Calls Try.prog 69 #[.pointer (some ⟨p, 0, none⟩)] wr (fun e w' => e = .returned (.int .u8 (l[i]).toNat) ∧ Rd 5 w' p A c bs (at_ + i + 1) ∧ Kp (fun k => k = p) wr w') := hx
        have HB := Lib.hid (place_bits (PK.placeN (l.take i)) (l[i]).toNat i (by have := PK.placeN_lt (l.take i); rwa [List.length_take, Nat.min_eq_left hil] at this) h8 (l[i]).toNat_lt)
        have HS := Lib.hid (show PK.placeN (l.take (i + 1)) = PK.placeN (l.take i) * 256 + (l[i]).toNat by rw [List.take_succ_eq_append_getElem hlt, PK.placeN_snoc])
        have hbl := (l[i]).toNat_lt
        generalize (l[i]).toNat = b at *
        generalize PK.placeN (l.take i) = k at *
        have Hx := Lib.hid hx
        clear hx
        go_wp2_with (go_at_call 69; refine Hx.out.mono ?_; rintro e w1 ⟨rfl, hr2, hk2⟩; clear Hx)
        go_roundw
        case rel => exact ⟨i + 1, by rw [HS.out, ← HB.out], by go_num, by omega, by omega, hr2, hk1.same hk2⟩
        case measure => simp [intOf]; omega
      · rw [List.drop_eq_nil_of_le (by omega)] at hx
        have Hx := Lib.hid hx
        have HR := Lib.hid (floR_short (l := l) (by omega))
        have hie : l.length = i := by omega
        generalize PK.placeN (l.take i) = k at *
        clear hx
        go_wp2_with (go_at_call 69; refine Hx.out.mono ?_; rintro e w1 ⟨rfl, hr2, hk2⟩; clear Hx)
        exact ⟨rfl, RPost.mkBad HR.out rfl (by omega) (by omega) hr2 (hk1.same hk2)⟩
    · have hi8 : i = 8 := by omega
      subst hi8
      clear hx
      have hw : MF.W64 (PK.placeN (l.take 8)) := by
        have := PK.placeN_lt (l.take 8)
        rw [List.length_take, Nat.min_eq_left hil] at this
        unfold MF.W64
        exact Nat.lt_of_lt_of_le this (by decide)
      cases hp : MF.proper (MF.bk (PK.placeN (l.take 8)))
      · have HR := Lib.hid (floR_form (by omega) hp)
        have HP := Lib.hid hp
        generalize PK.placeN (l.take 8) = k at *
        clear hp
        go_wp2_with (first
          | (go_at_call 83; refine (back_any k _ hw).mono ?_; rw [HP.out, if_neg (by simp)]; rintro e w' ⟨rfl, rfl⟩)
          | (go_at_call 49; refine (fail_any p A c bs (at_ + 8) 4 _ hr1).mono ?_; rintro e w2 ⟨rfl, rfl⟩))
        exact ⟨rfl, RPost.mkBad HR.out rfl (by omega) rfl hr1 hk1⟩
      · have HR := Lib.hid (floR_ok (by omega) hp)
        have HP := Lib.hid hp
        generalize PK.placeN (l.take 8) = k at *
        clear hp
        go_wp2_with (first
          | (go_at_call 83; refine (back_any k _ hw).mono ?_; rw [HP.out, if_pos rfl]; rintro e w' ⟨rfl, rfl⟩))
        go_ret
        exact RPost.mkOk HR.out rfl rfl hr1 hk1

theorem numR_len {l : List UInt8} {n k : Nat} (h : numR l = .ok n k) : 0 < k ∧ k ≤ l.length := by
  unfold numR at h
  split at h
  · rename_i x y e
    injection h with h1 h2
    subst h1 h2
    have h1 := PK.numL_len l 0 0 _ _ _ e
    have h2 := PK.numL_pos l 0 0 _ _ e
    omega
  · cases h

/-- A text of at most so many bytes, in plain words. -/
def txtR (m : Int) (l : List UInt8) : Res (List UInt8) :=
  match numR l with
  | .bad e k => .bad e k
  | .ok n k => if tooB n m then .bad 3 k else if l.length - k < n then .bad 2 k else .ok ((l.drop k).take n) (k + n)

set_option maxHeartbeats 1000000 in
set_option maxRecDepth 100000 in
theorem rs_any (p : Nat) (A : Option Addr) (c : Nat) (bs : List UInt8) (at_ : Nat) (m : Int) (w : World) (hm : (Lit.int .i64 m).wf = true) (hr : Rd 5 w p A c bs at_) :
    Calls Try.prog 59 #[.pointer (some ⟨p, 0, none⟩), .int .i64 m] w (RPost 5 30 p A c bs at_ (fun s : List UInt8 => .string ⟨s.toArray⟩) (txtR m (bs.drop at_)) w) := by
  have hx := ru_any p A c bs at_ w hr
  generalize hrest : bs.drop at_ = l at *
  have hll : l.length = bs.length - at_ := by rw [← hrest, List.length_drop]
  have hU : txtR m l = match numR l with | .bad e k => .bad e k | .ok n k => if tooB n m then .bad 3 k else if l.length - k < n then .bad 2 k else .ok ((l.drop k).take n) (k + n) := rfl
  cases hR : numR l with
  | bad code k =>
    rw [hR] at hx hU
    have Hx := Lib.hid hx
    have HU := Lib.hid hU
    clear hx hR hU hrest hll
    go_enter Try.func59, Try.ntmps59
    go_wp2_with (go_at_call 56; refine Hx.out.mono ?_; rintro e w1 ⟨rfl, hr2, hk2⟩; clear Hx)
    exact ⟨rfl, RPost.mkBad HU.out rfl (by omega) rfl hr2 hk2⟩
  | ok n k =>
    rw [hR] at hx hU
    have Hx := Lib.hid hx
    have hw := numR_w hR
    have hU : txtR m l = if tooB n m = true then .bad 3 k else if l.length - k < n then .bad 2 k else .ok ((l.drop k).take n) (k + n) := hU
    cases ht : tooB n m
    · rw [ht, if_neg (by simp)] at hU
      by_cases hs : l.length - k < n
      · rw [if_pos hs] at hU
        have HU := Lib.hid hU
        have ht2 : tooB n ((bs.length - (at_ + k) : Nat) : Int) = true := by unfold tooB; simp; omega
        have hlw : (Lit.int .i64 ((bs.length - (at_ + k) : Nat) : Int)).wf = true := by
          have := hr.lim
          unfold Lim at this
          simp [Lit.wf, IntKind.min, IntKind.max, IntKind.signed, IntKind.bits]
          omega
        clear hx hR hU hw hrest hll hs
        go_enter Try.func59, Try.ntmps59
        go_wp2_with (first
          | (go_at_call 56; refine Hx.out.mono ?_; rintro e w1 ⟨rfl, hr2, hk2⟩; clear Hx)
          | (go_at_call 68; refine (above_calls n _ _ (by assumption)).mono ?_; rintro e w2 ⟨rfl, rfl⟩)
          | (go_at_call 60; refine (left_any p A c bs (at_ + k) _ hr2).mono ?_; rintro e w1 ⟨rfl, nq, rfl⟩)
          | (go_at_call 49; refine (fail_any p A c bs (at_ + k) 2 _ (hr2.drewN nq)).mono ?_; rintro e w2 ⟨rfl, rfl⟩))
        exact ⟨rfl, RPost.mkBad HU.out rfl (by omega) rfl (hr2.drewN nq) (hk2.drewN nq)⟩
      · rw [if_neg hs] at hU
        have HU := Lib.hid hU
        have ht2 : tooB n ((bs.length - (at_ + k) : Nat) : Int) = false := by unfold tooB; simp; omega
        have hlw : (Lit.int .i64 ((bs.length - (at_ + k) : Nat) : Int)).wf = true := by
          have := hr.lim
          unfold Lim at this
          simp [Lit.wf, IntKind.min, IntKind.max, IntKind.signed, IntKind.bits]
          omega
        have hk := numR_len hR
        have hlim : (bs.length : Int) ≤ 4294967296 := by have := hr.lim; unfold Lim at this; omega
        have hle := hr.le
        have hn32 : (at_ : Int) + (k : Int) + (n : Int) ≤ (bs.length : Int) := by omega
        have hb3 : at_ + k + n ≤ bs.length := by omega
        have HT := Lib.hid (show (l.drop k).take n = (bs.drop (at_ + k)).take n by rw [← hrest, List.drop_drop])
        obtain ⟨g, rfl⟩ : ∃ g, A = some ⟨g, 0, none⟩ := by
          obtain ⟨g, hg, _⟩ := hr.next (by have := hk.1; omega)
          exact ⟨g, hg⟩
        have hroom := own_room hr.own
        have hk1 := hk.1
        clear hx hR hU hw hrest hll hs hk
        go_enter Try.func59, Try.ntmps59
        go_wp2_with (first
          | (go_at_call 56; refine Hx.out.mono ?_; rintro e w1 ⟨rfl, hr2, hk2⟩; clear Hx)
          | (go_at_call 68; refine (above_calls n _ _ (by assumption)).mono ?_; rintro e w2 ⟨rfl, rfl⟩)
          | (go_at_call 60; refine (left_any p _ c bs (at_ + k) _ hr2).mono ?_; rintro e w1 ⟨rfl, nq, rfl⟩; have hc1 := hr2.cell1; have hc0 := hr2.cell0; have hf1 := hr2.free1))
        have hr3 := (hr2.drewN nq).step (at_ + k + n) hb3
        have hk3 := (hk2.drewN nq).same (Rd.kp_step (w1.drewN nq) p (.int .i64 ((at_ + k + n : Nat) : Int)))
        rw [show (((at_ + k + n : Nat) : Int)) = (at_ : Int) + (k : Int) + (n : Int) by omega] at hr3 hk3
        clear hc1 hc0 hf1
        generalize (w1.drewN nq).setCell ⟨p, 1, none⟩ (.int .i64 ((at_ : Int) + (k : Int) + (n : Int))) = W2 at *
        have hc1 : W2.cell? ⟨p, 1, none⟩ = some (.int .i64 ((at_ : Int) + (k : Int) + (n : Int))) := by rw [hr3.cell1]; simp
        have hc0 := hr3.cell0
        have hB := Bts.own hr3.own
        have hcut := hB.cut (at_ + k) n c hb3 hroom
        have hlo : (0 : Int) ≤ (at_ : Int) + (k : Int) := by omega
        have hcap : (at_ : Int) + (k : Int) + (n : Int) ≤ (c : Int) := by omega
        by_cases hcc : c = at_ + k
        · have hn0 : n = 0 := by omega
          subst hcc hn0
          have hcv := fun q => run_text (P := Try.prog) (W2.drewN q) 26 9 5 (some ⟨g, 0, none⟩) 0 [] Try.underlying26 Try.underlying5 Try.underlying9 (Bts.nil _)
          rw [List.length_nil] at hcv
          clear hcut hB
          go_quiet (fail)
          go_wp2
          go_ret
          exact RPost.mkOk HU.out (by show Value.string _ = Value.string _; rw [List.take_zero]) (by omega) (hr3.drewN _) (hk3.drewN _)
        · have hA : cutA (some ⟨g, 0, none⟩) (at_ + k) c = some ⟨g, at_ + k, none⟩ := by unfold cutA; rw [if_neg hcc]; simp [add_plain]
          rw [hA] at hcut
          have hcv := fun q => run_text (P := Try.prog) (W2.drewN q) 26 9 5 _ (c - (at_ + k)) _ Try.underlying26 Try.underlying5 Try.underlying9 (hcut.drewN q)
          rw [show ((bs.drop (at_ + k)).take n).length = n by rw [List.length_take, List.length_drop]; omega] at hcv
          have HA := Lib.hid hA
          have HCUT := Lib.hid hcut
          clear hA hcut hB
          go_quiet (fail)
          go_wp2
          go_ret
          exact RPost.mkOk HU.out (by show Value.string _ = Value.string _; rw [HT.out] <;> rfl) (by omega) (hr3.drewN _) (hk3.drewN _)
    · rw [ht, if_pos rfl] at hU
      have HU := Lib.hid hU
      clear hx hR hU hw hrest hll
      go_enter Try.func59, Try.ntmps59
      go_wp2_with (first
        | (go_at_call 56; refine Hx.out.mono ?_; rintro e w1 ⟨rfl, hr2, hk2⟩; clear Hx)
        | (go_at_call 68; refine (above_calls n m _ hm).mono ?_; rintro e w2 ⟨rfl, rfl⟩)
        | (go_at_call 49; refine (fail_any p A c bs (at_ + k) 3 _ hr2).mono ?_; rintro e w2 ⟨rfl, rfl⟩))
      exact ⟨rfl, RPost.mkBad HU.out rfl (by omega) rfl hr2 hk2⟩

end Go.Proofs.Ytmfjacehompmmaa
