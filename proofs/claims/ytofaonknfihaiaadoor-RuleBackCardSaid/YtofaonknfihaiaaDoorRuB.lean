/- Plain mathematics of layer 5: what was added, or came in, goes back. No program. -/
import Derived.Test.YtofaonknfihaiaaDoorRule26
namespace Go.Proofs.YtofaonknfihaiaaDoor
open Go.RowKit MM

theorem i64_bd {n : Int} (h : RC.I64 n) : -9223372036854775808 ≤ n ∧ n ≤ 9223372036854775807 := by
  unfold RC.I64 at h
  have h1 : IntKind.i64.min = -9223372036854775808 := by decide
  have h2 : IntKind.i64.max = 9223372036854775807 := by decide
  simp only [Lit.wf, Bool.and_eq_true, decide_eq_true_eq, h1, h2] at h
  exact h
theorem refE_both {r : RC.Rc} {a : AC.Ac} (h1 : AC.chk a = 0) (h2 : RC.chk r = 0) : refE r true a = kindE r.kind a.kind := by
  unfold refE
  simp [h1, h2]
theorem apply_done {r : RC.Rc} {a : AC.Ac} (h1 : AC.chk a = 0) (h2 : RC.chk r = 0) (h3 : kindE r.kind a.kind = 0) : RU.apply r true a = ((RU.doR r a).1, (RU.doR r a).1.kind != 0, (RU.doR r a).2) :=
  if_pos ((refE_both h1 h2).trans h3)
theorem apply_not {r : RC.Rc} {a : AC.Ac} (h1 : AC.chk a = 0) (h2 : RC.chk r = 0) (h3 : kindE r.kind a.kind ≠ 0) : RU.apply r true a = (r, true, RU.err (kindE r.kind a.kind)) := by
  have h4 : refE r true a = kindE r.kind a.kind := refE_both h1 h2
  have h5 : RU.apply r true a = (ownR r true, true, RU.err (refE (ownR r true) true a)) := if_neg (by show refE r true a ≠ 0; rw [h4]; exact h3)
  rw [h5]
  show (r, true, RU.err (refE r true a)) = _
  rw [h4]
theorem num_there {r : RC.Rc} {a : AC.Ac} (hk : a.kind = 7 ∨ a.kind = 8 ∨ a.kind = 10 ∨ a.kind = 11) (h : r.kind ≠ 0) : (RU.apply r true a).2.1 = true := by
  by_cases h1 : refE r true a = 0
  · have e1 : RU.apply r true a = ((RU.doR r a).1, (RU.doR r a).1.kind != 0, (RU.doR r a).2) := if_pos h1
    rw [e1]
    show ((RU.doR r a).1.kind != 0) = true
    have h2 : (RU.doR r a).1.kind = r.kind := by
      unfold RU.doR
      rcases hk with hk | hk | hk | hk
      · simp [hk]
      · simp [hk]; split <;> rfl
      · simp [hk]; split <;> rfl
      · simp [hk]; split <;> rfl
    rw [h2]
    simpa using h
  · have e1 : RU.apply r true a = (ownR r true, true, RU.err (refE (ownR r true) true a)) := if_neg h1
    rw [e1]
def BackOk (r : RC.Rc) (a b : AC.Ac) : Prop :=
  (RU.st r true [a, b] 2).2.1 = true ∧ ∃ x0 x1, (RU.st r true [a, b] 2).2.2 = [x0, x1] ∧ (x0.code ≠ 0 ∨ (x1.code = 0 ∧ (RU.st r true [a, b] 2).1 = r))
theorem st_two (r : RC.Rc) (a b : AC.Ac) : RU.st r true [a, b] 2 = ((RU.apply (RU.apply r true a).1 (RU.apply r true a).2.1 b).1, (RU.apply (RU.apply r true a).1 (RU.apply r true a).2.1 b).2.1, [(RU.apply r true a).2.2, (RU.apply (RU.apply r true a).1 (RU.apply r true a).2.1 b).2.2]) := rfl
theorem known_ne {r : RC.Rc} (h : RC.chk r = 0) : r.kind ≠ 0 := by
  have := RC.kind9 (RC.chk_zero h).1
  omega
/-- Refused at once. -/
theorem back_no {r : RC.Rc} {a b : AC.Ac} (h1 : AC.chk a = 0) (h2 : RC.chk r = 0) (hk : b.kind = 7 ∨ b.kind = 8 ∨ b.kind = 10 ∨ b.kind = 11) (h3 : kindE r.kind a.kind ≠ 0) : BackOk r a b := by
  unfold BackOk
  rw [st_two, apply_not h1 h2 h3]
  exact ⟨num_there hk (known_ne h2), _, _, rfl, .inl h3⟩
/-- Refused by its number. -/
theorem back_over {r : RC.Rc} {a b : AC.Ac} {c : Nat} (h1 : AC.chk a = 0) (h2 : RC.chk r = 0) (hk : b.kind = 7 ∨ b.kind = 8 ∨ b.kind = 10 ∨ b.kind = 11) (h3 : kindE r.kind a.kind = 0) (hd : RU.doR r a = (r, RU.err c)) (hc : c ≠ 0) : BackOk r a b := by
  have hr := known_ne h2
  have he : RU.apply r true a = (r, true, RU.err c) := by
    rw [apply_done h1 h2 h3, hd]
    have : (r.kind != 0) = true := by simpa using hr
    rw [this]
  unfold BackOk
  rw [st_two, he]
  exact ⟨num_there hk hr, _, _, rfl, .inl hc⟩
/-- Done, and back again. -/
theorem back_yes {r q : RC.Rc} {a b : AC.Ac} (h1 : AC.chk a = 0) (h2 : RC.chk r = 0) (hk : b.kind = 7 ∨ b.kind = 8 ∨ b.kind = 10 ∨ b.kind = 11) (h3 : kindE r.kind a.kind = 0) (hd : RU.doR r a = (q, RU.err 0)) (hq : RC.chk q = 0) (hb : AC.chk b = 0) (h4 : kindE q.kind b.kind = 0) (hd2 : RU.doR q b = (r, RU.err 0)) : BackOk r a b := by
  have he : RU.apply r true a = (q, true, RU.err 0) := by
    rw [apply_done h1 h2 h3, hd]
    have : (q.kind != 0) = true := by simpa using known_ne hq
    rw [this]
  unfold BackOk
  rw [st_two, he]
  refine ⟨num_there hk (known_ne hq), _, _, rfl, .inr ?_⟩
  show (RU.apply q true b).2.2.code = 0 ∧ (RU.apply q true b).1 = r
  rw [apply_done hb hq h4, hd2]
  exact ⟨rfl, rfl⟩
theorem num_chk {r : RC.Rc} (h : RC.chk r = 0) (hk : r.kind = 2 ∨ r.kind = 3) (n : Int) : RC.chk { r with num := n } = 0 := by
  obtain ⟨h1, h2, h3⟩ := RC.chk_zero h
  have h4 : RC.clean { r with num := n } = true := (RC.clean_iff _).2 ⟨fun x => absurd (show 2 ≤ r.kind ∧ r.kind ≤ 4 by omega) x, h2.low, h2.high, h2.real, h2.cap, h2.text, h2.list⟩
  unfold RC.chk
  rw [if_pos h1, if_pos h4]
  unfold RC.fieldE
  show (if r.kind = 1 then _ else if r.kind = 4 then _ else if 5 ≤ r.kind ∧ r.kind ≤ 7 then _ else if 8 ≤ r.kind then _ else 0) = 0
  rw [if_neg (by omega), if_neg (by omega), if_neg (by omega), if_neg (by omega)]
theorem purse_bd {r : RC.Rc} (h : RC.chk r = 0) (hk : r.kind = 4) : -2305843009213693952 ≤ r.low ∧ r.low ≤ r.num ∧ r.num ≤ r.high ∧ r.high ≤ 2305843009213693952 := by
  obtain ⟨h1, h2, h3⟩ := RC.chk_zero h
  unfold RC.fieldE at h3
  rw [if_neg (by omega), if_pos hk] at h3
  split at h3
  · rename_i h4; unfold RC.purseOk at h4; simpa using h4
  · cases h3
theorem purse_chk {r : RC.Rc} (h : RC.chk r = 0) (hk : r.kind = 4) (n : Int) (hn : r.low ≤ n ∧ n ≤ r.high) : RC.chk { r with num := n } = 0 := by
  have hb := purse_bd h hk
  obtain ⟨h1, h2, h3⟩ := RC.chk_zero h
  have h4 : RC.clean { r with num := n } = true := (RC.clean_iff _).2 ⟨fun x => absurd (show 2 ≤ r.kind ∧ r.kind ≤ 4 by omega) x, h2.low, h2.high, h2.real, h2.cap, h2.text, h2.list⟩
  have h5 : RC.purseOk { r with num := n } = true := by
    unfold RC.purseOk
    simp only [decide_eq_true_eq]
    exact ⟨hb.1, hn.1, hn.2, hb.2.2.2⟩
  unfold RC.chk
  rw [if_pos h1, if_pos h4]
  unfold RC.fieldE
  rw [if_neg (show ¬ r.kind = 1 by omega), if_pos (show r.kind = 4 from hk), if_pos h5]
theorem kindE_on {k o : Int} (h1 : k ≠ 1) (ho : (rowAt k).on = o) (h0 : o ≠ 0) {kind : Int} (h : kindE kind k = 0) : kind = o := by
  unfold kindE at h
  rw [if_neg h1, ho] at h
  split at h
  · cases h
  · rename_i h2
    rcases Decidable.em (o = kind) with h3 | h3
    · exact h3.symm
    · exact absurd ⟨h0, h3⟩ h2
theorem kindE_is {k o : Int} (h1 : k ≠ 1) (ho : (rowAt k).on = o) : kindE o k = 0 := by
  unfold kindE
  rw [if_neg h1, ho, if_neg (fun x => x.2 rfl)]

section
variable {r : RC.Rc} {key : ByteArray} {n : Int} {x : Nat} {s : ByteArray} {m : RC.Rc} {must : Bool}
theorem back_7 (hr : r.ok) (hn : RC.I64 n) (h2 : RC.chk r = 0) (h1 : AC.chk ⟨7, key, n, x, s, m, must⟩ = 0) : BackOk r ⟨7, key, n, x, s, m, must⟩ ⟨7, key, RU.w64 (-n), x, s, m, must⟩ := by
  by_cases h3 : kindE r.kind 7 = 0
  · have hk := kindE_on (o := 2) (by omega) rfl (by omega) h3
    have b1 := i64_bd hr.num
    have b2 := i64_bd hn
    refine back_yes h1 h2 (.inl rfl) h3 (q := { r with num := RU.w64 (r.num + n) }) rfl (num_chk h2 (.inl hk) _) ?_ ?_ ?_
    · rw [← h1]; rfl
    · show kindE r.kind 7 = 0; exact h3
    · show (({ r with num := RU.w64 (RU.w64 (r.num + n) + RU.w64 (-n)) } : RC.Rc), RU.err 0) = _
      have : RU.w64 (RU.w64 (r.num + n) + RU.w64 (-n)) = r.num := by unfold RU.w64 wrap64; omega
      rw [this]
  · exact back_no h1 h2 (.inl rfl) h3
theorem back_8 (hr : r.ok) (hn : RC.I64 n) (hm : -9223372036854775808 < n) (h2 : RC.chk r = 0) (h1 : AC.chk ⟨8, key, n, x, s, m, must⟩ = 0) : BackOk r ⟨8, key, n, x, s, m, must⟩ ⟨8, key, RU.w64 (-n), x, s, m, must⟩ := by
  by_cases h3 : kindE r.kind 8 = 0
  · have hk := kindE_on (o := 3) (by omega) rfl (by omega) h3
    have b1 := i64_bd hr.num
    have b2 := i64_bd hn
    cases ho : RU.plusOver r n
    · have hp : decide (RU.w64 (r.num + n) < r.num) = decide (n < 0) := by unfold RU.plusOver at ho; simpa using ho
      have hfit : RU.w64 (r.num + n) = r.num + n := by
        rw [decide_eq_decide] at hp
        unfold RU.w64 wrap64 at hp ⊢
        omega
      have hneg : RU.w64 (-n) = -n := by unfold RU.w64 wrap64; omega
      refine back_yes h1 h2 (.inr (.inl rfl)) h3 (q := { r with num := RU.w64 (r.num + n) }) ?_ (num_chk h2 (.inr hk) _) ?_ ?_ ?_
      · show (if RU.plusOver r n = true then _ else _) = _
        rw [if_neg (by rw [ho]; simp)]
      · rw [← h1]; rfl
      · show kindE r.kind 8 = 0; exact h3
      · have hback : RU.w64 (RU.w64 (r.num + n) + RU.w64 (-n)) = r.num := by rw [hfit, hneg]; unfold RU.w64 wrap64; omega
        have ho2 : RU.plusOver { r with num := RU.w64 (r.num + n) } (RU.w64 (-n)) = false := by
          unfold RU.plusOver
          show (decide (RU.w64 (RU.w64 (r.num + n) + RU.w64 (-n)) < RU.w64 (r.num + n)) != decide (RU.w64 (-n) < 0)) = false
          rw [hback, hfit, hneg]
          have : (r.num < r.num + n) = (-n < 0) := by rw [eq_iff_iff]; omega
          simp [this]
        show (if RU.plusOver { r with num := RU.w64 (r.num + n) } (RU.w64 (-n)) = true then _ else (({ r with num := RU.w64 (RU.w64 (r.num + n) + RU.w64 (-n)) } : RC.Rc), RU.err 0)) = _
        rw [if_neg (by rw [ho2]; simp), hback]
    · refine back_over (c := 9) h1 h2 (.inr (.inl rfl)) h3 ?_ (by omega)
      show (if RU.plusOver r n = true then _ else _) = _
      rw [if_pos ho]
  · exact back_no h1 h2 (.inr (.inl rfl)) h3
theorem amount_bd {k : Int} (hk : k = 10 ∨ k = 11) (h1 : AC.chk ⟨k, key, n, x, s, m, must⟩ = 0) : 0 ≤ n ∧ n ≤ 2305843009213693952 := by
  have h3 : AC.amount ⟨k, key, n, x, s, m, must⟩ = true := by
    unfold AC.chk at h1
    split at h1
    · split at h1
      · split at h1
        · cases h1
        · split at h1
          · cases h1
          · split at h1
            · assumption
            · cases h1
      · cases h1
    · cases h1
  unfold AC.amount at h3
  rw [if_pos hk] at h3
  simpa using h3
theorem back_10 (h2 : RC.chk r = 0) (h1 : AC.chk ⟨10, key, n, x, s, m, must⟩ = 0) : BackOk r ⟨10, key, n, x, s, m, must⟩ ⟨11, key, n, x, s, m, must⟩ := by
  by_cases h3 : kindE r.kind 10 = 0
  · have hk := kindE_on (o := 4) (by omega) rfl (by omega) h3
    have b1 := purse_bd h2 hk
    have b2 := amount_bd (.inl rfl) h1
    have hfit : RU.w64 (r.num + n) = r.num + n := by unfold RU.w64 wrap64; omega
    by_cases ho : r.high < RU.w64 (r.num + n)
    · refine back_over (c := 9) h1 h2 (.inr (.inr (.inr rfl))) h3 ?_ (by omega)
      show (if r.high < RU.w64 (r.num + n) then _ else _) = _
      rw [if_pos ho]
    · refine back_yes h1 h2 (.inr (.inr (.inr rfl))) h3 (q := { r with num := RU.w64 (r.num + n) }) ?_ (purse_chk h2 hk _ ⟨by omega, by omega⟩) ?_ ?_ ?_
      · show (if r.high < RU.w64 (r.num + n) then _ else _) = _
        rw [if_neg ho]
      · rw [← h1]; rfl
      · show kindE r.kind 11 = 0; rw [hk]; rfl
      · have hback : RU.w64 (RU.w64 (r.num + n) - n) = r.num := by rw [hfit]; unfold RU.w64 wrap64; omega
        show (if RU.w64 (RU.w64 (r.num + n) - n) < r.low then _ else (({ r with num := RU.w64 (RU.w64 (r.num + n) - n) } : RC.Rc), RU.err 0)) = _
        rw [hback, if_neg (by omega)]
  · exact back_no h1 h2 (.inr (.inr (.inr rfl))) h3
theorem back_11 (h2 : RC.chk r = 0) (h1 : AC.chk ⟨11, key, n, x, s, m, must⟩ = 0) : BackOk r ⟨11, key, n, x, s, m, must⟩ ⟨10, key, n, x, s, m, must⟩ := by
  by_cases h3 : kindE r.kind 11 = 0
  · have hk := kindE_on (o := 4) (by omega) rfl (by omega) h3
    have b1 := purse_bd h2 hk
    have b2 := amount_bd (.inr rfl) h1
    have hfit : RU.w64 (r.num - n) = r.num - n := by unfold RU.w64 wrap64; omega
    by_cases ho : RU.w64 (r.num - n) < r.low
    · refine back_over (c := 10) h1 h2 (.inr (.inr (.inl rfl))) h3 ?_ (by omega)
      show (if RU.w64 (r.num - n) < r.low then _ else _) = _
      rw [if_pos ho]
    · refine back_yes h1 h2 (.inr (.inr (.inl rfl))) h3 (q := { r with num := RU.w64 (r.num - n) }) ?_ (purse_chk h2 hk _ ⟨by omega, by omega⟩) ?_ ?_ ?_
      · show (if RU.w64 (r.num - n) < r.low then _ else _) = _
        rw [if_neg ho]
      · rw [← h1]; rfl
      · show kindE r.kind 10 = 0; rw [hk]; rfl
      · have hback : RU.w64 (RU.w64 (r.num - n) + n) = r.num := by rw [hfit]; unfold RU.w64 wrap64; omega
        show (if r.high < RU.w64 (RU.w64 (r.num - n) + n) then _ else (({ r with num := RU.w64 (RU.w64 (r.num - n) + n) } : RC.Rc), RU.err 0)) = _
        rw [hback, if_neg (by omega)]
  · exact back_no h1 h2 (.inr (.inr (.inl rfl))) h3
end

end Go.Proofs.YtofaonknfihaiaaDoor
