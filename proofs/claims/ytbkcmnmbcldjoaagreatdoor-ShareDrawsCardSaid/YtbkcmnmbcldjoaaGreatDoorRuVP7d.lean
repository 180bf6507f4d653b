/- Contracts of package rule: Apply, whatever the act. -/
import Derived.Test.YtbkcmnmbcldjoaaGreatDoorR24P7d
import Derived.Test.YtbkcmnmbcldjoaaGreatDoorOpn4rmP7d
namespace Go.Proofs.YtbkcmnmbcldjoaaGreatDoor
open Go.RowKit MM
/-- What an act does to a record, or to none, and what it is answered. -/
def RU.apply (r : RC.Rc) (there : Bool) (a : AC.Ac) : RC.Rc × Bool × RU.Ans :=
  if refE (ownR r there) there a = 0 then ((RU.doR (ownR r there) a).1, (RU.doR (ownR r there) a).1.kind != 0, (RU.doR (ownR r there) a).2)
  else (ownR r there, there, RU.err (refE (ownR r there) there a))
theorem refE_act {q : RC.Rc} {there : Bool} {a : AC.Ac} (h : refE q there a = 0) : AC.chk a = 0 := by
  unfold refE at h
  split at h
  · exact h
  · omega
theorem refE_rec {q : RC.Rc} {a : AC.Ac} (h : refE q true a = 0) : RC.chk q = 0 := by
  unfold refE at h
  split at h
  · rename_i x; exact absurd h x
  · simp at h
    split at h
    · assumption
    · rename_i x; exact absurd h x
theorem ownR_ok {r : RC.Rc} {there : Bool} (h : r.ok) : (ownR r there).ok := by
  cases there
  · exact RC.zero_ok
  · exact h
theorem ownR_len (r : RC.Rc) (there : Bool) : (ownR r there).list.length ≤ r.list.length := by
  cases there
  · exact Nat.zero_le _
  · exact Nat.le_refl _
theorem can_of {r : RC.Rc} {there : Bool} {a : AC.Ac} (hr : r.ok) (ha : a.ok) (h : refE (ownR r there) there a = 0) : Can (ownR r there) a := by
  have hc := refE_act h
  have hm := AC.chk_may ha hc
  refine ⟨ownR_ok hr, ha, ?_, ?_, ?_⟩
  · cases there
    · exact Nat.zero_le _
    · exact (RC.chk_may hr (refE_rec h)).len
  · cases there
    · exact Int.le_refl _
    · exact (RC.chk_may hr (refE_rec h)).cap.1
  · cases hM : AC.hasM a.kind
    · rw [hm.m hM]; exact Nat.zero_le _
    · have := (RC.chk_may ha.make (hm.made hM)).len; omega
theorem ent_change1 : ∀ args w, (callFunc 147 args).run Tryz.prog w = .ok (.enter 147 args) w := by
  intro args w
  kernel_rfl
theorem ent_test1 : ∀ args w, (callFunc 148 args).run Tryz.prog w = .ok (.enter 148 args) w := by
  intro args w
  kernel_rfl
theorem ent_tellKind : ∀ args w, (callFunc 118 args).run Tryz.prog w = .ok (.enter 118 args) w := by
  intro args w
  kernel_rfl
theorem ent_look : ∀ args w, (callFunc 119 args).run Tryz.prog w = .ok (.enter 119 args) w := by
  intro args w
  kernel_rfl
theorem ent_swap : ∀ args w, (callFunc 121 args).run Tryz.prog w = .ok (.enter 121 args) w := by
  intro args w
  kernel_rfl
theorem apply_any (r : RC.Rc) (there : Bool) (a : AC.Ac) (A L : Option Addr) (c cl : Nat) (w : World) (hr : r.ok) (ha : a.ok) (hR : RowsAt w) (hA : Its w A r.list) (hL : Its w L a.make.list) (n1 : Lim r.list.length) (n2 : Lim a.make.list.length) (n3 : Lim a.key.size) (n4 : Lim a.s.size) :
    Calls Tryz.prog 48 #[recV r A c, .bool there, actV a L cl] w (ApPost (RU.apply r there a).1 (RU.apply r there a).2.1 (RU.apply r there a).2.2 w) := by
  have n1' := n1.le (ownR_len r there)
  by_cases h : refE (ownR r there) there a = 0
  · have hd : RU.apply r there a = ((RU.doR (ownR r there) a).1, (RU.doR (ownR r there) a).1.kind != 0, (RU.doR (ownR r there) a).2) := if_pos h
    have hcan := can_of hr ha h
    have hkn := (AC.chk_may ha (refE_act h)).known
    rw [hd]
    have hk21 : a.kind = 1 ∨ a.kind = 2 ∨ a.kind = 3 ∨ a.kind = 4 ∨ a.kind = 5 ∨ a.kind = 6 ∨ a.kind = 7 ∨ a.kind = 8 ∨ a.kind = 9 ∨ a.kind = 10 ∨ a.kind = 11 ∨ a.kind = 12 ∨ a.kind = 13 ∨ a.kind = 14 ∨ a.kind = 15 ∨ a.kind = 16 ∨ a.kind = 17 ∨ a.kind = 18 ∨ a.kind = 19 ∨ a.kind = 20 ∨ a.kind = 21 := by omega
    rcases hk21 with hk | hk | hk | hk | hk | hk | hk | hk | hk | hk | hk | hk | hk | hk | hk | hk | hk | hk | hk | hk | hk
    · exact apply_mk r there a A L c cl w (ownR_ok hr) ha hR hA hL n1 n1' n2 n3 n4 h 147 (fun b => b.b1) _ _ ent_change1 (fun b W => by rw [hk]; kernel_rfl) (fun b u v A' c' hD ho hL => doing_1 _ a L cl hcan hk b u v A' c' hD ho hL)
    · exact apply_mk r there a A L c cl w (ownR_ok hr) ha hR hA hL n1 n1' n2 n3 n4 h 147 (fun b => b.b2) _ _ ent_change1 (fun b W => by rw [hk]; kernel_rfl) (fun b u v A' c' hD ho hL => doing_2 _ a L cl hcan hk b u v A' c' hD ho hL)
    · exact apply_fn r there a A L c cl w (ownR_ok hr) ha hR hA hL n1 n1' n2 n3 n4 h 118 _ _ ent_tellKind (fun b W => by rw [hk]; kernel_rfl) (fun b u v A' c' hD ho hL => doing_3 _ a L cl hcan hk b u v A' c' hD ho hL)
    · exact apply_fn r there a A L c cl w (ownR_ok hr) ha hR hA hL n1 n1' n2 n3 n4 h 119 _ _ ent_look (fun b W => by rw [hk]; kernel_rfl) (fun b u v A' c' hD ho hL => doing_4 _ a L cl hcan hk b u v A' c' hD ho hL)
    · exact apply_mk r there a A L c cl w (ownR_ok hr) ha hR hA hL n1 n1' n2 n3 n4 h 147 (fun b => b.b3) _ _ ent_change1 (fun b W => by rw [hk]; kernel_rfl) (fun b u v A' c' hD ho hL => doing_5 _ a L cl hcan hk b u v A' c' hD ho hL)
    · exact apply_fn r there a A L c cl w (ownR_ok hr) ha hR hA hL n1 n1' n2 n3 n4 h 121 _ _ ent_swap (fun b W => by rw [hk]; kernel_rfl) (fun b u v A' c' hD ho hL => doing_6 _ a L cl hcan hk b u v A' c' hD ho hL)
    · exact apply_mk r there a A L c cl w (ownR_ok hr) ha hR hA hL n1 n1' n2 n3 n4 h 147 (fun b => b.b4) _ _ ent_change1 (fun b W => by rw [hk]; kernel_rfl) (fun b u v A' c' hD ho hL => doing_7 _ a L cl hcan hk b u v A' c' hD ho hL)
    · exact apply_mk r there a A L c cl w (ownR_ok hr) ha hR hA hL n1 n1' n2 n3 n4 h 147 (fun b => b.b5) _ _ ent_change1 (fun b W => by rw [hk]; kernel_rfl) (fun b u v A' c' hD ho hL => doing_8 _ a L cl hcan hk b u v A' c' hD ho hL)
    · exact apply_mk r there a A L c cl w (ownR_ok hr) ha hR hA hL n1 n1' n2 n3 n4 h 148 (fun b => b.b6) _ _ ent_test1 (fun b W => by rw [hk]; kernel_rfl) (fun b u v A' c' hD ho hL => doing_9 _ a L cl hcan hk b u v A' c' hD ho hL)
    · exact apply_mk r there a A L c cl w (ownR_ok hr) ha hR hA hL n1 n1' n2 n3 n4 h 147 (fun b => b.b7) _ _ ent_change1 (fun b W => by rw [hk]; kernel_rfl) (fun b u v A' c' hD ho hL => doing_10 _ a L cl hcan hk b u v A' c' hD ho hL)
    · exact apply_mk r there a A L c cl w (ownR_ok hr) ha hR hA hL n1 n1' n2 n3 n4 h 147 (fun b => b.b8) _ _ ent_change1 (fun b W => by rw [hk]; kernel_rfl) (fun b u v A' c' hD ho hL => doing_11 _ a L cl hcan hk b u v A' c' hD ho hL)
    · exact apply_mk r there a A L c cl w (ownR_ok hr) ha hR hA hL n1 n1' n2 n3 n4 h 148 (fun b => b.b9) _ _ ent_test1 (fun b W => by rw [hk]; kernel_rfl) (fun b u v A' c' hD ho hL => doing_12 _ a L cl hcan hk b u v A' c' hD ho hL)
    · exact apply_mk r there a A L c cl w (ownR_ok hr) ha hR hA hL n1 n1' n2 n3 n4 h 147 (fun b => b.b11) _ _ ent_change1 (fun b W => by rw [hk]; kernel_rfl) (fun b u v A' c' hD ho hL => doing_13 _ a L cl hcan hk b u v A' c' hD ho hL)
    · exact apply_mk r there a A L c cl w (ownR_ok hr) ha hR hA hL n1 n1' n2 n3 n4 h 147 (fun b => b.b13) _ _ ent_change1 (fun b W => by rw [hk]; kernel_rfl) (fun b u v A' c' hD ho hL => doing_14 _ a L cl hcan hk b u v A' c' hD ho hL)
    · exact apply_mk r there a A L c cl w (ownR_ok hr) ha hR hA hL n1 n1' n2 n3 n4 h 147 (fun b => b.b15) _ _ ent_change1 (fun b W => by rw [hk]; kernel_rfl) (fun b u v A' c' hD ho hL => doing_15 _ a L cl hcan hk b u v A' c' hD ho hL)
    · exact apply_mk r there a A L c cl w (ownR_ok hr) ha hR hA hL n1 n1' n2 n3 n4 h 147 (fun b => b.b17) _ _ ent_change1 (fun b W => by rw [hk]; kernel_rfl) (fun b u v A' c' hD ho hL => doing_16 _ a L cl hcan hk b u v A' c' hD ho hL)
    · exact apply_mk r there a A L c cl w (ownR_ok hr) ha hR hA hL n1 n1' n2 n3 n4 h 147 (fun b => b.b19) _ _ ent_change1 (fun b W => by rw [hk]; kernel_rfl) (fun b u v A' c' hD ho hL => doing_17 _ a L cl hcan hk b u v A' c' hD ho hL)
    · exact apply_mk r there a A L c cl w (ownR_ok hr) ha hR hA hL n1 n1' n2 n3 n4 h 147 (fun b => b.b20) _ _ ent_change1 (fun b W => by rw [hk]; kernel_rfl) (fun b u v A' c' hD ho hL => doing_18 _ a L cl hcan hk b u v A' c' hD ho hL)
    · exact apply_mk r there a A L c cl w (ownR_ok hr) ha hR hA hL n1 n1' n2 n3 n4 h 147 (fun b => b.b21) _ _ ent_change1 (fun b W => by rw [hk]; kernel_rfl) (fun b u v A' c' hD ho hL => doing_19 _ a L cl hcan hk b u v A' c' hD ho hL)
    · exact apply_mk r there a A L c cl w (ownR_ok hr) ha hR hA hL n1 n1' n2 n3 n4 h 148 (fun b => b.b22) _ _ ent_test1 (fun b W => by rw [hk]; kernel_rfl) (fun b u v A' c' hD ho hL => doing_20 _ a L cl hcan hk b u v A' c' hD ho hL)
    · exact apply_mk r there a A L c cl w (ownR_ok hr) ha hR hA hL n1 n1' n2 n3 n4 h 147 (fun b => b.b23) _ _ ent_change1 (fun b W => by rw [hk]; kernel_rfl) (fun b u v A' c' hD ho hL => doing_21 _ a L cl hcan hk b u v A' c' hD ho hL)
  · have hd : RU.apply r there a = (ownR r there, there, RU.err (refE (ownR r there) there a)) := if_neg h
    rw [hd]
    exact apply_refused r there a A L c cl w (ownR_ok hr) ha hR hA hL n1 n1' n2 n3 n4 h
end Go.Proofs.YtbkcmnmbcldjoaaGreatDoor
namespace Go.Proofs.YtbkcmnmbcldjoaaGreatDoor
open Go.RowKit MM
theorem i64_w64 (n : Int) : RC.I64 (RU.w64 n) := by
  unfold RC.I64 RU.w64
  have h1 : IntKind.i64.min = -9223372036854775808 := by decide
  have h2 : IntKind.i64.max = 9223372036854775807 := by decide
  simp only [Lit.wf, Bool.and_eq_true, decide_eq_true_eq, h1, h2]
  unfold wrap64
  omega
theorem RU.list_lay {l : List RC.It} {x : RC.It} (hl : ∀ y ∈ l, MF.W64 y.score) (hx : MF.W64 x.score) : ∀ y ∈ RU.lay l x, MF.W64 y.score := by
  intro y hy
  unfold RU.lay at hy
  rcases List.mem_append.1 hy with h | h
  · exact hl y (List.mem_of_mem_take h)
  · rcases List.mem_cons.1 h with rfl | h
    · exact hx
    · exact hl y (List.mem_of_mem_drop h)
theorem RU.list_lose {l : List RC.It} {x : RC.It} (hl : ∀ y ∈ l, MF.W64 y.score) : ∀ y ∈ RU.lose l x, MF.W64 y.score := by
  intro y hy
  unfold RU.lose at hy
  rcases List.mem_append.1 hy with h | h
  · exact hl y (List.mem_of_mem_take h)
  · exact hl y (List.mem_of_mem_drop h)
theorem RU.lay_len (l : List RC.It) (x : RC.It) : (RU.lay l x).length = l.length + 1 := by
  have := RU.find_le l x
  unfold RU.lay
  simp
  omega
theorem RU.lose_len (l : List RC.It) (x : RC.It) : (RU.lose l x).length ≤ l.length := by
  have := RU.find_le l x
  unfold RU.lose
  simp
  omega
theorem joined_ok {q : RC.Rc} {a : AC.Ac} (hq : q.ok) : (RU.joined q a).ok := by
  unfold RU.joined
  split
  · exact hq
  · exact ⟨hq.kind, hq.num, hq.low, hq.high, hq.real, hq.cap, RU.list_lay hq.list w0⟩
theorem left_ok {q : RC.Rc} {a : AC.Ac} (hq : q.ok) : (RU.left q a).ok := by
  unfold RU.left
  split
  · exact ⟨hq.kind, hq.num, hq.low, hq.high, hq.real, hq.cap, RU.list_lose hq.list⟩
  · exact hq
theorem offered_ok {q : RC.Rc} {a : AC.Ac} (hq : q.ok) (hx : MF.W64 a.x) : (RU.offered q a).ok := by
  unfold RU.offered
  split
  · exact hq
  · split
    · exact ⟨hq.kind, hq.num, hq.low, hq.high, hq.real, hq.cap, RU.list_lay hq.list hx⟩
    · exact ⟨hq.kind, hq.num, hq.low, hq.high, hq.real, hq.cap, fun y hy => RU.list_lay hq.list hx y (List.mem_of_mem_take hy)⟩
theorem num_ok {q : RC.Rc} (hq : q.ok) (n : Int) : ({ q with num := RU.w64 n } : RC.Rc).ok := ⟨hq.kind, i64_w64 n, hq.low, hq.high, hq.real, hq.cap, hq.list⟩
theorem real_ok {q : RC.Rc} (hq : q.ok) {x : Nat} (hx : MF.W64 x) : ({ q with real := x } : RC.Rc).ok := ⟨hq.kind, hq.num, hq.low, hq.high, hx, hq.cap, hq.list⟩
theorem text_ok {q : RC.Rc} (hq : q.ok) (s : ByteArray) : ({ q with text := s } : RC.Rc).ok := ⟨hq.kind, hq.num, hq.low, hq.high, hq.real, hq.cap, hq.list⟩
theorem doR_all {P : RC.Rc × RU.Ans → Prop} {q : RC.Rc} {a : AC.Ac} (hq : ∀ c, P (q, RU.err c)) (h1 : P (a.make, RU.err 0)) (h2 : P (RC.zero, RU.err 0)) (h3 : P (q, ⟨0, q.kind, RC.zero⟩)) (h4 : P (q, ⟨0, 0, q⟩)) (h5 : P ({ q with text := a.s }, RU.err 0)) (h6 : P ({ q with text := a.s }, ⟨0, 0, q⟩)) (h7 : P ({ q with num := RU.w64 (q.num + a.n) }, RU.err 0)) (h8b : P ({ q with num := RU.w64 (q.num + a.n) }, RU.err 0)) (h10b : P ({ q with num := RU.w64 (q.num + a.n) }, RU.err 0)) (h11b : P ({ q with num := RU.w64 (q.num - a.n) }, RU.err 0)) (h13 : P ({ q with real := MF.mx q.real a.x }, RU.err 0)) (h14 : P ({ q with real := MF.mn q.real a.x }, RU.err 0)) (h15 : P ({ q with real := MF.plus q.real a.x }, RU.err 0)) (h16 : P ({ q with real := MF.times q.real a.x }, RU.err 0)) (h17 : P ({ q with real := a.x }, RU.err 0)) (h18 : P (RU.joined q a, RU.err 0)) (h19 : P (RU.left q a, RU.err 0)) (h21 : P (RU.offered q a, RU.err 0)) : P (RU.doR q a) := by
  unfold RU.doR
  by_cases k1 : a.kind = 1
  · rw [if_pos k1]; exact h1
  rw [if_neg k1]
  by_cases k2 : a.kind = 2
  · rw [if_pos k2]; exact h2
  rw [if_neg k2]
  by_cases k3 : a.kind = 3
  · rw [if_pos k3]; exact h3
  rw [if_neg k3]
  by_cases k4 : a.kind = 4
  · rw [if_pos k4]; exact h4
  rw [if_neg k4]
  by_cases k5 : a.kind = 5
  · rw [if_pos k5]; exact h5
  rw [if_neg k5]
  by_cases k6 : a.kind = 6
  · rw [if_pos k6]; exact h6
  rw [if_neg k6]
  by_cases k7 : a.kind = 7
  · rw [if_pos k7]; exact h7
  rw [if_neg k7]
  by_cases k8 : a.kind = 8
  · rw [if_pos k8]
    split
    · exact hq _
    · exact h8b
  rw [if_neg k8]
  by_cases k9 : a.kind = 9
  · rw [if_pos k9]
    split
    · exact hq _
    · exact hq _
  rw [if_neg k9]
  by_cases k10 : a.kind = 10
  · rw [if_pos k10]
    split
    · exact hq _
    · exact h10b
  rw [if_neg k10]
  by_cases k11 : a.kind = 11
  · rw [if_pos k11]
    split
    · exact hq _
    · exact h11b
  rw [if_neg k11]
  by_cases k12 : a.kind = 12
  · rw [if_pos k12]
    split
    · exact hq _
    · exact hq _
  rw [if_neg k12]
  by_cases k13 : a.kind = 13
  · rw [if_pos k13]; exact h13
  rw [if_neg k13]
  by_cases k14 : a.kind = 14
  · rw [if_pos k14]; exact h14
  rw [if_neg k14]
  by_cases k15 : a.kind = 15
  · rw [if_pos k15]; exact h15
  rw [if_neg k15]
  by_cases k16 : a.kind = 16
  · rw [if_pos k16]; exact h16
  rw [if_neg k16]
  by_cases k17 : a.kind = 17
  · rw [if_pos k17]; exact h17
  rw [if_neg k17]
  by_cases k18 : a.kind = 18
  · rw [if_pos k18]
    split
    · exact h18
    · exact hq _
  rw [if_neg k18]
  by_cases k19 : a.kind = 19
  · rw [if_pos k19]; exact h19
  rw [if_neg k19]
  by_cases k20 : a.kind = 20
  · rw [if_pos k20]
    split
    · exact hq _
    · exact hq _
  rw [if_neg k20]
  by_cases k21 : a.kind = 21
  · rw [if_pos k21]; exact h21
  rw [if_neg k21]
  exact hq 0
theorem doR_ok {q : RC.Rc} {a : AC.Ac} (h : Can q a) : (RU.doR q a).1.ok ∧ (RU.doR q a).2.rc.ok := by
  have hq := h.rok
  have ha := h.aok
  have hz := RC.zero_ok
  exact doR_all (P := fun x => x.1.ok ∧ x.2.rc.ok) (fun c => ⟨hq, hz⟩) ⟨ha.make, hz⟩ ⟨hz, hz⟩ ⟨hq, hz⟩ ⟨hq, hq⟩ ⟨text_ok hq _, hz⟩ ⟨text_ok hq _, hq⟩ ⟨num_ok hq _, hz⟩ ⟨num_ok hq _, hz⟩ ⟨num_ok hq _, hz⟩ ⟨num_ok hq _, hz⟩ ⟨real_ok hq (MF.w_mx hq.real ha.x), hz⟩ ⟨real_ok hq (MF.w_mn hq.real ha.x), hz⟩ ⟨real_ok hq (MF.w_plus _ _), hz⟩ ⟨real_ok hq (MF.w_times _ _), hz⟩ ⟨real_ok hq ha.x, hz⟩ ⟨joined_ok hq, hz⟩ ⟨left_ok hq, hz⟩ ⟨offered_ok hq ha.x, hz⟩
theorem joined_len (q : RC.Rc) (a : AC.Ac) : (RU.joined q a).list.length ≤ q.list.length + 1 := by
  unfold RU.joined
  split
  · omega
  · show (RU.lay _ _).length ≤ _
    rw [RU.lay_len]
    omega
theorem left_len (q : RC.Rc) (a : AC.Ac) : (RU.left q a).list.length ≤ q.list.length := by
  unfold RU.left
  split
  · exact RU.lose_len _ _
  · omega
theorem offered_len (q : RC.Rc) (a : AC.Ac) : (RU.offered q a).list.length ≤ q.list.length + 1 := by
  unfold RU.offered
  split
  · omega
  · split
    · show (RU.lay _ _).length ≤ _
      rw [RU.lay_len]
      omega
    · show ((RU.lay _ _).take _).length ≤ _
      rw [List.length_take, RU.lay_len]
      omega
theorem doR_len {q : RC.Rc} {a : AC.Ac} (h : Can q a) : (RU.doR q a).1.list.length ≤ 1000 ∧ (RU.doR q a).2.rc.list.length ≤ 1000 := by
  have hq := h.len
  have ha := h.made
  have hz : (0 : Nat) ≤ 1000 := Nat.zero_le _
  have hq1 : q.list.length ≤ 1000 := by omega
  have h1 := joined_len q a
  have h2 := left_len q a
  have h3 := offered_len q a
  exact doR_all (P := fun x => x.1.list.length ≤ 1000 ∧ x.2.rc.list.length ≤ 1000) (fun c => ⟨hq1, hz⟩) ⟨ha, hz⟩ ⟨hz, hz⟩ ⟨hq1, hz⟩ ⟨hq1, hq1⟩ ⟨hq1, hz⟩ ⟨hq1, hq1⟩ ⟨hq1, hz⟩ ⟨hq1, hz⟩ ⟨hq1, hz⟩ ⟨hq1, hz⟩ ⟨hq1, hz⟩ ⟨hq1, hz⟩ ⟨hq1, hz⟩ ⟨hq1, hz⟩ ⟨hq1, hz⟩ ⟨by show (RU.joined q a).list.length ≤ 1000; omega, hz⟩ ⟨by show (RU.left q a).list.length ≤ 1000; omega, hz⟩ ⟨by show (RU.offered q a).list.length ≤ 1000; omega, hz⟩
theorem apply_ok {r : RC.Rc} {there : Bool} {a : AC.Ac} (hr : r.ok) (ha : a.ok) : (RU.apply r there a).1.ok ∧ (RU.apply r there a).2.2.rc.ok := by
  unfold RU.apply
  split
  · rename_i h; exact doR_ok (can_of hr ha h)
  · exact ⟨ownR_ok hr, RC.zero_ok⟩
theorem apply_lim {r : RC.Rc} {there : Bool} {a : AC.Ac} (hr : r.ok) (ha : a.ok) (n : Lim r.list.length) : Lim (RU.apply r there a).1.list.length ∧ Lim (RU.apply r there a).2.2.rc.list.length := by
  unfold RU.apply
  split
  · rename_i h
    have h1 := doR_len (can_of hr ha h)
    constructor
    · have := h1.1; unfold Lim; show (RU.doR _ _).1.list.length < _; omega
    · have := h1.2; unfold Lim; show (RU.doR _ _).2.rc.list.length < _; omega
  · exact ⟨n.le (ownR_len r there), by unfold Lim; show (0 : Nat) < 4294967296; omega⟩
/-- Acts one behind the other: what is there behind the first i of them. -/
def RU.st (r : RC.Rc) (there : Bool) (l : List AC.Ac) : Nat → RC.Rc × Bool × List RU.Ans
  | 0 => (r, there, [])
  | i + 1 => match l[i]? with
    | none => RU.st r there l i
    | some a => ((RU.apply (RU.st r there l i).1 (RU.st r there l i).2.1 a).1, (RU.apply (RU.st r there l i).1 (RU.st r there l i).2.1 a).2.1, (RU.st r there l i).2.2 ++ [(RU.apply (RU.st r there l i).1 (RU.st r there l i).2.1 a).2.2])
theorem RU.st_next (r : RC.Rc) (there : Bool) (l : List AC.Ac) (i : Nat) (a : AC.Ac) (h : l[i]? = some a) : RU.st r there l (i + 1) = ((RU.apply (RU.st r there l i).1 (RU.st r there l i).2.1 a).1, (RU.apply (RU.st r there l i).1 (RU.st r there l i).2.1 a).2.1, (RU.st r there l i).2.2 ++ [(RU.apply (RU.st r there l i).1 (RU.st r there l i).2.1 a).2.2]) := by
  show (match l[i]? with | none => RU.st r there l i | some a => _) = _
  rw [h]
/-- An answer, and where its list lies. -/
structure An where
  x : RU.Ans
  A : Option Addr
  c : Nat
def An.cells (y : An) : List Value := (ansC y.x.code y.x.num y.x.rc y.A y.c).toList
def anCells : List An → List Value
  | [] => []
  | y :: l => y.cells ++ anCells l
theorem anCells_append : ∀ a b : List An, anCells (a ++ b) = anCells a ++ anCells b
  | [], _ => rfl
  | y :: a, b => by show y.cells ++ anCells (a ++ b) = (y.cells ++ anCells a) ++ anCells b; rw [anCells_append a b, List.append_assoc]
theorem in_row {A : Option Addr} {n c size base : Nat} {T : TypeId} {w : World} {cs : List Value} (ho : w.ownsRow base T size (.slice A n c) n cs) : ∀ k, ob A = some k → k < w.heap.size := fun k e => by
  cases A with
  | none => cases e
  | some ad => have := own_inside ho ad rfl; injection e with e; have e' : ad.block = k := e; omega
/-- How things stand behind i acts. -/
structure RwAt (r : RC.Rc) (th : Bool) (l : List AC.Ac) (w : World) (i : Nat) (q : RC.Rc) (t : Bool) (A : Option Addr) (c : Nat) (ys : List An) (B : Option Addr) (cb : Nat) (wr : World) : Prop where
  box : wr.heap[w.heap.size]? = some (.cells (recC q.kind q.num q.low q.high q.real q.cap q.text (.slice A q.list.length c)) 25 (0, 0))
  res : wr.heap[w.heap.size + 1]? = some (.cells (recC 0 0 0 0 0 0 ⟨#[]⟩ (.slice none 0 0)) 25 (0, 0))
  own : wr.ownsRow 0 91 2 (.slice A q.list.length c) q.list.length (itCells q.list)
  ans : wr.ownsRow 0 82 10 (.slice B i cb) i (anCells ys)
  its : ∀ y ∈ ys, Its wr y.A y.x.rc.list
  newA : ∀ k, ob A = some k → w.heap.size + 2 ≤ k ∧ ob B ≠ some k
  newB : ∀ k, ob B = some k → w.heap.size + 2 ≤ k
  newY : ∀ y ∈ ys, ∀ k, ob y.A = some k → w.heap.size + 2 ≤ k ∧ k < wr.heap.size ∧ ob B ≠ some k
  below : Below w.heap.size w wr
  state : RU.st r th l i = (q, t, ys.map (·.x))
  rok : q.ok
  lim : Lim q.list.length
  yok : ∀ y ∈ ys, y.x.rc.ok ∧ Lim y.x.rc.list.length
  len : ys.length = i
/-- What Row answers. -/
def RwPost (r : RC.Rc) (th : Bool) (l : List AC.Ac) (w : World) (e : Ending) (w' : World) : Prop :=
  ∃ q t A c ys B cb, e = .returned (.tuple #[recV q A c, .bool t, .slice B l.length cb]) ∧ RU.st r th l l.length = (q, t, ys.map (·.x)) ∧ ys.length = l.length ∧ w'.ownsRow 0 91 2 (.slice A q.list.length c) q.list.length (itCells q.list) ∧ w'.ownsRow 0 82 10 (.slice B l.length cb) l.length (anCells ys) ∧ (∀ y ∈ ys, Its w' y.A y.x.rc.list) ∧ q.ok ∧ Lim q.list.length ∧ (∀ y ∈ ys, y.x.rc.ok ∧ Lim y.x.rc.list.length) ∧ (∀ k, ob A = some k → w.heap.size ≤ k) ∧ (∀ k, ob B = some k → w.heap.size ≤ k) ∧ Below w.heap.size w w'
end Go.Proofs.YtbkcmnmbcldjoaaGreatDoor
namespace Go.Proofs.YtbkcmnmbcldjoaaGreatDoor
open Go.RowKit MM
theorem src_row {P : Program} {size : Nat} {tx e' t : TypeId} (hk : P.underlying tx = some (.slice e')) (w : World) (cs : Array Value) (k : Nat) (hw : k = w.heap.size) (hl : cs.size = 1 * size) (h1 : ∀ u ∈ cs.toList, u.oneCell' = true) :
    Src P size tx (.slice (some ⟨k, 0, none⟩) 1 1) 1 cs.toList (w.alloc (.cells cs t)) := by
  subst hw
  exact src_new hk w cs (by omega) h1
theorem one10 (a b c d e f g h i j : Value) (h1 : a.oneCell' = true) (h2 : b.oneCell' = true) (h3 : c.oneCell' = true) (h4 : d.oneCell' = true) (h5 : e.oneCell' = true) (h6 : f.oneCell' = true) (h7 : g.oneCell' = true) (h8 : h.oneCell' = true) (h9 : i.oneCell' = true) (h10 : j.oneCell' = true) : ∀ u ∈ (#[a, b, c, d, e, f, g, h, i, j] : Array Value).toList, u.oneCell' = true := by
  intro u hu
  simp at hu
  rcases hu with rfl | rfl | rfl | rfl | rfl | rfl | rfl | rfl | rfl | rfl <;> assumption
section
variable {r : RC.Rc} {th : Bool} {l : List AC.Ac} {w : World} {i : Nat} {q : RC.Rc} {t : Bool} {A : Option Addr} {c : Nat} {ys : List An} {B : Option Addr} {cb : Nat} {wr : World}
theorem RwAt.lt0 (h : RwAt r th l w i q t A c ys B cb wr) : w.heap.size < wr.heap.size := lt_of_heap h.box
theorem RwAt.lt1 (h : RwAt r th l w i q t A c ys B cb wr) : w.heap.size + 1 < wr.heap.size := lt_of_heap h.res
/-- An act was done: what it left is laid into the box. -/
theorem RwAt.next (h : RwAt r th l w i q t A c ys B cb wr) {a : AC.Ac} (ha : a.ok) (hi : l[i]? = some a) {w2 w3 w4 : World} {A1 : Option Addr} {c1 : Nat} {C : Option Addr} {cc : Nat} {B2 : Option Addr} {cb2 : Nat} {p : RC.Rc} {t' : Bool} {x : RU.Ans}
    (he : RU.apply q t a = (p, t', x)) (hb2 : Below wr.heap.size wr w2) (ho1 : w2.ownsRow 0 91 2 (.slice A1 p.list.length c1) p.list.length (itCells p.list)) (ho2 : w2.ownsRow 0 91 2 (.slice C x.rc.list.length cc) x.rc.list.length (itCells x.rc.list))
    (hn1 : ∀ k, ob A1 = some k → wr.heap.size + 2 ≤ k) (hn2 : ∀ k, ob C = some k → wr.heap.size + 2 ≤ k ∧ ob A1 ≠ some k)
    (hk3 : Kp (fun k => k = w.heap.size ∨ k = wr.heap.size + 1) w2 w3) (hbox : w3.heap[w.heap.size]? = some (.cells (recC p.kind p.num p.low p.high p.real p.cap p.text (.slice A1 p.list.length c1)) 25 (0, 0)))
    (hg : w3.grownBy w4 (ob B)) (hat : ob B2 = ob B ∨ ob B2 = some w3.heap.size) (ho : w4.ownsRow 0 82 10 (.slice B2 (i + 1) cb2) (i + 1) (anCells ys ++ (ansC x.code x.num x.rc C cc).toList)) :
    RwAt r th l w (i + 1) p t' A1 c1 (ys ++ [⟨x, C, cc⟩]) B2 cb2 w4 := by
  have hs := h.lt1
  have hs2 := hb2.size
  have hs3 := hk3.size
  have hB3 : ∀ k, ob B = some k → k < w3.heap.size := fun k e => by
    have := in_row h.ans k e
    omega
  have hbx : ob B ≠ some w.heap.size := fun e => by have := h.newB _ e; omega
  have hk4 : Kp (fun k => ob B = some k) w3 w4 := Kp.grown (Kp.refl _ _) hg (fun k e => .inl e)
  have hnB2 : ∀ k, ob B2 = some k → ob B = some k ∨ w3.heap.size ≤ k := fun k e => by
    rcases hat with h1 | h1
    · exact .inl (h1 ▸ e)
    · rw [h1] at e; injection e with e; exact .inr (by omega)
  have hB1 : ∀ k, ob A1 = some k → ob B ≠ some k := fun k e e2 => by
    have h1 := hn1 k e
    have h2 := in_row h.ans k e2
    omega
  have hin1 := in_of_own ho1
  have hin2 := in_of_own ho2
  have hst := h.state
  have hok := apply_ok (there := t) h.rok ha
  have hlm := apply_lim (there := t) h.rok ha h.lim
  rw [he] at hok hlm
  refine ⟨(hk4.block _ (lt_of_heap hbox) hbx).trans hbox, ?_, ?_, ?_, ?_, ?_, ?_, ?_, ?_, ?_, hok.1, hlm.1, ?_, ?_⟩
  · refine (hk4.block _ (by omega) (fun e => by have := h.newB _ e; omega)).trans ((hk3.block _ (by omega) (by omega)).trans ((hb2.block _ (by omega)).trans h.res))
  · exact hk4.own (hk3.own ho1 (fun k e x => by rw [ownBlock_slice] at e; have := hn1 k e; omega)) (fun k e x => by rw [ownBlock_slice] at e; exact hB1 k e x)
  · rw [anCells_append]
    show w4.ownsRow _ _ _ _ _ (anCells ys ++ (An.cells _ ++ []))
    rw [List.append_nil]
    exact ho
  · intro y hy
    rcases List.mem_append.1 hy with hy | hy
    · have h1 := h.newY y hy
      refine (((h.its y hy).below hb2).kp hk3 (fun ad e x => ?_)).kp hk4 (fun ad e x => ?_)
      · have h2 := (h1 ad.block (by rw [e]; rfl)).1; have h3 := (h1 ad.block (by rw [e]; rfl)).2.1; omega
      · exact (h1 ad.block (by rw [e]; rfl)).2.2 x
    · simp at hy
      subst hy
      refine ((Its.own ho2).kp hk3 (fun ad e x => ?_)).kp hk4 (fun ad e x => ?_)
      · have := (hn2 ad.block (by have e' : C = some ad := e; rw [e']; rfl)).1; omega
      · have h1 := (hn2 ad.block (by have e' : C = some ad := e; rw [e']; rfl)).1
        have h2 := in_row h.ans _ x
        omega
  · intro k e
    have h1 := hn1 k e
    refine ⟨by omega, fun e2 => ?_⟩
    rcases hnB2 k e2 with h3 | h3
    · exact hB1 k e h3
    · have := hin1 k e; omega
  · intro k e
    rcases hnB2 k e with h3 | h3
    · exact h.newB k h3
    · omega
  · intro y hy k e
    rcases List.mem_append.1 hy with hy | hy
    · have h1 := h.newY y hy k e
      refine ⟨h1.1, by have := hk4.size; omega, fun e2 => ?_⟩
      rcases hnB2 k e2 with h3 | h3
      · exact h1.2.2 h3
      · omega
    · simp at hy
      subst hy
      have h1 := (hn2 k e).1
      refine ⟨by omega, by have := hk4.size; have := hin2 k e; omega, fun e2 => ?_⟩
      rcases hnB2 k e2 with h3 | h3
      · have := in_row h.ans k h3; omega
      · have := hin2 k e; omega
  · exact h.below.trans ((hb2.mono h.below.size).trans ((hk3.below (by omega) (fun i hi x => by omega)).trans (hk4.below (by omega) (fun i hi x => by have := h.newB i x; omega))))
  · rw [RU.st_next r th l i a hi, hst]
    simp [he]
  · intro y hy
    rcases List.mem_append.1 hy with hy | hy
    · exact h.yok y hy
    · simp at hy
      subst hy
      exact ⟨hok.2, hlm.2⟩
  · simp [h.len]
end
theorem ans_info : (Tryz.prog.info? 82).map (fun i => (i.zero, i.size, i.bytes)) = some (some (.agg #[.int .i64 0, .int .i64 0, .int .i64 0, .int .i64 0, .int .i64 0, .int .i64 0, .float .f64 0, .int .i64 0, .string ⟨#[]⟩, .slice none 0 0]), 10, 104) := by kernel_rfl
set_option maxHeartbeats 4000000 in
set_option maxRecDepth 100000 in
theorem row_any (r : RC.Rc) (there : Bool) (l : List Al) (A L : Option Addr) (c cl : Nat) (w : World) (hr : r.ok) (hR : RowsAt w) (hA : Its w A r.list) (n1 : Lim r.list.length) (hl : ActsIn w L l) (hn : l.length ≤ 1000) (hs : ∀ x ∈ l, Lim x.r.make.list.length ∧ Lim x.r.key.size ∧ Lim x.r.s.size) :
    Calls Tryz.prog 44 #[recV r A c, .bool there, .slice L l.length cl] w (RwPost (ownR r there) there (l.map (·.r)) w) := by
  obtain ⟨i0, hi0, hz0, hz1, hz2⟩ := info_parts ans_info
  have HO := Lib.hid (fun u (b : Below w.heap.size w u) => ruleOwn_any r there A c u (hA.below b) n1)
  have hok := ownR_ok (there := there) hr
  have HOK := Lib.hid hok
  have HLM := Lib.hid (n1.le (ownR_len r there))
  have HR := Lib.hid hR
  have HL := Lib.hid hl
  have HS := Lib.hid hs
  clear hr hR hA n1 hl hs hok
  generalize ownR r there = q0 at *
  go_enter Tryz.func44, Tryz.ntmps44
  go_wp2_with fail
  refine (HO.out _ (below2 w _ _)).mono ?_
  rintro e w1 ⟨A0, c0, rfl, ho, hnew, hb⟩
  have hs1 := hb.size
  simp only [World.size_alloc] at hs1 hnew
  have e0 := (hb.block w.heap.size (by simp only [World.size_alloc]; omega)).trans (heap_alloc2_old w _ _)
  have e1 := (hb.block (w.heap.size + 1) (by simp only [World.size_alloc]; omega)).trans (heap_alloc2_new w _ _)
  have d0 := fun o => cell_of_row w1 _ o _ _ (0, 0) e0
  have f0 : ∀ o, w1.frozen? ⟨w.heap.size, o, none⟩ = false := fun o => frozen_of_row _ _ o _ _ e0
  have E0 := Lib.hid e0
  have E1 := Lib.hid e1
  have HW := Lib.hid ho
  have HN := Lib.hid hnew
  have HB := Lib.hid (show Below w.heap.size w w1 from (below2 w _ _).trans (hb.mono (by simp only [World.size_alloc]; omega)))
  have y0 : w.heap.size < w1.heap.size := by omega
  clear e0 e1 ho hnew hb
  go_wp2_with fail
  generalize hwz : World.setCell _ _ _ = wz
  have HI := Lib.hid (show RwAt q0 there (l.map (·.r)) w 0 q0 there A0 c0 [] none 0 wz by
    have hk : Kp (fun k => k = w.heap.size) w1 wz := by rw [← hwz]; exact kp8g (Kp.refl _ _) (Or.inl rfl)
    refine ⟨by rw [← hwz]; exact rec_stores E0.out, (hk.block _ (by omega) (by omega)).trans E1.out, hk.own HW.out (fun k e x => by rw [ownBlock_slice] at e; have := HN.out k e; omega), World.ownsRow_nil _ _ _ _, fun y hy => (by cases hy), fun k e => ⟨by have := HN.out k e; omega, fun e2 => by cases e2⟩, fun k e => (by cases e), fun y hy => (by cases hy), HB.out.trans (hk.below (by omega) (fun i hi x => by omega)), rfl, HOK.out, HLM.out, fun y hy => (by cases hy), rfl⟩)
  clear hwz d0 f0 E0 E1 HW HN HB y0 hs1 HO HOK HLM
  go_loopw [1, 9, 18] (fun t1 t9 t18 wr => ∃ (i : Nat) (q : RC.Rc) (t : Bool) (A1 : Option Addr) (c1 : Nat) (ys : List An) (B : Option Addr) (cb : Nat), t18 = .int .i64 i ∧ t1 = .bool t ∧ t9 = .slice B i cb ∧ i ≤ l.length ∧ RwAt q0 there (l.map (·.r)) w i q t A1 c1 ys B cb wr) (fun _ _ t18 _ => l.length - (intOf t18).toNat)
  case atStart => exact ⟨0, q0, there, A0, c0, [], none, 0, rfl, rfl, rfl, Nat.zero_le _, HI.out⟩
  case round =>
    obtain ⟨i, q, t, A1, c1, ys, B, cb, rfl, rfl, rfl, hi, hv⟩ := hrel
    have HV := Lib.hid hv
    clear hv
    by_cases hlt : i < l.length
    · have hin := HL.out.all _ (List.getElem_mem hlt)
      have hsm := HS.out _ (List.getElem_mem hlt)
      have hget : (l.map (·.r))[i]? = some l[i].r := by simp [hlt]
      rcases HL.out.rows with hA | ⟨b, off, rfl, hbl, hrows⟩
      · subst hA; simp at hlt
      have hrow := hrows i l[i] (List.getElem?_eq_getElem hlt)
      clear hrows
      generalize l[i] = y at *
      obtain ⟨⟨k, key, n, x, s, m, must⟩, RA, rc⟩ := y
      have r0 : wr.cell? ⟨b, off + i * 14, none⟩ = some (.int .i64 k) := below_keep HV.out.below (hrow 0 _ rfl)
      have r1 : wr.cell? ⟨b, off + i * 14 + 1, none⟩ = some (.string key) := below_keep HV.out.below (hrow 1 _ rfl)
      have r2 : wr.cell? ⟨b, off + i * 14 + 2, none⟩ = some (.int .i64 n) := below_keep HV.out.below (hrow 2 _ rfl)
      have r3 : wr.cell? ⟨b, off + i * 14 + 3, none⟩ = some (.float .f64 x) := below_keep HV.out.below (hrow 3 _ rfl)
      have r4 : wr.cell? ⟨b, off + i * 14 + 4, none⟩ = some (.string s) := below_keep HV.out.below (hrow 4 _ rfl)
      have r5 : wr.cell? ⟨b, off + i * 14 + 5, none⟩ = some (.int .i64 m.kind) := below_keep HV.out.below (hrow 5 _ rfl)
      have r6 : wr.cell? ⟨b, off + i * 14 + 6, none⟩ = some (.int .i64 m.num) := below_keep HV.out.below (hrow 6 _ rfl)
      have r7 : wr.cell? ⟨b, off + i * 14 + 7, none⟩ = some (.int .i64 m.low) := below_keep HV.out.below (hrow 7 _ rfl)
      have r8 : wr.cell? ⟨b, off + i * 14 + 8, none⟩ = some (.int .i64 m.high) := below_keep HV.out.below (hrow 8 _ rfl)
      have r9 : wr.cell? ⟨b, off + i * 14 + 9, none⟩ = some (.float .f64 m.real) := below_keep HV.out.below (hrow 9 _ rfl)
      have r10 : wr.cell? ⟨b, off + i * 14 + 10, none⟩ = some (.int .i64 m.cap) := below_keep HV.out.below (hrow 10 _ rfl)
      have r11 : wr.cell? ⟨b, off + i * 14 + 11, none⟩ = some (.string m.text) := below_keep HV.out.below (hrow 11 _ rfl)
      have r12 : wr.cell? ⟨b, off + i * 14 + 12, none⟩ = some (.slice RA m.list.length rc) := below_keep HV.out.below (hrow 12 _ rfl)
      have r13 : wr.cell? ⟨b, off + i * 14 + 13, none⟩ = some (.bool must) := below_keep HV.out.below (hrow 13 _ rfl)
      have HAp := Lib.hid (fun u (b : Below w.heap.size w u) (hA : Its u A1 q.list) => apply_any q t ⟨k, key, n, x, s, m, must⟩ A1 RA c1 rc u HV.out.rok hin.ok (HR.out.below b) hA (hin.make.its.below b) HV.out.lim hsm.1 hsm.2.1 hsm.2.2)
      have HNX := Lib.hid (fun w2 w3 w4 A2 c2 C cc B2 cb2 p t' xx => HV.out.next (a := ⟨k, key, n, x, s, m, must⟩) hin.ok hget (w2 := w2) (w3 := w3) (w4 := w4) (A1 := A2) (c1 := c2) (C := C) (cc := cc) (B2 := B2) (cb2 := cb2) (p := p) (t' := t') (x := xx))
      have hi1 : (i : Int) < (l.length : Int) := by omega
      have hs0 := HV.out.lt0
      have hs1 := HV.out.lt1
      have d0 := fun o => cell_of_row wr _ o _ _ (0, 0) HV.out.box
      have HR1 := Lib.hid hin
      clear hin hsm hget hrow hbl
      go_wp2_with fail
      refine (HAp.out _ (HV.out.below.trans ((below2 wr _ _).mono HV.out.below.size)) ((Its.own HV.out.own).below (below2 wr _ _))).mono ?_
      generalize hap : RU.apply q t ⟨k, key, n, x, s, m, must⟩ = out
      obtain ⟨p, t', xx⟩ := out
      have HE := Lib.hid hap
      clear hap
      rintro e w2 ⟨A2, c2, C, cc, rfl, ho1, ho2, hn1, hn2, hb2⟩
      have hs2 := hb2.size
      simp only [World.size_alloc] at hs2 hn1 hn2
      have e0 := (hb2.block w.heap.size (by simp only [World.size_alloc]; omega)).trans ((heap_alloc_old _ _ (by simp only [World.size_alloc]; omega)).trans ((heap_alloc_old _ _ hs0).trans HV.out.box))
      have e3 := (hb2.block (wr.heap.size + 1) (by simp only [World.size_alloc]; omega)).trans (heap_alloc2_new wr _ _)
      have dd0 := fun o => cell_of_row w2 _ o _ _ (0, 0) e0
      have dd3 := fun o => cell_of_row w2 _ o _ _ (0, 0) e3
      have f0 : ∀ o, w2.frozen? ⟨w.heap.size, o, none⟩ = false := fun o => frozen_of_row _ _ o _ _ e0
      have f3 : ∀ o, w2.frozen? ⟨wr.heap.size + 1, o, none⟩ = false := fun o => frozen_of_row _ _ o _ _ e3
      have HB2 := Lib.hid (show Below wr.heap.size wr w2 from (below2 wr _ _).trans (hb2.mono (by simp only [World.size_alloc]; omega)))
      have E0 := Lib.hid e0
      have E3 := Lib.hid e3
      have KO := Lib.hid (show ∀ W, Kp (fun k => k = w.heap.size ∨ k = wr.heap.size + 1) w2 W → W.ownsRow 0 82 10 (.slice B i cb) i (anCells ys) from fun W hk => hk.own (own_below HV.out.ans HB2.out) (fun k e x => by
        rw [ownBlock_slice] at e
        have h1 := HV.out.newB k e
        have h2 := in_row HV.out.ans k e
        rcases x with x | x <;> omega))
      have HO1 := Lib.hid ho1
      have HO2 := Lib.hid ho2
      have HN1 := Lib.hid (show ∀ k, ob A2 = some k → wr.heap.size + 2 ≤ k from hn1)
      have HN2 := Lib.hid (show ∀ k, ob C = some k → wr.heap.size + 2 ≤ k ∧ ob A2 ≠ some k from hn2)
      have y0 : w.heap.size < w2.heap.size := by omega
      have y1 : wr.heap.size + 1 < w2.heap.size := by omega
      have y2 : w.heap.size ≠ wr.heap.size + 1 := by omega
      have y3 : wr.heap.size + 1 ≠ w.heap.size := by omega
      clear e0 e3 hb2 ho1 ho2 hn1 hn2 d0 r0 r1 r2 r3 r4 r5 r6 r7 r8 r9 r10 r11 r12 r13 HAp
      go_wp2_with (first
        | (at_builtin
           refine wpList_append_at rfl _ _ _ _ rfl 82 i0 _ 10 104 Tryz.underlying77 hi0 hz0 hz1 hz2 rfl B i cb (anCells ys) rfl (KO.out _ (Kp.alloc (kp10 (kp8g (Kp.refl _ _) (Or.inl (Or.inl rfl))) (Or.inl (Or.inr rfl))) _)) _ 1 _ rfl (src_row Tryz.underlying77 _ _ _ (by simp) rfl (one10 _ _ _ _ _ _ _ _ _ _ rfl rfl rfl rfl rfl rfl rfl rfl rfl rfl)) (by unfold maxLen; omega) (by omega) ?_
           intro B2 cb2 w4 ho4 hg4 hat4))
      have HT := Lib.hid (HNX.out w2 _ w4 A2 c2 C cc B2 cb2 p t' xx HE.out HB2.out HO1.out HO2.out HN1.out HN2.out (Kp.alloc (kp10 (kp8g (Kp.refl _ _) (Or.inl (Or.inl rfl))) (Or.inl (Or.inr rfl))) _) ((heap_alloc_old _ _ (by simp; omega)).trans ((ans_other (by omega)).trans (rec_stores E0.out))) hg4 hat4 ho4)
      clear ho4 hg4 hat4 dd0 dd3 f0 f3
      go_wp2_with fail
      go_roundw
      case rel => exact ⟨i + 1, p, t', A2, c2, ys ++ [⟨xx, C, cc⟩], B2, cb2, by go_num, rfl, rfl, by omega, HT.out⟩
      case measure => simp [intOf]; omega
    · have hi' : i = l.length := by omega
      subst hi'
      have hs0 := HV.out.lt0
      have hs1 := HV.out.lt1
      have d0 := fun o => cell_of_row wr _ o _ _ (0, 0) HV.out.box
      have d1 := fun o => cell_of_row wr _ o _ _ (0, 0) HV.out.res
      have f1 : ∀ o, wr.frozen? ⟨w.heap.size + 1, o, none⟩ = false := fun o => frozen_of_row _ _ o _ _ HV.out.res
      have hi1 : ¬ (l.length : Int) < (l.length : Int) := by omega
      go_wp2_with fail
      generalize hwf : World.setCell _ _ _ = wf
      have hk : Kp (fun k => k = w.heap.size + 1) wr wf := by rw [← hwf]; exact kp8g (Kp.refl _ _) (Or.inl rfl)
      have X1 : wf.heap[w.heap.size + 1]? = some (.cells (recC q.kind q.num q.low q.high q.real q.cap q.text (.slice A1 q.list.length c1)) 25 (0, 0)) := by rw [← hwf]; exact rec_stores HV.out.res
      have k1 := fun o => cell_of_row wf _ o _ _ (0, 0) X1
      have HP := Lib.hid (show RwPost q0 there (l.map (·.r)) w (.returned (.tuple #[recV q A1 c1, .bool t, .slice B l.length cb])) wf by
        refine ⟨q, t, A1, c1, ys, B, cb, by simp, by simpa using HV.out.state, by simpa using HV.out.len, hk.own HV.out.own (fun k e x => ?_), ?_, fun y hy => (HV.out.its y hy).kp hk (fun ad e x => ?_), HV.out.rok, HV.out.lim, HV.out.yok, fun k e => ?_, fun k e => ?_, HV.out.below.trans (hk.below (by omega) (fun i hi x => by omega))⟩
        · rw [ownBlock_slice] at e
          have := (HV.out.newA k e).1
          omega
        · rw [List.length_map]
          exact hk.own HV.out.ans (fun k e x => by rw [ownBlock_slice] at e; have := HV.out.newB k e; omega)
        · have := (HV.out.newY y hy ad.block (by rw [e]; rfl)).1
          omega
        · have := (HV.out.newA k e).1; omega
        · have := HV.out.newB k e; omega)
      clear hwf X1 d0 d1 f1 hk
      exact bodyPost_ret (v := .tuple #[recV q A1 c1, .bool t, .slice B l.length cb]) (by simp [results, Tryz.results44, go_sem, k1]) rfl HP.out
end Go.Proofs.YtbkcmnmbcldjoaaGreatDoor
