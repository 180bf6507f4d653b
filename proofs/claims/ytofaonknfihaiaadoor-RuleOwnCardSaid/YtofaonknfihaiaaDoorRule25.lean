/- Contracts of package rule: Apply, whatever the act. -/
import Derived.Test.YtofaonknfihaiaaDoorRule24
import Derived.Test.YtofaonknfihaiaaDoorRule24f
namespace Go.Proofs.YtofaonknfihaiaaDoor
open Go.RowKit MM

/-- What an act does to a record, or to none, and what it is answered. -/
def RU.apply (r : RC.Rc) (there : Bool) (a : AC.Ac) : RC.Rc × Bool × RU.Ans :=
  if refE (ownR r there) there a = 0 then ((RU.doR (ownR r there) a).1, (RU.doR (ownR r there) a).1.kind != 0, (RU.doR (ownR r there) a).2)
  else (ownR r there, there, RU.err (refE (ownR r there) there a))
theorem refE_act {q : RC.Rc} {there : Bool} {a : AC.Ac} (h : refE q there a = 0) : AC.chk a = 0 := by
  unfold refE at h
  split at h
  · exact h
  · omega
theorem refE_rec {q : RC.Rc} {a : AC.Ac} (h : refE q true a = 0) : RC.chk q = 0 := by
  unfold refE at h
  split at h
  · rename_i x; exact absurd h x
  · simp at h
    split at h
    · assumption
    · rename_i x; exact absurd h x
theorem ownR_ok {r : RC.Rc} {there : Bool} (h : r.ok) : (ownR r there).ok := by
  cases there
  · exact RC.zero_ok
  · exact h
theorem ownR_len (r : RC.Rc) (there : Bool) : (ownR r there).list.length ≤ r.list.length := by
  cases there
  · exact Nat.zero_le _
  · exact Nat.le_refl _
theorem can_of {r : RC.Rc} {there : Bool} {a : AC.Ac} (hr : r.ok) (ha : a.ok) (h : refE (ownR r there) there a = 0) : Can (ownR r there) a := by
  have hc := refE_act h
  have hm := AC.chk_may ha hc
  refine ⟨ownR_ok hr, ha, ?_, ?_, ?_⟩
  · cases there
    · exact Nat.zero_le _
    · exact (RC.chk_may hr (refE_rec h)).len
  · cases there
    · exact Int.le_refl _
    · exact (RC.chk_may hr (refE_rec h)).cap.1
  · cases hM : AC.hasM a.kind
    · rw [hm.m hM]; exact Nat.zero_le _
    · have := (RC.chk_may ha.make (hm.made hM)).len; omega

theorem ent_change1 : ∀ args w, (callFunc 84 args).run Tryd.prog w = .ok (.enter 84 args) w := by
  intro args w
  kernel_rfl

theorem ent_test1 : ∀ args w, (callFunc 85 args).run Tryd.prog w = .ok (.enter 85 args) w := by
  intro args w
  kernel_rfl

theorem ent_tellKind : ∀ args w, (callFunc 52 args).run Tryd.prog w = .ok (.enter 52 args) w := by
  intro args w
  kernel_rfl

theorem ent_look : ∀ args w, (callFunc 53 args).run Tryd.prog w = .ok (.enter 53 args) w := by
  intro args w
  kernel_rfl

theorem ent_swap : ∀ args w, (callFunc 55 args).run Tryd.prog w = .ok (.enter 55 args) w := by
  intro args w
  kernel_rfl

theorem apply_any (r : RC.Rc) (there : Bool) (a : AC.Ac) (A L : Option Addr) (c cl : Nat) (w : World) (hr : r.ok) (ha : a.ok) (hR : RowsAt w) (hA : Its w A r.list) (hL : Its w L a.make.list) (n1 : Lim r.list.length) (n2 : Lim a.make.list.length) (n3 : Lim a.key.size) (n4 : Lim a.s.size) :
    Calls Tryd.prog 10 #[recV r A c, .bool there, actV a L cl] w (ApPost (RU.apply r there a).1 (RU.apply r there a).2.1 (RU.apply r there a).2.2 w) := by
  have n1' := n1.le (ownR_len r there)
  by_cases h : refE (ownR r there) there a = 0
  · have hd : RU.apply r there a = ((RU.doR (ownR r there) a).1, (RU.doR (ownR r there) a).1.kind != 0, (RU.doR (ownR r there) a).2) := if_pos h
    have hcan := can_of hr ha h
    have hkn := (AC.chk_may ha (refE_act h)).known
    rw [hd]
    have hk21 : a.kind = 1 ∨ a.kind = 2 ∨ a.kind = 3 ∨ a.kind = 4 ∨ a.kind = 5 ∨ a.kind = 6 ∨ a.kind = 7 ∨ a.kind = 8 ∨ a.kind = 9 ∨ a.kind = 10 ∨ a.kind = 11 ∨ a.kind = 12 ∨ a.kind = 13 ∨ a.kind = 14 ∨ a.kind = 15 ∨ a.kind = 16 ∨ a.kind = 17 ∨ a.kind = 18 ∨ a.kind = 19 ∨ a.kind = 20 ∨ a.kind = 21 := by omega
    rcases hk21 with hk | hk | hk | hk | hk | hk | hk | hk | hk | hk | hk | hk | hk | hk | hk | hk | hk | hk | hk | hk | hk
    · exact apply_mk r there a A L c cl w (ownR_ok hr) ha hR hA hL n1 n1' n2 n3 n4 h 84 (fun b => b.b1) _ _ ent_change1 (fun b W => by rw [hk]; kernel_rfl) (fun b u v A' c' hD ho hL => doing_1 _ a L cl hcan hk b u v A' c' hD ho hL)
    · exact apply_mk r there a A L c cl w (ownR_ok hr) ha hR hA hL n1 n1' n2 n3 n4 h 84 (fun b => b.b2) _ _ ent_change1 (fun b W => by rw [hk]; kernel_rfl) (fun b u v A' c' hD ho hL => doing_2 _ a L cl hcan hk b u v A' c' hD ho hL)
    · exact apply_fn r there a A L c cl w (ownR_ok hr) ha hR hA hL n1 n1' n2 n3 n4 h 52 _ _ ent_tellKind (fun b W => by rw [hk]; kernel_rfl) (fun b u v A' c' hD ho hL => doing_3 _ a L cl hcan hk b u v A' c' hD ho hL)
    · exact apply_fn r there a A L c cl w (ownR_ok hr) ha hR hA hL n1 n1' n2 n3 n4 h 53 _ _ ent_look (fun b W => by rw [hk]; kernel_rfl) (fun b u v A' c' hD ho hL => doing_4 _ a L cl hcan hk b u v A' c' hD ho hL)
    · exact apply_mk r there a A L c cl w (ownR_ok hr) ha hR hA hL n1 n1' n2 n3 n4 h 84 (fun b => b.b3) _ _ ent_change1 (fun b W => by rw [hk]; kernel_rfl) (fun b u v A' c' hD ho hL => doing_5 _ a L cl hcan hk b u v A' c' hD ho hL)
    · exact apply_fn r there a A L c cl w (ownR_ok hr) ha hR hA hL n1 n1' n2 n3 n4 h 55 _ _ ent_swap (fun b W => by rw [hk]; kernel_rfl) (fun b u v A' c' hD ho hL => doing_6 _ a L cl hcan hk b u v A' c' hD ho hL)
    · exact apply_mk r there a A L c cl w (ownR_ok hr) ha hR hA hL n1 n1' n2 n3 n4 h 84 (fun b => b.b4) _ _ ent_change1 (fun b W => by rw [hk]; kernel_rfl) (fun b u v A' c' hD ho hL => doing_7 _ a L cl hcan hk b u v A' c' hD ho hL)
    · exact apply_mk r there a A L c cl w (ownR_ok hr) ha hR hA hL n1 n1' n2 n3 n4 h 84 (fun b => b.b5) _ _ ent_change1 (fun b W => by rw [hk]; kernel_rfl) (fun b u v A' c' hD ho hL => doing_8 _ a L cl hcan hk b u v A' c' hD ho hL)
    · exact apply_mk r there a A L c cl w (ownR_ok hr) ha hR hA hL n1 n1' n2 n3 n4 h 85 (fun b => b.b6) _ _ ent_test1 (fun b W => by rw [hk]; kernel_rfl) (fun b u v A' c' hD ho hL => doing_9 _ a L cl hcan hk b u v A' c' hD ho hL)
    · exact apply_mk r there a A L c cl w (ownR_ok hr) ha hR hA hL n1 n1' n2 n3 n4 h 84 (fun b => b.b7) _ _ ent_change1 (fun b W => by rw [hk]; kernel_rfl) (fun b u v A' c' hD ho hL => doing_10 _ a L cl hcan hk b u v A' c' hD ho hL)
    · exact apply_mk r there a A L c cl w (ownR_ok hr) ha hR hA hL n1 n1' n2 n3 n4 h 84 (fun b => b.b8) _ _ ent_change1 (fun b W => by rw [hk]; kernel_rfl) (fun b u v A' c' hD ho hL => doing_11 _ a L cl hcan hk b u v A' c' hD ho hL)
    · exact apply_mk r there a A L c cl w (ownR_ok hr) ha hR hA hL n1 n1' n2 n3 n4 h 85 (fun b => b.b9) _ _ ent_test1 (fun b W => by rw [hk]; kernel_rfl) (fun b u v A' c' hD ho hL => doing_12 _ a L cl hcan hk b u v A' c' hD ho hL)
    · exact apply_mk r there a A L c cl w (ownR_ok hr) ha hR hA hL n1 n1' n2 n3 n4 h 84 (fun b => b.b11) _ _ ent_change1 (fun b W => by rw [hk]; kernel_rfl) (fun b u v A' c' hD ho hL => doing_13 _ a L cl hcan hk b u v A' c' hD ho hL)
    · exact apply_mk r there a A L c cl w (ownR_ok hr) ha hR hA hL n1 n1' n2 n3 n4 h 84 (fun b => b.b13) _ _ ent_change1 (fun b W => by rw [hk]; kernel_rfl) (fun b u v A' c' hD ho hL => doing_14 _ a L cl hcan hk b u v A' c' hD ho hL)
    · exact apply_mk r there a A L c cl w (ownR_ok hr) ha hR hA hL n1 n1' n2 n3 n4 h 84 (fun b => b.b15) _ _ ent_change1 (fun b W => by rw [hk]; kernel_rfl) (fun b u v A' c' hD ho hL => doing_15 _ a L cl hcan hk b u v A' c' hD ho hL)
    · exact apply_mk r there a A L c cl w (ownR_ok hr) ha hR hA hL n1 n1' n2 n3 n4 h 84 (fun b => b.b17) _ _ ent_change1 (fun b W => by rw [hk]; kernel_rfl) (fun b u v A' c' hD ho hL => doing_16 _ a L cl hcan hk b u v A' c' hD ho hL)
    · exact apply_mk r there a A L c cl w (ownR_ok hr) ha hR hA hL n1 n1' n2 n3 n4 h 84 (fun b => b.b19) _ _ ent_change1 (fun b W => by rw [hk]; kernel_rfl) (fun b u v A' c' hD ho hL => doing_17 _ a L cl hcan hk b u v A' c' hD ho hL)
    · exact apply_mk r there a A L c cl w (ownR_ok hr) ha hR hA hL n1 n1' n2 n3 n4 h 84 (fun b => b.b20) _ _ ent_change1 (fun b W => by rw [hk]; kernel_rfl) (fun b u v A' c' hD ho hL => doing_18 _ a L cl hcan hk b u v A' c' hD ho hL)
    · exact apply_mk r there a A L c cl w (ownR_ok hr) ha hR hA hL n1 n1' n2 n3 n4 h 84 (fun b => b.b21) _ _ ent_change1 (fun b W => by rw [hk]; kernel_rfl) (fun b u v A' c' hD ho hL => doing_19 _ a L cl hcan hk b u v A' c' hD ho hL)
    · exact apply_mk r there a A L c cl w (ownR_ok hr) ha hR hA hL n1 n1' n2 n3 n4 h 85 (fun b => b.b22) _ _ ent_test1 (fun b W => by rw [hk]; kernel_rfl) (fun b u v A' c' hD ho hL => doing_20 _ a L cl hcan hk b u v A' c' hD ho hL)
    · exact apply_mk r there a A L c cl w (ownR_ok hr) ha hR hA hL n1 n1' n2 n3 n4 h 84 (fun b => b.b23) _ _ ent_change1 (fun b W => by rw [hk]; kernel_rfl) (fun b u v A' c' hD ho hL => doing_21 _ a L cl hcan hk b u v A' c' hD ho hL)
  · have hd : RU.apply r there a = (ownR r there, there, RU.err (refE (ownR r there) there a)) := if_neg h
    rw [hd]
    exact apply_refused r there a A L c cl w (ownR_ok hr) ha hR hA hL n1 n1' n2 n3 n4 h

end Go.Proofs.YtofaonknfihaiaaDoor
