/- Contracts of package share: Do. -/
import Derived.Test.YtbkcmnmbcldjoaaGreatDoorSh2P7d
import Derived.Test.YtbkcmnmbcldjoaaGreatDoorRuVP7d
namespace Go.Proofs.YtbkcmnmbcldjoaaGreatDoor
open Go.RowKit MM
set_option linter.unusedVariables false
set_option linter.unusedSimpArgs false
set_option maxHeartbeats 16000000 in
set_option maxRecDepth 100000 in
theorem sdo_any (r : RC.Rc) (a : AC.Ac) (A L : Option Addr) (c cl : Nat) (w : World) (hr : r.ok) (ha : a.ok) (hR : RowsAt w) (hA : Its w A r.list) (hL : Its w L a.make.list) (n1 : Lim r.list.length) (n2 : Lim a.make.list.length) (n3 : Lim a.key.size) (n4 : Lim a.s.size) :
    Calls Tryz.prog 18 #[recV r A c, actV a L cl] w (DoS (SH.do_ r a) w) := by
  have hup := SH.upon_ok ha
  have HAp := Lib.hid (fun u (h : Below w.heap.size w u) => show Calls Tryz.prog 48 #[recV r A c, .bool true, actV (SH.upon a) L cl] u (ApPost (RU.apply r true (SH.upon a)).1 (RU.apply r true (SH.upon a)).2.1 (RU.apply r true (SH.upon a)).2.2 u) from by
    have h1 := SH.upon_rest a
    exact apply_any r true (SH.upon a) A L c cl u hr hup (hR.below h) (hA.below h) (by rw [h1.2.2.1]; exact hL.below h) n1 (by rw [h1.2.2.1]; exact n2) (by rw [h1.1]; exact n3) (by rw [h1.2.1]; exact n4))
  have HUp := Lib.hid (fun u => supon_any a L cl u)
  have HD := Lib.hid (show SH.do_ r a = (RU.apply r true (SH.upon a)).1 from rfl)
  generalize SH.do_ r a = p at *
  generalize hap : RU.apply r true (SH.upon a) = out at *
  obtain ⟨q, tb, xx⟩ := out
  obtain rfl : p = q := HD.out
  generalize SH.upon a = v at *
  clear hap hup hr ha hA hL n1 n2 n3 n4 hR
  obtain ⟨k, key, n, x, s, mk, must⟩ := a
  go_enter Tryz.func18, Tryz.ntmps18
  go_upto_region 1 with fail
  generalize hw1 : World.alloc (World.alloc (World.alloc w _) _) _ = w1
  have HB := Lib.hid (show Below w.heap.size w w1 by rw [← hw1]; exact below3 w _ _ _)
  have E1 := Lib.hid (show w1.heap[w.heap.size]? = some (.cells (recC r.kind r.num r.low r.high r.real r.cap r.text (.slice A r.list.length c)) 25 (0, 0)) by rw [← hw1]; exact (heap_alloc_old _ _ (by simp only [World.size_alloc]; omega)).trans (heap_alloc2_old w _ _))
  have E2 := Lib.hid (show w1.heap[w.heap.size + 1]? = some (.cells (actC ⟨k, key, n, x, s, mk, must⟩ L cl) 37 (0, 0)) by rw [← hw1]; exact (heap_alloc_old _ _ (by simp only [World.size_alloc]; omega)).trans (heap_alloc2_new w _ _))
  have E4 := Lib.hid (show w1.heap[w.heap.size + 1 + 1]? = some (.cells (recC 0 0 0 0 0 0 ⟨#[]⟩ (.slice none 0 0)) 25 (0, 0)) by rw [← hw1]; exact heap_new _ _ _ (by simp))
  clear hw1
  have p0 := cell_of_row w1 _ 0 _ _ (0, 0) E1.out
  have p1 := cell_of_row w1 _ 1 _ _ (0, 0) E1.out
  have p2 := cell_of_row w1 _ 2 _ _ (0, 0) E1.out
  have p3 := cell_of_row w1 _ 3 _ _ (0, 0) E1.out
  have p4 := cell_of_row w1 _ 4 _ _ (0, 0) E1.out
  have p5 := cell_of_row w1 _ 5 _ _ (0, 0) E1.out
  have p6 := cell_of_row w1 _ 6 _ _ (0, 0) E1.out
  have p7 := cell_of_row w1 _ 7 _ _ (0, 0) E1.out
  have q0 := cell_of_row w1 _ 0 _ _ (0, 0) E2.out
  have q1 := cell_of_row w1 _ 1 _ _ (0, 0) E2.out
  have q2 := cell_of_row w1 _ 2 _ _ (0, 0) E2.out
  have q3 := cell_of_row w1 _ 3 _ _ (0, 0) E2.out
  have q4 := cell_of_row w1 _ 4 _ _ (0, 0) E2.out
  have q5 := cell_of_row w1 _ 5 _ _ (0, 0) E2.out
  have q6 := cell_of_row w1 _ 6 _ _ (0, 0) E2.out
  have q7 := cell_of_row w1 _ 7 _ _ (0, 0) E2.out
  have q8 := cell_of_row w1 _ 8 _ _ (0, 0) E2.out
  have q9 := cell_of_row w1 _ 9 _ _ (0, 0) E2.out
  have q10 := cell_of_row w1 _ 10 _ _ (0, 0) E2.out
  have q11 := cell_of_row w1 _ 11 _ _ (0, 0) E2.out
  have q12 := cell_of_row w1 _ 12 _ _ (0, 0) E2.out
  have q13 := cell_of_row w1 _ 13 _ _ (0, 0) E2.out

  go_cut [5] (fun t5 wx => ∃ g B d, t5 = .pointer (some ⟨g, 0, none⟩) ∧ wx.heap[g]? = some (.cells (recC p.kind p.num p.low p.high p.real p.cap p.text (.slice B p.list.length d)) 25 (0, 0)) ∧ Its wx B p.list ∧ Below w1.heap.size w1 wx)
  case first =>
    refine wp_region_held_drew (S := fun W => Below w1.heap.size w1 W) (by kernel_rfl) (below_drew (Below.refl _ _)) (fun hHeld => ?_)
    generalize World.drew w1 = v0 at *
    refine wpAnyH_take (i := 0) (oi := ⟨_, _, _, _, _, _⟩) (v := ?_) rfl (by kernel_rfl) (by kernel_rfl) (by kernel_rfl) (fun _ _ _ h => h) (Or.inl ⟨by kernel_rfl, ?_⟩) hHeld ?_
    rotate_left 1
    · intro W hW; have k0 := below_keep hW p0; have k1 := below_keep hW p1; have k2 := below_keep hW p2; have k3 := below_keep hW p3; have k4 := below_keep hW p4; have k5 := below_keep hW p5; have k6 := below_keep hW p6; have k7 := below_keep hW p7; first | (go_simp; done) | (go_simp; with_reducible rfl)
    try simp only [Act.put, List.setIfInBounds_toArray, List.set_cons_zero, List.set_cons_succ]
    refine wpAnyH_take (i := 1) (oi := ⟨_, _, _, _, _, _⟩) (v := ?_) rfl (by kernel_rfl) (by kernel_rfl) (by kernel_rfl) (fun _ _ _ h => h) (Or.inl ⟨by kernel_rfl, ?_⟩) hHeld ?_
    rotate_left 1
    · intro W hW; have k0 := below_keep hW q0; have k1 := below_keep hW q1; have k2 := below_keep hW q2; have k3 := below_keep hW q3; have k4 := below_keep hW q4; have k5 := below_keep hW q5; have k6 := below_keep hW q6; have k7 := below_keep hW q7; have k8 := below_keep hW q8; have k9 := below_keep hW q9; have k10 := below_keep hW q10; have k11 := below_keep hW q11; have k12 := below_keep hW q12; have k13 := below_keep hW q13; first | (go_simp; done) | (go_simp; with_reducible rfl)
    try simp only [Act.put, List.setIfInBounds_toArray, List.set_cons_zero, List.set_cons_succ]
    refine wpAnyH_ready (rs := [2, 8, 9]) (by kernel_rfl) (by simp) ?_
    refine AllReadyH.cons rfl (fun K hK => ?_) (AllReadyH.cons rfl (fun K hK => ?_) (AllReadyH.cons rfl (fun K hK => ?_) AllReadyH.nil))
    · go_simp
      refine (HUp.out _).mono ?_
      rintro e v1 ⟨rfl, hbx⟩
      go_wp2_with fail
      refine hK.out _ _ ?_ (fun hHelda => ?_)
      · exact hHeld.trans (hbx.mono hHeld.size)
      clear hK K
      try simp only [Act.put, List.setIfInBounds_toArray, List.set_cons_zero, List.set_cons_succ]
      clear hbx
      refine wpAnyH_ready (rs := [3, 8, 9]) (by kernel_rfl) (by simp) ?_
      refine AllReadyH.cons rfl (fun K hK => ?_) (AllReadyH.cons rfl (fun K hK => ?_) (AllReadyH.cons rfl (fun K hK => ?_) AllReadyH.nil))
      · go_simp
        refine (HAp.out _ (HB.out.trans (hHelda.mono HB.out.size))).mono ?_
        rintro e v2 ⟨B2, d2, D, dd, rfl, ho1, ho2, hn1, hn2, hbx⟩
        have hi1 : Its v2 B2 p.list := Its.own ho1
        have HI1 := Lib.hid hi1
        clear ho1 ho2 hn1 hn2 hi1
        go_wp2_with fail
        refine hK.out _ _ ?_ (fun hHeldaa => ?_)
        · exact hHelda.trans (hbx.mono hHelda.size)
        clear hK K
        try simp only [Act.put, List.setIfInBounds_toArray, List.set_cons_zero, List.set_cons_succ]
        clear hbx
        refine wpAnyH_take (i := 4) (oi := ⟨_, _, _, _, _, _⟩) (v := ?_) rfl (by kernel_rfl) (by kernel_rfl) (by kernel_rfl) (fun _ _ _ h => h) (Or.inl ⟨by kernel_rfl, ?_⟩) hHeldaa ?_
        rotate_left 1
        · intro W hW; first | (go_simp; done) | (go_simp; with_reducible rfl)
        try simp only [Act.put, List.setIfInBounds_toArray, List.set_cons_zero, List.set_cons_succ]
        refine wpAnyH_take (i := 5) (oi := ⟨_, _, _, _, _, _⟩) (v := ?_) rfl (by kernel_rfl) (by kernel_rfl) (by kernel_rfl) (fun _ _ _ h => h) (Or.inl ⟨by kernel_rfl, ?_⟩) hHeldaa ?_
        rotate_left 1
        · intro W hW; first | (go_simp; done) | (go_simp; with_reducible rfl)
        try simp only [Act.put, List.setIfInBounds_toArray, List.set_cons_zero, List.set_cons_succ]
        refine wpAnyH_take (i := 6) (oi := ⟨_, _, _, _, _, _⟩) (v := ?_) rfl (by kernel_rfl) (by kernel_rfl) (by kernel_rfl) (fun _ _ _ h => h) (Or.inl ⟨by kernel_rfl, ?_⟩) hHeldaa ?_
        rotate_left 1
        · intro W hW; first | (go_simp; done) | (go_simp; with_reducible rfl)
        try simp only [Act.put, List.setIfInBounds_toArray, List.set_cons_zero, List.set_cons_succ]
        refine wpAnyH_take (i := 7) (oi := ⟨_, _, _, _, _, _⟩) (v := ?_) rfl (by kernel_rfl) (by kernel_rfl) (by kernel_rfl) (fun _ _ _ h => h) (Or.inl ⟨by kernel_rfl, ?_⟩) hHeldaa ?_
        rotate_left 1
        · intro W hW; first | (go_simp; done) | (go_simp; with_reducible rfl)
        try simp only [Act.put, List.setIfInBounds_toArray, List.set_cons_zero, List.set_cons_succ]
        refine wpAnyH_ready (rs := [8, 9]) (by kernel_rfl) (by simp) ?_
        refine AllReadyH.cons rfl (fun K hK => ?_) (AllReadyH.cons rfl (fun K hK => ?_) AllReadyH.nil)
        · go_simp
          generalize hwx : World.alloc v2 _ = v3
          have hbx : Below v2.heap.size v2 v3 := by rw [← hwx]; exact below1 v2 _
          have rx : v3.heap[v2.heap.size]? = some (.cells (recC 0 0 0 0 0 0 ⟨#[]⟩ (.slice none 0 0)) 25 (0, 0)) := by rw [← hwx]; exact heap_alloc_new v2 _
          have zR8 : w1.heap.size ≤ v2.heap.size := hHeldaa.size
          have HI1 := Lib.hid (HI1.out.below hbx)
          have R8 := Lib.hid rx
          clear rx hwx
          refine hK.out _ _ ?_ (fun hHeldaaa => ?_)
          · exact hHeldaa.trans (hbx.mono hHeldaa.size)
          clear hK K
          try simp only [Act.put, List.setIfInBounds_toArray, List.set_cons_zero, List.set_cons_succ]
          clear hbx
          refine wpAnyH_ready (rs := [9]) (by kernel_rfl) (by simp) ?_
          refine AllReadyH.cons rfl (fun K hK => ?_) AllReadyH.nil
          go_simp
          generalize hwx : World.alloc v3 _ = v4
          have hbx : Below v3.heap.size v3 v4 := by rw [← hwx]; exact below1 v3 _
          have rx : v4.heap[v3.heap.size]? = some (.cells (ansC 0 0 RC.zero none 0) 82 (0, 0)) := by rw [← hwx]; exact heap_alloc_new v3 _
          have hne : v3.heap.size ≠ v2.heap.size := by have := lt_of_heap R8.out; omega
          have zR9 : w1.heap.size ≤ v3.heap.size := hHeldaaa.size
          have R8 := Lib.hid ((hbx.block _ (lt_of_heap R8.out)).trans R8.out)
          have HI1 := Lib.hid (HI1.out.below hbx)
          have R9 := Lib.hid rx
          clear rx hwx
          refine hK.out _ _ ?_ (fun hHeldaaaa => ?_)
          · exact hHeldaaa.trans (hbx.mono hHeldaaa.size)
          clear hK K
          try simp only [Act.put, List.setIfInBounds_toArray, List.set_cons_zero, List.set_cons_succ]
          clear hbx
          refine wpAnyH_ready (rs := [10]) (by kernel_rfl) (by simp) ?_
          refine AllReadyH.cons rfl (fun K hK => ?_) AllReadyH.nil
          rw [if_pos (by kernel_rfl)]
          refine wp_store_row 25 _ _ rfl (v2.heap.size) (recC p.kind p.num p.low p.high p.real p.cap p.text (.slice B2 p.list.length d2)) rfl rfl 25 _ R8.out rec_inf7 rfl (by kernel_rfl) ?_
          generalize hwx : World.setRow v4 _ _ = v5
          have hkx : Kp (fun j => j = v2.heap.size) v4 v5 := by rw [← hwx]; exact kpRow7 (S := fun j => j = v2.heap.size) (Kp.refl _ _) (.inl rfl) _
          have rx : v5.heap[v2.heap.size]? = some (.cells (recC p.kind p.num p.low p.high p.real p.cap p.text (.slice B2 p.list.length d2)) 25 (0, 0)) := by rw [← hwx]; exact setRow_heap v4 _ _ _ _ _ R8.out
          have HI1 := Lib.hid (its_keep HI1.out hkx (by rcases its_apart HI1.out R8.out (rec_no _ _ _ _ _ _ _ _ _ _) with h1 | h1; exact .inl h1; exact .inr fun ad e x => h1 ad e x))
          have R9 := Lib.hid ((hkx.block _ (lt_of_heap R9.out) (by omega)).trans R9.out)
          have R8 := Lib.hid rx
          have hbx : Below w1.heap.size v4 v5 := hkx.below hHeldaaaa.size (fun i hi x => by omega)
          clear rx hwx hkx
          refine hK.out _ _ ?_ (fun hHeldaaaaa => ?_)
          · exact hHeldaaaa.trans hbx
          clear hK K
          try simp only [Act.put, List.setIfInBounds_toArray, List.set_cons_zero, List.set_cons_succ]
          clear hbx
          refine wpAnyH_take (i := 11) (oi := ⟨_, _, _, _, _, _⟩) (v := ?_) rfl (by kernel_rfl) (by kernel_rfl) (by kernel_rfl) (fun _ _ _ h => h) (Or.inl ⟨by kernel_rfl, ?_⟩) hHeldaaaaa ?_
          rotate_left 1
          · intro W hW; first | (go_simp; done) | (go_simp; with_reducible rfl)
          try simp only [Act.put, List.setIfInBounds_toArray, List.set_cons_zero, List.set_cons_succ]
          refine wpAnyH_ready (rs := [12]) (by kernel_rfl) (by simp) ?_
          refine AllReadyH.cons rfl (fun K hK => ?_) AllReadyH.nil
          rw [if_pos (by kernel_rfl)]
          refine wp_store_row 82 _ _ rfl (v3.heap.size) (ansC xx.code xx.num xx.rc D dd) rfl rfl 82 _ R9.out ans_inf7 rfl (by kernel_rfl) ?_
          generalize hwx : World.setRow v5 _ _ = v6
          have hkx : Kp (fun j => j = v3.heap.size) v5 v6 := by rw [← hwx]; exact kpRow7 (S := fun j => j = v3.heap.size) (Kp.refl _ _) (.inl rfl) _
          have HI1 := Lib.hid (its_keep HI1.out hkx (by rcases its_apart HI1.out R9.out (ans_no 0 0 RC.zero none 0) with h1 | h1; exact .inl h1; exact .inr fun ad e x => h1 ad e x))
          have R8 := Lib.hid ((hkx.block _ (lt_of_heap R8.out) (by omega)).trans R8.out)
          have hbx : Below w1.heap.size v5 v6 := hkx.below hHeldaaaaa.size (fun i hi x => by omega)
          clear hwx hkx
          refine hK.out _ _ ?_ (fun hHeldaaaaaa => ?_)
          · exact hHeldaaaaa.trans hbx
          clear hK K
          try simp only [Act.put, List.setIfInBounds_toArray, List.set_cons_zero, List.set_cons_succ]
          clear hbx
          refine wpAnyH_done (by kernel_rfl) ?_ _
          go_wp2_with fail
          go_meet
          exact ⟨_, B2, d2, rfl, R8.out, HI1.out, hHeldaaaaaa⟩
        · go_simp
          generalize hwx : World.alloc v2 _ = v3
          have hbx : Below v2.heap.size v2 v3 := by rw [← hwx]; exact below1 v2 _
          have rx : v3.heap[v2.heap.size]? = some (.cells (ansC 0 0 RC.zero none 0) 82 (0, 0)) := by rw [← hwx]; exact heap_alloc_new v2 _
          have zR9 : w1.heap.size ≤ v2.heap.size := hHeldaa.size
          have HI1 := Lib.hid (HI1.out.below hbx)
          have R9 := Lib.hid rx
          clear rx hwx
          refine hK.out _ _ ?_ (fun hHeldaaa => ?_)
          · exact hHeldaa.trans (hbx.mono hHeldaa.size)
          clear hK K
          try simp only [Act.put, List.setIfInBounds_toArray, List.set_cons_zero, List.set_cons_succ]
          clear hbx
          refine wpAnyH_ready (rs := [8]) (by kernel_rfl) (by simp) ?_
          refine AllReadyH.cons rfl (fun K hK => ?_) AllReadyH.nil
          go_simp
          generalize hwx : World.alloc v3 _ = v4
          have hbx : Below v3.heap.size v3 v4 := by rw [← hwx]; exact below1 v3 _
          have rx : v4.heap[v3.heap.size]? = some (.cells (recC 0 0 0 0 0 0 ⟨#[]⟩ (.slice none 0 0)) 25 (0, 0)) := by rw [← hwx]; exact heap_alloc_new v3 _
          have hne : v3.heap.size ≠ v2.heap.size := by have := lt_of_heap R9.out; omega
          have zR8 : w1.heap.size ≤ v3.heap.size := hHeldaaa.size
          have R9 := Lib.hid ((hbx.block _ (lt_of_heap R9.out)).trans R9.out)
          have HI1 := Lib.hid (HI1.out.below hbx)
          have R8 := Lib.hid rx
          clear rx hwx
          refine hK.out _ _ ?_ (fun hHeldaaaa => ?_)
          · exact hHeldaaa.trans (hbx.mono hHeldaaa.size)
          clear hK K
          try simp only [Act.put, List.setIfInBounds_toArray, List.set_cons_zero, List.set_cons_succ]
          clear hbx
          refine wpAnyH_ready (rs := [10]) (by kernel_rfl) (by simp) ?_
          refine AllReadyH.cons rfl (fun K hK => ?_) AllReadyH.nil
          rw [if_pos (by kernel_rfl)]
          refine wp_store_row 25 _ _ rfl (v3.heap.size) (recC p.kind p.num p.low p.high p.real p.cap p.text (.slice B2 p.list.length d2)) rfl rfl 25 _ R8.out rec_inf7 rfl (by kernel_rfl) ?_
          generalize hwx : World.setRow v4 _ _ = v5
          have hkx : Kp (fun j => j = v3.heap.size) v4 v5 := by rw [← hwx]; exact kpRow7 (S := fun j => j = v3.heap.size) (Kp.refl _ _) (.inl rfl) _
          have rx : v5.heap[v3.heap.size]? = some (.cells (recC p.kind p.num p.low p.high p.real p.cap p.text (.slice B2 p.list.length d2)) 25 (0, 0)) := by rw [← hwx]; exact setRow_heap v4 _ _ _ _ _ R8.out
          have HI1 := Lib.hid (its_keep HI1.out hkx (by rcases its_apart HI1.out R8.out (rec_no _ _ _ _ _ _ _ _ _ _) with h1 | h1; exact .inl h1; exact .inr fun ad e x => h1 ad e x))
          have R9 := Lib.hid ((hkx.block _ (lt_of_heap R9.out) (by omega)).trans R9.out)
          have R8 := Lib.hid rx
          have hbx : Below w1.heap.size v4 v5 := hkx.below hHeldaaaa.size (fun i hi x => by omega)
          clear rx hwx hkx
          refine hK.out _ _ ?_ (fun hHeldaaaaa => ?_)
          · exact hHeldaaaa.trans hbx
          clear hK K
          try simp only [Act.put, List.setIfInBounds_toArray, List.set_cons_zero, List.set_cons_succ]
          clear hbx
          refine wpAnyH_take (i := 11) (oi := ⟨_, _, _, _, _, _⟩) (v := ?_) rfl (by kernel_rfl) (by kernel_rfl) (by kernel_rfl) (fun _ _ _ h => h) (Or.inl ⟨by kernel_rfl, ?_⟩) hHeldaaaaa ?_
          rotate_left 1
          · intro W hW; first | (go_simp; done) | (go_simp; with_reducible rfl)
          try simp only [Act.put, List.setIfInBounds_toArray, List.set_cons_zero, List.set_cons_succ]
          refine wpAnyH_ready (rs := [12]) (by kernel_rfl) (by simp) ?_
          refine AllReadyH.cons rfl (fun K hK => ?_) AllReadyH.nil
          rw [if_pos (by kernel_rfl)]
          refine wp_store_row 82 _ _ rfl (v2.heap.size) (ansC xx.code xx.num xx.rc D dd) rfl rfl 82 _ R9.out ans_inf7 rfl (by kernel_rfl) ?_
          generalize hwx : World.setRow v5 _ _ = v6
          have hkx : Kp (fun j => j = v2.heap.size) v5 v6 := by rw [← hwx]; exact kpRow7 (S := fun j => j = v2.heap.size) (Kp.refl _ _) (.inl rfl) _
          have HI1 := Lib.hid (its_keep HI1.out hkx (by rcases its_apart HI1.out R9.out (ans_no 0 0 RC.zero none 0) with h1 | h1; exact .inl h1; exact .inr fun ad e x => h1 ad e x))
          have R8 := Lib.hid ((hkx.block _ (lt_of_heap R8.out) (by omega)).trans R8.out)
          have hbx : Below w1.heap.size v5 v6 := hkx.below hHeldaaaaa.size (fun i hi x => by omega)
          clear hwx hkx
          refine hK.out _ _ ?_ (fun hHeldaaaaaa => ?_)
          · exact hHeldaaaaa.trans hbx
          clear hK K
          try simp only [Act.put, List.setIfInBounds_toArray, List.set_cons_zero, List.set_cons_succ]
          clear hbx
          refine wpAnyH_done (by kernel_rfl) ?_ _
          go_wp2_with fail
          go_meet
          exact ⟨_, B2, d2, rfl, R8.out, HI1.out, hHeldaaaaaa⟩
      · go_simp
        generalize hwx : World.alloc v1 _ = v2
        have hbx : Below v1.heap.size v1 v2 := by rw [← hwx]; exact below1 v1 _
        have rx : v2.heap[v1.heap.size]? = some (.cells (recC 0 0 0 0 0 0 ⟨#[]⟩ (.slice none 0 0)) 25 (0, 0)) := by rw [← hwx]; exact heap_alloc_new v1 _
        have zR8 : w1.heap.size ≤ v1.heap.size := hHelda.size
        have R8 := Lib.hid rx
        clear rx hwx
        refine hK.out _ _ ?_ (fun hHeldaa => ?_)
        · exact hHelda.trans (hbx.mono hHelda.size)
        clear hK K
        try simp only [Act.put, List.setIfInBounds_toArray, List.set_cons_zero, List.set_cons_succ]
        clear hbx
        refine wpAnyH_ready (rs := [3, 9]) (by kernel_rfl) (by simp) ?_
        refine AllReadyH.cons rfl (fun K hK => ?_) (AllReadyH.cons rfl (fun K hK => ?_) AllReadyH.nil)
        · go_simp
          refine (HAp.out _ (HB.out.trans (hHeldaa.mono HB.out.size))).mono ?_
          rintro e v3 ⟨B2, d2, D, dd, rfl, ho1, ho2, hn1, hn2, hbx⟩
          have hi1 : Its v3 B2 p.list := Its.own ho1
          have R8 := Lib.hid ((hbx.block _ (lt_of_heap R8.out)).trans R8.out)
          have HI1 := Lib.hid hi1
          clear ho1 ho2 hn1 hn2 hi1
          go_wp2_with fail
          refine hK.out _ _ ?_ (fun hHeldaaa => ?_)
          · exact hHeldaa.trans (hbx.mono hHeldaa.size)
          clear hK K
          try simp only [Act.put, List.setIfInBounds_toArray, List.set_cons_zero, List.set_cons_succ]
          clear hbx
          refine wpAnyH_take (i := 4) (oi := ⟨_, _, _, _, _, _⟩) (v := ?_) rfl (by kernel_rfl) (by kernel_rfl) (by kernel_rfl) (fun _ _ _ h => h) (Or.inl ⟨by kernel_rfl, ?_⟩) hHeldaaa ?_
          rotate_left 1
          · intro W hW; first | (go_simp; done) | (go_simp; with_reducible rfl)
          try simp only [Act.put, List.setIfInBounds_toArray, List.set_cons_zero, List.set_cons_succ]
          refine wpAnyH_take (i := 5) (oi := ⟨_, _, _, _, _, _⟩) (v := ?_) rfl (by kernel_rfl) (by kernel_rfl) (by kernel_rfl) (fun _ _ _ h => h) (Or.inl ⟨by kernel_rfl, ?_⟩) hHeldaaa ?_
          rotate_left 1
          · intro W hW; first | (go_simp; done) | (go_simp; with_reducible rfl)
          try simp only [Act.put, List.setIfInBounds_toArray, List.set_cons_zero, List.set_cons_succ]
          refine wpAnyH_take (i := 6) (oi := ⟨_, _, _, _, _, _⟩) (v := ?_) rfl (by kernel_rfl) (by kernel_rfl) (by kernel_rfl) (fun _ _ _ h => h) (Or.inl ⟨by kernel_rfl, ?_⟩) hHeldaaa ?_
          rotate_left 1
          · intro W hW; first | (go_simp; done) | (go_simp; with_reducible rfl)
          try simp only [Act.put, List.setIfInBounds_toArray, List.set_cons_zero, List.set_cons_succ]
          refine wpAnyH_take (i := 7) (oi := ⟨_, _, _, _, _, _⟩) (v := ?_) rfl (by kernel_rfl) (by kernel_rfl) (by kernel_rfl) (fun _ _ _ h => h) (Or.inl ⟨by kernel_rfl, ?_⟩) hHeldaaa ?_
          rotate_left 1
          · intro W hW; first | (go_simp; done) | (go_simp; with_reducible rfl)
          try simp only [Act.put, List.setIfInBounds_toArray, List.set_cons_zero, List.set_cons_succ]
          refine wpAnyH_ready (rs := [9]) (by kernel_rfl) (by simp) ?_
          refine AllReadyH.cons rfl (fun K hK => ?_) AllReadyH.nil
          go_simp
          generalize hwx : World.alloc v3 _ = v4
          have hbx : Below v3.heap.size v3 v4 := by rw [← hwx]; exact below1 v3 _
          have rx : v4.heap[v3.heap.size]? = some (.cells (ansC 0 0 RC.zero none 0) 82 (0, 0)) := by rw [← hwx]; exact heap_alloc_new v3 _
          have hne : v3.heap.size ≠ v1.heap.size := by have := lt_of_heap R8.out; omega
          have zR9 : w1.heap.size ≤ v3.heap.size := hHeldaaa.size
          have R8 := Lib.hid ((hbx.block _ (lt_of_heap R8.out)).trans R8.out)
          have HI1 := Lib.hid (HI1.out.below hbx)
          have R9 := Lib.hid rx
          clear rx hwx
          refine hK.out _ _ ?_ (fun hHeldaaaa => ?_)
          · exact hHeldaaa.trans (hbx.mono hHeldaaa.size)
          clear hK K
          try simp only [Act.put, List.setIfInBounds_toArray, List.set_cons_zero, List.set_cons_succ]
          clear hbx
          refine wpAnyH_ready (rs := [10]) (by kernel_rfl) (by simp) ?_
          refine AllReadyH.cons rfl (fun K hK => ?_) AllReadyH.nil
          rw [if_pos (by kernel_rfl)]
          refine wp_store_row 25 _ _ rfl (v1.heap.size) (recC p.kind p.num p.low p.high p.real p.cap p.text (.slice B2 p.list.length d2)) rfl rfl 25 _ R8.out rec_inf7 rfl (by kernel_rfl) ?_
          generalize hwx : World.setRow v4 _ _ = v5
          have hkx : Kp (fun j => j = v1.heap.size) v4 v5 := by rw [← hwx]; exact kpRow7 (S := fun j => j = v1.heap.size) (Kp.refl _ _) (.inl rfl) _
          have rx : v5.heap[v1.heap.size]? = some (.cells (recC p.kind p.num p.low p.high p.real p.cap p.text (.slice B2 p.list.length d2)) 25 (0, 0)) := by rw [← hwx]; exact setRow_heap v4 _ _ _ _ _ R8.out
          have HI1 := Lib.hid (its_keep HI1.out hkx (by rcases its_apart HI1.out R8.out (rec_no _ _ _ _ _ _ _ _ _ _) with h1 | h1; exact .inl h1; exact .inr fun ad e x => h1 ad e x))
          have R9 := Lib.hid ((hkx.block _ (lt_of_heap R9.out) (by omega)).trans R9.out)
          have R8 := Lib.hid rx
          have hbx : Below w1.heap.size v4 v5 := hkx.below hHeldaaaa.size (fun i hi x => by omega)
          clear rx hwx hkx
          refine hK.out _ _ ?_ (fun hHeldaaaaa => ?_)
          · exact hHeldaaaa.trans hbx
          clear hK K
          try simp only [Act.put, List.setIfInBounds_toArray, List.set_cons_zero, List.set_cons_succ]
          clear hbx
          refine wpAnyH_take (i := 11) (oi := ⟨_, _, _, _, _, _⟩) (v := ?_) rfl (by kernel_rfl) (by kernel_rfl) (by kernel_rfl) (fun _ _ _ h => h) (Or.inl ⟨by kernel_rfl, ?_⟩) hHeldaaaaa ?_
          rotate_left 1
          · intro W hW; first | (go_simp; done) | (go_simp; with_reducible rfl)
          try simp only [Act.put, List.setIfInBounds_toArray, List.set_cons_zero, List.set_cons_succ]
          refine wpAnyH_ready (rs := [12]) (by kernel_rfl) (by simp) ?_
          refine AllReadyH.cons rfl (fun K hK => ?_) AllReadyH.nil
          rw [if_pos (by kernel_rfl)]
          refine wp_store_row 82 _ _ rfl (v3.heap.size) (ansC xx.code xx.num xx.rc D dd) rfl rfl 82 _ R9.out ans_inf7 rfl (by kernel_rfl) ?_
          generalize hwx : World.setRow v5 _ _ = v6
          have hkx : Kp (fun j => j = v3.heap.size) v5 v6 := by rw [← hwx]; exact kpRow7 (S := fun j => j = v3.heap.size) (Kp.refl _ _) (.inl rfl) _
          have HI1 := Lib.hid (its_keep HI1.out hkx (by rcases its_apart HI1.out R9.out (ans_no 0 0 RC.zero none 0) with h1 | h1; exact .inl h1; exact .inr fun ad e x => h1 ad e x))
          have R8 := Lib.hid ((hkx.block _ (lt_of_heap R8.out) (by omega)).trans R8.out)
          have hbx : Below w1.heap.size v5 v6 := hkx.below hHeldaaaaa.size (fun i hi x => by omega)
          clear hwx hkx
          refine hK.out _ _ ?_ (fun hHeldaaaaaa => ?_)
          · exact hHeldaaaaa.trans hbx
          clear hK K
          try simp only [Act.put, List.setIfInBounds_toArray, List.set_cons_zero, List.set_cons_succ]
          clear hbx
          refine wpAnyH_done (by kernel_rfl) ?_ _
          go_wp2_with fail
          go_meet
          exact ⟨_, B2, d2, rfl, R8.out, HI1.out, hHeldaaaaaa⟩
        · go_simp
          generalize hwx : World.alloc v2 _ = v3
          have hbx : Below v2.heap.size v2 v3 := by rw [← hwx]; exact below1 v2 _
          have rx : v3.heap[v2.heap.size]? = some (.cells (ansC 0 0 RC.zero none 0) 82 (0, 0)) := by rw [← hwx]; exact heap_alloc_new v2 _
          have hne : v2.heap.size ≠ v1.heap.size := by have := lt_of_heap R8.out; omega
          have zR9 : w1.heap.size ≤ v2.heap.size := hHeldaa.size
          have R8 := Lib.hid ((hbx.block _ (lt_of_heap R8.out)).trans R8.out)
          have R9 := Lib.hid rx
          clear rx hwx
          refine hK.out _ _ ?_ (fun hHeldaaa => ?_)
          · exact hHeldaa.trans (hbx.mono hHeldaa.size)
          clear hK K
          try simp only [Act.put, List.setIfInBounds_toArray, List.set_cons_zero, List.set_cons_succ]
          clear hbx
          refine wpAnyH_ready (rs := [3]) (by kernel_rfl) (by simp) ?_
          refine AllReadyH.cons rfl (fun K hK => ?_) AllReadyH.nil
          go_simp
          refine (HAp.out _ (HB.out.trans (hHeldaaa.mono HB.out.size))).mono ?_
          rintro e v4 ⟨B2, d2, D, dd, rfl, ho1, ho2, hn1, hn2, hbx⟩
          have hi1 : Its v4 B2 p.list := Its.own ho1
          have R8 := Lib.hid ((hbx.block _ (lt_of_heap R8.out)).trans R8.out)
          have R9 := Lib.hid ((hbx.block _ (lt_of_heap R9.out)).trans R9.out)
          have HI1 := Lib.hid hi1
          clear ho1 ho2 hn1 hn2 hi1
          go_wp2_with fail
          refine hK.out _ _ ?_ (fun hHeldaaaa => ?_)
          · exact hHeldaaa.trans (hbx.mono hHeldaaa.size)
          clear hK K
          try simp only [Act.put, List.setIfInBounds_toArray, List.set_cons_zero, List.set_cons_succ]
          clear hbx
          refine wpAnyH_take (i := 4) (oi := ⟨_, _, _, _, _, _⟩) (v := ?_) rfl (by kernel_rfl) (by kernel_rfl) (by kernel_rfl) (fun _ _ _ h => h) (Or.inl ⟨by kernel_rfl, ?_⟩) hHeldaaaa ?_
          rotate_left 1
          · intro W hW; first | (go_simp; done) | (go_simp; with_reducible rfl)
          try simp only [Act.put, List.setIfInBounds_toArray, List.set_cons_zero, List.set_cons_succ]
          refine wpAnyH_take (i := 5) (oi := ⟨_, _, _, _, _, _⟩) (v := ?_) rfl (by kernel_rfl) (by kernel_rfl) (by kernel_rfl) (fun _ _ _ h => h) (Or.inl ⟨by kernel_rfl, ?_⟩) hHeldaaaa ?_
          rotate_left 1
          · intro W hW; first | (go_simp; done) | (go_simp; with_reducible rfl)
          try simp only [Act.put, List.setIfInBounds_toArray, List.set_cons_zero, List.set_cons_succ]
          refine wpAnyH_take (i := 6) (oi := ⟨_, _, _, _, _, _⟩) (v := ?_) rfl (by kernel_rfl) (by kernel_rfl) (by kernel_rfl) (fun _ _ _ h => h) (Or.inl ⟨by kernel_rfl, ?_⟩) hHeldaaaa ?_
          rotate_left 1
          · intro W hW; first | (go_simp; done) | (go_simp; with_reducible rfl)
          try simp only [Act.put, List.setIfInBounds_toArray, List.set_cons_zero, List.set_cons_succ]
          refine wpAnyH_take (i := 7) (oi := ⟨_, _, _, _, _, _⟩) (v := ?_) rfl (by kernel_rfl) (by kernel_rfl) (by kernel_rfl) (fun _ _ _ h => h) (Or.inl ⟨by kernel_rfl, ?_⟩) hHeldaaaa ?_
          rotate_left 1
          · intro W hW; first | (go_simp; done) | (go_simp; with_reducible rfl)
          try simp only [Act.put, List.setIfInBounds_toArray, List.set_cons_zero, List.set_cons_succ]
          refine wpAnyH_ready (rs := [10]) (by kernel_rfl) (by simp) ?_
          refine AllReadyH.cons rfl (fun K hK => ?_) AllReadyH.nil
          rw [if_pos (by kernel_rfl)]
          refine wp_store_row 25 _ _ rfl (v1.heap.size) (recC p.kind p.num p.low p.high p.real p.cap p.text (.slice B2 p.list.length d2)) rfl rfl 25 _ R8.out rec_inf7 rfl (by kernel_rfl) ?_
          generalize hwx : World.setRow v4 _ _ = v5
          have hkx : Kp (fun j => j = v1.heap.size) v4 v5 := by rw [← hwx]; exact kpRow7 (S := fun j => j = v1.heap.size) (Kp.refl _ _) (.inl rfl) _
          have rx : v5.heap[v1.heap.size]? = some (.cells (recC p.kind p.num p.low p.high p.real p.cap p.text (.slice B2 p.list.length d2)) 25 (0, 0)) := by rw [← hwx]; exact setRow_heap v4 _ _ _ _ _ R8.out
          have HI1 := Lib.hid (its_keep HI1.out hkx (by rcases its_apart HI1.out R8.out (rec_no _ _ _ _ _ _ _ _ _ _) with h1 | h1; exact .inl h1; exact .inr fun ad e x => h1 ad e x))
          have R9 := Lib.hid ((hkx.block _ (lt_of_heap R9.out) (by omega)).trans R9.out)
          have R8 := Lib.hid rx
          have hbx : Below w1.heap.size v4 v5 := hkx.below hHeldaaaa.size (fun i hi x => by omega)
          clear rx hwx hkx
          refine hK.out _ _ ?_ (fun hHeldaaaaa => ?_)
          · exact hHeldaaaa.trans hbx
          clear hK K
          try simp only [Act.put, List.setIfInBounds_toArray, List.set_cons_zero, List.set_cons_succ]
          clear hbx
          refine wpAnyH_take (i := 11) (oi := ⟨_, _, _, _, _, _⟩) (v := ?_) rfl (by kernel_rfl) (by kernel_rfl) (by kernel_rfl) (fun _ _ _ h => h) (Or.inl ⟨by kernel_rfl, ?_⟩) hHeldaaaaa ?_
          rotate_left 1
          · intro W hW; first | (go_simp; done) | (go_simp; with_reducible rfl)
          try simp only [Act.put, List.setIfInBounds_toArray, List.set_cons_zero, List.set_cons_succ]
          refine wpAnyH_ready (rs := [12]) (by kernel_rfl) (by simp) ?_
          refine AllReadyH.cons rfl (fun K hK => ?_) AllReadyH.nil
          rw [if_pos (by kernel_rfl)]
          refine wp_store_row 82 _ _ rfl (v2.heap.size) (ansC xx.code xx.num xx.rc D dd) rfl rfl 82 _ R9.out ans_inf7 rfl (by kernel_rfl) ?_
          generalize hwx : World.setRow v5 _ _ = v6
          have hkx : Kp (fun j => j = v2.heap.size) v5 v6 := by rw [← hwx]; exact kpRow7 (S := fun j => j = v2.heap.size) (Kp.refl _ _) (.inl rfl) _
          have HI1 := Lib.hid (its_keep HI1.out hkx (by rcases its_apart HI1.out R9.out (ans_no 0 0 RC.zero none 0) with h1 | h1; exact .inl h1; exact .inr fun ad e x => h1 ad e x))
          have R8 := Lib.hid ((hkx.block _ (lt_of_heap R8.out) (by omega)).trans R8.out)
          have hbx : Below w1.heap.size v5 v6 := hkx.below hHeldaaaaa.size (fun i hi x => by omega)
          clear hwx hkx
          refine hK.out _ _ ?_ (fun hHeldaaaaaa => ?_)
          · exact hHeldaaaaa.trans hbx
          clear hK K
          try simp only [Act.put, List.setIfInBounds_toArray, List.set_cons_zero, List.set_cons_succ]
          clear hbx
          refine wpAnyH_done (by kernel_rfl) ?_ _
          go_wp2_with fail
          go_meet
          exact ⟨_, B2, d2, rfl, R8.out, HI1.out, hHeldaaaaaa⟩
      · go_simp
        generalize hwx : World.alloc v1 _ = v2
        have hbx : Below v1.heap.size v1 v2 := by rw [← hwx]; exact below1 v1 _
        have rx : v2.heap[v1.heap.size]? = some (.cells (ansC 0 0 RC.zero none 0) 82 (0, 0)) := by rw [← hwx]; exact heap_alloc_new v1 _
        have zR9 : w1.heap.size ≤ v1.heap.size := hHelda.size
        have R9 := Lib.hid rx
        clear rx hwx
        refine hK.out _ _ ?_ (fun hHeldaa => ?_)
        · exact hHelda.trans (hbx.mono hHelda.size)
        clear hK K
        try simp only [Act.put, List.setIfInBounds_toArray, List.set_cons_zero, List.set_cons_succ]
        clear hbx
        refine wpAnyH_ready (rs := [3, 8]) (by kernel_rfl) (by simp) ?_
        refine AllReadyH.cons rfl (fun K hK => ?_) (AllReadyH.cons rfl (fun K hK => ?_) AllReadyH.nil)
        · go_simp
          refine (HAp.out _ (HB.out.trans (hHeldaa.mono HB.out.size))).mono ?_
          rintro e v3 ⟨B2, d2, D, dd, rfl, ho1, ho2, hn1, hn2, hbx⟩
          have hi1 : Its v3 B2 p.list := Its.own ho1
          have R9 := Lib.hid ((hbx.block _ (lt_of_heap R9.out)).trans R9.out)
          have HI1 := Lib.hid hi1
          clear ho1 ho2 hn1 hn2 hi1
          go_wp2_with fail
          refine hK.out _ _ ?_ (fun hHeldaaa => ?_)
          · exact hHeldaa.trans (hbx.mono hHeldaa.size)
          clear hK K
          try simp only [Act.put, List.setIfInBounds_toArray, List.set_cons_zero, List.set_cons_succ]
          clear hbx
          refine wpAnyH_take (i := 4) (oi := ⟨_, _, _, _, _, _⟩) (v := ?_) rfl (by kernel_rfl) (by kernel_rfl) (by kernel_rfl) (fun _ _ _ h => h) (Or.inl ⟨by kernel_rfl, ?_⟩) hHeldaaa ?_
          rotate_left 1
          · intro W hW; first | (go_simp; done) | (go_simp; with_reducible rfl)
          try simp only [Act.put, List.setIfInBounds_toArray, List.set_cons_zero, List.set_cons_succ]
          refine wpAnyH_take (i := 5) (oi := ⟨_, _, _, _, _, _⟩) (v := ?_) rfl (by kernel_rfl) (by kernel_rfl) (by kernel_rfl) (fun _ _ _ h => h) (Or.inl ⟨by kernel_rfl, ?_⟩) hHeldaaa ?_
          rotate_left 1
          · intro W hW; first | (go_simp; done) | (go_simp; with_reducible rfl)
          try simp only [Act.put, List.setIfInBounds_toArray, List.set_cons_zero, List.set_cons_succ]
          refine wpAnyH_take (i := 6) (oi := ⟨_, _, _, _, _, _⟩) (v := ?_) rfl (by kernel_rfl) (by kernel_rfl) (by kernel_rfl) (fun _ _ _ h => h) (Or.inl ⟨by kernel_rfl, ?_⟩) hHeldaaa ?_
          rotate_left 1
          · intro W hW; first | (go_simp; done) | (go_simp; with_reducible rfl)
          try simp only [Act.put, List.setIfInBounds_toArray, List.set_cons_zero, List.set_cons_succ]
          refine wpAnyH_take (i := 7) (oi := ⟨_, _, _, _, _, _⟩) (v := ?_) rfl (by kernel_rfl) (by kernel_rfl) (by kernel_rfl) (fun _ _ _ h => h) (Or.inl ⟨by kernel_rfl, ?_⟩) hHeldaaa ?_
          rotate_left 1
          · intro W hW; first | (go_simp; done) | (go_simp; with_reducible rfl)
          try simp only [Act.put, List.setIfInBounds_toArray, List.set_cons_zero, List.set_cons_succ]
          refine wpAnyH_ready (rs := [8]) (by kernel_rfl) (by simp) ?_
          refine AllReadyH.cons rfl (fun K hK => ?_) AllReadyH.nil
          go_simp
          generalize hwx : World.alloc v3 _ = v4
          have hbx : Below v3.heap.size v3 v4 := by rw [← hwx]; exact below1 v3 _
          have rx : v4.heap[v3.heap.size]? = some (.cells (recC 0 0 0 0 0 0 ⟨#[]⟩ (.slice none 0 0)) 25 (0, 0)) := by rw [← hwx]; exact heap_alloc_new v3 _
          have hne : v3.heap.size ≠ v1.heap.size := by have := lt_of_heap R9.out; omega
          have zR8 : w1.heap.size ≤ v3.heap.size := hHeldaaa.size
          have R9 := Lib.hid ((hbx.block _ (lt_of_heap R9.out)).trans R9.out)
          have HI1 := Lib.hid (HI1.out.below hbx)
          have R8 := Lib.hid rx
          clear rx hwx
          refine hK.out _ _ ?_ (fun hHeldaaaa => ?_)
          · exact hHeldaaa.trans (hbx.mono hHeldaaa.size)
          clear hK K
          try simp only [Act.put, List.setIfInBounds_toArray, List.set_cons_zero, List.set_cons_succ]
          clear hbx
          refine wpAnyH_ready (rs := [10]) (by kernel_rfl) (by simp) ?_
          refine AllReadyH.cons rfl (fun K hK => ?_) AllReadyH.nil
          rw [if_pos (by kernel_rfl)]
          refine wp_store_row 25 _ _ rfl (v3.heap.size) (recC p.kind p.num p.low p.high p.real p.cap p.text (.slice B2 p.list.length d2)) rfl rfl 25 _ R8.out rec_inf7 rfl (by kernel_rfl) ?_
          generalize hwx : World.setRow v4 _ _ = v5
          have hkx : Kp (fun j => j = v3.heap.size) v4 v5 := by rw [← hwx]; exact kpRow7 (S := fun j => j = v3.heap.size) (Kp.refl _ _) (.inl rfl) _
          have rx : v5.heap[v3.heap.size]? = some (.cells (recC p.kind p.num p.low p.high p.real p.cap p.text (.slice B2 p.list.length d2)) 25 (0, 0)) := by rw [← hwx]; exact setRow_heap v4 _ _ _ _ _ R8.out
          have HI1 := Lib.hid (its_keep HI1.out hkx (by rcases its_apart HI1.out R8.out (rec_no _ _ _ _ _ _ _ _ _ _) with h1 | h1; exact .inl h1; exact .inr fun ad e x => h1 ad e x))
          have R9 := Lib.hid ((hkx.block _ (lt_of_heap R9.out) (by omega)).trans R9.out)
          have R8 := Lib.hid rx
          have hbx : Below w1.heap.size v4 v5 := hkx.below hHeldaaaa.size (fun i hi x => by omega)
          clear rx hwx hkx
          refine hK.out _ _ ?_ (fun hHeldaaaaa => ?_)
          · exact hHeldaaaa.trans hbx
          clear hK K
          try simp only [Act.put, List.setIfInBounds_toArray, List.set_cons_zero, List.set_cons_succ]
          clear hbx
          refine wpAnyH_take (i := 11) (oi := ⟨_, _, _, _, _, _⟩) (v := ?_) rfl (by kernel_rfl) (by kernel_rfl) (by kernel_rfl) (fun _ _ _ h => h) (Or.inl ⟨by kernel_rfl, ?_⟩) hHeldaaaaa ?_
          rotate_left 1
          · intro W hW; first | (go_simp; done) | (go_simp; with_reducible rfl)
          try simp only [Act.put, List.setIfInBounds_toArray, List.set_cons_zero, List.set_cons_succ]
          refine wpAnyH_ready (rs := [12]) (by kernel_rfl) (by simp) ?_
          refine AllReadyH.cons rfl (fun K hK => ?_) AllReadyH.nil
          rw [if_pos (by kernel_rfl)]
          refine wp_store_row 82 _ _ rfl (v1.heap.size) (ansC xx.code xx.num xx.rc D dd) rfl rfl 82 _ R9.out ans_inf7 rfl (by kernel_rfl) ?_
          generalize hwx : World.setRow v5 _ _ = v6
          have hkx : Kp (fun j => j = v1.heap.size) v5 v6 := by rw [← hwx]; exact kpRow7 (S := fun j => j = v1.heap.size) (Kp.refl _ _) (.inl rfl) _
          have HI1 := Lib.hid (its_keep HI1.out hkx (by rcases its_apart HI1.out R9.out (ans_no 0 0 RC.zero none 0) with h1 | h1; exact .inl h1; exact .inr fun ad e x => h1 ad e x))
          have R8 := Lib.hid ((hkx.block _ (lt_of_heap R8.out) (by omega)).trans R8.out)
          have hbx : Below w1.heap.size v5 v6 := hkx.below hHeldaaaaa.size (fun i hi x => by omega)
          clear hwx hkx
          refine hK.out _ _ ?_ (fun hHeldaaaaaa => ?_)
          · exact hHeldaaaaa.trans hbx
          clear hK K
          try simp only [Act.put, List.setIfInBounds_toArray, List.set_cons_zero, List.set_cons_succ]
          clear hbx
          refine wpAnyH_done (by kernel_rfl) ?_ _
          go_wp2_with fail
          go_meet
          exact ⟨_, B2, d2, rfl, R8.out, HI1.out, hHeldaaaaaa⟩
        · go_simp
          generalize hwx : World.alloc v2 _ = v3
          have hbx : Below v2.heap.size v2 v3 := by rw [← hwx]; exact below1 v2 _
          have rx : v3.heap[v2.heap.size]? = some (.cells (recC 0 0 0 0 0 0 ⟨#[]⟩ (.slice none 0 0)) 25 (0, 0)) := by rw [← hwx]; exact heap_alloc_new v2 _
          have hne : v2.heap.size ≠ v1.heap.size := by have := lt_of_heap R9.out; omega
          have zR8 : w1.heap.size ≤ v2.heap.size := hHeldaa.size
          have R9 := Lib.hid ((hbx.block _ (lt_of_heap R9.out)).trans R9.out)
          have R8 := Lib.hid rx
          clear rx hwx
          refine hK.out _ _ ?_ (fun hHeldaaa => ?_)
          · exact hHeldaa.trans (hbx.mono hHeldaa.size)
          clear hK K
          try simp only [Act.put, List.setIfInBounds_toArray, List.set_cons_zero, List.set_cons_succ]
          clear hbx
          refine wpAnyH_ready (rs := [3]) (by kernel_rfl) (by simp) ?_
          refine AllReadyH.cons rfl (fun K hK => ?_) AllReadyH.nil
          go_simp
          refine (HAp.out _ (HB.out.trans (hHeldaaa.mono HB.out.size))).mono ?_
          rintro e v4 ⟨B2, d2, D, dd, rfl, ho1, ho2, hn1, hn2, hbx⟩
          have hi1 : Its v4 B2 p.list := Its.own ho1
          have R8 := Lib.hid ((hbx.block _ (lt_of_heap R8.out)).trans R8.out)
          have R9 := Lib.hid ((hbx.block _ (lt_of_heap R9.out)).trans R9.out)
          have HI1 := Lib.hid hi1
          clear ho1 ho2 hn1 hn2 hi1
          go_wp2_with fail
          refine hK.out _ _ ?_ (fun hHeldaaaa => ?_)
          · exact hHeldaaa.trans (hbx.mono hHeldaaa.size)
          clear hK K
          try simp only [Act.put, List.setIfInBounds_toArray, List.set_cons_zero, List.set_cons_succ]
          clear hbx
          refine wpAnyH_take (i := 4) (oi := ⟨_, _, _, _, _, _⟩) (v := ?_) rfl (by kernel_rfl) (by kernel_rfl) (by kernel_rfl) (fun _ _ _ h => h) (Or.inl ⟨by kernel_rfl, ?_⟩) hHeldaaaa ?_
          rotate_left 1
          · intro W hW; first | (go_simp; done) | (go_simp; with_reducible rfl)
          try simp only [Act.put, List.setIfInBounds_toArray, List.set_cons_zero, List.set_cons_succ]
          refine wpAnyH_take (i := 5) (oi := ⟨_, _, _, _, _, _⟩) (v := ?_) rfl (by kernel_rfl) (by kernel_rfl) (by kernel_rfl) (fun _ _ _ h => h) (Or.inl ⟨by kernel_rfl, ?_⟩) hHeldaaaa ?_
          rotate_left 1
          · intro W hW; first | (go_simp; done) | (go_simp; with_reducible rfl)
          try simp only [Act.put, List.setIfInBounds_toArray, List.set_cons_zero, List.set_cons_succ]
          refine wpAnyH_take (i := 6) (oi := ⟨_, _, _, _, _, _⟩) (v := ?_) rfl (by kernel_rfl) (by kernel_rfl) (by kernel_rfl) (fun _ _ _ h => h) (Or.inl ⟨by kernel_rfl, ?_⟩) hHeldaaaa ?_
          rotate_left 1
          · intro W hW; first | (go_simp; done) | (go_simp; with_reducible rfl)
          try simp only [Act.put, List.setIfInBounds_toArray, List.set_cons_zero, List.set_cons_succ]
          refine wpAnyH_take (i := 7) (oi := ⟨_, _, _, _, _, _⟩) (v := ?_) rfl (by kernel_rfl) (by kernel_rfl) (by kernel_rfl) (fun _ _ _ h => h) (Or.inl ⟨by kernel_rfl, ?_⟩) hHeldaaaa ?_
          rotate_left 1
          · intro W hW; first | (go_simp; done) | (go_simp; with_reducible rfl)
          try simp only [Act.put, List.setIfInBounds_toArray, List.set_cons_zero, List.set_cons_succ]
          refine wpAnyH_ready (rs := [10]) (by kernel_rfl) (by simp) ?_
          refine AllReadyH.cons rfl (fun K hK => ?_) AllReadyH.nil
          rw [if_pos (by kernel_rfl)]
          refine wp_store_row 25 _ _ rfl (v2.heap.size) (recC p.kind p.num p.low p.high p.real p.cap p.text (.slice B2 p.list.length d2)) rfl rfl 25 _ R8.out rec_inf7 rfl (by kernel_rfl) ?_
          generalize hwx : World.setRow v4 _ _ = v5
          have hkx : Kp (fun j => j = v2.heap.size) v4 v5 := by rw [← hwx]; exact kpRow7 (S := fun j => j = v2.heap.size) (Kp.refl _ _) (.inl rfl) _
          have rx : v5.heap[v2.heap.size]? = some (.cells (recC p.kind p.num p.low p.high p.real p.cap p.text (.slice B2 p.list.length d2)) 25 (0, 0)) := by rw [← hwx]; exact setRow_heap v4 _ _ _ _ _ R8.out
          have HI1 := Lib.hid (its_keep HI1.out hkx (by rcases its_apart HI1.out R8.out (rec_no _ _ _ _ _ _ _ _ _ _) with h1 | h1; exact .inl h1; exact .inr fun ad e x => h1 ad e x))
          have R9 := Lib.hid ((hkx.block _ (lt_of_heap R9.out) (by omega)).trans R9.out)
          have R8 := Lib.hid rx
          have hbx : Below w1.heap.size v4 v5 := hkx.below hHeldaaaa.size (fun i hi x => by omega)
          clear rx hwx hkx
          refine hK.out _ _ ?_ (fun hHeldaaaaa => ?_)
          · exact hHeldaaaa.trans hbx
          clear hK K
          try simp only [Act.put, List.setIfInBounds_toArray, List.set_cons_zero, List.set_cons_succ]
          clear hbx
          refine wpAnyH_take (i := 11) (oi := ⟨_, _, _, _, _, _⟩) (v := ?_) rfl (by kernel_rfl) (by kernel_rfl) (by kernel_rfl) (fun _ _ _ h => h) (Or.inl ⟨by kernel_rfl, ?_⟩) hHeldaaaaa ?_
          rotate_left 1
          · intro W hW; first | (go_simp; done) | (go_simp; with_reducible rfl)
          try simp only [Act.put, List.setIfInBounds_toArray, List.set_cons_zero, List.set_cons_succ]
          refine wpAnyH_ready (rs := [12]) (by kernel_rfl) (by simp) ?_
          refine AllReadyH.cons rfl (fun K hK => ?_) AllReadyH.nil
          rw [if_pos (by kernel_rfl)]
          refine wp_store_row 82 _ _ rfl (v1.heap.size) (ansC xx.code xx.num xx.rc D dd) rfl rfl 82 _ R9.out ans_inf7 rfl (by kernel_rfl) ?_
          generalize hwx : World.setRow v5 _ _ = v6
          have hkx : Kp (fun j => j = v1.heap.size) v5 v6 := by rw [← hwx]; exact kpRow7 (S := fun j => j = v1.heap.size) (Kp.refl _ _) (.inl rfl) _
          have HI1 := Lib.hid (its_keep HI1.out hkx (by rcases its_apart HI1.out R9.out (ans_no 0 0 RC.zero none 0) with h1 | h1; exact .inl h1; exact .inr fun ad e x => h1 ad e x))
          have R8 := Lib.hid ((hkx.block _ (lt_of_heap R8.out) (by omega)).trans R8.out)
          have hbx : Below w1.heap.size v5 v6 := hkx.below hHeldaaaaa.size (fun i hi x => by omega)
          clear hwx hkx
          refine hK.out _ _ ?_ (fun hHeldaaaaaa => ?_)
          · exact hHeldaaaaa.trans hbx
          clear hK K
          try simp only [Act.put, List.setIfInBounds_toArray, List.set_cons_zero, List.set_cons_succ]
          clear hbx
          refine wpAnyH_done (by kernel_rfl) ?_ _
          go_wp2_with fail
          go_meet
          exact ⟨_, B2, d2, rfl, R8.out, HI1.out, hHeldaaaaaa⟩
    · go_simp
      generalize hwx : World.alloc v0 _ = v1
      have hbx : Below v0.heap.size v0 v1 := by rw [← hwx]; exact below1 v0 _
      have rx : v1.heap[v0.heap.size]? = some (.cells (recC 0 0 0 0 0 0 ⟨#[]⟩ (.slice none 0 0)) 25 (0, 0)) := by rw [← hwx]; exact heap_alloc_new v0 _
      have zR8 : w1.heap.size ≤ v0.heap.size := hHeld.size
      have R8 := Lib.hid rx
      clear rx hwx
      refine hK.out _ _ ?_ (fun hHelda => ?_)
      · exact hHeld.trans (hbx.mono hHeld.size)
      clear hK K
      try simp only [Act.put, List.setIfInBounds_toArray, List.set_cons_zero, List.set_cons_succ]
      clear hbx
      refine wpAnyH_ready (rs := [2, 9]) (by kernel_rfl) (by simp) ?_
      refine AllReadyH.cons rfl (fun K hK => ?_) (AllReadyH.cons rfl (fun K hK => ?_) AllReadyH.nil)
      · go_simp
        refine (HUp.out _).mono ?_
        rintro e v2 ⟨rfl, hbx⟩
        have R8 := Lib.hid ((hbx.block _ (lt_of_heap R8.out)).trans R8.out)
        go_wp2_with fail
        refine hK.out _ _ ?_ (fun hHeldaa => ?_)
        · exact hHelda.trans (hbx.mono hHelda.size)
        clear hK K
        try simp only [Act.put, List.setIfInBounds_toArray, List.set_cons_zero, List.set_cons_succ]
        clear hbx
        refine wpAnyH_ready (rs := [3, 9]) (by kernel_rfl) (by simp) ?_
        refine AllReadyH.cons rfl (fun K hK => ?_) (AllReadyH.cons rfl (fun K hK => ?_) AllReadyH.nil)
        · go_simp
          refine (HAp.out _ (HB.out.trans (hHeldaa.mono HB.out.size))).mono ?_
          rintro e v3 ⟨B2, d2, D, dd, rfl, ho1, ho2, hn1, hn2, hbx⟩
          have hi1 : Its v3 B2 p.list := Its.own ho1
          have R8 := Lib.hid ((hbx.block _ (lt_of_heap R8.out)).trans R8.out)
          have HI1 := Lib.hid hi1
          clear ho1 ho2 hn1 hn2 hi1
          go_wp2_with fail
          refine hK.out _ _ ?_ (fun hHeldaaa => ?_)
          · exact hHeldaa.trans (hbx.mono hHeldaa.size)
          clear hK K
          try simp only [Act.put, List.setIfInBounds_toArray, List.set_cons_zero, List.set_cons_succ]
          clear hbx
          refine wpAnyH_take (i := 4) (oi := ⟨_, _, _, _, _, _⟩) (v := ?_) rfl (by kernel_rfl) (by kernel_rfl) (by kernel_rfl) (fun _ _ _ h => h) (Or.inl ⟨by kernel_rfl, ?_⟩) hHeldaaa ?_
          rotate_left 1
          · intro W hW; first | (go_simp; done) | (go_simp; with_reducible rfl)
          try simp only [Act.put, List.setIfInBounds_toArray, List.set_cons_zero, List.set_cons_succ]
          refine wpAnyH_take (i := 5) (oi := ⟨_, _, _, _, _, _⟩) (v := ?_) rfl (by kernel_rfl) (by kernel_rfl) (by kernel_rfl) (fun _ _ _ h => h) (Or.inl ⟨by kernel_rfl, ?_⟩) hHeldaaa ?_
          rotate_left 1
          · intro W hW; first | (go_simp; done) | (go_simp; with_reducible rfl)
          try simp only [Act.put, List.setIfInBounds_toArray, List.set_cons_zero, List.set_cons_succ]
          refine wpAnyH_take (i := 6) (oi := ⟨_, _, _, _, _, _⟩) (v := ?_) rfl (by kernel_rfl) (by kernel_rfl) (by kernel_rfl) (fun _ _ _ h => h) (Or.inl ⟨by kernel_rfl, ?_⟩) hHeldaaa ?_
          rotate_left 1
          · intro W hW; first | (go_simp; done) | (go_simp; with_reducible rfl)
          try simp only [Act.put, List.setIfInBounds_toArray, List.set_cons_zero, List.set_cons_succ]
          refine wpAnyH_take (i := 7) (oi := ⟨_, _, _, _, _, _⟩) (v := ?_) rfl (by kernel_rfl) (by kernel_rfl) (by kernel_rfl) (fun _ _ _ h => h) (Or.inl ⟨by kernel_rfl, ?_⟩) hHeldaaa ?_
          rotate_left 1
          · intro W hW; first | (go_simp; done) | (go_simp; with_reducible rfl)
          try simp only [Act.put, List.setIfInBounds_toArray, List.set_cons_zero, List.set_cons_succ]
          refine wpAnyH_ready (rs := [9]) (by kernel_rfl) (by simp) ?_
          refine AllReadyH.cons rfl (fun K hK => ?_) AllReadyH.nil
          go_simp
          generalize hwx : World.alloc v3 _ = v4
          have hbx : Below v3.heap.size v3 v4 := by rw [← hwx]; exact below1 v3 _
          have rx : v4.heap[v3.heap.size]? = some (.cells (ansC 0 0 RC.zero none 0) 82 (0, 0)) := by rw [← hwx]; exact heap_alloc_new v3 _
          have hne : v3.heap.size ≠ v0.heap.size := by have := lt_of_heap R8.out; omega
          have zR9 : w1.heap.size ≤ v3.heap.size := hHeldaaa.size
          have R8 := Lib.hid ((hbx.block _ (lt_of_heap R8.out)).trans R8.out)
          have HI1 := Lib.hid (HI1.out.below hbx)
          have R9 := Lib.hid rx
          clear rx hwx
          refine hK.out _ _ ?_ (fun hHeldaaaa => ?_)
          · exact hHeldaaa.trans (hbx.mono hHeldaaa.size)
          clear hK K
          try simp only [Act.put, List.setIfInBounds_toArray, List.set_cons_zero, List.set_cons_succ]
          clear hbx
          refine wpAnyH_ready (rs := [10]) (by kernel_rfl) (by simp) ?_
          refine AllReadyH.cons rfl (fun K hK => ?_) AllReadyH.nil
          rw [if_pos (by kernel_rfl)]
          refine wp_store_row 25 _ _ rfl (v0.heap.size) (recC p.kind p.num p.low p.high p.real p.cap p.text (.slice B2 p.list.length d2)) rfl rfl 25 _ R8.out rec_inf7 rfl (by kernel_rfl) ?_
          generalize hwx : World.setRow v4 _ _ = v5
          have hkx : Kp (fun j => j = v0.heap.size) v4 v5 := by rw [← hwx]; exact kpRow7 (S := fun j => j = v0.heap.size) (Kp.refl _ _) (.inl rfl) _
          have rx : v5.heap[v0.heap.size]? = some (.cells (recC p.kind p.num p.low p.high p.real p.cap p.text (.slice B2 p.list.length d2)) 25 (0, 0)) := by rw [← hwx]; exact setRow_heap v4 _ _ _ _ _ R8.out
          have HI1 := Lib.hid (its_keep HI1.out hkx (by rcases its_apart HI1.out R8.out (rec_no _ _ _ _ _ _ _ _ _ _) with h1 | h1; exact .inl h1; exact .inr fun ad e x => h1 ad e x))
          have R9 := Lib.hid ((hkx.block _ (lt_of_heap R9.out) (by omega)).trans R9.out)
          have R8 := Lib.hid rx
          have hbx : Below w1.heap.size v4 v5 := hkx.below hHeldaaaa.size (fun i hi x => by omega)
          clear rx hwx hkx
          refine hK.out _ _ ?_ (fun hHeldaaaaa => ?_)
          · exact hHeldaaaa.trans hbx
          clear hK K
          try simp only [Act.put, List.setIfInBounds_toArray, List.set_cons_zero, List.set_cons_succ]
          clear hbx
          refine wpAnyH_take (i := 11) (oi := ⟨_, _, _, _, _, _⟩) (v := ?_) rfl (by kernel_rfl) (by kernel_rfl) (by kernel_rfl) (fun _ _ _ h => h) (Or.inl ⟨by kernel_rfl, ?_⟩) hHeldaaaaa ?_
          rotate_left 1
          · intro W hW; first | (go_simp; done) | (go_simp; with_reducible rfl)
          try simp only [Act.put, List.setIfInBounds_toArray, List.set_cons_zero, List.set_cons_succ]
          refine wpAnyH_ready (rs := [12]) (by kernel_rfl) (by simp) ?_
          refine AllReadyH.cons rfl (fun K hK => ?_) AllReadyH.nil
          rw [if_pos (by kernel_rfl)]
          refine wp_store_row 82 _ _ rfl (v3.heap.size) (ansC xx.code xx.num xx.rc D dd) rfl rfl 82 _ R9.out ans_inf7 rfl (by kernel_rfl) ?_
          generalize hwx : World.setRow v5 _ _ = v6
          have hkx : Kp (fun j => j = v3.heap.size) v5 v6 := by rw [← hwx]; exact kpRow7 (S := fun j => j = v3.heap.size) (Kp.refl _ _) (.inl rfl) _
          have HI1 := Lib.hid (its_keep HI1.out hkx (by rcases its_apart HI1.out R9.out (ans_no 0 0 RC.zero none 0) with h1 | h1; exact .inl h1; exact .inr fun ad e x => h1 ad e x))
          have R8 := Lib.hid ((hkx.block _ (lt_of_heap R8.out) (by omega)).trans R8.out)
          have hbx : Below w1.heap.size v5 v6 := hkx.below hHeldaaaaa.size (fun i hi x => by omega)
          clear hwx hkx
          refine hK.out _ _ ?_ (fun hHeldaaaaaa => ?_)
          · exact hHeldaaaaa.trans hbx
          clear hK K
          try simp only [Act.put, List.setIfInBounds_toArray, List.set_cons_zero, List.set_cons_succ]
          clear hbx
          refine wpAnyH_done (by kernel_rfl) ?_ _
          go_wp2_with fail
          go_meet
          exact ⟨_, B2, d2, rfl, R8.out, HI1.out, hHeldaaaaaa⟩
        · go_simp
          generalize hwx : World.alloc v2 _ = v3
          have hbx : Below v2.heap.size v2 v3 := by rw [← hwx]; exact below1 v2 _
          have rx : v3.heap[v2.heap.size]? = some (.cells (ansC 0 0 RC.zero none 0) 82 (0, 0)) := by rw [← hwx]; exact heap_alloc_new v2 _
          have hne : v2.heap.size ≠ v0.heap.size := by have := lt_of_heap R8.out; omega
          have zR9 : w1.heap.size ≤ v2.heap.size := hHeldaa.size
          have R8 := Lib.hid ((hbx.block _ (lt_of_heap R8.out)).trans R8.out)
          have R9 := Lib.hid rx
          clear rx hwx
          refine hK.out _ _ ?_ (fun hHeldaaa => ?_)
          · exact hHeldaa.trans (hbx.mono hHeldaa.size)
          clear hK K
          try simp only [Act.put, List.setIfInBounds_toArray, List.set_cons_zero, List.set_cons_succ]
          clear hbx
          refine wpAnyH_ready (rs := [3]) (by kernel_rfl) (by simp) ?_
          refine AllReadyH.cons rfl (fun K hK => ?_) AllReadyH.nil
          go_simp
          refine (HAp.out _ (HB.out.trans (hHeldaaa.mono HB.out.size))).mono ?_
          rintro e v4 ⟨B2, d2, D, dd, rfl, ho1, ho2, hn1, hn2, hbx⟩
          have hi1 : Its v4 B2 p.list := Its.own ho1
          have R8 := Lib.hid ((hbx.block _ (lt_of_heap R8.out)).trans R8.out)
          have R9 := Lib.hid ((hbx.block _ (lt_of_heap R9.out)).trans R9.out)
          have HI1 := Lib.hid hi1
          clear ho1 ho2 hn1 hn2 hi1
          go_wp2_with fail
          refine hK.out _ _ ?_ (fun hHeldaaaa => ?_)
          · exact hHeldaaa.trans (hbx.mono hHeldaaa.size)
          clear hK K
          try simp only [Act.put, List.setIfInBounds_toArray, List.set_cons_zero, List.set_cons_succ]
          clear hbx
          refine wpAnyH_take (i := 4) (oi := ⟨_, _, _, _, _, _⟩) (v := ?_) rfl (by kernel_rfl) (by kernel_rfl) (by kernel_rfl) (fun _ _ _ h => h) (Or.inl ⟨by kernel_rfl, ?_⟩) hHeldaaaa ?_
          rotate_left 1
          · intro W hW; first | (go_simp; done) | (go_simp; with_reducible rfl)
          try simp only [Act.put, List.setIfInBounds_toArray, List.set_cons_zero, List.set_cons_succ]
          refine wpAnyH_take (i := 5) (oi := ⟨_, _, _, _, _, _⟩) (v := ?_) rfl (by kernel_rfl) (by kernel_rfl) (by kernel_rfl) (fun _ _ _ h => h) (Or.inl ⟨by kernel_rfl, ?_⟩) hHeldaaaa ?_
          rotate_left 1
          · intro W hW; first | (go_simp; done) | (go_simp; with_reducible rfl)
          try simp only [Act.put, List.setIfInBounds_toArray, List.set_cons_zero, List.set_cons_succ]
          refine wpAnyH_take (i := 6) (oi := ⟨_, _, _, _, _, _⟩) (v := ?_) rfl (by kernel_rfl) (by kernel_rfl) (by kernel_rfl) (fun _ _ _ h => h) (Or.inl ⟨by kernel_rfl, ?_⟩) hHeldaaaa ?_
          rotate_left 1
          · intro W hW; first | (go_simp; done) | (go_simp; with_reducible rfl)
          try simp only [Act.put, List.setIfInBounds_toArray, List.set_cons_zero, List.set_cons_succ]
          refine wpAnyH_take (i := 7) (oi := ⟨_, _, _, _, _, _⟩) (v := ?_) rfl (by kernel_rfl) (by kernel_rfl) (by kernel_rfl) (fun _ _ _ h => h) (Or.inl ⟨by kernel_rfl, ?_⟩) hHeldaaaa ?_
          rotate_left 1
          · intro W hW; first | (go_simp; done) | (go_simp; with_reducible rfl)
          try simp only [Act.put, List.setIfInBounds_toArray, List.set_cons_zero, List.set_cons_succ]
          refine wpAnyH_ready (rs := [10]) (by kernel_rfl) (by simp) ?_
          refine AllReadyH.cons rfl (fun K hK => ?_) AllReadyH.nil
          rw [if_pos (by kernel_rfl)]
          refine wp_store_row 25 _ _ rfl (v0.heap.size) (recC p.kind p.num p.low p.high p.real p.cap p.text (.slice B2 p.list.length d2)) rfl rfl 25 _ R8.out rec_inf7 rfl (by kernel_rfl) ?_
          generalize hwx : World.setRow v4 _ _ = v5
          have hkx : Kp (fun j => j = v0.heap.size) v4 v5 := by rw [← hwx]; exact kpRow7 (S := fun j => j = v0.heap.size) (Kp.refl _ _) (.inl rfl) _
          have rx : v5.heap[v0.heap.size]? = some (.cells (recC p.kind p.num p.low p.high p.real p.cap p.text (.slice B2 p.list.length d2)) 25 (0, 0)) := by rw [← hwx]; exact setRow_heap v4 _ _ _ _ _ R8.out
          have HI1 := Lib.hid (its_keep HI1.out hkx (by rcases its_apart HI1.out R8.out (rec_no _ _ _ _ _ _ _ _ _ _) with h1 | h1; exact .inl h1; exact .inr fun ad e x => h1 ad e x))
          have R9 := Lib.hid ((hkx.block _ (lt_of_heap R9.out) (by omega)).trans R9.out)
          have R8 := Lib.hid rx
          have hbx : Below w1.heap.size v4 v5 := hkx.below hHeldaaaa.size (fun i hi x => by omega)
          clear rx hwx hkx
          refine hK.out _ _ ?_ (fun hHeldaaaaa => ?_)
          · exact hHeldaaaa.trans hbx
          clear hK K
          try simp only [Act.put, List.setIfInBounds_toArray, List.set_cons_zero, List.set_cons_succ]
          clear hbx
          refine wpAnyH_take (i := 11) (oi := ⟨_, _, _, _, _, _⟩) (v := ?_) rfl (by kernel_rfl) (by kernel_rfl) (by kernel_rfl) (fun _ _ _ h => h) (Or.inl ⟨by kernel_rfl, ?_⟩) hHeldaaaaa ?_
          rotate_left 1
          · intro W hW; first | (go_simp; done) | (go_simp; with_reducible rfl)
          try simp only [Act.put, List.setIfInBounds_toArray, List.set_cons_zero, List.set_cons_succ]
          refine wpAnyH_ready (rs := [12]) (by kernel_rfl) (by simp) ?_
          refine AllReadyH.cons rfl (fun K hK => ?_) AllReadyH.nil
          rw [if_pos (by kernel_rfl)]
          refine wp_store_row 82 _ _ rfl (v2.heap.size) (ansC xx.code xx.num xx.rc D dd) rfl rfl 82 _ R9.out ans_inf7 rfl (by kernel_rfl) ?_
          generalize hwx : World.setRow v5 _ _ = v6
          have hkx : Kp (fun j => j = v2.heap.size) v5 v6 := by rw [← hwx]; exact kpRow7 (S := fun j => j = v2.heap.size) (Kp.refl _ _) (.inl rfl) _
          have HI1 := Lib.hid (its_keep HI1.out hkx (by rcases its_apart HI1.out R9.out (ans_no 0 0 RC.zero none 0) with h1 | h1; exact .inl h1; exact .inr fun ad e x => h1 ad e x))
          have R8 := Lib.hid ((hkx.block _ (lt_of_heap R8.out) (by omega)).trans R8.out)
          have hbx : Below w1.heap.size v5 v6 := hkx.below hHeldaaaaa.size (fun i hi x => by omega)
          clear hwx hkx
          refine hK.out _ _ ?_ (fun hHeldaaaaaa => ?_)
          · exact hHeldaaaaa.trans hbx
          clear hK K
          try simp only [Act.put, List.setIfInBounds_toArray, List.set_cons_zero, List.set_cons_succ]
          clear hbx
          refine wpAnyH_done (by kernel_rfl) ?_ _
          go_wp2_with fail
          go_meet
          exact ⟨_, B2, d2, rfl, R8.out, HI1.out, hHeldaaaaaa⟩
      · go_simp
        generalize hwx : World.alloc v1 _ = v2
        have hbx : Below v1.heap.size v1 v2 := by rw [← hwx]; exact below1 v1 _
        have rx : v2.heap[v1.heap.size]? = some (.cells (ansC 0 0 RC.zero none 0) 82 (0, 0)) := by rw [← hwx]; exact heap_alloc_new v1 _
        have hne : v1.heap.size ≠ v0.heap.size := by have := lt_of_heap R8.out; omega
        have zR9 : w1.heap.size ≤ v1.heap.size := hHelda.size
        have R8 := Lib.hid ((hbx.block _ (lt_of_heap R8.out)).trans R8.out)
        have R9 := Lib.hid rx
        clear rx hwx
        refine hK.out _ _ ?_ (fun hHeldaa => ?_)
        · exact hHelda.trans (hbx.mono hHelda.size)
        clear hK K
        try simp only [Act.put, List.setIfInBounds_toArray, List.set_cons_zero, List.set_cons_succ]
        clear hbx
        refine wpAnyH_ready (rs := [2]) (by kernel_rfl) (by simp) ?_
        refine AllReadyH.cons rfl (fun K hK => ?_) AllReadyH.nil
        go_simp
        refine (HUp.out _).mono ?_
        rintro e v3 ⟨rfl, hbx⟩
        have R8 := Lib.hid ((hbx.block _ (lt_of_heap R8.out)).trans R8.out)
        have R9 := Lib.hid ((hbx.block _ (lt_of_heap R9.out)).trans R9.out)
        go_wp2_with fail
        refine hK.out _ _ ?_ (fun hHeldaaa => ?_)
        · exact hHeldaa.trans (hbx.mono hHeldaa.size)
        clear hK K
        try simp only [Act.put, List.setIfInBounds_toArray, List.set_cons_zero, List.set_cons_succ]
        clear hbx
        refine wpAnyH_ready (rs := [3]) (by kernel_rfl) (by simp) ?_
        refine AllReadyH.cons rfl (fun K hK => ?_) AllReadyH.nil
        go_simp
        refine (HAp.out _ (HB.out.trans (hHeldaaa.mono HB.out.size))).mono ?_
        rintro e v4 ⟨B2, d2, D, dd, rfl, ho1, ho2, hn1, hn2, hbx⟩
        have hi1 : Its v4 B2 p.list := Its.own ho1
        have R8 := Lib.hid ((hbx.block _ (lt_of_heap R8.out)).trans R8.out)
        have R9 := Lib.hid ((hbx.block _ (lt_of_heap R9.out)).trans R9.out)
        have HI1 := Lib.hid hi1
        clear ho1 ho2 hn1 hn2 hi1
        go_wp2_with fail
        refine hK.out _ _ ?_ (fun hHeldaaaa => ?_)
        · exact hHeldaaa.trans (hbx.mono hHeldaaa.size)
        clear hK K
        try simp only [Act.put, List.setIfInBounds_toArray, List.set_cons_zero, List.set_cons_succ]
        clear hbx
        refine wpAnyH_take (i := 4) (oi := ⟨_, _, _, _, _, _⟩) (v := ?_) rfl (by kernel_rfl) (by kernel_rfl) (by kernel_rfl) (fun _ _ _ h => h) (Or.inl ⟨by kernel_rfl, ?_⟩) hHeldaaaa ?_
        rotate_left 1
        · intro W hW; first | (go_simp; done) | (go_simp; with_reducible rfl)
        try simp only [Act.put, List.setIfInBounds_toArray, List.set_cons_zero, List.set_cons_succ]
        refine wpAnyH_take (i := 5) (oi := ⟨_, _, _, _, _, _⟩) (v := ?_) rfl (by kernel_rfl) (by kernel_rfl) (by kernel_rfl) (fun _ _ _ h => h) (Or.inl ⟨by kernel_rfl, ?_⟩) hHeldaaaa ?_
        rotate_left 1
        · intro W hW; first | (go_simp; done) | (go_simp; with_reducible rfl)
        try simp only [Act.put, List.setIfInBounds_toArray, List.set_cons_zero, List.set_cons_succ]
        refine wpAnyH_take (i := 6) (oi := ⟨_, _, _, _, _, _⟩) (v := ?_) rfl (by kernel_rfl) (by kernel_rfl) (by kernel_rfl) (fun _ _ _ h => h) (Or.inl ⟨by kernel_rfl, ?_⟩) hHeldaaaa ?_
        rotate_left 1
        · intro W hW; first | (go_simp; done) | (go_simp; with_reducible rfl)
        try simp only [Act.put, List.setIfInBounds_toArray, List.set_cons_zero, List.set_cons_succ]
        refine wpAnyH_take (i := 7) (oi := ⟨_, _, _, _, _, _⟩) (v := ?_) rfl (by kernel_rfl) (by kernel_rfl) (by kernel_rfl) (fun _ _ _ h => h) (Or.inl ⟨by kernel_rfl, ?_⟩) hHeldaaaa ?_
        rotate_left 1
        · intro W hW; first | (go_simp; done) | (go_simp; with_reducible rfl)
        try simp only [Act.put, List.setIfInBounds_toArray, List.set_cons_zero, List.set_cons_succ]
        refine wpAnyH_ready (rs := [10]) (by kernel_rfl) (by simp) ?_
        refine AllReadyH.cons rfl (fun K hK => ?_) AllReadyH.nil
        rw [if_pos (by kernel_rfl)]
        refine wp_store_row 25 _ _ rfl (v0.heap.size) (recC p.kind p.num p.low p.high p.real p.cap p.text (.slice B2 p.list.length d2)) rfl rfl 25 _ R8.out rec_inf7 rfl (by kernel_rfl) ?_
        generalize hwx : World.setRow v4 _ _ = v5
        have hkx : Kp (fun j => j = v0.heap.size) v4 v5 := by rw [← hwx]; exact kpRow7 (S := fun j => j = v0.heap.size) (Kp.refl _ _) (.inl rfl) _
        have rx : v5.heap[v0.heap.size]? = some (.cells (recC p.kind p.num p.low p.high p.real p.cap p.text (.slice B2 p.list.length d2)) 25 (0, 0)) := by rw [← hwx]; exact setRow_heap v4 _ _ _ _ _ R8.out
        have HI1 := Lib.hid (its_keep HI1.out hkx (by rcases its_apart HI1.out R8.out (rec_no _ _ _ _ _ _ _ _ _ _) with h1 | h1; exact .inl h1; exact .inr fun ad e x => h1 ad e x))
        have R9 := Lib.hid ((hkx.block _ (lt_of_heap R9.out) (by omega)).trans R9.out)
        have R8 := Lib.hid rx
        have hbx : Below w1.heap.size v4 v5 := hkx.below hHeldaaaa.size (fun i hi x => by omega)
        clear rx hwx hkx
        refine hK.out _ _ ?_ (fun hHeldaaaaa => ?_)
        · exact hHeldaaaa.trans hbx
        clear hK K
        try simp only [Act.put, List.setIfInBounds_toArray, List.set_cons_zero, List.set_cons_succ]
        clear hbx
        refine wpAnyH_take (i := 11) (oi := ⟨_, _, _, _, _, _⟩) (v := ?_) rfl (by kernel_rfl) (by kernel_rfl) (by kernel_rfl) (fun _ _ _ h => h) (Or.inl ⟨by kernel_rfl, ?_⟩) hHeldaaaaa ?_
        rotate_left 1
        · intro W hW; first | (go_simp; done) | (go_simp; with_reducible rfl)
        try simp only [Act.put, List.setIfInBounds_toArray, List.set_cons_zero, List.set_cons_succ]
        refine wpAnyH_ready (rs := [12]) (by kernel_rfl) (by simp) ?_
        refine AllReadyH.cons rfl (fun K hK => ?_) AllReadyH.nil
        rw [if_pos (by kernel_rfl)]
        refine wp_store_row 82 _ _ rfl (v1.heap.size) (ansC xx.code xx.num xx.rc D dd) rfl rfl 82 _ R9.out ans_inf7 rfl (by kernel_rfl) ?_
        generalize hwx : World.setRow v5 _ _ = v6
        have hkx : Kp (fun j => j = v1.heap.size) v5 v6 := by rw [← hwx]; exact kpRow7 (S := fun j => j = v1.heap.size) (Kp.refl _ _) (.inl rfl) _
        have HI1 := Lib.hid (its_keep HI1.out hkx (by rcases its_apart HI1.out R9.out (ans_no 0 0 RC.zero none 0) with h1 | h1; exact .inl h1; exact .inr fun ad e x => h1 ad e x))
        have R8 := Lib.hid ((hkx.block _ (lt_of_heap R8.out) (by omega)).trans R8.out)
        have hbx : Below w1.heap.size v5 v6 := hkx.below hHeldaaaaa.size (fun i hi x => by omega)
        clear hwx hkx
        refine hK.out _ _ ?_ (fun hHeldaaaaaa => ?_)
        · exact hHeldaaaaa.trans hbx
        clear hK K
        try simp only [Act.put, List.setIfInBounds_toArray, List.set_cons_zero, List.set_cons_succ]
        clear hbx
        refine wpAnyH_done (by kernel_rfl) ?_ _
        go_wp2_with fail
        go_meet
        exact ⟨_, B2, d2, rfl, R8.out, HI1.out, hHeldaaaaaa⟩
    · go_simp
      generalize hwx : World.alloc v0 _ = v1
      have hbx : Below v0.heap.size v0 v1 := by rw [← hwx]; exact below1 v0 _
      have rx : v1.heap[v0.heap.size]? = some (.cells (ansC 0 0 RC.zero none 0) 82 (0, 0)) := by rw [← hwx]; exact heap_alloc_new v0 _
      have zR9 : w1.heap.size ≤ v0.heap.size := hHeld.size
      have R9 := Lib.hid rx
      clear rx hwx
      refine hK.out _ _ ?_ (fun hHelda => ?_)
      · exact hHeld.trans (hbx.mono hHeld.size)
      clear hK K
      try simp only [Act.put, List.setIfInBounds_toArray, List.set_cons_zero, List.set_cons_succ]
      clear hbx
      refine wpAnyH_ready (rs := [2, 8]) (by kernel_rfl) (by simp) ?_
      refine AllReadyH.cons rfl (fun K hK => ?_) (AllReadyH.cons rfl (fun K hK => ?_) AllReadyH.nil)
      · go_simp
        refine (HUp.out _).mono ?_
        rintro e v2 ⟨rfl, hbx⟩
        have R9 := Lib.hid ((hbx.block _ (lt_of_heap R9.out)).trans R9.out)
        go_wp2_with fail
        refine hK.out _ _ ?_ (fun hHeldaa => ?_)
        · exact hHelda.trans (hbx.mono hHelda.size)
        clear hK K
        try simp only [Act.put, List.setIfInBounds_toArray, List.set_cons_zero, List.set_cons_succ]
        clear hbx
        refine wpAnyH_ready (rs := [3, 8]) (by kernel_rfl) (by simp) ?_
        refine AllReadyH.cons rfl (fun K hK => ?_) (AllReadyH.cons rfl (fun K hK => ?_) AllReadyH.nil)
        · go_simp
          refine (HAp.out _ (HB.out.trans (hHeldaa.mono HB.out.size))).mono ?_
          rintro e v3 ⟨B2, d2, D, dd, rfl, ho1, ho2, hn1, hn2, hbx⟩
          have hi1 : Its v3 B2 p.list := Its.own ho1
          have R9 := Lib.hid ((hbx.block _ (lt_of_heap R9.out)).trans R9.out)
          have HI1 := Lib.hid hi1
          clear ho1 ho2 hn1 hn2 hi1
          go_wp2_with fail
          refine hK.out _ _ ?_ (fun hHeldaaa => ?_)
          · exact hHeldaa.trans (hbx.mono hHeldaa.size)
          clear hK K
          try simp only [Act.put, List.setIfInBounds_toArray, List.set_cons_zero, List.set_cons_succ]
          clear hbx
          refine wpAnyH_take (i := 4) (oi := ⟨_, _, _, _, _, _⟩) (v := ?_) rfl (by kernel_rfl) (by kernel_rfl) (by kernel_rfl) (fun _ _ _ h => h) (Or.inl ⟨by kernel_rfl, ?_⟩) hHeldaaa ?_
          rotate_left 1
          · intro W hW; first | (go_simp; done) | (go_simp; with_reducible rfl)
          try simp only [Act.put, List.setIfInBounds_toArray, List.set_cons_zero, List.set_cons_succ]
          refine wpAnyH_take (i := 5) (oi := ⟨_, _, _, _, _, _⟩) (v := ?_) rfl (by kernel_rfl) (by kernel_rfl) (by kernel_rfl) (fun _ _ _ h => h) (Or.inl ⟨by kernel_rfl, ?_⟩) hHeldaaa ?_
          rotate_left 1
          · intro W hW; first | (go_simp; done) | (go_simp; with_reducible rfl)
          try simp only [Act.put, List.setIfInBounds_toArray, List.set_cons_zero, List.set_cons_succ]
          refine wpAnyH_take (i := 6) (oi := ⟨_, _, _, _, _, _⟩) (v := ?_) rfl (by kernel_rfl) (by kernel_rfl) (by kernel_rfl) (fun _ _ _ h => h) (Or.inl ⟨by kernel_rfl, ?_⟩) hHeldaaa ?_
          rotate_left 1
          · intro W hW; first | (go_simp; done) | (go_simp; with_reducible rfl)
          try simp only [Act.put, List.setIfInBounds_toArray, List.set_cons_zero, List.set_cons_succ]
          refine wpAnyH_take (i := 7) (oi := ⟨_, _, _, _, _, _⟩) (v := ?_) rfl (by kernel_rfl) (by kernel_rfl) (by kernel_rfl) (fun _ _ _ h => h) (Or.inl ⟨by kernel_rfl, ?_⟩) hHeldaaa ?_
          rotate_left 1
          · intro W hW; first | (go_simp; done) | (go_simp; with_reducible rfl)
          try simp only [Act.put, List.setIfInBounds_toArray, List.set_cons_zero, List.set_cons_succ]
          refine wpAnyH_ready (rs := [8]) (by kernel_rfl) (by simp) ?_
          refine AllReadyH.cons rfl (fun K hK => ?_) AllReadyH.nil
          go_simp
          generalize hwx : World.alloc v3 _ = v4
          have hbx : Below v3.heap.size v3 v4 := by rw [← hwx]; exact below1 v3 _
          have rx : v4.heap[v3.heap.size]? = some (.cells (recC 0 0 0 0 0 0 ⟨#[]⟩ (.slice none 0 0)) 25 (0, 0)) := by rw [← hwx]; exact heap_alloc_new v3 _
          have hne : v3.heap.size ≠ v0.heap.size := by have := lt_of_heap R9.out; omega
          have zR8 : w1.heap.size ≤ v3.heap.size := hHeldaaa.size
          have R9 := Lib.hid ((hbx.block _ (lt_of_heap R9.out)).trans R9.out)
          have HI1 := Lib.hid (HI1.out.below hbx)
          have R8 := Lib.hid rx
          clear rx hwx
          refine hK.out _ _ ?_ (fun hHeldaaaa => ?_)
          · exact hHeldaaa.trans (hbx.mono hHeldaaa.size)
          clear hK K
          try simp only [Act.put, List.setIfInBounds_toArray, List.set_cons_zero, List.set_cons_succ]
          clear hbx
          refine wpAnyH_ready (rs := [10]) (by kernel_rfl) (by simp) ?_
          refine AllReadyH.cons rfl (fun K hK => ?_) AllReadyH.nil
          rw [if_pos (by kernel_rfl)]
          refine wp_store_row 25 _ _ rfl (v3.heap.size) (recC p.kind p.num p.low p.high p.real p.cap p.text (.slice B2 p.list.length d2)) rfl rfl 25 _ R8.out rec_inf7 rfl (by kernel_rfl) ?_
          generalize hwx : World.setRow v4 _ _ = v5
          have hkx : Kp (fun j => j = v3.heap.size) v4 v5 := by rw [← hwx]; exact kpRow7 (S := fun j => j = v3.heap.size) (Kp.refl _ _) (.inl rfl) _
          have rx : v5.heap[v3.heap.size]? = some (.cells (recC p.kind p.num p.low p.high p.real p.cap p.text (.slice B2 p.list.length d2)) 25 (0, 0)) := by rw [← hwx]; exact setRow_heap v4 _ _ _ _ _ R8.out
          have HI1 := Lib.hid (its_keep HI1.out hkx (by rcases its_apart HI1.out R8.out (rec_no _ _ _ _ _ _ _ _ _ _) with h1 | h1; exact .inl h1; exact .inr fun ad e x => h1 ad e x))
          have R9 := Lib.hid ((hkx.block _ (lt_of_heap R9.out) (by omega)).trans R9.out)
          have R8 := Lib.hid rx
          have hbx : Below w1.heap.size v4 v5 := hkx.below hHeldaaaa.size (fun i hi x => by omega)
          clear rx hwx hkx
          refine hK.out _ _ ?_ (fun hHeldaaaaa => ?_)
          · exact hHeldaaaa.trans hbx
          clear hK K
          try simp only [Act.put, List.setIfInBounds_toArray, List.set_cons_zero, List.set_cons_succ]
          clear hbx
          refine wpAnyH_take (i := 11) (oi := ⟨_, _, _, _, _, _⟩) (v := ?_) rfl (by kernel_rfl) (by kernel_rfl) (by kernel_rfl) (fun _ _ _ h => h) (Or.inl ⟨by kernel_rfl, ?_⟩) hHeldaaaaa ?_
          rotate_left 1
          · intro W hW; first | (go_simp; done) | (go_simp; with_reducible rfl)
          try simp only [Act.put, List.setIfInBounds_toArray, List.set_cons_zero, List.set_cons_succ]
          refine wpAnyH_ready (rs := [12]) (by kernel_rfl) (by simp) ?_
          refine AllReadyH.cons rfl (fun K hK => ?_) AllReadyH.nil
          rw [if_pos (by kernel_rfl)]
          refine wp_store_row 82 _ _ rfl (v0.heap.size) (ansC xx.code xx.num xx.rc D dd) rfl rfl 82 _ R9.out ans_inf7 rfl (by kernel_rfl) ?_
          generalize hwx : World.setRow v5 _ _ = v6
          have hkx : Kp (fun j => j = v0.heap.size) v5 v6 := by rw [← hwx]; exact kpRow7 (S := fun j => j = v0.heap.size) (Kp.refl _ _) (.inl rfl) _
          have HI1 := Lib.hid (its_keep HI1.out hkx (by rcases its_apart HI1.out R9.out (ans_no 0 0 RC.zero none 0) with h1 | h1; exact .inl h1; exact .inr fun ad e x => h1 ad e x))
          have R8 := Lib.hid ((hkx.block _ (lt_of_heap R8.out) (by omega)).trans R8.out)
          have hbx : Below w1.heap.size v5 v6 := hkx.below hHeldaaaaa.size (fun i hi x => by omega)
          clear hwx hkx
          refine hK.out _ _ ?_ (fun hHeldaaaaaa => ?_)
          · exact hHeldaaaaa.trans hbx
          clear hK K
          try simp only [Act.put, List.setIfInBounds_toArray, List.set_cons_zero, List.set_cons_succ]
          clear hbx
          refine wpAnyH_done (by kernel_rfl) ?_ _
          go_wp2_with fail
          go_meet
          exact ⟨_, B2, d2, rfl, R8.out, HI1.out, hHeldaaaaaa⟩
        · go_simp
          generalize hwx : World.alloc v2 _ = v3
          have hbx : Below v2.heap.size v2 v3 := by rw [← hwx]; exact below1 v2 _
          have rx : v3.heap[v2.heap.size]? = some (.cells (recC 0 0 0 0 0 0 ⟨#[]⟩ (.slice none 0 0)) 25 (0, 0)) := by rw [← hwx]; exact heap_alloc_new v2 _
          have hne : v2.heap.size ≠ v0.heap.size := by have := lt_of_heap R9.out; omega
          have zR8 : w1.heap.size ≤ v2.heap.size := hHeldaa.size
          have R9 := Lib.hid ((hbx.block _ (lt_of_heap R9.out)).trans R9.out)
          have R8 := Lib.hid rx
          clear rx hwx
          refine hK.out _ _ ?_ (fun hHeldaaa => ?_)
          · exact hHeldaa.trans (hbx.mono hHeldaa.size)
          clear hK K
          try simp only [Act.put, List.setIfInBounds_toArray, List.set_cons_zero, List.set_cons_succ]
          clear hbx
          refine wpAnyH_ready (rs := [3]) (by kernel_rfl) (by simp) ?_
          refine AllReadyH.cons rfl (fun K hK => ?_) AllReadyH.nil
          go_simp
          refine (HAp.out _ (HB.out.trans (hHeldaaa.mono HB.out.size))).mono ?_
          rintro e v4 ⟨B2, d2, D, dd, rfl, ho1, ho2, hn1, hn2, hbx⟩
          have hi1 : Its v4 B2 p.list := Its.own ho1
          have R8 := Lib.hid ((hbx.block _ (lt_of_heap R8.out)).trans R8.out)
          have R9 := Lib.hid ((hbx.block _ (lt_of_heap R9.out)).trans R9.out)
          have HI1 := Lib.hid hi1
          clear ho1 ho2 hn1 hn2 hi1
          go_wp2_with fail
          refine hK.out _ _ ?_ (fun hHeldaaaa => ?_)
          · exact hHeldaaa.trans (hbx.mono hHeldaaa.size)
          clear hK K
          try simp only [Act.put, List.setIfInBounds_toArray, List.set_cons_zero, List.set_cons_succ]
          clear hbx
          refine wpAnyH_take (i := 4) (oi := ⟨_, _, _, _, _, _⟩) (v := ?_) rfl (by kernel_rfl) (by kernel_rfl) (by kernel_rfl) (fun _ _ _ h => h) (Or.inl ⟨by kernel_rfl, ?_⟩) hHeldaaaa ?_
          rotate_left 1
          · intro W hW; first | (go_simp; done) | (go_simp; with_reducible rfl)
          try simp only [Act.put, List.setIfInBounds_toArray, List.set_cons_zero, List.set_cons_succ]
          refine wpAnyH_take (i := 5) (oi := ⟨_, _, _, _, _, _⟩) (v := ?_) rfl (by kernel_rfl) (by kernel_rfl) (by kernel_rfl) (fun _ _ _ h => h) (Or.inl ⟨by kernel_rfl, ?_⟩) hHeldaaaa ?_
          rotate_left 1
          · intro W hW; first | (go_simp; done) | (go_simp; with_reducible rfl)
          try simp only [Act.put, List.setIfInBounds_toArray, List.set_cons_zero, List.set_cons_succ]
          refine wpAnyH_take (i := 6) (oi := ⟨_, _, _, _, _, _⟩) (v := ?_) rfl (by kernel_rfl) (by kernel_rfl) (by kernel_rfl) (fun _ _ _ h => h) (Or.inl ⟨by kernel_rfl, ?_⟩) hHeldaaaa ?_
          rotate_left 1
          · intro W hW; first | (go_simp; done) | (go_simp; with_reducible rfl)
          try simp only [Act.put, List.setIfInBounds_toArray, List.set_cons_zero, List.set_cons_succ]
          refine wpAnyH_take (i := 7) (oi := ⟨_, _, _, _, _, _⟩) (v := ?_) rfl (by kernel_rfl) (by kernel_rfl) (by kernel_rfl) (fun _ _ _ h => h) (Or.inl ⟨by kernel_rfl, ?_⟩) hHeldaaaa ?_
          rotate_left 1
          · intro W hW; first | (go_simp; done) | (go_simp; with_reducible rfl)
          try simp only [Act.put, List.setIfInBounds_toArray, List.set_cons_zero, List.set_cons_succ]
          refine wpAnyH_ready (rs := [10]) (by kernel_rfl) (by simp) ?_
          refine AllReadyH.cons rfl (fun K hK => ?_) AllReadyH.nil
          rw [if_pos (by kernel_rfl)]
          refine wp_store_row 25 _ _ rfl (v2.heap.size) (recC p.kind p.num p.low p.high p.real p.cap p.text (.slice B2 p.list.length d2)) rfl rfl 25 _ R8.out rec_inf7 rfl (by kernel_rfl) ?_
          generalize hwx : World.setRow v4 _ _ = v5
          have hkx : Kp (fun j => j = v2.heap.size) v4 v5 := by rw [← hwx]; exact kpRow7 (S := fun j => j = v2.heap.size) (Kp.refl _ _) (.inl rfl) _
          have rx : v5.heap[v2.heap.size]? = some (.cells (recC p.kind p.num p.low p.high p.real p.cap p.text (.slice B2 p.list.length d2)) 25 (0, 0)) := by rw [← hwx]; exact setRow_heap v4 _ _ _ _ _ R8.out
          have HI1 := Lib.hid (its_keep HI1.out hkx (by rcases its_apart HI1.out R8.out (rec_no _ _ _ _ _ _ _ _ _ _) with h1 | h1; exact .inl h1; exact .inr fun ad e x => h1 ad e x))
          have R9 := Lib.hid ((hkx.block _ (lt_of_heap R9.out) (by omega)).trans R9.out)
          have R8 := Lib.hid rx
          have hbx : Below w1.heap.size v4 v5 := hkx.below hHeldaaaa.size (fun i hi x => by omega)
          clear rx hwx hkx
          refine hK.out _ _ ?_ (fun hHeldaaaaa => ?_)
          · exact hHeldaaaa.trans hbx
          clear hK K
          try simp only [Act.put, List.setIfInBounds_toArray, List.set_cons_zero, List.set_cons_succ]
          clear hbx
          refine wpAnyH_take (i := 11) (oi := ⟨_, _, _, _, _, _⟩) (v := ?_) rfl (by kernel_rfl) (by kernel_rfl) (by kernel_rfl) (fun _ _ _ h => h) (Or.inl ⟨by kernel_rfl, ?_⟩) hHeldaaaaa ?_
          rotate_left 1
          · intro W hW; first | (go_simp; done) | (go_simp; with_reducible rfl)
          try simp only [Act.put, List.setIfInBounds_toArray, List.set_cons_zero, List.set_cons_succ]
          refine wpAnyH_ready (rs := [12]) (by kernel_rfl) (by simp) ?_
          refine AllReadyH.cons rfl (fun K hK => ?_) AllReadyH.nil
          rw [if_pos (by kernel_rfl)]
          refine wp_store_row 82 _ _ rfl (v0.heap.size) (ansC xx.code xx.num xx.rc D dd) rfl rfl 82 _ R9.out ans_inf7 rfl (by kernel_rfl) ?_
          generalize hwx : World.setRow v5 _ _ = v6
          have hkx : Kp (fun j => j = v0.heap.size) v5 v6 := by rw [← hwx]; exact kpRow7 (S := fun j => j = v0.heap.size) (Kp.refl _ _) (.inl rfl) _
          have HI1 := Lib.hid (its_keep HI1.out hkx (by rcases its_apart HI1.out R9.out (ans_no 0 0 RC.zero none 0) with h1 | h1; exact .inl h1; exact .inr fun ad e x => h1 ad e x))
          have R8 := Lib.hid ((hkx.block _ (lt_of_heap R8.out) (by omega)).trans R8.out)
          have hbx : Below w1.heap.size v5 v6 := hkx.below hHeldaaaaa.size (fun i hi x => by omega)
          clear hwx hkx
          refine hK.out _ _ ?_ (fun hHeldaaaaaa => ?_)
          · exact hHeldaaaaa.trans hbx
          clear hK K
          try simp only [Act.put, List.setIfInBounds_toArray, List.set_cons_zero, List.set_cons_succ]
          clear hbx
          refine wpAnyH_done (by kernel_rfl) ?_ _
          go_wp2_with fail
          go_meet
          exact ⟨_, B2, d2, rfl, R8.out, HI1.out, hHeldaaaaaa⟩
      · go_simp
        generalize hwx : World.alloc v1 _ = v2
        have hbx : Below v1.heap.size v1 v2 := by rw [← hwx]; exact below1 v1 _
        have rx : v2.heap[v1.heap.size]? = some (.cells (recC 0 0 0 0 0 0 ⟨#[]⟩ (.slice none 0 0)) 25 (0, 0)) := by rw [← hwx]; exact heap_alloc_new v1 _
        have hne : v1.heap.size ≠ v0.heap.size := by have := lt_of_heap R9.out; omega
        have zR8 : w1.heap.size ≤ v1.heap.size := hHelda.size
        have R9 := Lib.hid ((hbx.block _ (lt_of_heap R9.out)).trans R9.out)
        have R8 := Lib.hid rx
        clear rx hwx
        refine hK.out _ _ ?_ (fun hHeldaa => ?_)
        · exact hHelda.trans (hbx.mono hHelda.size)
        clear hK K
        try simp only [Act.put, List.setIfInBounds_toArray, List.set_cons_zero, List.set_cons_succ]
        clear hbx
        refine wpAnyH_ready (rs := [2]) (by kernel_rfl) (by simp) ?_
        refine AllReadyH.cons rfl (fun K hK => ?_) AllReadyH.nil
        go_simp
        refine (HUp.out _).mono ?_
        rintro e v3 ⟨rfl, hbx⟩
        have R8 := Lib.hid ((hbx.block _ (lt_of_heap R8.out)).trans R8.out)
        have R9 := Lib.hid ((hbx.block _ (lt_of_heap R9.out)).trans R9.out)
        go_wp2_with fail
        refine hK.out _ _ ?_ (fun hHeldaaa => ?_)
        · exact hHeldaa.trans (hbx.mono hHeldaa.size)
        clear hK K
        try simp only [Act.put, List.setIfInBounds_toArray, List.set_cons_zero, List.set_cons_succ]
        clear hbx
        refine wpAnyH_ready (rs := [3]) (by kernel_rfl) (by simp) ?_
        refine AllReadyH.cons rfl (fun K hK => ?_) AllReadyH.nil
        go_simp
        refine (HAp.out _ (HB.out.trans (hHeldaaa.mono HB.out.size))).mono ?_
        rintro e v4 ⟨B2, d2, D, dd, rfl, ho1, ho2, hn1, hn2, hbx⟩
        have hi1 : Its v4 B2 p.list := Its.own ho1
        have R8 := Lib.hid ((hbx.block _ (lt_of_heap R8.out)).trans R8.out)
        have R9 := Lib.hid ((hbx.block _ (lt_of_heap R9.out)).trans R9.out)
        have HI1 := Lib.hid hi1
        clear ho1 ho2 hn1 hn2 hi1
        go_wp2_with fail
        refine hK.out _ _ ?_ (fun hHeldaaaa => ?_)
        · exact hHeldaaa.trans (hbx.mono hHeldaaa.size)
        clear hK K
        try simp only [Act.put, List.setIfInBounds_toArray, List.set_cons_zero, List.set_cons_succ]
        clear hbx
        refine wpAnyH_take (i := 4) (oi := ⟨_, _, _, _, _, _⟩) (v := ?_) rfl (by kernel_rfl) (by kernel_rfl) (by kernel_rfl) (fun _ _ _ h => h) (Or.inl ⟨by kernel_rfl, ?_⟩) hHeldaaaa ?_
        rotate_left 1
        · intro W hW; first | (go_simp; done) | (go_simp; with_reducible rfl)
        try simp only [Act.put, List.setIfInBounds_toArray, List.set_cons_zero, List.set_cons_succ]
        refine wpAnyH_take (i := 5) (oi := ⟨_, _, _, _, _, _⟩) (v := ?_) rfl (by kernel_rfl) (by kernel_rfl) (by kernel_rfl) (fun _ _ _ h => h) (Or.inl ⟨by kernel_rfl, ?_⟩) hHeldaaaa ?_
        rotate_left 1
        · intro W hW; first | (go_simp; done) | (go_simp; with_reducible rfl)
        try simp only [Act.put, List.setIfInBounds_toArray, List.set_cons_zero, List.set_cons_succ]
        refine wpAnyH_take (i := 6) (oi := ⟨_, _, _, _, _, _⟩) (v := ?_) rfl (by kernel_rfl) (by kernel_rfl) (by kernel_rfl) (fun _ _ _ h => h) (Or.inl ⟨by kernel_rfl, ?_⟩) hHeldaaaa ?_
        rotate_left 1
        · intro W hW; first | (go_simp; done) | (go_simp; with_reducible rfl)
        try simp only [Act.put, List.setIfInBounds_toArray, List.set_cons_zero, List.set_cons_succ]
        refine wpAnyH_take (i := 7) (oi := ⟨_, _, _, _, _, _⟩) (v := ?_) rfl (by kernel_rfl) (by kernel_rfl) (by kernel_rfl) (fun _ _ _ h => h) (Or.inl ⟨by kernel_rfl, ?_⟩) hHeldaaaa ?_
        rotate_left 1
        · intro W hW; first | (go_simp; done) | (go_simp; with_reducible rfl)
        try simp only [Act.put, List.setIfInBounds_toArray, List.set_cons_zero, List.set_cons_succ]
        refine wpAnyH_ready (rs := [10]) (by kernel_rfl) (by simp) ?_
        refine AllReadyH.cons rfl (fun K hK => ?_) AllReadyH.nil
        rw [if_pos (by kernel_rfl)]
        refine wp_store_row 25 _ _ rfl (v1.heap.size) (recC p.kind p.num p.low p.high p.real p.cap p.text (.slice B2 p.list.length d2)) rfl rfl 25 _ R8.out rec_inf7 rfl (by kernel_rfl) ?_
        generalize hwx : World.setRow v4 _ _ = v5
        have hkx : Kp (fun j => j = v1.heap.size) v4 v5 := by rw [← hwx]; exact kpRow7 (S := fun j => j = v1.heap.size) (Kp.refl _ _) (.inl rfl) _
        have rx : v5.heap[v1.heap.size]? = some (.cells (recC p.kind p.num p.low p.high p.real p.cap p.text (.slice B2 p.list.length d2)) 25 (0, 0)) := by rw [← hwx]; exact setRow_heap v4 _ _ _ _ _ R8.out
        have HI1 := Lib.hid (its_keep HI1.out hkx (by rcases its_apart HI1.out R8.out (rec_no _ _ _ _ _ _ _ _ _ _) with h1 | h1; exact .inl h1; exact .inr fun ad e x => h1 ad e x))
        have R9 := Lib.hid ((hkx.block _ (lt_of_heap R9.out) (by omega)).trans R9.out)
        have R8 := Lib.hid rx
        have hbx : Below w1.heap.size v4 v5 := hkx.below hHeldaaaa.size (fun i hi x => by omega)
        clear rx hwx hkx
        refine hK.out _ _ ?_ (fun hHeldaaaaa => ?_)
        · exact hHeldaaaa.trans hbx
        clear hK K
        try simp only [Act.put, List.setIfInBounds_toArray, List.set_cons_zero, List.set_cons_succ]
        clear hbx
        refine wpAnyH_take (i := 11) (oi := ⟨_, _, _, _, _, _⟩) (v := ?_) rfl (by kernel_rfl) (by kernel_rfl) (by kernel_rfl) (fun _ _ _ h => h) (Or.inl ⟨by kernel_rfl, ?_⟩) hHeldaaaaa ?_
        rotate_left 1
        · intro W hW; first | (go_simp; done) | (go_simp; with_reducible rfl)
        try simp only [Act.put, List.setIfInBounds_toArray, List.set_cons_zero, List.set_cons_succ]
        refine wpAnyH_ready (rs := [12]) (by kernel_rfl) (by simp) ?_
        refine AllReadyH.cons rfl (fun K hK => ?_) AllReadyH.nil
        rw [if_pos (by kernel_rfl)]
        refine wp_store_row 82 _ _ rfl (v0.heap.size) (ansC xx.code xx.num xx.rc D dd) rfl rfl 82 _ R9.out ans_inf7 rfl (by kernel_rfl) ?_
        generalize hwx : World.setRow v5 _ _ = v6
        have hkx : Kp (fun j => j = v0.heap.size) v5 v6 := by rw [← hwx]; exact kpRow7 (S := fun j => j = v0.heap.size) (Kp.refl _ _) (.inl rfl) _
        have HI1 := Lib.hid (its_keep HI1.out hkx (by rcases its_apart HI1.out R9.out (ans_no 0 0 RC.zero none 0) with h1 | h1; exact .inl h1; exact .inr fun ad e x => h1 ad e x))
        have R8 := Lib.hid ((hkx.block _ (lt_of_heap R8.out) (by omega)).trans R8.out)
        have hbx : Below w1.heap.size v5 v6 := hkx.below hHeldaaaaa.size (fun i hi x => by omega)
        clear hwx hkx
        refine hK.out _ _ ?_ (fun hHeldaaaaaa => ?_)
        · exact hHeldaaaaa.trans hbx
        clear hK K
        try simp only [Act.put, List.setIfInBounds_toArray, List.set_cons_zero, List.set_cons_succ]
        clear hbx
        refine wpAnyH_done (by kernel_rfl) ?_ _
        go_wp2_with fail
        go_meet
        exact ⟨_, B2, d2, rfl, R8.out, HI1.out, hHeldaaaaaa⟩
  case rest =>
  obtain ⟨g, B, d, rfl, hrow, hits, hb⟩ := hcut
  generalize hwc : wc = w8 at *
  clear hwc p0 p1 p2 p3 p4 p5 p6 p7 q0 q1 q2 q3 q4 q5 q6 q7 q8 q9 q10 q11 q12 q13
  have R5 := Lib.hid hrow
  have HI1 := Lib.hid hits
  have G4 := Lib.hid ((hb.block _ (lt_of_heap E4.out)).trans E4.out)
  have HB8 := Lib.hid (HB.out.trans (hb.mono HB.out.size))
  clear hrow hits hb E1 E2 E4
  go_wp2_with (first
    | (refine wpList_load_row rfl _ _ rfl g rfl 25 _ (0, 0) _ R5.out Tryz.underlying25 rfl rec_inf7 ?_)
    | (refine wpList_store_row rfl _ _ _ rfl (w.heap.size + 1 + 1) (recC p.kind p.num p.low p.high p.real p.cap p.text (.slice B p.list.length d)) rfl rfl 25 _ G4.out rec_inf7 rfl (by kernel_rfl) ?_))
  generalize hwf : World.setRow w8 _ _ = wf
  have hkf : Kp (fun j => j = w.heap.size + 1 + 1) w8 wf := by rw [← hwf]; exact kpRow7 (S := fun j => j = w.heap.size + 1 + 1) (Kp.refl _ _) (.inl rfl) _
  have X2 : wf.heap[w.heap.size + 1 + 1]? = some (.cells (recC p.kind p.num p.low p.high p.real p.cap p.text (.slice B p.list.length d)) 25 (0, 0)) := by rw [← hwf]; exact setRow_heap w8 _ _ _ _ _ G4.out
  have k2 := fun o => cell_of_row wf _ o _ _ (0, 0) X2
  have HPo := Lib.hid (show DoS p w (.returned (recV p B d)) wf from ⟨B, d, rfl, its_keep HI1.out hkf (by
    rcases its_apart HI1.out G4.out (rec_no _ _ _ _ _ _ _ _ _ _) with h1 | h1
    · exact .inl h1
    · exact .inr fun ad e x => h1 ad e x), HB8.out.trans (hkf.below HB8.out.size (fun i hi x => by omega))⟩)
  clear hwf X2 hkf
  exact bodyPost_ret (v := recV p B d) (by simp [results, Tryz.results18, go_sem, k2]) rfl HPo.out
end Go.Proofs.YtbkcmnmbcldjoaaGreatDoor
