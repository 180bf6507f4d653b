/- Contracts of package share: Merge. -/
import Derived.Test.YtbkcmnmbcldjoaaGreatDoorSh4P7d
import Derived.Test.YtbkcmnmbcldjoaaGreatDoorRuVP7d
namespace Go.Proofs.YtbkcmnmbcldjoaaGreatDoor
open Go.RowKit MM
set_option linter.unusedVariables false
set_option linter.unusedSimpArgs false
/-- What a slice's number does to its record's. -/
def SH.put (kind : Int) (q p : RC.Rc) : RC.Rc :=
  if kind = 2 ∨ kind = 3 ∨ kind = 4 then { q with num := RU.w64 (q.num + p.num) }
  else if kind = 5 then { q with real := MF.mx q.real p.real }
  else if kind = 6 then { q with real := MF.mn q.real p.real }
  else q
theorem SH.put_list (kind : Int) (q p : RC.Rc) : (SH.put kind q p).list = q.list := by
  unfold SH.put
  split
  · rfl
  · split
    · rfl
    · split <;> rfl
theorem SH.put_ok {kind : Int} {q p : RC.Rc} (hq : q.ok) (hp : p.ok) : (SH.put kind q p).ok := by
  unfold SH.put
  split
  · exact num_ok hq _
  · split
    · exact ⟨hq.kind, hq.num, hq.low, hq.high, MF.w_mx hq.real hp.real, hq.cap, hq.list⟩
    · split
      · exact ⟨hq.kind, hq.num, hq.low, hq.high, MF.w_mn hq.real hp.real, hq.cap, hq.list⟩
      · exact hq
/-- A record, and slices of it, as one. -/
def SH.merge (r : RC.Rc) (parts : List RC.Rc) : RC.Rc := parts.foldl (SH.put r.kind) (RU.go r true (SH.regains r.kind parts)).1
set_option maxHeartbeats 16000000 in
set_option maxRecDepth 100000 in
theorem smerge_any (r : RC.Rc) (l : List Rl) (A L : Option Addr) (c cl : Nat) (w : World) (hr : r.ok) (hA : Its w A r.list) (n1 : Lim r.list.length) (hl : RecsIn w L l) (hn : (SH.regains r.kind (l.map (·.r))).length ≤ 1000) (hk : l.length ≤ 1000) (hk2 : ∀ p ∈ l, p.r.list.length ≤ 100000) (hs : ∀ a ∈ SH.regains r.kind (l.map (·.r)), Lim a.make.list.length ∧ Lim a.key.size ∧ Lim a.s.size) (hR : RowsAt w) :
    Calls Tryz.prog 17 #[recV r A c, .slice L l.length cl] w (DoS (SH.merge r (l.map (·.r))) w) := by
  have HG := Lib.hid (fun u (h : Below w.heap.size w u) => sregains_any r.kind l L cl u (hl.keep h) (by omega) hk hk2)
  have HRw := Lib.hid (fun u B cb (h : Below w.heap.size w u) (hB : ActsIn u B ((SH.regains r.kind (l.map (·.r))).map SH.al)) => show Calls Tryz.prog 44 #[recV r A c, .bool true, .slice B (SH.regains r.kind (l.map (·.r))).length cb] u (RwPost r true (SH.regains r.kind (l.map (·.r))) u) from by
    have h1 := row_any r true ((SH.regains r.kind (l.map (·.r))).map SH.al) A B c cb u hr (hR.below h) (hA.below h) n1 hB (by rw [List.length_map]; exact hn) (fun x hx => by
      obtain ⟨a, ha, rfl⟩ := List.mem_map.1 hx
      exact hs a ha)
    rw [List.length_map, List.map_map] at h1
    have h2 : ((fun x : Al => x.r) ∘ SH.al) = id := by funext a; rfl
    rw [h2, List.map_id] at h1
    exact h1)
  have HL := Lib.hid hl
  have HD := Lib.hid (show SH.merge r (l.map (·.r)) = (l.map (·.r)).foldl (SH.put r.kind) (RU.go r true (SH.regains r.kind (l.map (·.r)))).1 from rfl)
  generalize SH.merge r (l.map (·.r)) = M at *
  generalize SH.regains r.kind (l.map (·.r)) = acts at *
  clear hr hA n1 hl hn hk2 hs hR
  obtain ⟨Q, hQ⟩ : ∃ Q, Q = (RU.go r true acts).1 := ⟨_, rfl⟩
  rw [← hQ] at HD
  have HQ := Lib.hid hQ
  clear hQ
  go_enter Tryz.func17, Tryz.ntmps17
  go_upto_region 1 with fail
  generalize hw1 : World.alloc (World.alloc w _) _ = w1
  have HB := Lib.hid (show Below w.heap.size w w1 by rw [← hw1]; exact below2 w _ _)
  have E1 := Lib.hid (show w1.heap[w.heap.size]? = some (.cells (recC r.kind r.num r.low r.high r.real r.cap r.text (.slice A r.list.length c)) 25 (0, 0)) by rw [← hw1]; exact heap_alloc2_old w _ _)
  have E4 := Lib.hid (show w1.heap[w.heap.size + 1]? = some (.cells (recC 0 0 0 0 0 0 ⟨#[]⟩ (.slice none 0 0)) 25 (0, 0)) by rw [← hw1]; exact heap_alloc2_new w _ _)
  clear hw1
  have p0 := cell_of_row w1 _ 0 _ _ (0, 0) E1.out
  have p1 := cell_of_row w1 _ 1 _ _ (0, 0) E1.out
  have p2 := cell_of_row w1 _ 2 _ _ (0, 0) E1.out
  have p3 := cell_of_row w1 _ 3 _ _ (0, 0) E1.out
  have p4 := cell_of_row w1 _ 4 _ _ (0, 0) E1.out
  have p5 := cell_of_row w1 _ 5 _ _ (0, 0) E1.out
  have p6 := cell_of_row w1 _ 6 _ _ (0, 0) E1.out
  have p7 := cell_of_row w1 _ 7 _ _ (0, 0) E1.out

  go_cut [5] (fun t5 wx => ∃ g B d, t5 = .pointer (some ⟨g, 0, none⟩) ∧ wx.heap[g]? = some (.cells (recC Q.kind Q.num Q.low Q.high Q.real Q.cap Q.text (.slice B Q.list.length d)) 25 (0, 0)) ∧ Its wx B Q.list ∧ Below w1.heap.size w1 wx ∧ w1.heap.size ≤ g ∧ Q.ok)
  case first =>
    refine wp_region_held_drew (S := fun W => Below w1.heap.size w1 W) (by kernel_rfl) (below_drew (Below.refl _ _)) (fun hHeld => ?_)
    generalize World.drew w1 = v0 at *
    refine wpAnyH_take (i := 0) (oi := ⟨_, _, _, _, _, _⟩) (v := ?_) rfl (by kernel_rfl) (by kernel_rfl) (by kernel_rfl) (fun _ _ _ h => h) (Or.inl ⟨by kernel_rfl, ?_⟩) hHeld ?_
    rotate_left 1
    · intro W hW; have k0 := below_keep hW p0; have k1 := below_keep hW p1; have k2 := below_keep hW p2; have k3 := below_keep hW p3; have k4 := below_keep hW p4; have k5 := below_keep hW p5; have k6 := below_keep hW p6; have k7 := below_keep hW p7; first | (go_simp; done) | (go_simp; with_reducible rfl)
    try simp only [Act.put, List.setIfInBounds_toArray, List.set_cons_zero, List.set_cons_succ]
    refine wpAnyH_take (i := 1) (oi := ⟨_, _, _, _, _, _⟩) (v := ?_) rfl (by kernel_rfl) (by kernel_rfl) (by kernel_rfl) (fun _ _ _ h => h) (Or.inl ⟨by kernel_rfl, ?_⟩) hHeld ?_
    rotate_left 1
    · intro W hW; first | (go_simp; done) | (go_simp; with_reducible rfl)
    try simp only [Act.put, List.setIfInBounds_toArray, List.set_cons_zero, List.set_cons_succ]
    refine wpAnyH_take (i := 2) (oi := ⟨_, _, _, _, _, _⟩) (v := ?_) rfl (by kernel_rfl) (by kernel_rfl) (by kernel_rfl) (fun _ _ _ h => h) (Or.inl ⟨by kernel_rfl, ?_⟩) hHeld ?_
    rotate_left 1
    · intro W hW; have k0 := below_keep hW p0; first | (go_simp; done) | (go_simp; with_reducible rfl)
    try simp only [Act.put, List.setIfInBounds_toArray, List.set_cons_zero, List.set_cons_succ]
    refine wpAnyH_take (i := 3) (oi := ⟨_, _, _, _, _, _⟩) (v := ?_) rfl (by kernel_rfl) (by kernel_rfl) (by kernel_rfl) (fun _ _ _ h => h) (Or.inl ⟨by kernel_rfl, ?_⟩) hHeld ?_
    rotate_left 1
    · intro W hW; first | (go_simp; done) | (go_simp; with_reducible rfl)
    try simp only [Act.put, List.setIfInBounds_toArray, List.set_cons_zero, List.set_cons_succ]
    refine wpAnyH_ready (rs := [4, 10]) (by kernel_rfl) (by simp) ?_
    refine AllReadyH.cons rfl (fun K hK => ?_) (AllReadyH.cons rfl (fun K hK => ?_) AllReadyH.nil)
    · go_simp
      refine (HG.out _ (HB.out.trans (hHeld.mono HB.out.size))).mono ?_
      rintro e v1 ⟨X, cx, rfl, hX, hbx⟩
      have HX := Lib.hid hX
      clear hX
      go_wp2_with fail
      refine hK.out _ _ ?_ (fun hHelda => ?_)
      · exact hHeld.trans (hbx.mono hHeld.size)
      clear hK K
      try simp only [Act.put, List.setIfInBounds_toArray, List.set_cons_zero, List.set_cons_succ]
      clear hbx
      refine wpAnyH_ready (rs := [5, 10]) (by kernel_rfl) (by simp) ?_
      refine AllReadyH.cons rfl (fun K hK => ?_) (AllReadyH.cons rfl (fun K hK => ?_) AllReadyH.nil)
      · go_simp
        refine (HRw.out _ X cx (HB.out.trans (hHelda.mono HB.out.size)) HX.out).mono ?_
        rintro e v2 ⟨q2, t2, B2, d2, ys, C2, cc2, rfl, hst, hyl, ho1, ho2, hy1, hqk, hql, hy2, hn1, hn2, hbx⟩
        rw [st_all] at hst
        obtain rfl : Q = q2 := by rw [HQ.out, hst]
        have hi1 : Its v2 B2 Q.list := Its.own ho1
        have HX := Lib.hid (HX.out.keep hbx)
        have HI1 := Lib.hid hi1
        have HOk := Lib.hid hqk
        clear hst hyl ho1 ho2 hy1 hqk hql hy2 hn1 hn2 hi1 HX
        go_wp2_with fail
        refine hK.out _ _ ?_ (fun hHeldaa => ?_)
        · exact hHelda.trans (hbx.mono hHelda.size)
        clear hK K
        try simp only [Act.put, List.setIfInBounds_toArray, List.set_cons_zero, List.set_cons_succ]
        clear hbx
        refine wpAnyH_take (i := 6) (oi := ⟨_, _, _, _, _, _⟩) (v := ?_) rfl (by kernel_rfl) (by kernel_rfl) (by kernel_rfl) (fun _ _ _ h => h) (Or.inl ⟨by kernel_rfl, ?_⟩) hHeldaa ?_
        rotate_left 1
        · intro W hW; first | (go_simp; done) | (go_simp; with_reducible rfl)
        try simp only [Act.put, List.setIfInBounds_toArray, List.set_cons_zero, List.set_cons_succ]
        refine wpAnyH_take (i := 7) (oi := ⟨_, _, _, _, _, _⟩) (v := ?_) rfl (by kernel_rfl) (by kernel_rfl) (by kernel_rfl) (fun _ _ _ h => h) (Or.inl ⟨by kernel_rfl, ?_⟩) hHeldaa ?_
        rotate_left 1
        · intro W hW; first | (go_simp; done) | (go_simp; with_reducible rfl)
        try simp only [Act.put, List.setIfInBounds_toArray, List.set_cons_zero, List.set_cons_succ]
        refine wpAnyH_take (i := 8) (oi := ⟨_, _, _, _, _, _⟩) (v := ?_) rfl (by kernel_rfl) (by kernel_rfl) (by kernel_rfl) (fun _ _ _ h => h) (Or.inl ⟨by kernel_rfl, ?_⟩) hHeldaa ?_
        rotate_left 1
        · intro W hW; first | (go_simp; done) | (go_simp; with_reducible rfl)
        try simp only [Act.put, List.setIfInBounds_toArray, List.set_cons_zero, List.set_cons_succ]
        refine wpAnyH_take (i := 9) (oi := ⟨_, _, _, _, _, _⟩) (v := ?_) rfl (by kernel_rfl) (by kernel_rfl) (by kernel_rfl) (fun _ _ _ h => h) (Or.inl ⟨by kernel_rfl, ?_⟩) hHeldaa ?_
        rotate_left 1
        · intro W hW; first | (go_simp; done) | (go_simp; with_reducible rfl)
        try simp only [Act.put, List.setIfInBounds_toArray, List.set_cons_zero, List.set_cons_succ]
        refine wpAnyH_ready (rs := [10]) (by kernel_rfl) (by simp) ?_
        refine AllReadyH.cons rfl (fun K hK => ?_) AllReadyH.nil
        go_simp
        generalize hwx : World.alloc v2 _ = v3
        have hbx : Below v2.heap.size v2 v3 := by rw [← hwx]; exact below1 v2 _
        have rx : v3.heap[v2.heap.size]? = some (.cells (recC 0 0 0 0 0 0 ⟨#[]⟩ (.slice none 0 0)) 25 (0, 0)) := by rw [← hwx]; exact heap_alloc_new v2 _
        have z8 : w1.heap.size ≤ v2.heap.size := hHeldaa.size
        have HI1 := Lib.hid (HI1.out.below hbx)
        have R8 := Lib.hid rx
        clear rx hwx
        refine hK.out _ _ ?_ (fun hHeldaaa => ?_)
        · exact hHeldaa.trans (hbx.mono hHeldaa.size)
        clear hK K
        try simp only [Act.put, List.setIfInBounds_toArray, List.set_cons_zero, List.set_cons_succ]
        clear hbx
        refine wpAnyH_ready (rs := [11]) (by kernel_rfl) (by simp) ?_
        refine AllReadyH.cons rfl (fun K hK => ?_) AllReadyH.nil
        rw [if_pos (by kernel_rfl)]
        refine wp_store_row 25 _ _ rfl (v2.heap.size) (recC Q.kind Q.num Q.low Q.high Q.real Q.cap Q.text (.slice B2 Q.list.length d2)) rfl rfl 25 _ R8.out rec_inf7 rfl (by kernel_rfl) ?_
        generalize hwx : World.setRow v3 _ _ = v4
        have hkx : Kp (fun j => j = v2.heap.size) v3 v4 := by rw [← hwx]; exact kpRow7 (S := fun j => j = v2.heap.size) (Kp.refl _ _) (.inl rfl) _
        have rx : v4.heap[v2.heap.size]? = some (.cells (recC Q.kind Q.num Q.low Q.high Q.real Q.cap Q.text (.slice B2 Q.list.length d2)) 25 (0, 0)) := by rw [← hwx]; exact setRow_heap v3 _ _ _ _ _ R8.out
        have HI1 := Lib.hid (its_keep HI1.out hkx (by rcases its_apart HI1.out R8.out (rec_no _ _ _ _ _ _ _ _ _ _) with h1 | h1; exact .inl h1; exact .inr fun ad e x => h1 ad e x))
        have R8 := Lib.hid rx
        have hbx : Below w1.heap.size v3 v4 := hkx.below hHeldaaa.size (fun i hi x => by omega)
        clear rx hwx hkx
        refine hK.out _ _ ?_ (fun hHeldaaaa => ?_)
        · exact hHeldaaa.trans hbx
        clear hK K
        try simp only [Act.put, List.setIfInBounds_toArray, List.set_cons_zero, List.set_cons_succ]
        clear hbx
        refine wpAnyH_take (i := 12) (oi := ⟨_, _, _, _, _, _⟩) (v := ?_) rfl (by kernel_rfl) (by kernel_rfl) (by kernel_rfl) (fun _ _ _ h => h) (Or.inl ⟨by kernel_rfl, ?_⟩) hHeldaaaa ?_
        rotate_left 1
        · intro W hW; first | (go_simp; done) | (go_simp; with_reducible rfl)
        try simp only [Act.put, List.setIfInBounds_toArray, List.set_cons_zero, List.set_cons_succ]
        refine wpAnyH_take (i := 13) (oi := ⟨_, _, _, _, _, _⟩) (v := ?_) rfl (by kernel_rfl) (by kernel_rfl) (by kernel_rfl) (fun _ _ _ h => h) (Or.inl ⟨by kernel_rfl, ?_⟩) hHeldaaaa ?_
        rotate_left 1
        · intro W hW; first | (go_simp; done) | (go_simp; with_reducible rfl)
        try simp only [Act.put, List.setIfInBounds_toArray, List.set_cons_zero, List.set_cons_succ]
        refine wpAnyH_done (by kernel_rfl) ?_ _
        go_wp2_with fail
        go_meet
        exact ⟨_, B2, d2, rfl, R8.out, HI1.out, hHeldaaaa, z8, HOk.out⟩
      · go_simp
        generalize hwx : World.alloc v1 _ = v2
        have hbx : Below v1.heap.size v1 v2 := by rw [← hwx]; exact below1 v1 _
        have rx : v2.heap[v1.heap.size]? = some (.cells (recC 0 0 0 0 0 0 ⟨#[]⟩ (.slice none 0 0)) 25 (0, 0)) := by rw [← hwx]; exact heap_alloc_new v1 _
        have z8 : w1.heap.size ≤ v1.heap.size := hHelda.size
        have HX := Lib.hid (HX.out.keep hbx)
        have R8 := Lib.hid rx
        clear rx hwx
        refine hK.out _ _ ?_ (fun hHeldaa => ?_)
        · exact hHelda.trans (hbx.mono hHelda.size)
        clear hK K
        try simp only [Act.put, List.setIfInBounds_toArray, List.set_cons_zero, List.set_cons_succ]
        clear hbx
        refine wpAnyH_ready (rs := [5]) (by kernel_rfl) (by simp) ?_
        refine AllReadyH.cons rfl (fun K hK => ?_) AllReadyH.nil
        go_simp
        refine (HRw.out _ X cx (HB.out.trans (hHeldaa.mono HB.out.size)) HX.out).mono ?_
        rintro e v3 ⟨q2, t2, B2, d2, ys, C2, cc2, rfl, hst, hyl, ho1, ho2, hy1, hqk, hql, hy2, hn1, hn2, hbx⟩
        rw [st_all] at hst
        obtain rfl : Q = q2 := by rw [HQ.out, hst]
        have hi1 : Its v3 B2 Q.list := Its.own ho1
        have R8 := Lib.hid ((hbx.block _ (lt_of_heap R8.out)).trans R8.out)
        have HX := Lib.hid (HX.out.keep hbx)
        have HI1 := Lib.hid hi1
        have HOk := Lib.hid hqk
        clear hst hyl ho1 ho2 hy1 hqk hql hy2 hn1 hn2 hi1 HX
        go_wp2_with fail
        refine hK.out _ _ ?_ (fun hHeldaaa => ?_)
        · exact hHeldaa.trans (hbx.mono hHeldaa.size)
        clear hK K
        try simp only [Act.put, List.setIfInBounds_toArray, List.set_cons_zero, List.set_cons_succ]
        clear hbx
        refine wpAnyH_take (i := 6) (oi := ⟨_, _, _, _, _, _⟩) (v := ?_) rfl (by kernel_rfl) (by kernel_rfl) (by kernel_rfl) (fun _ _ _ h => h) (Or.inl ⟨by kernel_rfl, ?_⟩) hHeldaaa ?_
        rotate_left 1
        · intro W hW; first | (go_simp; done) | (go_simp; with_reducible rfl)
        try simp only [Act.put, List.setIfInBounds_toArray, List.set_cons_zero, List.set_cons_succ]
        refine wpAnyH_take (i := 7) (oi := ⟨_, _, _, _, _, _⟩) (v := ?_) rfl (by kernel_rfl) (by kernel_rfl) (by kernel_rfl) (fun _ _ _ h => h) (Or.inl ⟨by kernel_rfl, ?_⟩) hHeldaaa ?_
        rotate_left 1
        · intro W hW; first | (go_simp; done) | (go_simp; with_reducible rfl)
        try simp only [Act.put, List.setIfInBounds_toArray, List.set_cons_zero, List.set_cons_succ]
        refine wpAnyH_take (i := 8) (oi := ⟨_, _, _, _, _, _⟩) (v := ?_) rfl (by kernel_rfl) (by kernel_rfl) (by kernel_rfl) (fun _ _ _ h => h) (Or.inl ⟨by kernel_rfl, ?_⟩) hHeldaaa ?_
        rotate_left 1
        · intro W hW; first | (go_simp; done) | (go_simp; with_reducible rfl)
        try simp only [Act.put, List.setIfInBounds_toArray, List.set_cons_zero, List.set_cons_succ]
        refine wpAnyH_take (i := 9) (oi := ⟨_, _, _, _, _, _⟩) (v := ?_) rfl (by kernel_rfl) (by kernel_rfl) (by kernel_rfl) (fun _ _ _ h => h) (Or.inl ⟨by kernel_rfl, ?_⟩) hHeldaaa ?_
        rotate_left 1
        · intro W hW; first | (go_simp; done) | (go_simp; with_reducible rfl)
        try simp only [Act.put, List.setIfInBounds_toArray, List.set_cons_zero, List.set_cons_succ]
        refine wpAnyH_ready (rs := [11]) (by kernel_rfl) (by simp) ?_
        refine AllReadyH.cons rfl (fun K hK => ?_) AllReadyH.nil
        rw [if_pos (by kernel_rfl)]
        refine wp_store_row 25 _ _ rfl (v1.heap.size) (recC Q.kind Q.num Q.low Q.high Q.real Q.cap Q.text (.slice B2 Q.list.length d2)) rfl rfl 25 _ R8.out rec_inf7 rfl (by kernel_rfl) ?_
        generalize hwx : World.setRow v3 _ _ = v4
        have hkx : Kp (fun j => j = v1.heap.size) v3 v4 := by rw [← hwx]; exact kpRow7 (S := fun j => j = v1.heap.size) (Kp.refl _ _) (.inl rfl) _
        have rx : v4.heap[v1.heap.size]? = some (.cells (recC Q.kind Q.num Q.low Q.high Q.real Q.cap Q.text (.slice B2 Q.list.length d2)) 25 (0, 0)) := by rw [← hwx]; exact setRow_heap v3 _ _ _ _ _ R8.out
        have HI1 := Lib.hid (its_keep HI1.out hkx (by rcases its_apart HI1.out R8.out (rec_no _ _ _ _ _ _ _ _ _ _) with h1 | h1; exact .inl h1; exact .inr fun ad e x => h1 ad e x))
        have R8 := Lib.hid rx
        have hbx : Below w1.heap.size v3 v4 := hkx.below hHeldaaa.size (fun i hi x => by omega)
        clear rx hwx hkx
        refine hK.out _ _ ?_ (fun hHeldaaaa => ?_)
        · exact hHeldaaa.trans hbx
        clear hK K
        try simp only [Act.put, List.setIfInBounds_toArray, List.set_cons_zero, List.set_cons_succ]
        clear hbx
        refine wpAnyH_take (i := 12) (oi := ⟨_, _, _, _, _, _⟩) (v := ?_) rfl (by kernel_rfl) (by kernel_rfl) (by kernel_rfl) (fun _ _ _ h => h) (Or.inl ⟨by kernel_rfl, ?_⟩) hHeldaaaa ?_
        rotate_left 1
        · intro W hW; first | (go_simp; done) | (go_simp; with_reducible rfl)
        try simp only [Act.put, List.setIfInBounds_toArray, List.set_cons_zero, List.set_cons_succ]
        refine wpAnyH_take (i := 13) (oi := ⟨_, _, _, _, _, _⟩) (v := ?_) rfl (by kernel_rfl) (by kernel_rfl) (by kernel_rfl) (fun _ _ _ h => h) (Or.inl ⟨by kernel_rfl, ?_⟩) hHeldaaaa ?_
        rotate_left 1
        · intro W hW; first | (go_simp; done) | (go_simp; with_reducible rfl)
        try simp only [Act.put, List.setIfInBounds_toArray, List.set_cons_zero, List.set_cons_succ]
        refine wpAnyH_done (by kernel_rfl) ?_ _
        go_wp2_with fail
        go_meet
        exact ⟨_, B2, d2, rfl, R8.out, HI1.out, hHeldaaaa, z8, HOk.out⟩
    · go_simp
      generalize hwx : World.alloc v0 _ = v1
      have hbx : Below v0.heap.size v0 v1 := by rw [← hwx]; exact below1 v0 _
      have rx : v1.heap[v0.heap.size]? = some (.cells (recC 0 0 0 0 0 0 ⟨#[]⟩ (.slice none 0 0)) 25 (0, 0)) := by rw [← hwx]; exact heap_alloc_new v0 _
      have z8 : w1.heap.size ≤ v0.heap.size := hHeld.size
      have R8 := Lib.hid rx
      clear rx hwx
      refine hK.out _ _ ?_ (fun hHelda => ?_)
      · exact hHeld.trans (hbx.mono hHeld.size)
      clear hK K
      try simp only [Act.put, List.setIfInBounds_toArray, List.set_cons_zero, List.set_cons_succ]
      clear hbx
      refine wpAnyH_ready (rs := [4]) (by kernel_rfl) (by simp) ?_
      refine AllReadyH.cons rfl (fun K hK => ?_) AllReadyH.nil
      go_simp
      refine (HG.out _ (HB.out.trans (hHelda.mono HB.out.size))).mono ?_
      rintro e v2 ⟨X, cx, rfl, hX, hbx⟩
      have R8 := Lib.hid ((hbx.block _ (lt_of_heap R8.out)).trans R8.out)
      have HX := Lib.hid hX
      clear hX
      go_wp2_with fail
      refine hK.out _ _ ?_ (fun hHeldaa => ?_)
      · exact hHelda.trans (hbx.mono hHelda.size)
      clear hK K
      try simp only [Act.put, List.setIfInBounds_toArray, List.set_cons_zero, List.set_cons_succ]
      clear hbx
      refine wpAnyH_ready (rs := [5]) (by kernel_rfl) (by simp) ?_
      refine AllReadyH.cons rfl (fun K hK => ?_) AllReadyH.nil
      go_simp
      refine (HRw.out _ X cx (HB.out.trans (hHeldaa.mono HB.out.size)) HX.out).mono ?_
      rintro e v3 ⟨q2, t2, B2, d2, ys, C2, cc2, rfl, hst, hyl, ho1, ho2, hy1, hqk, hql, hy2, hn1, hn2, hbx⟩
      rw [st_all] at hst
      obtain rfl : Q = q2 := by rw [HQ.out, hst]
      have hi1 : Its v3 B2 Q.list := Its.own ho1
      have R8 := Lib.hid ((hbx.block _ (lt_of_heap R8.out)).trans R8.out)
      have HX := Lib.hid (HX.out.keep hbx)
      have HI1 := Lib.hid hi1
      have HOk := Lib.hid hqk
      clear hst hyl ho1 ho2 hy1 hqk hql hy2 hn1 hn2 hi1 HX
      go_wp2_with fail
      refine hK.out _ _ ?_ (fun hHeldaaa => ?_)
      · exact hHeldaa.trans (hbx.mono hHeldaa.size)
      clear hK K
      try simp only [Act.put, List.setIfInBounds_toArray, List.set_cons_zero, List.set_cons_succ]
      clear hbx
      refine wpAnyH_take (i := 6) (oi := ⟨_, _, _, _, _, _⟩) (v := ?_) rfl (by kernel_rfl) (by kernel_rfl) (by kernel_rfl) (fun _ _ _ h => h) (Or.inl ⟨by kernel_rfl, ?_⟩) hHeldaaa ?_
      rotate_left 1
      · intro W hW; first | (go_simp; done) | (go_simp; with_reducible rfl)
      try simp only [Act.put, List.setIfInBounds_toArray, List.set_cons_zero, List.set_cons_succ]
      refine wpAnyH_take (i := 7) (oi := ⟨_, _, _, _, _, _⟩) (v := ?_) rfl (by kernel_rfl) (by kernel_rfl) (by kernel_rfl) (fun _ _ _ h => h) (Or.inl ⟨by kernel_rfl, ?_⟩) hHeldaaa ?_
      rotate_left 1
      · intro W hW; first | (go_simp; done) | (go_simp; with_reducible rfl)
      try simp only [Act.put, List.setIfInBounds_toArray, List.set_cons_zero, List.set_cons_succ]
      refine wpAnyH_take (i := 8) (oi := ⟨_, _, _, _, _, _⟩) (v := ?_) rfl (by kernel_rfl) (by kernel_rfl) (by kernel_rfl) (fun _ _ _ h => h) (Or.inl ⟨by kernel_rfl, ?_⟩) hHeldaaa ?_
      rotate_left 1
      · intro W hW; first | (go_simp; done) | (go_simp; with_reducible rfl)
      try simp only [Act.put, List.setIfInBounds_toArray, List.set_cons_zero, List.set_cons_succ]
      refine wpAnyH_take (i := 9) (oi := ⟨_, _, _, _, _, _⟩) (v := ?_) rfl (by kernel_rfl) (by kernel_rfl) (by kernel_rfl) (fun _ _ _ h => h) (Or.inl ⟨by kernel_rfl, ?_⟩) hHeldaaa ?_
      rotate_left 1
      · intro W hW; first | (go_simp; done) | (go_simp; with_reducible rfl)
      try simp only [Act.put, List.setIfInBounds_toArray, List.set_cons_zero, List.set_cons_succ]
      refine wpAnyH_ready (rs := [11]) (by kernel_rfl) (by simp) ?_
      refine AllReadyH.cons rfl (fun K hK => ?_) AllReadyH.nil
      rw [if_pos (by kernel_rfl)]
      refine wp_store_row 25 _ _ rfl (v0.heap.size) (recC Q.kind Q.num Q.low Q.high Q.real Q.cap Q.text (.slice B2 Q.list.length d2)) rfl rfl 25 _ R8.out rec_inf7 rfl (by kernel_rfl) ?_
      generalize hwx : World.setRow v3 _ _ = v4
      have hkx : Kp (fun j => j = v0.heap.size) v3 v4 := by rw [← hwx]; exact kpRow7 (S := fun j => j = v0.heap.size) (Kp.refl _ _) (.inl rfl) _
      have rx : v4.heap[v0.heap.size]? = some (.cells (recC Q.kind Q.num Q.low Q.high Q.real Q.cap Q.text (.slice B2 Q.list.length d2)) 25 (0, 0)) := by rw [← hwx]; exact setRow_heap v3 _ _ _ _ _ R8.out
      have HI1 := Lib.hid (its_keep HI1.out hkx (by rcases its_apart HI1.out R8.out (rec_no _ _ _ _ _ _ _ _ _ _) with h1 | h1; exact .inl h1; exact .inr fun ad e x => h1 ad e x))
      have R8 := Lib.hid rx
      have hbx : Below w1.heap.size v3 v4 := hkx.below hHeldaaa.size (fun i hi x => by omega)
      clear rx hwx hkx
      refine hK.out _ _ ?_ (fun hHeldaaaa => ?_)
      · exact hHeldaaa.trans hbx
      clear hK K
      try simp only [Act.put, List.setIfInBounds_toArray, List.set_cons_zero, List.set_cons_succ]
      clear hbx
      refine wpAnyH_take (i := 12) (oi := ⟨_, _, _, _, _, _⟩) (v := ?_) rfl (by kernel_rfl) (by kernel_rfl) (by kernel_rfl) (fun _ _ _ h => h) (Or.inl ⟨by kernel_rfl, ?_⟩) hHeldaaaa ?_
      rotate_left 1
      · intro W hW; first | (go_simp; done) | (go_simp; with_reducible rfl)
      try simp only [Act.put, List.setIfInBounds_toArray, List.set_cons_zero, List.set_cons_succ]
      refine wpAnyH_take (i := 13) (oi := ⟨_, _, _, _, _, _⟩) (v := ?_) rfl (by kernel_rfl) (by kernel_rfl) (by kernel_rfl) (fun _ _ _ h => h) (Or.inl ⟨by kernel_rfl, ?_⟩) hHeldaaaa ?_
      rotate_left 1
      · intro W hW; first | (go_simp; done) | (go_simp; with_reducible rfl)
      try simp only [Act.put, List.setIfInBounds_toArray, List.set_cons_zero, List.set_cons_succ]
      refine wpAnyH_done (by kernel_rfl) ?_ _
      go_wp2_with fail
      go_meet
      exact ⟨_, B2, d2, rfl, R8.out, HI1.out, hHeldaaaa, z8, HOk.out⟩
  case rest =>
  obtain ⟨g, B, d, rfl, hrow, hits, hb, hg, hok⟩ := hcut
  generalize hwc : wc = w8 at *
  clear hwc p0 p1 p2 p3 p4 p5 p6 p7
  have R5 := Lib.hid hrow
  have HI1 := Lib.hid hits
  have HOK := Lib.hid hok
  have F1 := Lib.hid ((hb.block _ (lt_of_heap E1.out)).trans E1.out)
  have G4 := Lib.hid ((hb.block _ (lt_of_heap E4.out)).trans E4.out)
  have HB8 := Lib.hid (HB.out.trans (hb.mono HB.out.size))
  have HG1 := Lib.hid (show w.heap.size + 1 < g ∧ w.heap.size < w8.heap.size ∧ w.heap.size + 1 < w8.heap.size ∧ g < w8.heap.size from ⟨by have := lt_of_heap E4.out; omega, lt_of_heap F1.out, lt_of_heap G4.out, lt_of_heap hrow⟩)
  clear hrow hits hb hg hok E1 E4 HG HRw HQ
  go_wp2_with fail
  go_loopw [22] (fun t22 wr => ∃ (i : Nat) (q : RC.Rc), t22 = .int .i64 i ∧ i ≤ l.length ∧ q = ((l.take i).map (·.r)).foldl (SH.put r.kind) Q ∧ wr.heap[g]? = some (.cells (recC q.kind q.num q.low q.high q.real q.cap q.text (.slice B q.list.length d)) 25 (0, 0)) ∧ Its wr B q.list ∧ q.ok ∧ Kp (fun j => j = g) w8 wr) (fun t22 _ => l.length - (intOf t22).toNat)
  case atStart => exact ⟨0, Q, rfl, Nat.zero_le _, rfl, R5.out, HI1.out, HOK.out, Kp.refl _ _⟩
  case round =>
    obtain ⟨i, q, rfl, hi, hq, hrow, hits, hqok, hkp⟩ := hrel
    have HQ := Lib.hid hq
    have HRow := Lib.hid hrow
    have HIt := Lib.hid hits
    have HQk := Lib.hid hqok
    have HKp := Lib.hid hkp
    have HGl := Lib.hid (show g < wr.heap.size ∧ w.heap.size < wr.heap.size from ⟨lt_of_heap hrow, by have := hkp.size; have := HG1.out; omega⟩)
    clear hq hrow hits hqok hkp
    by_cases hlt : i < l.length
    · have hin := HL.out.all _ (List.getElem_mem hlt)
      have hnx : ((l.take (i + 1)).map (·.r)).foldl (SH.put r.kind) Q = SH.put r.kind q l[i].r := by
        rw [List.take_add_one, List.getElem?_eq_getElem hlt, List.map_append, List.foldl_append, ← HQ.out]
        rfl
      obtain ⟨b1, o1, hLe, hr1⟩ := recs_range7 HL.out hlt
      have hbl : b1 < w.heap.size := by
        rcases HL.out.rows with h0 | ⟨b, off, he, hb, _⟩
        · subst h0; simp at hlt
        · rw [hLe] at he; injection he with he; injection he with he _ _; omega
      subst hLe
      obtain ⟨p, hp⟩ : ∃ p, p = l[i] := ⟨_, rfl⟩
      rw [← hp] at hin hnx hr1
      have HNX := Lib.hid hnx
      have HPk := Lib.hid hin.ok
      have HR1 := Lib.hid (show wr.rangeAt b1 (o1 + i * 8) p.cells.toList from fun j v hv => HKp.out.cell (below_keep HB8.out (hr1 j v hv)) (by have := HG1.out; show ¬ b1 = g; omega))
      have hi1 : (i : Int) < (l.length : Int) := by omega
      clear hin hnx hr1 hp hbl
      go_upto_region 5 with (first
        | (refine wpList_load_mid rfl _ _ rfl b1 (o1 + i * 8) rfl p.cells.toList _ HR1.out Tryz.underlying25 rfl rec_inf7 ?_)
        | (refine wpList_store_row rfl _ _ _ rfl _ p.cells rfl rfl 25 _ (heap_alloc_new _ _) rec_inf7 rfl (by kernel_rfl) ?_))
      rw [World.setRow_alloc_new]
      generalize hwb : World.alloc wr _ = wb
      have hbb : Below wr.heap.size wr wb := by rw [← hwb]; exact below1 wr _
      have R9 := (show wb.heap[wr.heap.size]? = some (.cells p.cells 25 (0, 0)) by rw [← hwb]; exact heap_alloc_new wr _)
      have e1 : wb.cell? ⟨wr.heap.size, 1, none⟩ = some (.int .i64 p.r.num) := cell_of_row wb _ 1 _ _ (0, 0) R9
      have e4 : wb.cell? ⟨wr.heap.size, 4, none⟩ = some (.float .f64 p.r.real) := cell_of_row wb _ 4 _ _ (0, 0) R9
      have GB := Lib.hid ((hbb.block _ HGl.out.1).trans HRow.out)
      have FB : wb.heap[w.heap.size]? = some (.cells (recC r.kind r.num r.low r.high r.real r.cap r.text (.slice A r.list.length c)) 25 (0, 0)) := (hbb.block _ HGl.out.2).trans ((HKp.out.block _ HG1.out.2.1 (by have := HG1.out; show ¬ w.heap.size = g; omega)).trans F1.out)
      have d0 : wb.cell? ⟨w.heap.size, 0, none⟩ = some (.int .i64 r.kind) := cell_of_row wb _ 0 _ _ (0, 0) FB
      have g1 : wb.cell? ⟨g, 1, none⟩ = some (.int .i64 q.num) := cell_of_row wb _ 1 _ _ (0, 0) GB.out
      have g4 : wb.cell? ⟨g, 4, none⟩ = some (.float .f64 q.real) := cell_of_row wb _ 4 _ _ (0, 0) GB.out
      have f5 : ∀ o, wb.frozen? ⟨g, o, none⟩ = false := fun o => frozen_of_row _ _ o _ _ GB.out
      have HIb := Lib.hid (HIt.out.below hbb)
      have HKb := Lib.hid (HKp.out.trans (Kp.of_below hbb (fun j => j = g)) (fun _ _ x => x))
      have HLg := Lib.hid (show g < wb.heap.size from lt_of_heap GB.out)
      generalize hg9 : wr.heap.size = g9 at *
      clear hwb hbb R9 FB HR1 hg9 HRow HIt HKp HGl
      have HPO := Lib.hid (SH.put_ok (kind := r.kind) HQk.out HPk.out)
      by_cases hk : r.kind = 2
      · have HW := Lib.hid (show SH.put r.kind q p.r = { q with num := RU.w64 (q.num + p.r.num) } by unfold SH.put; rw [if_pos (by omega)])
        replace d0 : wb.cell? ⟨w.heap.size, 0, none⟩ = some (.int .i64 2) := by rw [← hk]; exact d0
        clear hk
        go_wp2_with fail
        generalize hwd : World.setCell wb _ _ = wd
        have hkd : Kp (fun j => j = g) wb wd := by rw [← hwd]; exact Kp.setCell (S := fun j => j = g) (p := ⟨g, 1, none⟩) (Kp.refl _ _) (.inl rfl) _
        have hrd : wd.heap[g]? = some (.cells (recC (SH.put r.kind q p.r).kind (SH.put r.kind q p.r).num (SH.put r.kind q p.r).low (SH.put r.kind q p.r).high (SH.put r.kind q p.r).real (SH.put r.kind q p.r).cap (SH.put r.kind q p.r).text (.slice B (SH.put r.kind q p.r).list.length d)) 25 (0, 0)) := by rw [← hwd, HW.out]; exact heap_setCell_same wb _ 1 _ _ _ GB.out
        have hid : Its wd B (SH.put r.kind q p.r).list := by
          rw [SH.put_list]
          refine its_keep HIb.out hkd ?_
          rcases its_apart HIb.out GB.out (rec_no _ _ _ _ _ _ _ _ _ _) with h1 | h1
          · exact .inl h1
          · exact .inr fun ad e x => h1 ad e x
        have HT := Lib.hid (And.intro hrd (And.intro hid (HKb.out.trans hkd (fun _ _ x => x))))
        clear hwd hkd hrd hid
        go_roundw
        case rel => exact ⟨i + 1, SH.put r.kind q p.r, by go_num, by omega, HNX.out.symm, HT.out.1, HT.out.2.1, HPO.out, HT.out.2.2⟩
        case measure => simp [intOf]; omega
      have h2 := hk
      clear hk
      by_cases hk : r.kind = 3
      · have HW := Lib.hid (show SH.put r.kind q p.r = { q with num := RU.w64 (q.num + p.r.num) } by unfold SH.put; rw [if_pos (by omega)])
        replace d0 : wb.cell? ⟨w.heap.size, 0, none⟩ = some (.int .i64 3) := by rw [← hk]; exact d0
        clear hk
        go_wp2_with fail
        generalize hwd : World.setCell wb _ _ = wd
        have hkd : Kp (fun j => j = g) wb wd := by rw [← hwd]; exact Kp.setCell (S := fun j => j = g) (p := ⟨g, 1, none⟩) (Kp.refl _ _) (.inl rfl) _
        have hrd : wd.heap[g]? = some (.cells (recC (SH.put r.kind q p.r).kind (SH.put r.kind q p.r).num (SH.put r.kind q p.r).low (SH.put r.kind q p.r).high (SH.put r.kind q p.r).real (SH.put r.kind q p.r).cap (SH.put r.kind q p.r).text (.slice B (SH.put r.kind q p.r).list.length d)) 25 (0, 0)) := by rw [← hwd, HW.out]; exact heap_setCell_same wb _ 1 _ _ _ GB.out
        have hid : Its wd B (SH.put r.kind q p.r).list := by
          rw [SH.put_list]
          refine its_keep HIb.out hkd ?_
          rcases its_apart HIb.out GB.out (rec_no _ _ _ _ _ _ _ _ _ _) with h1 | h1
          · exact .inl h1
          · exact .inr fun ad e x => h1 ad e x
        have HT := Lib.hid (And.intro hrd (And.intro hid (HKb.out.trans hkd (fun _ _ x => x))))
        clear hwd hkd hrd hid
        go_roundw
        case rel => exact ⟨i + 1, SH.put r.kind q p.r, by go_num, by omega, HNX.out.symm, HT.out.1, HT.out.2.1, HPO.out, HT.out.2.2⟩
        case measure => simp [intOf]; omega
      have h3 := hk
      clear hk
      by_cases hk : r.kind = 4
      · have HW := Lib.hid (show SH.put r.kind q p.r = { q with num := RU.w64 (q.num + p.r.num) } by unfold SH.put; rw [if_pos (by omega)])
        replace d0 : wb.cell? ⟨w.heap.size, 0, none⟩ = some (.int .i64 4) := by rw [← hk]; exact d0
        clear hk
        go_wp2_with fail
        generalize hwd : World.setCell wb _ _ = wd
        have hkd : Kp (fun j => j = g) wb wd := by rw [← hwd]; exact Kp.setCell (S := fun j => j = g) (p := ⟨g, 1, none⟩) (Kp.refl _ _) (.inl rfl) _
        have hrd : wd.heap[g]? = some (.cells (recC (SH.put r.kind q p.r).kind (SH.put r.kind q p.r).num (SH.put r.kind q p.r).low (SH.put r.kind q p.r).high (SH.put r.kind q p.r).real (SH.put r.kind q p.r).cap (SH.put r.kind q p.r).text (.slice B (SH.put r.kind q p.r).list.length d)) 25 (0, 0)) := by rw [← hwd, HW.out]; exact heap_setCell_same wb _ 1 _ _ _ GB.out
        have hid : Its wd B (SH.put r.kind q p.r).list := by
          rw [SH.put_list]
          refine its_keep HIb.out hkd ?_
          rcases its_apart HIb.out GB.out (rec_no _ _ _ _ _ _ _ _ _ _) with h1 | h1
          · exact .inl h1
          · exact .inr fun ad e x => h1 ad e x
        have HT := Lib.hid (And.intro hrd (And.intro hid (HKb.out.trans hkd (fun _ _ x => x))))
        clear hwd hkd hrd hid
        go_roundw
        case rel => exact ⟨i + 1, SH.put r.kind q p.r, by go_num, by omega, HNX.out.symm, HT.out.1, HT.out.2.1, HPO.out, HT.out.2.2⟩
        case measure => simp [intOf]; omega
      have h4 := hk
      clear hk
      by_cases hk : r.kind = 5
      · have HW := Lib.hid (show SH.put r.kind q p.r = { q with real := MF.mx q.real p.r.real } by unfold SH.put; rw [if_neg (by omega), if_pos hk])
        replace d0 : wb.cell? ⟨w.heap.size, 0, none⟩ = some (.int .i64 5) := by rw [← hk]; exact d0
        clear hk
        go_wp2_with fail
        refine (max_any q.real p.r.real _ HQk.out.real HPk.out.real).mono ?_
        rintro e w9 ⟨rfl, rfl⟩
        go_wp2_with fail
        generalize hwd : World.setCell wb _ _ = wd
        have hkd : Kp (fun j => j = g) wb wd := by rw [← hwd]; exact Kp.setCell (S := fun j => j = g) (p := ⟨g, 4, none⟩) (Kp.refl _ _) (.inl rfl) _
        have hrd : wd.heap[g]? = some (.cells (recC (SH.put r.kind q p.r).kind (SH.put r.kind q p.r).num (SH.put r.kind q p.r).low (SH.put r.kind q p.r).high (SH.put r.kind q p.r).real (SH.put r.kind q p.r).cap (SH.put r.kind q p.r).text (.slice B (SH.put r.kind q p.r).list.length d)) 25 (0, 0)) := by rw [← hwd, HW.out]; exact heap_setCell_same wb _ 4 _ _ _ GB.out
        have hid : Its wd B (SH.put r.kind q p.r).list := by
          rw [SH.put_list]
          refine its_keep HIb.out hkd ?_
          rcases its_apart HIb.out GB.out (rec_no _ _ _ _ _ _ _ _ _ _) with h1 | h1
          · exact .inl h1
          · exact .inr fun ad e x => h1 ad e x
        have HT := Lib.hid (And.intro hrd (And.intro hid (HKb.out.trans hkd (fun _ _ x => x))))
        clear hwd hkd hrd hid
        go_roundw
        case rel => exact ⟨i + 1, SH.put r.kind q p.r, by go_num, by omega, HNX.out.symm, HT.out.1, HT.out.2.1, HPO.out, HT.out.2.2⟩
        case measure => simp [intOf]; omega
      have h5 := hk
      clear hk
      by_cases hk : r.kind = 6
      · have HW := Lib.hid (show SH.put r.kind q p.r = { q with real := MF.mn q.real p.r.real } by unfold SH.put; rw [if_neg (by omega), if_neg (by omega), if_pos hk])
        replace d0 : wb.cell? ⟨w.heap.size, 0, none⟩ = some (.int .i64 6) := by rw [← hk]; exact d0
        clear hk
        go_wp2_with fail
        refine (min_any q.real p.r.real _ HQk.out.real HPk.out.real).mono ?_
        rintro e w9 ⟨rfl, rfl⟩
        go_wp2_with fail
        generalize hwd : World.setCell wb _ _ = wd
        have hkd : Kp (fun j => j = g) wb wd := by rw [← hwd]; exact Kp.setCell (S := fun j => j = g) (p := ⟨g, 4, none⟩) (Kp.refl _ _) (.inl rfl) _
        have hrd : wd.heap[g]? = some (.cells (recC (SH.put r.kind q p.r).kind (SH.put r.kind q p.r).num (SH.put r.kind q p.r).low (SH.put r.kind q p.r).high (SH.put r.kind q p.r).real (SH.put r.kind q p.r).cap (SH.put r.kind q p.r).text (.slice B (SH.put r.kind q p.r).list.length d)) 25 (0, 0)) := by rw [← hwd, HW.out]; exact heap_setCell_same wb _ 4 _ _ _ GB.out
        have hid : Its wd B (SH.put r.kind q p.r).list := by
          rw [SH.put_list]
          refine its_keep HIb.out hkd ?_
          rcases its_apart HIb.out GB.out (rec_no _ _ _ _ _ _ _ _ _ _) with h1 | h1
          · exact .inl h1
          · exact .inr fun ad e x => h1 ad e x
        have HT := Lib.hid (And.intro hrd (And.intro hid (HKb.out.trans hkd (fun _ _ x => x))))
        clear hwd hkd hrd hid
        go_roundw
        case rel => exact ⟨i + 1, SH.put r.kind q p.r, by go_num, by omega, HNX.out.symm, HT.out.1, HT.out.2.1, HPO.out, HT.out.2.2⟩
        case measure => simp [intOf]; omega
      have h6 := hk
      clear hk
      have HW := Lib.hid (show SH.put r.kind q p.r = q by unfold SH.put; rw [if_neg (by omega), if_neg h5, if_neg h6])
      have hrd : wb.heap[g]? = some (.cells (recC (SH.put r.kind q p.r).kind (SH.put r.kind q p.r).num (SH.put r.kind q p.r).low (SH.put r.kind q p.r).high (SH.put r.kind q p.r).real (SH.put r.kind q p.r).cap (SH.put r.kind q p.r).text (.slice B (SH.put r.kind q p.r).list.length d)) 25 (0, 0)) := by rw [HW.out]; exact GB.out
      have hid : Its wb B (SH.put r.kind q p.r).list := by rw [HW.out]; exact HIb.out
      have HT := Lib.hid (And.intro hrd (And.intro hid HKb.out))
      clear hrd hid
      go_wp2_with fail
      go_roundw
      case rel => exact ⟨i + 1, SH.put r.kind q p.r, by go_num, by omega, HNX.out.symm, HT.out.1, HT.out.2.1, HPO.out, HT.out.2.2⟩
      case measure => simp [intOf]; omega
    · have hi' : i = l.length := by omega
      have hi1 : ¬ (i : Int) < (l.length : Int) := by omega
      have HE := Lib.hid (show q = M by rw [HQ.out, HD.out, hi', List.take_length])
      have G4 := Lib.hid ((HKp.out.block _ HG1.out.2.2.1 (by have := HG1.out; show ¬ w.heap.size + 1 = g; omega)).trans G4.out)
      have HBr := Lib.hid (HB8.out.trans (HKp.out.below (by have := HG1.out; omega) (fun i hi x => by have := HG1.out; omega)))
      clear hlt hi hi'
      go_wp2_with (first
        | (refine wpList_load_row rfl _ _ rfl g rfl 25 _ (0, 0) _ HRow.out Tryz.underlying25 rfl rec_inf7 ?_)
        | (refine wpList_store_row rfl _ _ _ rfl (w.heap.size + 1) (recC q.kind q.num q.low q.high q.real q.cap q.text (.slice B q.list.length d)) rfl rfl 25 _ G4.out rec_inf7 rfl (by kernel_rfl) ?_))
      generalize hwf : World.setRow wr _ _ = wf
      have hkf : Kp (fun j => j = w.heap.size + 1) wr wf := by rw [← hwf]; exact kpRow7 (S := fun j => j = w.heap.size + 1) (Kp.refl _ _) (.inl rfl) _
      have X2 : wf.heap[w.heap.size + 1]? = some (.cells (recC q.kind q.num q.low q.high q.real q.cap q.text (.slice B q.list.length d)) 25 (0, 0)) := by rw [← hwf]; exact setRow_heap wr _ _ _ _ _ G4.out
      have k2 := fun o => cell_of_row wf _ o _ _ (0, 0) X2
      have HPo := Lib.hid (show DoS M w (.returned (recV q B d)) wf from ⟨B, d, by rw [HE.out], by rw [← HE.out]; exact its_keep HIt.out hkf (by
        rcases its_apart HIt.out G4.out (rec_no _ _ _ _ _ _ _ _ _ _) with h1 | h1
        · exact .inl h1
        · exact .inr fun ad e x => h1 ad e x), HBr.out.trans (hkf.below HBr.out.size (fun i hi x => by omega))⟩)
      clear hwf X2 hkf
      exact bodyPost_ret (v := recV q B d) (by simp [results, Tryz.results17, go_sem, k2]) rfl HPo.out
end Go.Proofs.YtbkcmnmbcldjoaaGreatDoor
