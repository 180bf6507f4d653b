/- The walk of WholeBytes: floating numbers, written as bytes, and these put in order, are in order. -/
import Derived.Test.YtmfjacehompmmaaWholeL
import Derived.Test.YtmfjacehompmmaaPackBack
namespace Go.Proofs.Ytmfjacehompmmaa
open Go.RowKit MM Go.Sort

theorem str_info : (Try.prog.info? 9).map (fun i => (i.zero, i.size, i.bytes)) = some (some (.string ⟨#[]⟩), 1, 16) := by kernel_rfl
theorem flo_info : (Try.prog.info? 42).map (fun i => (i.zero, i.size, i.bytes)) = some (some (.float .f64 0), 1, 8) := by kernel_rfl
def fc (l : List Nat) : List Value := l.map (Value.float .f64)
theorem fc_snoc (l : List Nat) (x : Nat) : fc (l ++ [x]) = fc l ++ [.float .f64 x] := by simp [fc]
theorem key_one : PK.placeB (MF.key 4607182418800017408) = [191, 240, 0, 0, 0, 0, 0, 0] := by decide
theorem mx_two : MF.mx 4607182418800017408 4611686018427387904 = 4611686018427387904 := by decide
theorem w_one : MF.W64 4607182418800017408 := by unfold MF.W64; omega
theorem w_two : MF.W64 4611686018427387904 := by unfold MF.W64; omega
theorem two_two : (Ieee.double.order 4611686018427387904 4611686018427387904 != some .eq) = false := by rw [MF.neq_self]; decide

/-- What holds at each round's head of the first loop. -/
structure WB1 (ls : List Nat) (w1 : World) (i : Nat) (A1 : Option Addr) (c1 : Nat) (ss : List (List UInt8)) (lo hi : Nat) (wr : World) : Prop where
  ssq : ss = (ls.take i).map keyB
  il : i ≤ ls.length
  low : IsLow ls i lo
  high : IsHigh ls i hi
  own : wr.ownsRow 0 9 1 (.slice A1 ss.length c1) ss.length (ss.map encStr)
  new : ∀ k, ob A1 = some k → w1.heap.size ≤ k
  bel : Below w1.heap.size w1 wr

theorem own_next {w1 wr w3 w4 : World} {A2 A4 : Option Addr} (hn : ∀ k, ob A2 = some k → w1.heap.size ≤ k) (hb : Below w1.heap.size w1 wr) (hb3 : Below wr.heap.size wr w3) (hg : w3.grownBy w4 (ob A2)) (hat : ob A4 = ob A2 ∨ ob A4 = some w3.heap.size) :
    (∀ k, ob A4 = some k → w1.heap.size ≤ k) ∧ Below w1.heap.size w1 w4 := by
  have hB : Below w1.heap.size w1 w3 := hb.trans (hb3.mono hb.size)
  have hK : Kp (fun k => ob A2 = some k) w3 w4 := (Kp.refl _ w3).grown hg (fun k e => .inl e)
  refine ⟨fun k e => ?_, hB.trans (hK.below hB.size (fun j hj x => by have := hn j x; omega))⟩
  rcases hat with x | x
  · exact hn k (x ▸ e)
  · rw [x] at e; injection e with e; have := hB.size; omega
theorem WB1.step {ls : List Nat} {w1 wr w3 w4 : World} {i : Nat} {A2 A4 : Option Addr} {c2 c4 : Nat} {ss : List (List UInt8)} {lo hi lo' hi' : Nat} {b : List UInt8} {v : Value} (h : WB1 ls w1 i A2 c2 ss lo hi wr) (hb3 : Below wr.heap.size wr w3) (hg : w3.grownBy w4 (ob A2)) (hat : ob A4 = ob A2 ∨ ob A4 = some w3.heap.size)
    (ho : w4.ownsRow 0 9 1 (.slice A4 (ss.length + 1) c4) (ss.length + 1) (ss.map encStr ++ [v])) (hv : v = encStr b) (hss : ss ++ [b] = (ls.take (i + 1)).map keyB) (hi : i < ls.length) (hlo : IsLow ls (i + 1) lo') (hhi : IsHigh ls (i + 1) hi') : WB1 ls w1 (i + 1) A4 c4 (ss ++ [b]) lo' hi' w4 := by
  obtain ⟨h1, h2⟩ := own_next h.new h.bel hb3 hg hat
  refine ⟨hss, hi, hlo, hhi, ?_, h1, h2⟩
  rw [List.map_append, List.map_singleton, List.length_append, ← hv]
  exact ho
/-- What holds at each round's head of the second loop. -/
structure WB2 (ls : List Nat) (w5 : World) (j : Nat) (A6 : Option Addr) (c6 : Nat) (os : List Nat) (wr : World) : Prop where
  osq : os = (outs ls).take j
  jl : j ≤ ls.length
  own : wr.ownsRow 0 42 1 (.slice A6 os.length c6) os.length (fc os)
  new : ∀ k, ob A6 = some k → w5.heap.size ≤ k
  bel : Below w5.heap.size w5 wr
theorem WB2.step {ls : List Nat} {w1 wr w3 w4 : World} {i : Nat} {A2 A4 : Option Addr} {c2 c4 : Nat} {os : List Nat} {x : Nat} (h : WB2 ls w1 i A2 c2 os wr) (hb3 : Below wr.heap.size wr w3) (hg : w3.grownBy w4 (ob A2)) (hat : ob A4 = ob A2 ∨ ob A4 = some w3.heap.size)
    (ho : w4.ownsRow 0 42 1 (.slice A4 (os.length + 1) c4) (os.length + 1) (fc os ++ [.float .f64 x])) (hos : os ++ [x] = (outs ls).take (i + 1)) (hi : i < ls.length) : WB2 ls w1 (i + 1) A4 c4 (os ++ [x]) w4 := by
  obtain ⟨h1, h2⟩ := own_next h.new h.bel hb3 hg hat
  refine ⟨hos, hi, ?_, h1, h2⟩
  rw [fc_snoc, List.length_append]
  exact ho
theorem str_cells {w : World} {A : Option Addr} {c n : Nat} {ss : List (List UInt8)} (ho : w.ownsRow 0 9 1 (.slice A n c) n (ss.map encStr)) (hn : 0 < n) (hl : ss.length = n) :
    ∃ g, A = some ⟨g, 0, none⟩ ∧ g < w.heap.size ∧ ∀ j (hj : j < ss.length), w.cell? ⟨g, j, none⟩ = some (.string ⟨(ss[j]).toArray⟩) := by
  have hin := own_inside ho
  rcases ho.2 with ⟨_, h0⟩ | ⟨g, cap, cur, hv, _⟩
  · omega
  · injection hv with hA _ hc
    subst hA hc
    refine ⟨g, rfl, hin _ rfl, fun j hj => ?_⟩
    rw [ho.cellAt j (by omega), List.getElem?_map, List.getElem?_eq_getElem hj]
    rfl
theorem flo_cells {w : World} {A : Option Addr} {c n : Nat} {os : List Nat} (ho : w.ownsRow 0 42 1 (.slice A n c) n (fc os)) (hn : 0 < n) (hl : os.length = n) :
    ∃ g, A = some ⟨g, 0, none⟩ ∧ g < w.heap.size ∧ ∀ j (hj : j < os.length), w.cell? ⟨g, j, none⟩ = some (.float .f64 os[j]) := by
  have hin := own_inside ho
  rcases ho.2 with ⟨_, h0⟩ | ⟨g, cap, cur, hv, _⟩
  · omega
  · injection hv with hA _ hc
    subst hA hc
    refine ⟨g, rfl, hin _ rfl, fun j hj => ?_⟩
    rw [ho.cellAt j (by omega), fc, List.getElem?_map, List.getElem?_eq_getElem hj]
    rfl
theorem rless_no (a b : Nat) (w : World) (ha : MF.W64 a) (hb : MF.W64 b) (h : MF.less a b = false) : Calls Try.prog 35 #[.float .f64 a, .float .f64 b] w fun e w' => e = .returned (.bool false) ∧ w' = w :=
  (rless_any a b w ha hb).mono fun _ _ ⟨h1, h2⟩ => ⟨by rw [h1, h], h2.symm⟩
theorem read_key (x y : Nat) (hx : MF.W64 x) (hy : numB (keyB x) = y) (sb : ByteArray) (hsb : sb = ⟨(keyB x).toArray⟩) (w : World) (cap : Nat) :
    Calls Try.prog 15 #[.slice (some ⟨w.heap.size, 0, none⟩) sb.size cap, .string ⟨#[102]⟩, .int .i64 0] (Lib.bytesWorld w 5 sb) fun e w' => ∃ g c, e = .returned (.tuple #[.slice (some ⟨g, 0, none⟩) 1 c, fltV 0 0]) ∧ w'.cell? ⟨g, 3, none⟩ = some (.float .f64 y) ∧ Below w.heap.size w w' := by
  subst hsb hy
  have hs : (⟨(keyB x).toArray⟩ : ByteArray).size = (keyB x).length := by show (keyB x).toArray.size = _; rw [List.size_toArray]
  have hB := bts_bw w 5 ⟨(keyB x).toArray⟩
  have hd : (⟨(keyB x).toArray⟩ : ByteArray).data.toList = keyB x := by simp
  rw [hd] at hB
  rw [hs]
  refine (read_any (some ⟨w.heap.size, 0, none⟩) cap (keyB x) ⟨#[102]⟩ 0 _ hB (by rw [keyB_length]; unfold Lim; omega) (by show Lim 1; unfold Lim; omega) (by decide)).mono ?_
  have e1 : ((⟨#[102]⟩ : ByteArray).data.toList) = [102] := rfl
  rw [e1, read_keyB hx]
  rintro e w' ⟨A2, c2, rfl, ho, _, hb⟩
  rcases ho.2 with ⟨_, h0⟩ | ⟨g, cap', cur, hv, _⟩
  · cases h0
  · injection hv with hA _ hc
    subst hA hc
    exact ⟨g, c2, rfl, ho.cells (g := g) rfl 3 _ rfl, (below_bw w _ _).trans (hb.mono (below_bw w _ _).size)⟩

set_option maxHeartbeats 4000000 in
set_option maxRecDepth 100000 in
theorem wholeBytes_any (A : Option Addr) (c : Nat) (ls : List Nat) (w : World) (hw : ∀ y ∈ ls, MF.W64 y) (hl : Fls w A ls) :
    Calls Try.prog 11 #[.slice A ls.length c] w fun e w' => e = .returned (.bool true) ∧ Below w.heap.size w w' := by
  obtain ⟨i0, hi0, hz0, hz1, hz2⟩ := info_parts str_info
  obtain ⟨i1, hj0, hy0, hy1, hy2⟩ := info_parts flo_info
  have Hw := Lib.hid hw
  have Hl := Lib.hid hl
  clear hw hl
  by_cases h0 : ls.length = 0
  · have h0' : ((ls.length : Int) == 0) = true := by simp [h0]
    go_enter Try.func11, Try.ntmps11
    go_wp2_with (first
      | (go_at_call 14; refine (writeF_one 4607182418800017408 w_one w).mono ?_; rintro e w1 ⟨A1, c1, rfl, ho1, hb1⟩; have hcv := conv_own ho1 (PK.placeB_length _) rfl; rw [key_one] at hcv; clear ho1)
      | (go_at_call 32; refine (max_any _ _ _ w_one w_two).mono ?_; rintro e w2 ⟨rfl, rfl⟩; rw [mx_two]))
    go_ret
    exact ⟨rfl, hb1⟩
  have h0' : ((ls.length : Int) == 0) = false := by rw [beq_eq_false_iff_ne]; omega
  by_cases h2 : 200 < ls.length
  · have h2' : decide ((200 : Int) < (ls.length : Int)) = true := by simp; omega
    go_enter Try.func11, Try.ntmps11
    go_wp2_with (first
      | (go_at_call 14; refine (writeF_one 4607182418800017408 w_one w).mono ?_; rintro e w1 ⟨A1, c1, rfl, ho1, hb1⟩; have hcv := conv_own ho1 (PK.placeB_length _) rfl; rw [key_one] at hcv; clear ho1)
      | (go_at_call 32; refine (max_any _ _ _ w_one w_two).mono ?_; rintro e w2 ⟨rfl, rfl⟩; rw [mx_two]))
    go_ret
    exact ⟨rfl, hb1⟩
  have h2' : decide ((200 : Int) < (ls.length : Int)) = false := by simp; omega
  obtain ⟨b, off, rfl, hbl, hcell⟩ : ∃ b off, A = some ⟨b, off, none⟩ ∧ b < w.heap.size ∧ ∀ i y, ls[i]? = some y → w.cell? ⟨b, off + i, none⟩ = some (.float .f64 y) := by
    rcases Hl.out with e | h
    · rw [e] at h0; simp at h0
    · exact h
  have hpos : 0 < ls.length := by omega
  have hn200 : (ls.length : Int) ≤ 200 := by omega
  have hpi : (0 : Int) < (ls.length : Int) := by omega
  have Hcell := Lib.hid hcell
  have hc0 : w.cell? ⟨b, off, none⟩ = some (.float .f64 ls[0]) := by have := hcell 0 ls[0] (List.getElem?_eq_getElem hpos); rwa [Nat.add_zero] at this
  have hw0 := Hw.out ls[0] (List.getElem_mem _)
  have hlo0 : IsLow ls 0 ls[0] := ⟨hw0, ⟨_, List.getElem_mem hpos, rfl⟩, fun x hx => by simp at hx⟩
  have hhi0 : IsHigh ls 0 ls[0] := ⟨hw0, ⟨_, List.getElem_mem hpos, rfl⟩, fun x hx => by simp at hx⟩
  generalize ls[0] = l0 at *
  clear hcell hw0
  go_enter Try.func11, Try.ntmps11
  go_wp2_with (first
      | (go_at_call 14; refine (writeF_one 4607182418800017408 w_one w).mono ?_; rintro e w1 ⟨A1, c1, rfl, ho1, hb1⟩; have hcv := conv_own ho1 (PK.placeB_length _) rfl; rw [key_one] at hcv; clear ho1)
      | (go_at_call 32; refine (max_any _ _ _ w_one w_two).mono ?_; rintro e w2 ⟨rfl, rfl⟩; rw [mx_two]))
  have hc1 := (hb1.cell (p := ⟨b, off, none⟩) hbl).trans hc0
  clear hcv hc0
  go_quiet (fail)
  go_wp2_with fail
  go_loopw [4, 5, 6, 41] (fun t4 t5 t6 t41 wr => ∃ (i : Nat) (A1 : Option Addr) (c1 : Nat) (ss : List (List UInt8)) (lo hi : Nat), t4 = .slice A1 ss.length c1 ∧ t5 = .float .f64 lo ∧ t6 = .float .f64 hi ∧ t41 = .int .i64 i ∧ WB1 ls w1 i A1 c1 ss lo hi wr) (fun _ _ _ t _ => ls.length - (intOf t).toNat)
  case atStart => exact ⟨0, none, 0, [], l0, l0, rfl, rfl, rfl, rfl, rfl, Nat.zero_le _, hlo0, hhi0, World.ownsRow_nil _ _ _ _, (fun k e => by cases e), below_drewN (Below.refl _ _) _⟩
  case round =>
    obtain ⟨i, A2, c2, ss, lo, hi, rfl, rfl, rfl, rfl, hv⟩ := hrel
    have hB : Below w.heap.size w wr := hb1.trans (hv.bel.mono hb1.size)
    by_cases hlt : i < ls.length
    · have hcx := (hB.cell (p := ⟨b, off + i, none⟩) hbl).trans (Hcell.out i ls[i] (List.getElem?_eq_getElem hlt))
      have hwx := Hw.out ls[i] (List.getElem_mem _)
      have hlo := hv.low.step hlt Hw.out
      have hhi := hv.high.step hlt Hw.out
      have hss : ss ++ [keyB ls[i]] = (ls.take (i + 1)).map keyB := by rw [hv.ssq, List.take_succ_eq_append_getElem hlt, List.map_append, List.map_singleton]
      have hsl : ss.length = i := by rw [hv.ssq, List.length_map, List.length_take, Nat.min_eq_left hv.il]
      have hl1 : Lim (ss.length + 1) := by rw [hsl]; unfold Lim; omega
      obtain ⟨sa, hsa⟩ : ∃ sa : ByteArray, sa = ⟨(keyB ls[i]).toArray⟩ := ⟨_, rfl⟩
      have hse : Value.string sa = encStr (keyB ls[i]) := by rw [hsa, encStr]
      have Hsa := Lib.hid hsa
      have Hse := Lib.hid hse
      have Hss := Lib.hid hss
      have Hlo := Lib.hid hlo
      have Hhi := Lib.hid hhi
      have Hwx := Lib.hid hwx
      have Hv := Lib.hid hv
      have Hsl := Lib.hid hsl
      clear hsa hse hss hlo hhi hwx hv hsl
      generalize ls[i] = x at *
      go_wp2_with (first
        | (go_at_call 14; refine (writeF_one x Hwx.out wr).mono ?_; rintro e w3 ⟨A3, c3, rfl, ho3, hb3⟩; have hcv := conv_own ho3 (PK.placeB_length _) Hsa.out; clear ho3)
        | (at_builtin
           refine wpList_append_at rfl (.tmp 45) (.tmp 51) _ _ rfl 9 i0 _ 1 16 Try.underlying68 hi0 hz0 hz1 hz2 rfl A2 ss.length c2 (ss.map encStr) rfl ((own_below Hv.out.own hb3).alloc _) _ 1 _ rfl (src_newk Try.underlying68 _ #[.string sa] _ rfl rfl (MM.one_cell rfl)) hl1.len (hl1.fit 16 (by omega)) ?_
           intro A4 c4 w4 ho4 hg4 hat4)
        | (go_at_call 33; refine (min_any lo x _ Hv.out.low.w Hwx.out).mono ?_; rintro e w5 ⟨rfl, rfl⟩)
        | (go_at_call 32; refine (max_any hi x _ Hv.out.high.w Hwx.out).mono ?_; rintro e w6 ⟨rfl, rfl⟩))
      refine ⟨?_, ?_⟩
      · iterate 23 apply Exists.intro
        refine And.intro ?_ rfl
        refine ⟨i + 1, A4, c4, ss ++ [keyB x], MF.mn lo x, MF.mx hi x, ?_, rfl, rfl, ?_, ?_⟩
        · rw [List.length_append]; rfl
        · go_num
        · exact Hv.out.step (hb3.alloc hb3.size _) hg4 hat4 ho4 Hse.out Hss.out hlt Hlo.out Hhi.out
      · simp [intOf]
        omega
    · have hie : i = ls.length := by have := hv.il; omega
      subst hie
      have hssl : ss.length = ls.length := by rw [hv.ssq, List.length_map, List.take_length]
      have hl1 : Lim ss.length := by rw [hssl]; unfold Lim; omega
      have hown := hv.own
      rw [hssl] at hown
      have hsort := sort_own A2 c2 ss ls.length wr hown hssl.symm (by omega) hl1
      have hsb : (ss.mergeSort fun x y => decide (x ≤ y)) = sortB ls := by rw [hv.ssq, List.take_length]; rfl
      rw [hsb] at hsort
      have Hsort := Lib.hid hsort
      have Hlow := Lib.hid hv.low
      have Hhigh := Lib.hid hv.high
      have Hv := Lib.hid hv
      rw [hssl]
      clear hsort hsb hv hown hl1
      have Hssl := Lib.hid hssl
      clear hssl
      go_wp2_with (go_at_call 34; refine Hsort.out.mono ?_; rintro e w5 ⟨rfl, ho5, hg5⟩)
      have hB5 : Below w.heap.size w w5 := by
        have := (own_next Hv.out.new Hv.out.bel (Below.refl _ wr) hg5 (.inl rfl)).2
        exact hb1.trans (this.mono hb1.size)
      have Ho5 := Lib.hid ho5
      clear ho5 hg5 Hsort
      obtain ⟨g, hA2, hgl, hgc⟩ := str_cells Ho5.out hpos (sortB_length ls)
      have Hgc := Lib.hid hgc
      have hcvs : ∀ (s : ByteArray) (w : World), (convert 9 26 (.string s)).run Try.prog w = .ok (.slice (some ⟨w.heap.size, 0, none⟩) s.size (grownCap w s.size 0 5)) (Lib.bytesWorld w 5 s) :=
        fun s w => Lib.run_convert_string_bytes w 9 26 5 s Try.underlying9 Try.underlying26 Try.underlying5
      clear hgc
      subst hA2
      go_loopw [9, 64] (fun t9 t64 wr => ∃ (j : Nat) (A6 : Option Addr) (c6 : Nat) (os : List Nat), t9 = .slice A6 os.length c6 ∧ t64 = .int .i64 j ∧ WB2 ls w5 j A6 c6 os wr) (fun _ t _ => ls.length - (intOf t).toNat)
      case atStart => exact ⟨0, none, 0, [], rfl, rfl, rfl, Nat.zero_le _, World.ownsRow_nil _ _ _ _, (fun k e => by cases e), Below.refl _ _⟩
      case round =>
        obtain ⟨j, A6, c6, os, rfl, rfl, hv⟩ := hrel
        have hB : Below w.heap.size w wr := hB5.trans (hv.bel.mono hB5.size)
        by_cases hlt : j < ls.length
        · have hjs : j < (sortB ls).length := by rw [sortB_length]; exact hlt
          have hjo : j < (outs ls).length := by rw [outs_length]; exact hlt
          have hcx := (hv.bel.cell (p := ⟨g, j, none⟩) hgl).trans (Hgc.out j hjs)
          obtain ⟨x, hx, ex⟩ := sortB_mem.1 (List.getElem_mem (l := sortB ls) (n := j) hjs)
          obtain ⟨y, hy⟩ : ∃ y, numB (keyB x) = y := ⟨_, rfl⟩
          have hos : os ++ [y] = (outs ls).take (j + 1) := by
            rw [← hy]
            rw [hv.osq, List.take_succ_eq_append_getElem hjo]
            congr 2
            rw [ex]
            simp [outs]
          have hwx := Hw.out x hx
          obtain ⟨sb, hsb⟩ : ∃ sb : ByteArray, sb = ⟨(keyB x).toArray⟩ := ⟨_, rfl⟩
          rw [← ex, ← hsb] at hcx
          have hl1 : Lim (os.length + 1) := by rw [hv.osq, List.length_take]; unfold Lim; omega
          have Hos := Lib.hid hos
          have Hy := Lib.hid hy
          have Hwx := Lib.hid hwx
          have Hsb := Lib.hid hsb
          have Hv := Lib.hid hv
          clear hos hwx hsb hv ex hx hy
          go_wp2_with (first
            | (go_at_call 15; refine (read_key x y Hwx.out Hy.out sb Hsb.out wr _).mono ?_; rintro e w6 ⟨g6, c6', rfl, hf6, hb6⟩; have hf7 := fun o => below_keep ((Below.refl _ w6).alloc (Nat.le_refl _) o) hf6)
            | (at_builtin
               refine wpList_append_at rfl (.tmp 82) (.tmp 87) _ _ rfl 42 i1 _ 1 8 Try.underlying66 hj0 hy0 hy1 hy2 rfl A6 os.length c6 (fc os) rfl (((own_below Hv.out.own hb6).alloc _).alloc _) _ 1 _ rfl (src_newk Try.underlying66 _ #[.float .f64 y] _ (by simp) rfl (MM.one_cell rfl)) hl1.len (hl1.fit 8 (by omega)) ?_
               intro A7 c7 w7 ho7 hg7 hat7))
          refine ⟨?_, ?_⟩
          · refine ⟨j + 1, A7, c7, os ++ [y], ?_, ?_, ?_⟩
            · rw [List.length_append]; rfl
            · go_num
            · exact Hv.out.step ((hb6.alloc hb6.size _).alloc (by simp; have := hb6.size; omega) _) hg7 hat7 ho7 Hos.out hlt
          · simp [intOf]
            omega
        · have hje : j = ls.length := by have := hv.jl; omega
          subst hje
          have hosl : os.length = ls.length := by rw [hv.osq, List.length_take, outs_length, Nat.min_self]
          have hoo : os = outs ls := hv.osq.trans (List.take_of_length_le (Nat.le_of_eq (outs_length ls)))
          have hown := hv.own
          rw [hosl, hoo] at hown
          obtain ⟨g2, hA6, hg2l, hg2c⟩ := flo_cells hown hpos (outs_length ls)
          have Hg2 := Lib.hid hg2c
          have Hv := Lib.hid hv
          rw [hosl]
          have Hosl := Lib.hid hosl
          have Hoo := Lib.hid hoo
          clear hg2c hown hv hosl hoo
          subst hA6
          go_wp2_with fail
          go_loopw [14] (fun t14 wx => ∃ k : Nat, t14 = .int .i64 k ∧ 1 ≤ k ∧ k ≤ ls.length ∧ Below wr.heap.size wr wx) (fun t _ => ls.length - (intOf t).toNat)
          case atStart => exact ⟨1, rfl, by omega, hpos, Below.refl _ _⟩
          case round =>
            obtain ⟨k, rfl, hk1, hkl, hbx⟩ := hrel
            have hol := outs_length ls
            by_cases hkt : k < ls.length
            · obtain ⟨k, rfl⟩ : ∃ k', k = k' + 1 := ⟨k - 1, by omega⟩
              have hka : k + 1 < (outs ls).length := by omega
              have hkb : k < (outs ls).length := by omega
              have ca := (hbx.cell (p := ⟨g2, k + 1, none⟩) hg2l).trans (Hg2.out (k + 1) hka)
              have cb := (hbx.cell (p := ⟨g2, k, none⟩) hg2l).trans (Hg2.out k hkb)
              have hla : MF.less ((outs ls)[k + 1]) ((outs ls)[k]) = false := by
                have := outs_sorted Hw.out (show k ≤ k + 1 by omega) hka
                unfold MF.less
                simp
                omega
              have wa := (outs_key Hw.out hka).1
              have wb := (outs_key Hw.out hkb).1
              generalize (outs ls)[k + 1] = a1 at *
              generalize (outs ls)[k] = b1 at *
              have hki : (k : Int) + 1 < (ls.length : Int) := by omega
              have hki2 : (k : Int) < (ls.length : Int) := by omega
              have hki3 : (0 : Int) ≤ (k : Int) + 1 := by omega
              have hki5 : IntKind.i64.wrap (k : Int) = (k : Int) := by rw [IntKind.wrap_i64]; omega
              have Hwa := Lib.hid wa
              have Hwb := Lib.hid wb
              have Hla := Lib.hid hla
              clear wa wb hol hla
              go_wp2_with fail
              go_quiet (first | (go_at_call 35; refine Calls.quiet_of_same (rless_no a1 b1 _ Hwa.out Hwb.out Hla.out)))
              go_wp2_with fail
              refine ⟨⟨k + 1 + 1, by go_num, by omega, by omega, below_drewN hbx nq⟩, ?_⟩
              simp [intOf]
              omega
            · have hke : k = ls.length := by omega
              subst hke
              have hn0 : 0 < (outs ls).length := by omega
              have hn1 : (outs ls).length - 1 < (outs ls).length := by omega
              have ca := (hbx.cell (p := ⟨g2, 0, none⟩) hg2l).trans (Hg2.out 0 hn0)
              have cb := (hbx.cell (p := ⟨g2, (outs ls).length - 1, none⟩) hg2l).trans (Hg2.out _ hn1)
              have s1 := low_same Hw.out Hlow.out hn0
              have s2 := high_same Hw.out Hhigh.out hn1
              have wa := (outs_key Hw.out hn0).1
              have wb := (outs_key Hw.out hn1).1
              generalize (outs ls)[0] = a1 at *
              generalize (outs ls)[(outs ls).length - 1] = b1 at *
              rw [hol] at cb
              have Hwa := Lib.hid wa
              have Hwb := Lib.hid wb
              have Hs1 := Lib.hid s1
              have Hs2 := Lib.hid s2
              obtain ⟨n', hn'⟩ : ∃ n', ls.length = n' + 1 := ⟨ls.length - 1, by omega⟩
              rw [show ls.length - 1 = n' by omega] at cb
              have hw5 : IntKind.i64.wrap (n' : Int) = (n' : Int) := by rw [IntKind.wrap_i64]; omega
              have hp3 : (0 : Int) < (n' : Int) + 1 := by omega
              have hp4 : (n' : Int) < (n' : Int) + 1 := by omega
              clear wa wb s1 s2
              go_wp2_with (first
                | (go_at_call_of 21 (Value.float .f64 a1); refine (same_any a1 lo _ Hwa.out Hlow.out.w).mono ?_; rintro e w8 ⟨rfl, rfl⟩; rw [Hs1.out])
                | (go_at_call_of 21 (Value.float .f64 b1); refine (same_any b1 hi _ Hwb.out Hhigh.out.w).mono ?_; rintro e w8 ⟨rfl, rfl⟩; rw [Hs2.out]))
              go_ret
              exact ⟨rfl, hB.trans (hbx.mono hB.size)⟩

end Go.Proofs.Ytmfjacehompmmaa
