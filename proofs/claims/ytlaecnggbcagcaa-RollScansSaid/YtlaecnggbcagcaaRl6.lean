/- Entries in memory; contract of roll.Scan. -/
import Derived.Test.YtlaecnggbcagcaaRl5
import Derived.OwnWalk
namespace Go.Proofs.Ytlaecnggbcagcaa
open Go.RowKit MM
set_option linter.unusedVariables false
set_option linter.unusedSimpArgs false

/-- A value that is a slice of bytes, in blocks of E. -/
def EntV (w : World) (E : Nat → Prop) (v : Value) (x : List UInt8) : Prop := ∃ a c, v = .slice a x.length c ∧ Bts w a x ∧ x.length ≤ c ∧ (a = none → c = 0) ∧ ∀ k, ob a = some k → E k ∧ k < w.heap.size
/-- A slice of such, nobody else's. -/
structure EntsO (w : World) (E : Nat → Prop) (A : Option Addr) (c : Nat) (es : List (List UInt8)) (vs : List Value) : Prop where
  own : w.ownsRow 0 51 1 (.slice A es.length c) es.length vs
  ev : ∀ (i : Nat) (x : List UInt8) (v : Value), es[i]? = some x → vs[i]? = some v → EntV w E v x
  blk : ∀ k, ob A = some k → E k
  sep : ∀ v ∈ vs, ∀ k, v.ownBlock = some k → ob A ≠ some k
theorem EntV.keep {S E : Nat → Prop} {w w' : World} {v : Value} {x : List UInt8} (h : EntV w E v x) (hk : Kp S w w') (hn : ∀ k, v.ownBlock = some k → ¬ S k) : EntV w' E v x := by
  obtain ⟨a, c, rfl, hb, hc, h0, hE⟩ := h
  exact ⟨a, c, rfl, hb.kp hk fun ad e => hn _ (by rw [ownBlock_slice, e]; rfl), hc, h0, fun k e => ⟨(hE k e).1, Nat.lt_of_lt_of_le (hE k e).2 hk.size⟩⟩
theorem EntV.mono {E E' : Nat → Prop} {w : World} {v : Value} {x : List UInt8} (h : EntV w E v x) (hE : ∀ k, k < w.heap.size → E k → E' k) : EntV w E' v x := by
  obtain ⟨a, c, rfl, hb, hc, h0, h1⟩ := h
  exact ⟨a, c, rfl, hb, hc, h0, fun k e => ⟨hE k (h1 k e).2 (h1 k e).1, (h1 k e).2⟩⟩
theorem EntV.blk {E : Nat → Prop} {w : World} {v : Value} {x : List UInt8} (h : EntV w E v x) : ∀ k, v.ownBlock = some k → E k ∧ k < w.heap.size := by
  obtain ⟨a, c, rfl, hb, hc, h0, h1⟩ := h
  intro k e
  rw [ownBlock_slice] at e
  exact h1 k e
theorem EntV.own {E : Nat → Prop} {w : World} {A : Option Addr} {c : Nat} {x : List UInt8} (h : w.ownsRow 0 5 1 (.slice A x.length c) x.length (bc x)) (hE : ∀ k, ob A = some k → E k) : EntV w E (.slice A x.length c) x :=
  ⟨A, c, rfl, Bts.own h, own_room h, fun e => by subst e; exact own_cap h, fun k e => ⟨hE k e, (h.lt k (by rw [ownBlock_slice]; exact e)).2⟩⟩
theorem EntsO.len {w : World} {E : Nat → Prop} {A : Option Addr} {c : Nat} {es : List (List UInt8)} {vs : List Value} (h : EntsO w E A c es vs) : vs.length = es.length := by
  have := h.own.1
  omega
theorem EntsO.get {w : World} {E : Nat → Prop} {A : Option Addr} {c : Nat} {es : List (List UInt8)} {vs : List Value} (h : EntsO w E A c es vs) {v : Value} (hv : v ∈ vs) : ∃ x, EntV w E v x := by
  obtain ⟨i, hi⟩ := List.getElem?_of_mem hv
  have hl : i < es.length := by rw [← h.len]; exact (List.getElem?_eq_some_iff.1 hi).1
  exact ⟨_, h.ev i _ v (List.getElem?_eq_getElem hl) hi⟩
theorem EntsO.keep {S E : Nat → Prop} {w w' : World} {A : Option Addr} {c : Nat} {es : List (List UInt8)} {vs : List Value} (h : EntsO w E A c es vs) (hk : Kp S w w') (hn : ∀ k, E k → k < w.heap.size → ¬ S k) : EntsO w' E A c es vs :=
  ⟨own_kp h.own hk fun b e => hn b (h.blk b (by rw [ownBlock_slice] at e; exact e)) (h.own.lt b e).2, fun i x v hx hv => (h.ev i x v hx hv).keep hk fun k e => hn k ((h.ev i x v hx hv).blk k e).1 ((h.ev i x v hx hv).blk k e).2, h.blk, h.sep⟩
theorem EntsO.below {E : Nat → Prop} {w w' : World} {A : Option Addr} {c : Nat} {es : List (List UInt8)} {vs : List Value} (h : EntsO w E A c es vs) (hb : Below w.heap.size w w') : EntsO w' E A c es vs := h.keep (Kp.of_below hb (fun _ => False)) fun _ _ _ x => x
theorem EntsO.mono {E E' : Nat → Prop} {w : World} {A : Option Addr} {c : Nat} {es : List (List UInt8)} {vs : List Value} (h : EntsO w E A c es vs) (hE : ∀ k, k < w.heap.size → E k → E' k) : EntsO w E' A c es vs :=
  ⟨h.own, fun i x v hx hv => (h.ev i x v hx hv).mono hE, fun k e => hE k (h.own.lt k (by rw [ownBlock_slice]; exact e)).2 (h.blk k e), h.sep⟩
theorem EntsO.nil (w : World) (E : Nat → Prop) : EntsO w E none 0 [] [] := ⟨World.ownsRow_nil _ _ _ _, fun i x v hx => by simp at hx, fun k e => (by cases e), fun v hv => by cases hv⟩
/-- One more behind the others. -/
theorem EntsO.push {w w3 : World} {E : Nat → Prop} {A A3 : Option Addr} {c c3 : Nat} {es : List (List UInt8)} {vs : List Value} {v : Value} {x : List UInt8} {o : Obj} (h : EntsO w E A c es vs) (hv : EntV w E v x) (hs : ∀ k, v.ownBlock = some k → ob A ≠ some k)
    (hg : (w.alloc o).grownBy w3 (ob A)) (hat : ob A3 = ob A ∨ ob A3 = some (w.alloc o).heap.size) (ho : w3.ownsRow 0 51 1 (.slice A3 (es.length + 1) c3) (es.length + 1) (vs ++ [v])) (hE : ∀ k, w.heap.size ≤ k → E k) : EntsO w3 E A3 c3 (es ++ [x]) (vs ++ [v]) := by
  have hk : Kp (fun k => ob A = some k) w w3 := ((Kp.refl _ w).alloc o).grown hg (fun k e => .inl e)
  have hvk := hv.keep hk fun k e => hs k e
  have hsz : (w.alloc o).heap.size = w.heap.size + 1 := by simp
  refine ⟨by rw [List.length_append]; exact ho, fun i y u hy hu => ?_, fun k e => ?_, fun u hu k e => ?_⟩
  · by_cases hi : i < es.length
    · rw [List.getElem?_append_left hi] at hy
      rw [List.getElem?_append_left (by rw [h.len]; exact hi)] at hu
      exact (h.ev i y u hy hu).keep hk fun k e => h.sep u (List.mem_of_getElem? hu) k e
    · have h1 : i < (es ++ [x]).length := (List.getElem?_eq_some_iff.1 hy).1
      rw [List.length_append] at h1
      have hi2 : i = es.length := by simp at h1; omega
      subst hi2
      rw [List.getElem?_append_right (Nat.le_refl _)] at hy
      rw [List.getElem?_append_right (by rw [h.len]; exact Nat.le_refl _), h.len] at hu
      simp at hy hu
      subst hy hu
      exact hvk
  · rcases hat with y | y
    · rw [y] at e; exact h.blk k e
    · rw [y] at e; injection e with e; exact hE k (by omega)
  · have hlt : k < w.heap.size ∧ ob A ≠ some k := by
      rcases List.mem_append.1 hu with y | y
      · obtain ⟨z, hz⟩ := h.get y
        exact ⟨(hz.blk k e).2, h.sep u y k e⟩
      · have : u = v := by simpa using y
        subst this
        exact ⟨(hv.blk k e).2, hs k e⟩
    rcases hat with y | y
    · rw [y]; exact hlt.2
    · rw [y]; intro z; injection z with z; omega
theorem bt_info3 : (Try.prog.info? 51).map (fun i => (i.zero, i.size, i.bytes)) = some (some (.slice none 0 0), 1, 24) := by kernel_rfl

/-- Where a piece of sectors begins. -/
def cut64 (A : Option Addr) (lo cap : Nat) : Option Addr := if cap = lo then A else A.map (·.add (lo * 64))
theorem cut64_block {A : Option Addr} {lo c : Nat} {a : Addr} (h : cut64 A lo c = some a) : ∃ a', A = some a' ∧ a'.block = a.block := by
  unfold cut64 at h
  split at h
  · exact ⟨a, h, rfl⟩
  · obtain ⟨a', h1, h2⟩ := Option.map_eq_some_iff.1 h
    exact ⟨a', h1, by rw [← h2]; unfold Addr.add; split <;> rfl⟩
theorem slice_from64 (A : Option Addr) (n c lo : Nat) (h1 : lo ≤ n) (w : World) : (Instr.slice 63 (.slice A n c) (some (.int .i64 (lo : Int))) none none).run Try.prog w = .ok (.slice (cut64 A lo c) (n - lo) (c - lo)) w := by
  have h1' : (lo : Int) ≤ (n : Int) := by omega
  have h0 : (0 : Int) ≤ (lo : Int) := by omega
  go_simp
  rfl
theorem Sls.drop {w : World} {A : Option Addr} {L : List (List UInt8)} (h : Sls w A L) {n cap : Nat} (hn : n ≤ L.length) (hc : L.length ≤ cap) : Sls w (cut64 A n cap) (L.drop n) := by
  unfold cut64
  split
  · exact .inl (List.drop_eq_nil_of_le (by omega))
  · rcases h with h | ⟨b, off, he, hl, hr⟩
    · exact .inl (by rw [h, List.drop_nil])
    · subst he
      refine .inr ⟨b, off + n * 64, by rw [Option.map_some, add_plain], hl, fun i s hi => ?_⟩
      rw [List.getElem?_drop] at hi
      have := hr (n + i) s hi
      rw [show off + n * 64 + i * 64 = off + (n + i) * 64 by rw [Nat.add_mul]; omega]
      exact this

def slLen : Value → Nat | .slice _ n _ => n | _ => 0
/-- What Scan tells of an area that may be used. -/
def ScanPost (d : Dk) (f n : Nat) (w : World) (e : Ending) (w' : World) : Prop :=
  Below w.heap.size w w' ∧ ∃ es vs A c r, Scn (areaL d f n) es r ∧ r.length ≤ n ∧ e = .returned (.tuple #[.slice A es.length c, .int .i64 ((n : Int) - (r.length : Int)), .int .i64 0]) ∧ EntsO w' (fun k => w.heap.size ≤ k) A c es vs

theorem scan_err (p : Nat) (B : Nat → Prop) (d : Dk) (f n : Int) (hf : -9223372036854775808 ≤ f ∧ f ≤ 9223372036854775807) (w : World) (he : areaE d f n ≠ 0) (h : Dsk w p B d) :
    Calls Try.prog 40 #[.pointer (some ⟨p, 0, none⟩), .agg (arV f n)] w fun e w' => e = .returned (.tuple #[.slice none 0 0, .int .i64 0, .int .i64 (areaE d f n : Nat)]) ∧ Below w.heap.size w w' := by
  have hA := (Below.refl w.heap.size w).alloc (Nat.le_refl _) (.cells (arV f n) 65)
  have HCk := Lib.hid (check_any p B d f n hf _ (h.below hA))
  have HB := Lib.hid hA
  have hne : ¬ ((areaE d f n : Nat) : Int) = 0 := by omega
  generalize areaE d f n = e at *
  clear h hA he
  go_enter Try.func40, Try.ntmps40
  go_wp2_with (first
    | (refine wpList_load_row rfl _ _ rfl w.heap.size rfl 65 _ (0, 0) _ (heap_alloc_new _ _) Try.underlying65 rfl (area_info f n) ?_)
    | (go_at_call 63; refine HCk.out.mono ?_; rintro e w2 ⟨rfl, hb2⟩; have HB2 := Lib.hid hb2; clear hb2))
  go_ret3
  exact ⟨rfl, HB.out.trans (HB2.out.mono HB.out.size)⟩

set_option maxHeartbeats 4000000 in
set_option maxRecDepth 100000 in
theorem scan_ok (p : Nat) (B : Nat → Prop) (d : Dk) (f n : Nat) (w : World) (hd : d.down = false) (hn : 0 < n) (hfn : f + n ≤ d.now.length) (h : Dsk w p B d) :
    Calls Try.prog 40 #[.pointer (some ⟨p, 0, none⟩), .agg (arV f n)] w (ScanPost d f n w) := by
  have hA := (Below.refl w.heap.size w).alloc (Nat.le_refl _) (.cells (arV f n) 65)
  have hLim : d.now.length ≤ 4096 := by have := h.ok.lim; have := h.ok.len; omega
  have HCk := Lib.hid (check_any p B d f n (by omega) _ (h.below hA))
  have HRd := Lib.hid (fun w9 (h9 : Below w.heap.size w w9) => read_any p B d f n w9 hd hfn (h.below h9))
  rw [show areaE d f n = 0 by unfold areaE; rw [if_neg (by rw [hd]; decide), if_neg (by omega)]] at HCk
  have HB := Lib.hid hA
  obtain ⟨L, hL⟩ : ∃ L, L = areaL d f n := ⟨_, rfl⟩
  have HLL := Lib.hid (show L.length = n by rw [hL]; exact areaL_len hfn)
  have HLs := Lib.hid (show ∀ s ∈ L, s.length = 64 by rw [hL]; exact areaL_secs h.ok f n)
  have HPost := Lib.hid (show ∀ e w', (Below w.heap.size w w' ∧ ∃ es vs A c r, Scn L es r ∧ r.length ≤ n ∧ e = .returned (.tuple #[.slice A es.length c, .int .i64 ((n : Int) - (r.length : Int)), .int .i64 0]) ∧ EntsO w' (fun k => w.heap.size ≤ k) A c es vs) → ScanPost d f n w e w' by rw [hL]; exact fun e w' h => h)
  rw [← hL] at HRd
  have hn4 : n ≤ 4096 := by omega
  have hn4' : (n : Int) ≤ 4096 := by omega
  obtain ⟨i2, hi2, hz0, hz1, hz2⟩ := info_parts bt_info3
  clear h hA hd hfn hLim hL
  go_enter Try.func40, Try.ntmps40
  go_wp2_with (first
    | (refine wpList_load_row rfl _ _ rfl w.heap.size rfl 65 _ (0, 0) _ (heap_alloc_new _ _) Try.underlying65 rfl (area_info f n) ?_)
    | (refine wpList_load_row rfl _ _ rfl w.heap.size rfl 65 _ (0, 0) _ HR2.out Try.underlying65 rfl (area_info f n) ?_)
    | (go_at_call 63; refine HCk.out.mono ?_; rintro e w2 ⟨rfl, hb2⟩; have HB2 := Lib.hid (HB.out.trans (hb2.mono HB.out.size)); have HR2 := Lib.hid ((hb2.block _ (by simp)).trans (heap_alloc_new w (.cells (arV f n) 65))); clear hb2)
    | (go_at_call 64; refine (HRd.out _ HB2.out).mono ?_; rintro e w3 ⟨g, rfl, hg, hgk, hb3⟩; have HB3 := Lib.hid (HB2.out.trans (hb3.mono HB2.out.size)); have HR3 := Lib.hid ((hb3.block _ (lt_of_heap HR2.out)).trans HR2.out); have HG3 := Lib.hid hg; clear hb3 hg hgk))
  have HSl := Lib.hid (show Sls w3 (some ⟨g, 0, none⟩) L from Sls.row HLs.out HG3.out)
  have HW3 := Lib.hid (lt_of_heap HR3.out)
  clear HG3 HRd HCk HR2 HB2 HB
  go_loopw [8, 9] (fun t8 t9 wr => ∃ (es : List (List UInt8)) (vs : List Value) (Ae : Option Addr) (ce : Nat) (rest : List (List UInt8)) (Al : Option Addr) (cl : Nat), t8 = .slice Ae es.length ce ∧ t9 = .slice Al rest.length cl ∧ L = (es.map secsL).flatten ++ rest ∧ (∀ e ∈ es, e.length ≤ 3840) ∧ EntsO wr (fun k => w3.heap.size ≤ k) Ae ce es vs ∧ Sls wr Al rest ∧ (∀ a, Al = some a → a.block < w3.heap.size) ∧ rest.length ≤ cl ∧ es.length + rest.length ≤ n ∧ wr.heap[w.heap.size]? = some (.cells (arV f n) 65 (0, 0)) ∧ Below w3.heap.size w3 wr) (fun _ t9 _ => slLen t9)
  case atStart => exact ⟨[], [], none, 0, L, some ⟨g, 0, none⟩, n, rfl, by rw [HLL.out], rfl, fun e he => (by cases he), EntsO.nil _ _, HSl.out, fun a ha => by injection ha with ha; subst ha; obtain ⟨b, off, hb, hlt, _⟩ := HSl.out.at_ (i := 0) (by rw [HLL.out]; exact hn); injection hb with hb; injection hb with hb _ _; subst hb; exact hlt, by rw [HLL.out]; exact Nat.le_refl _, by rw [HLL.out]; simp, HR3.out, Below.refl _ _⟩
  case round =>
    obtain ⟨es, vs, Ae, ce, rest, Al, cl, rfl, rfl, hsp, hel, hen, hsl, hab, hcl, hlen, hrow, hbw⟩ := hrel
    have HSp := Lib.hid hsp
    have HEl := Lib.hid hel
    have HEn := Lib.hid hen
    have HSl2 := Lib.hid hsl
    have HAb := Lib.hid hab
    have HCl := Lib.hid hcl
    have HLen := Lib.hid hlen
    have HRow := Lib.hid hrow
    have HBw := Lib.hid hbw
    have HRs := Lib.hid (show ∀ s ∈ rest, s.length = 64 from fun s hs => HLs.out s (by rw [hsp]; exact List.mem_append_right _ hs))
    clear hsp hel hen hsl hab hcl hlen hrow hbw HSl HR3
    go_wp2_with fail
    refine (first_any Al cl rest wr HSl2.out HRs.out HCl.out (by have := HLen.out; omega)).mono ?_
    rintro e w4 ⟨hb4, ⟨b, A4, c4, hfst, rfl, ho4, hk4⟩ | ⟨hno, v, rfl⟩⟩
    · have HB4 := Lib.hid hb4
      have HF4 := Lib.hid hfst
      have HO4 := Lib.hid ho4
      have HK4 := Lib.hid (show ∀ k, ob A4 = some k → wr.heap.size ≤ k from hk4)
      have HNl := Lib.hid hfst.le
      have HNp := Lib.hid (needN_pos b.length)
      have HBl := Lib.hid hfst.1
      have HNd := Lib.hid (fun w9 => need_any b.length (by have := HBl.out; omega) w9)
      obtain ⟨N, hN⟩ : ∃ N, N = needN b.length := ⟨_, rfl⟩
      rw [← hN] at HNd HNl HNp
      have HNe := Lib.hid hN
      have hcut := slice_from64 Al rest.length cl N HNl.out
      have hes : es.length ≤ 4096 := by have := HLen.out; omega
      have HEn4 := Lib.hid (HEn.out.below hb4)
      clear hb4 hfst ho4 hk4 hN
      go_wp2_with (first
        | (at_builtin
           refine wpList_append_at rfl (.tmp 34) (.tmp 36) _ _ rfl 51 i2 _ 1 24 Try.underlying66 hi2 hz0 hz1 hz2 rfl Ae es.length ce vs rfl (HEn4.out.own.alloc _) _ 1 _ rfl (src_one Try.underlying66 _ _ rfl) (by unfold maxLen; omega) (by omega) ?_
           intro A5 c5 w5 ho5 hg5 hat5
           have HEn5 := Lib.hid (HEn4.out.push (EntV.own HO4.out (fun k e => Nat.le_trans HBw.out.size (HK4.out k e))) (fun k e z => by
             rw [ownBlock_slice] at e
             have h1 := HK4.out k e
             have h2 := (HEn.out.own.lt k (by rw [ownBlock_slice]; exact z)).2
             omega) hg5 hat5 ho5 (fun k hk => Nat.le_trans (Nat.le_trans HBw.out.size HB4.out.size) hk))
           have hb5 : Below w3.heap.size w4 w5 := ((Kp.refl (fun k => ob Ae = some k) w4).alloc _).grown hg5 (fun k e => .inl e) |>.below (Nat.le_trans HBw.out.size HB4.out.size) (fun k hk e => by have := HEn.out.blk k e; omega)
           have HB5 := Lib.hid (HBw.out.trans ((HB4.out.mono HBw.out.size).trans hb5))
           have HK5 := Lib.hid ((Kp.of_below HB4.out (fun k => ob Ae = some k)).same (((Kp.refl (fun k => ob Ae = some k) w4).alloc _).grown hg5 (fun k e => .inl e)))
           clear ho5 hg5 hat5 hb5)
        | (go_at_call 50; refine (HNd.out _).mono ?_; rintro e wq ⟨rfl, hq⟩; rw [hq]; clear hq wq))
      go_roundw
      case rel =>
        have hab : ∀ k, k < w3.heap.size → ¬ ob Ae = some k := fun k hk e => by have := HEn.out.blk k e; omega
        refine ⟨es ++ [b], vs ++ [_], _, _, rest.drop N, cut64 Al N cl, cl - N, ?_, ?_, ?_, ?_, HEn5.out, ?_, ?_, ?_, ?_, ?_, HB5.out⟩
        · rw [List.length_append]; rfl
        · rw [List.length_drop]
        · rw [HNe.out]; exact scn_snoc HSp.out HF4.out
        · intro e he
          rcases List.mem_append.1 he with y | y
          · exact HEl.out e y
          · have : e = b := by simpa using y
            rw [this]; exact HBl.out
        · exact (HSl2.out.kp HK5.out fun _ a ha => hab _ (HAb.out a ha)).drop HNl.out HCl.out
        · intro a ha
          obtain ⟨a', h1, h2⟩ := cut64_block ha
          rw [← h2]
          exact HAb.out a' h1
        · rw [List.length_drop]; have := HCl.out; omega
        · rw [List.length_append, List.length_drop, List.length_singleton]; have := HLen.out; have := HNl.out; have := HNp.out; omega
        · exact (HK5.out.block _ (lt_of_heap HRow.out) (hab _ HW3.out)).trans HRow.out
      case measure => simp only [slLen]; have := HNl.out; have := HNp.out; omega
    · have HNo := Lib.hid hno
      have HB4 := Lib.hid (HBw.out.trans (hb4.mono HBw.out.size))
      have HR4 := Lib.hid ((hb4.block _ (lt_of_heap HRow.out)).trans HRow.out)
      have HE4 := Lib.hid (HEn.out.below hb4)
      have k1 := cell_of_row _ w.heap.size 1 _ _ (0, 0) HR4.out
      have hw : IntKind.i64.wrap ((n : Int) - (rest.length : Int)) = (n : Int) - (rest.length : Int) := by have := HLen.out; simp [IntKind.wrap, IntKind.signed, IntKind.bits]; omega
      clear hno hb4
      go_wp2_with fail
      go_quiet (fail)
      go_wp2
      go_ret3
      refine HPost.out _ _ ⟨HB3.out.trans ((below_drewN' HB4.out _).mono HB3.out.size), es, vs, Ae, ce, rest, ⟨HSp.out, HEl.out, HNo.out⟩, by have := HLen.out; omega, rfl, ?_⟩
      exact (HE4.out.below (below_drewN' (Below.refl _ _) _)).mono fun k _ hk => Nat.le_trans HB3.out.size hk

end Go.Proofs.Ytlaecnggbcagcaa
