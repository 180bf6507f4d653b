/- Contracts of the document's own answers for layer 3: a record as parts, and as bytes. -/
import Derived.Test.YtaaeefndhmfceaaGreatDoorBig3
import Derived.Test.YtaaeefndhmfceaaGreatDoorRec10
namespace Go.Proofs.YtaaeefndhmfceaaGreatDoor
open Go.RowKit MM

abbrev rpV (q : PK.Rp) : Value := .agg q.cells
def pU (n : Nat) : PK.Rp := ⟨117, n, 0, 0, ⟨#[]⟩, false⟩
def pI (i : Int) : PK.Rp := ⟨105, 0, i, 0, ⟨#[]⟩, false⟩
def pF (x : Nat) : PK.Rp := ⟨102, 0, 0, MF.key x, ⟨#[]⟩, false⟩
def pS (s : ByteArray) : PK.Rp := ⟨115, 0, 0, 0, s, false⟩

set_option maxHeartbeats 1000000 in
set_option maxRecDepth 100000 in
theorem rplace1_any (x : Nat) (w : World) (hx : MF.W64 x) :
    Calls Tryz.prog 83 #[.float .f64 x] w fun e w' => e = .returned (.int .u64 (MF.key x : Nat)) ∧ w = w' := by
  cases hn : MF.nan x
  · have Hk := Lib.hid (MF.key_num hx hn)
    rcases MF.parts hx with ⟨h1, h2, h3⟩ | ⟨h1, h2, h3⟩
    · have He := Lib.hid (show MF.key x = 9223372036854775808 + x by rw [Hk.out, h1]; simp; omega)
      have hge : decide ((9223372036854775808 : Int) ≤ (x : Int)) = false := by simp; omega
      have H3 := Lib.hid h3
      clear Hk h1 h2 h3
      go_enter Tryz.func83, Tryz.ntmps83
      go_wp2_with (first | (go_at_call 70; refine (rnone_any x _ _ hn).mono ?_; rintro e w' ⟨rfl, rfl⟩))
      go_ret
      exact ⟨ret_int (by rw [IntKind.wrap_u64, He.out]; have := H3.out; omega), rfl⟩
    · have He := Lib.hid (show MF.key x = 9223372036854775807 - (x - 9223372036854775808) by rw [Hk.out, h1]; simp; omega)
      have hge : decide ((9223372036854775808 : Int) ≤ (x : Int)) = true := by simp; omega
      have H3 := Lib.hid h3
      clear Hk h1 h2 h3
      go_enter Tryz.func83, Tryz.ntmps83
      go_wp2_with (first | (go_at_call 70; refine (rnone_any x _ _ hn).mono ?_; rintro e w' ⟨rfl, rfl⟩))
      go_ret
      exact ⟨ret_int (by rw [IntKind.wrap_u64, IntKind.wrap_u64, He.out]; have := H3.out; unfold MF.W64 at hx; omega), rfl⟩
  · have Hk := Lib.hid (MF.key_nan hn)
    go_enter Tryz.func83, Tryz.ntmps83
    go_wp2_with (first | (go_at_call 70; refine (rnone_any x _ _ hn).mono ?_; rintro e w' ⟨rfl, rfl⟩))
    go_ret
    exact ⟨ret_nat (m := 18444492273895866369) rfl Hk.out, rfl⟩

set_option maxHeartbeats 1000000 in
set_option maxRecDepth 100000 in
theorem ru3_any (n : Nat) (w : World) (hn : n ≤ 1000) :
    Calls Tryz.prog 146 #[.int .i64 (n : Int)] w fun e w' => e = .returned (.agg #[.int .u8 117, .int .u64 n, .int .i64 0, .int .u64 0, .string ⟨#[]⟩, .bool false]) ∧ Below w.heap.size w w' := by
  go_enter Tryz.func146, Tryz.ntmps146
  go_wp2_with fail
  exact bodyPost_ret (v := .agg #[.int .u8 117, .int .u64 n, .int .i64 0, .int .u64 0, .string ⟨#[]⟩, .bool false]) (by simp [results, Tryz.results146, go_sem]) rfl ⟨rfl, below1 w _⟩

set_option maxHeartbeats 1000000 in
set_option maxRecDepth 100000 in
theorem ri3_any (n : Int) (w : World) :
    Calls Tryz.prog 148 #[.int .i64 n] w fun e w' => e = .returned (.agg #[.int .u8 105, .int .u64 0, .int .i64 n, .int .u64 0, .string ⟨#[]⟩, .bool false]) ∧ Below w.heap.size w w' := by
  go_enter Tryz.func148, Tryz.ntmps148
  go_wp2_with fail
  exact bodyPost_ret (v := .agg #[.int .u8 105, .int .u64 0, .int .i64 n, .int .u64 0, .string ⟨#[]⟩, .bool false]) (by simp [results, Tryz.results148, go_sem]) rfl ⟨rfl, below1 w _⟩

set_option maxHeartbeats 1000000 in
set_option maxRecDepth 100000 in
theorem rs3_any (s : ByteArray) (w : World) :
    Calls Tryz.prog 147 #[.string s] w fun e w' => e = .returned (.agg #[.int .u8 115, .int .u64 0, .int .i64 0, .int .u64 0, .string s, .bool false]) ∧ Below w.heap.size w w' := by
  go_enter Tryz.func147, Tryz.ntmps147
  go_wp2_with fail
  exact bodyPost_ret (v := .agg #[.int .u8 115, .int .u64 0, .int .i64 0, .int .u64 0, .string s, .bool false]) (by simp [results, Tryz.results147, go_sem]) rfl ⟨rfl, below1 w _⟩

set_option maxHeartbeats 1000000 in
set_option maxRecDepth 100000 in
theorem rf3_any (x : Nat) (w : World) (hx : MF.W64 x) :
    Calls Tryz.prog 149 #[.float .f64 x] w fun e w' => e = .returned (.agg #[.int .u8 102, .int .u64 0, .int .i64 0, .int .u64 (MF.key x : Nat), .string ⟨#[]⟩, .bool false]) ∧ Below w.heap.size w w' := by
  have HP := Lib.hid (fun w => rplace1_any x w hx)
  generalize MF.key x = y at *
  go_enter Tryz.func149, Tryz.ntmps149
  go_wp2_with (first | (go_at_call 83; refine (HP.out _).mono ?_; rintro e w' ⟨rfl, rfl⟩))
  exact bodyPost_ret (v := .agg #[.int .u8 102, .int .u64 0, .int .i64 0, .int .u64 y, .string ⟨#[]⟩, .bool false]) (by simp [results, Tryz.results149, go_sem]) rfl ⟨rfl, below1 w _⟩

/-- A record as the document's parts. -/
def itP (k : Int) (x : RC.It) : List PK.Rp := if k = 9 then [pF x.score, pS x.name] else [pS x.name]
def itsP (k : Int) (l : List RC.It) : List PK.Rp := l.flatMap (itP k)
def fieldP (r : RC.Rc) : List PK.Rp :=
  if r.kind = 1 then [pS r.text]
  else if r.kind = 2 ∨ r.kind = 3 then [pI r.num]
  else if r.kind = 4 then [pI r.low, pI r.high, pI r.num]
  else if r.kind = 5 ∨ r.kind = 6 ∨ r.kind = 7 then [pF r.real]
  else [pU r.cap.toNat, pU r.list.length] ++ itsP r.kind r.list
def recP (r : RC.Rc) : List PK.Rp := pU r.kind.toNat :: fieldP r

def rpCells (qs : List PK.Rp) : List Value := qs.flatMap fun q => q.cells.toList
theorem rpCells_snoc (qs : List PK.Rp) (q : PK.Rp) : rpCells (qs ++ [q]) = rpCells qs ++ q.cells.toList := by simp [rpCells]
theorem rpart_info : (Tryz.prog.info? 115).map (fun i => (i.zero, i.size, i.bytes)) = some (some (.agg #[.int .u8 0, .int .u64 0, .int .i64 0, .int .u64 0, .string ⟨#[]⟩, .bool false]), 6, 56) := by kernel_rfl
theorem rp_one (q : PK.Rp) : ∀ u ∈ q.cells.toList, u.oneCell' = true := by
  intro u hu
  simp only [PK.Rp.cells, List.mem_cons, List.mem_nil_iff, or_false] at hu
  rcases hu with rfl | rfl | rfl | rfl | rfl | rfl <;> rfl

end Go.Proofs.YtaaeefndhmfceaaGreatDoor
