/- Rows of noughts, of units. -/
import Derived.Test.YtejkcmklhmifaaaGreatDoorRowS
import Derived.Test.YtejkcmklhmifaaaGreatDoorEach
import Derived.Test.YtejkcmklhmifaaaGreatDoorDyF
namespace Go.Proofs.YtejkcmklhmifaaaGreatDoor
open Go Go.RowKit Go.Shelf AM
theorem calZero : Callable Tryz.prog 20 := zeroQ0_f.1
/-- So many noughts. -/
def nul (n : Nat) : List Rat := List.replicate n 0
theorem nul_len (n : Nat) : (nul n).length = n := List.length_replicate ..
theorem nul_get {n k : Nat} (h : k < n) : (nul n)[k]? = some 0 := by unfold nul; rw [List.getElem?_replicate, if_pos h]
def dimN (z : Int) : Nat := (min (max z 0) 16).toNat
theorem dimN_le (z : Int) : dimN z ≤ 16 := by unfold dimN; omega
theorem norm_dim {z : Int} : Norm (.one (.cel (.raw (.int .i64 (min (max z 0) 16))))) (.one (.cel (.raw (.int .i64 (dimN z : Int))))) := Norm.of_eq (by
  rw [show min (max z 0) 16 = (dimN z : Int) by unfold dimN; omega])
def zeroT (n : Nat) (k : Nat) : List Av := mkT 20 [(3, .one (.cel (.row 4 0 n n))), (10, .one (.cel (.raw (.int .i64 (n : Int))))), (11, .one (.cel (.raw (.int .i64 ((k : Nat) : Int)))))]
def zeroV (n : Nat) (k : Nat) : List (Nat × VarSt) := [(4, ⟨27, fillL rqC rqZ n (nul n) k, true, .yes (fill_shut rqC_shut rqZ_shut)⟩)]
set_option maxRecDepth 100000 in
theorem zero_round {n : Nat} {k : Nat} (hn : n ≤ 16) (hk : k < n) : AM.Moves Tryz.prog Glob (loopN Tryz.f40 0) (zeroT n k) (zeroV n k) .normal (zeroT n (k + 1)) (zeroV n (k + 1)) := by
  have hT : AllOk Tryz.prog Glob [
    Tr.norm 9 (Av.one (Sv.cel (Cv.raw (Value.bool (decide ((↑k : Int) < (↑n : Int))))))) (Av.one (boolS true)),
    Tr.call 20 [] [] (Av.one (rq (0 : Rat))),
    Tr.toldAt 15 (Op.indexAddr 28 (Operand.tmp 14) (Operand.tmp 15)) 0 [Av.one (Sv.cel (Cv.row (nat_lit 4) (nat_lit 0) n n)), Av.one (intS (↑k : Int))] (.one (.cel (.ptr 4 (k * 3)))),
    Tr.sto (fillL rqC rqZ n (nul n) k) (k * 3) [Cv.raw (Value.bool (decide (Rat.num (0 : Rat) < (0 : Int)))), Cv.ent (nat (Int.natAbs (Rat.num (0 : Rat)))), Cv.ent (nat (Rat.den (0 : Rat)))] (fillL rqC rqZ n (nul n) (k + 1)) (.yes (fill_shut rqC_shut rqZ_shut)),
    Tr.norm 17 (Av.one (intS (IntKind.wrap IntKind.i64 ((↑k : Int) + (1 : Int))))) (Av.one (intS (↑(k + (1 : Nat)) : Int)))] := ⟨
    norm_bool (lt_true hk),
    zeroQ0_f,
    own_ok (e := 27) (s := 3) (j := k) (by kernel_rfl) (by kernel_rfl) rfl hk (Nat.zero_add _).symm,
    ⟨fill_room (y := 0) rqC_len rfl (nul_len n) hk rfl, fill_put rqC_len rfl (nul_len n) (nul_get hk) rfl⟩,
    norm_succ (hk) (by omega), trivial⟩
  exact moves_of_trace (n := 200) (k := 9) (keep := [3, 10, 11]) (ids := [4]) hT (by kernel_rfl)

set_option maxRecDepth 100000 in
theorem zero_exit {n : Nat}  : AM.Moves Tryz.prog Glob (loopN Tryz.f40 0) (zeroT n n) (zeroV n n) (.exit 0) (zeroT n n) (zeroV n n) := by
  have hT : AllOk Tryz.prog Glob [
    Tr.norm 9 (Av.one (Sv.cel (Cv.raw (Value.bool (decide ((↑n : Int) < (↑n : Int))))))) (Av.one (boolS false))] := ⟨
    norm_bool (lt_false), trivial⟩
  exact moves_of_trace (n := 200) (k := 9) (keep := [3, 10, 11]) (ids := [4]) hT (by kernel_rfl)

theorem zero_loop {n : Nat} (hn : n ≤ 16) :
    AM.Moves Tryz.prog Glob (.loop (loopN Tryz.f40 0)) (zeroT n 0) (zeroV n 0) (.exit 0) (zeroT n n) (zeroV n n) :=
  loop_moves (n := n) (tm := fun k => (zeroT n k)) (vr := fun k => (zeroV n k)) (fun k hk => zero_round hn hk) (by simp) zero_exit
set_option maxRecDepth 100000 in
theorem zero_fo {z : Int} : FitsO Tryz.prog Glob 40 [.cel (.raw (.int .i64 z))] [] (.one (.cel (.row 0 0 (dimN z) (dimN z)))) ⟨27, fillL rqC rqZ (dimN z) (nul (dimN z)) (dimN z), true, .yes (fill_shut rqC_shut rqZ_shut)⟩ := by
  have hT : AllOk Tryz.prog Glob [
    Tr.prim 2 (Op.call { callee := Callee.builtin Builtin.max, args := #[Operand.tmp 5, Operand.const (Value.int IntKind.i64 (0 : Int))], argTypes := #[(3 : Nat), (3 : Nat)] }) (nat_lit 3) [Value.int IntKind.i64 z, Value.int IntKind.i64 (Int.ofNat (nat_lit 0))] (Value.int IntKind.i64 (max z (0 : Int))),
    Tr.prim 3 (Op.call { callee := Callee.builtin Builtin.min, args := #[Operand.tmp 6, Operand.const (Value.int IntKind.i64 (16 : Int))], argTypes := #[(3 : Nat), (3 : Nat)] }) (nat_lit 3) [Value.int IntKind.i64 (max z (0 : Int)), Value.int IntKind.i64 (Int.ofNat (nat_lit 16))] (Value.int IntKind.i64 (↑(dimN z) : Int)),
    Tr.make (Op.makeSlice 28 (Operand.tmp 7) (Operand.tmp 7)) 28 [Av.one (intS (↑(dimN z) : Int)), Av.one (intS (↑(dimN z) : Int))] (⟨27, fillL rqC rqZ (dimN z) (nul (dimN z)) 0, true, .yes (fill_shut rqC_shut rqZ_shut)⟩) (dimN z) (dimN z),
    Tr.loop ((loopN Tryz.f40 0)) [nat_lit 3, nat_lit 10, nat_lit 11] [nat_lit 4] ((zeroT (dimN z) 0)) ((zeroV (dimN z) 0)) (Exit.exit (nat_lit 0)) ((zeroT (dimN z) (dimN z))) ((zeroV (dimN z) (dimN z))) (nat_lit 100)] := ⟨
    prim_max rfl,
    prim_min (show min (max z 0) 16 = (dimN z : Int) by unfold dimN; omega),
    new_ok (e := 27) (z := rqZ) (N := dimN z) (by kernel_rfl) (by kernel_rfl) rfl rfl (by have := dimN_le z; omega) rfl rfl rfl,
    zero_loop (dimN_le z), trivial⟩
  exact fitsO_of_trace (n := 300) (k0 := 0) (x := 4) hT Tryz.func40 (by kernel_rfl) (by kernel_rfl) (by kernel_rfl)

theorem own_row {f : FuncId} {args : List Sv} {mem : List (Nat × VarSt)} {n c : Nat} {s : VarSt} (cs : List Cv) (h : FitsO Tryz.prog Glob f args mem (.one (.cel (.row 0 0 n c))) s) (hs : s.cs = cs) : FitsP f args mem (.one (.cel (.ent (rowOf n cs)))) :=
  h.fits fun g W v hat hr => by
    obtain ⟨g', h1, h2⟩ := hr
    unfold only at h1
    rw [if_pos rfl] at h1; injection h1 with h1; subst h1
    exact ⟨_, c, h2, .inr ⟨g, 0, rfl, hs ▸ hat⟩⟩
theorem zero_f {z : Int} : FitsP 40 [.cel (.raw (.int .i64 z))] [] (.one (.cel (.ent (rowOf (dimN z) ((nul (dimN z)).flatMap rqC))))) := own_row _ zero_fo (fill_full (nul_len _))
/-- One at one place, if there is such. -/
def unitL (n : Nat) (z : Int) : List Rat := if 0 ≤ z ∧ z < n then (nul n).set z.toNat 1 else nul n
theorem unitL_len (n : Nat) (z : Int) : (unitL n z).length = n := by unfold unitL; split <;> simp [nul_len]
theorem flat_put {α : Type} {E : α → List Cv} {s : Nat} {y : α} (hE : ∀ y, (E y).length = s) : ∀ {ys : List α} {j : Nat}, j < ys.length → putL (ys.flatMap E) (j * s) (E y) = (ys.set j y).flatMap E
  | [], _, h => by simp at h
  | x :: ys, 0, _ => by
    unfold putL
    simp only [Nat.zero_mul, List.take_zero, List.nil_append, Nat.zero_add, List.flatMap_cons, List.set_cons_zero]
    rw [hE, ← hE x, List.drop_left' rfl]
  | x :: ys, j + 1, h => by
    have ih := flat_put (y := y) hE (ys := ys) (j := j) (by simpa using h)
    unfold putL at ih ⊢
    rw [List.set_cons_succ, List.flatMap_cons, List.flatMap_cons, ← ih, show (j + 1) * s = (E x).length + j * s by rw [hE, Nat.succ_mul, Nat.add_comm], List.take_append, List.take_of_length_le (Nat.le_add_right _ _), Nat.add_sub_cancel_left,
      Nat.add_assoc, List.drop_append, List.drop_eq_nil_of_le (Nat.le_add_right _ _), Nat.add_sub_cancel_left]
    simp
theorem unit_in {n : Nat} {z : Int} (h0 : 0 ≤ z) (h1 : z < n) {o : Nat} (ho : o = z.toNat * 3) : o + (rqC 1).length ≤ (fillL rqC rqZ n (nul n) n).length ∧ fillL rqC rqZ n (unitL n z) n = putL (fillL rqC rqZ n (nul n) n) o (rqC 1) := by
  subst ho
  rw [fill_full (nul_len n), fill_full (unitL_len n z), flat_len rqC_len, nul_len, rqC_len]
  refine ⟨by omega, ?_⟩
  rw [flat_put rqC_len (by rw [nul_len]; omega)]
  unfold unitL
  rw [if_pos ⟨h0, h1⟩]
theorem unit_out {n : Nat} {z : Int} (h : ¬ (0 ≤ z ∧ z < n)) : unitL n z = nul n := if_neg h
theorem zero_n {z : Int} {n : Nat} (h : dimN z = n) : FitsO Tryz.prog Glob 40 [.cel (.raw (.int .i64 z))] [] (.one (.cel (.row 0 0 n n))) ⟨27, fillL rqC rqZ n (nul n) n, true, .yes (fill_shut rqC_shut rqZ_shut)⟩ := by subst h; exact zero_fo
set_option maxRecDepth 100000 in
theorem unit_in_fo {z a : Int} {n : Nat} (hn : dimN z = n) (h0 : 0 ≤ a) (h1 : a < (n : Int)) : FitsO Tryz.prog Glob 47 [.cel (.raw (.int .i64 z)), .cel (.raw (.int .i64 a))] [] (.one (.cel (.row 0 0 n n))) ⟨27, fillL rqC rqZ n (unitL n a) n, true, .yes (fill_shut rqC_shut rqZ_shut)⟩ := by
  have hT : AllOk Tryz.prog Glob [
    Tr.callo 40 [intS z] [] (.one (.cel (.row 0 0 n n))) (⟨27, fillL rqC rqZ n (nul n) n, true, .yes (fill_shut rqC_shut rqZ_shut)⟩),
    Tr.norm 6 (Av.one (Sv.cel (Cv.raw (Value.bool (decide (a ≥ (0 : Int))))))) (Av.one (boolS true)),
    Tr.norm 11 (Av.one (Sv.cel (Cv.raw (Value.bool (decide (a < (↑n : Int))))))) (Av.one (boolS true)),
    Tr.call 15 [intS (Int.ofNat (nat_lit 1)), intS (Int.ofNat (nat_lit 1))] [] (Av.one (rq (1 : Rat))),
    Tr.toldAt 15 (Op.indexAddr 28 (Operand.tmp 16) (Operand.tmp 17)) 0 [Av.one (Sv.cel (Cv.row (nat_lit 2) (nat_lit 0) n n)), Av.one (intS a)] (.one (.cel (.ptr 2 (a.toNat * 3)))),
    Tr.sto (fillL rqC rqZ n (nul n) n) (a.toNat * 3) [Cv.raw (Value.bool (decide (Rat.num (1 : Rat) < (0 : Int)))), Cv.ent (nat (Int.natAbs (Rat.num (1 : Rat)))), Cv.ent (nat (Rat.den (1 : Rat)))] (fillL rqC rqZ n (unitL n a) n) (.yes (fill_shut rqC_shut rqZ_shut))] := ⟨
    zero_n hn,
    norm_bool (decide_eq_true h0),
    norm_bool (decide_eq_true h1),
    ofQ_lit (a := 1) (d := 1) 1 (by unfold inI64; omega) (by unfold inI64; omega) Nat.one_ne_zero (by decide +kernel),
    own_ok (e := 27) (s := 3) (j := a.toNat) (by kernel_rfl) (by kernel_rfl) (show a = (a.toNat : Int) by omega) (show a.toNat < n by omega) (Nat.zero_add _).symm,
    unit_in h0 h1 rfl, trivial⟩
  exact fitsO_of_trace (n := 300) (k0 := 0) (x := 2) hT Tryz.func47 (by kernel_rfl) (by kernel_rfl) (by kernel_rfl)

set_option maxRecDepth 100000 in
theorem unit_lo_fo {z a : Int} {n : Nat} (hn : dimN z = n) (h0 : ¬ 0 ≤ a) : FitsO Tryz.prog Glob 47 [.cel (.raw (.int .i64 z)), .cel (.raw (.int .i64 a))] [] (.one (.cel (.row 0 0 n n))) ⟨27, fillL rqC rqZ n (nul n) n, true, .yes (fill_shut rqC_shut rqZ_shut)⟩ := by
  have hT : AllOk Tryz.prog Glob [
    Tr.callo 40 [intS z] [] (.one (.cel (.row 0 0 n n))) (⟨27, fillL rqC rqZ n (nul n) n, true, .yes (fill_shut rqC_shut rqZ_shut)⟩),
    Tr.norm 6 (Av.one (Sv.cel (Cv.raw (Value.bool (decide (a ≥ (0 : Int))))))) (Av.one (boolS false))] := ⟨
    zero_n hn,
    norm_bool (decide_eq_false h0), trivial⟩
  exact fitsO_of_trace (n := 300) (k0 := 0) (x := 2) hT Tryz.func47 (by kernel_rfl) (by kernel_rfl) (by kernel_rfl)

set_option maxRecDepth 100000 in
theorem unit_hi_fo {z a : Int} {n : Nat} (hn : dimN z = n) (h0 : 0 ≤ a) (h1 : ¬ a < (n : Int)) : FitsO Tryz.prog Glob 47 [.cel (.raw (.int .i64 z)), .cel (.raw (.int .i64 a))] [] (.one (.cel (.row 0 0 n n))) ⟨27, fillL rqC rqZ n (nul n) n, true, .yes (fill_shut rqC_shut rqZ_shut)⟩ := by
  have hT : AllOk Tryz.prog Glob [
    Tr.callo 40 [intS z] [] (.one (.cel (.row 0 0 n n))) (⟨27, fillL rqC rqZ n (nul n) n, true, .yes (fill_shut rqC_shut rqZ_shut)⟩),
    Tr.norm 6 (Av.one (Sv.cel (Cv.raw (Value.bool (decide (a ≥ (0 : Int))))))) (Av.one (boolS true)),
    Tr.norm 11 (Av.one (Sv.cel (Cv.raw (Value.bool (decide (a < (↑n : Int))))))) (Av.one (boolS false))] := ⟨
    zero_n hn,
    norm_bool (decide_eq_true h0),
    norm_bool (decide_eq_false h1), trivial⟩
  exact fitsO_of_trace (n := 300) (k0 := 0) (x := 2) hT Tryz.func47 (by kernel_rfl) (by kernel_rfl) (by kernel_rfl)

theorem unit_f {z a : Int} : FitsP 47 [.cel (.raw (.int .i64 z)), .cel (.raw (.int .i64 a))] [] (.one (.cel (.ent (rowOf (dimN z) ((unitL (dimN z) a).flatMap rqC))))) := by
  by_cases h0 : 0 ≤ a
  · by_cases h1 : a < (dimN z : Int)
    · exact own_row _ (unit_in_fo rfl h0 h1) (fill_full (unitL_len _ _))
    · rw [unit_out (fun h => h1 h.2)]; exact own_row _ (unit_hi_fo rfl h0 h1) (fill_full (nul_len _))
  · rw [unit_out (fun h => h0 h.1)]; exact own_row _ (unit_lo_fo rfl h0) (fill_full (nul_len _))end Go.Proofs.YtejkcmklhmifaaaGreatDoor
