/- VecShapes. -/
import Derived.Test.YtejkcmklhmifaaaGreatDoorVecShap0
namespace Go.Proofs.YtejkcmklhmifaaaGreatDoor
open Go Go.RowKit Go.Shelf AM
def shLT (n p : Nat) (z : Int) (a : List Rat) (k : Nat) : List Av := mkT 141 [(0, .one (intS (n : Int))), (1, .one (intS z)), (2, .one (.cel (.ent (rowOf p (a.flatMap rqC))))), (7, .one (.cel (.ent (rowOf n ((unitL n z).flatMap rqC))))), (47, .one (.cel (.ent (rowOf n ((unitL n z).flatMap rqC))))), (48, .one (.cel (.raw (.int .i64 (n : Int))))), (49, .one (.cel (.raw (.int .i64 ((k : Nat) : Int)))))]
def shLV (_n _p : Nat) (_z : Int) (_a : List Rat) (_k : Nat) : List (Nat × VarSt) := []
theorem beq_int {a b : Int} (h : a = b) : (a == b) = true := by rw [beq_iff_eq]; exact h
theorem beq_intn {a b : Int} (h : a ≠ b) : (a == b) = false := by rw [beq_eq_false_iff_ne]; exact h
set_option maxRecDepth 100000 in
theorem shL_at {n p : Nat} {z : Int} {a : List Rat} {k : Nat} (hn : n ≤ 16) (hk : k < n) (h : (k : Int) = z) : AM.Moves Tryz.prog Glob (loopN Tryz.f7 0) (shLT n p z a k) (shLV n p z a k) .normal (shLT n p z a (k + 1)) (shLV n p z a (k + 1)) := by
  have hT : AllOk Tryz.prog Glob [
    Tr.norm (nat_lit 100) (Av.one (Sv.cel (Cv.raw (Value.bool (decide ((↑k : Int) < (↑n : Int))))))) (Av.one (Sv.cel (Cv.raw (Value.bool true)))),
    Tr.told (Op.indexAddr 28 (Operand.tmp (47 : Nat)) (Operand.tmp (49 : Nat))) 0 [Av.one (Sv.cel (Cv.ent (rowOf n (List.flatMap rqC (unitL n z))))), Av.one (Sv.cel (Cv.raw (Value.int IntKind.i64 (↑k : Int))))] (.one (.cel (.ent (ptrTo (rqC (1 : Rat)))))),
    Tr.told (Op.load 27 (Operand.tmp (52 : Nat))) 27 [Av.one (Sv.cel (Cv.ent (ptrTo [Cv.raw (Value.bool (decide (Rat.num (1 : Rat) < (0 : Int)))), Cv.ent (nat (Int.natAbs (Rat.num (1 : Rat)))), Cv.ent (nat (Rat.den (1 : Rat)))])))] (.one (rq (1 : Rat))),
    Tr.call 49 [Sv.agg [Cv.raw (Value.bool (decide (Rat.num (1 : Rat) < (0 : Int)))), Cv.ent (nat (Int.natAbs (Rat.num (1 : Rat)))), Cv.ent (nat (Rat.den (1 : Rat)))]] [] (Av.one (Sv.cel (Cv.raw (Value.int IntKind.i64 (Int.ofNat (nat_lit 1)))))),
    Tr.norm (nat_lit 112) (Av.one (Sv.cel (Cv.raw (Value.bool ((↑k : Int) == z))))) (Av.one (Sv.cel (Cv.raw (Value.bool true)))),
    Tr.norm (nat_lit 114) (Av.one (Sv.cel (Cv.raw (Value.int IntKind.i64 (IntKind.wrap IntKind.i64 ((↑k : Int) + (1 : Int))))))) (Av.one (Sv.cel (Cv.raw (Value.int IntKind.i64 (↑(k + (1 : Nat)) : Int)))))] := ⟨
    norm_bool (lt_true hk),
    idx_ok (e := 27) (s := 3) (j := k) (by kernel_rfl) (by kernel_rfl) rfl hk (flat_get rqC_len (show (unitL n z)[k]? = some (1 : Rat) by rw [unit_get hk, if_pos h])) (flat_ne rqC_len (by omega) (show (unitL n z)[k]? = some (1 : Rat) by rw [unit_get hk, if_pos h])),
    loadn_ok (by kernel_rfl) (by kernel_rfl) (Nat.le_refl _) rfl,
    signQ_is sign_one,
    norm_bool (beq_int h),
    norm_succ (hk) (by omega), trivial⟩
  exact moves_of_trace (n := 200) (k := 100) (keep := [0, 1, 2, 7, 47, 48, 49]) (ids := []) hT (by kernel_rfl)

set_option maxRecDepth 100000 in
theorem shL_off {n p : Nat} {z : Int} {a : List Rat} {k : Nat} (hn : n ≤ 16) (hk : k < n) (h : (k : Int) ≠ z) : AM.Moves Tryz.prog Glob (loopN Tryz.f7 0) (shLT n p z a k) (shLV n p z a k) .normal (shLT n p z a (k + 1)) (shLV n p z a (k + 1)) := by
  have hT : AllOk Tryz.prog Glob [
    Tr.norm (nat_lit 100) (Av.one (Sv.cel (Cv.raw (Value.bool (decide ((↑k : Int) < (↑n : Int))))))) (Av.one (Sv.cel (Cv.raw (Value.bool true)))),
    Tr.told (Op.indexAddr 28 (Operand.tmp (47 : Nat)) (Operand.tmp (49 : Nat))) 0 [Av.one (Sv.cel (Cv.ent (rowOf n (List.flatMap rqC (unitL n z))))), Av.one (Sv.cel (Cv.raw (Value.int IntKind.i64 (↑k : Int))))] (.one (.cel (.ent (ptrTo (rqC (0 : Rat)))))),
    Tr.told (Op.load 27 (Operand.tmp (52 : Nat))) 27 [Av.one (Sv.cel (Cv.ent (ptrTo [Cv.raw (Value.bool (decide (Rat.num (0 : Rat) < (0 : Int)))), Cv.ent (nat (Int.natAbs (Rat.num (0 : Rat)))), Cv.ent (nat (Rat.den (0 : Rat)))])))] (.one (rq (0 : Rat))),
    Tr.call 49 [Sv.agg [Cv.raw (Value.bool (decide (Rat.num (0 : Rat) < (0 : Int)))), Cv.ent (nat (Int.natAbs (Rat.num (0 : Rat)))), Cv.ent (nat (Rat.den (0 : Rat)))]] [] (Av.one (Sv.cel (Cv.raw (Value.int IntKind.i64 (Int.ofNat (nat_lit 0)))))),
    Tr.norm (nat_lit 112) (Av.one (Sv.cel (Cv.raw (Value.bool ((↑k : Int) == z))))) (Av.one (Sv.cel (Cv.raw (Value.bool false)))),
    Tr.norm (nat_lit 114) (Av.one (Sv.cel (Cv.raw (Value.int IntKind.i64 (IntKind.wrap IntKind.i64 ((↑k : Int) + (1 : Int))))))) (Av.one (Sv.cel (Cv.raw (Value.int IntKind.i64 (↑(k + (1 : Nat)) : Int)))))] := ⟨
    norm_bool (lt_true hk),
    idx_ok (e := 27) (s := 3) (j := k) (by kernel_rfl) (by kernel_rfl) rfl hk (flat_get rqC_len (show (unitL n z)[k]? = some (0 : Rat) by rw [unit_get hk, if_neg h])) (flat_ne rqC_len (by omega) (show (unitL n z)[k]? = some (0 : Rat) by rw [unit_get hk, if_neg h])),
    loadn_ok (by kernel_rfl) (by kernel_rfl) (Nat.le_refl _) rfl,
    signQ_is sign_zero,
    norm_bool (beq_intn h),
    norm_succ (hk) (by omega), trivial⟩
  exact moves_of_trace (n := 200) (k := 100) (keep := [0, 1, 2, 7, 47, 48, 49]) (ids := []) hT (by kernel_rfl)

set_option maxRecDepth 100000 in
theorem shL_exit {n p : Nat} {z : Int} {a : List Rat}  : AM.Moves Tryz.prog Glob (loopN Tryz.f7 0) (shLT n p z a n) (shLV n p z a n) (.exit 0) (shLT n p z a n) (shLV n p z a n) := by
  have hT : AllOk Tryz.prog Glob [
    Tr.norm (nat_lit 100) (Av.one (Sv.cel (Cv.raw (Value.bool (decide ((↑n : Int) < (↑n : Int))))))) (Av.one (Sv.cel (Cv.raw (Value.bool false))))] := ⟨
    norm_bool (lt_false), trivial⟩
  exact moves_of_trace (n := 200) (k := 100) (keep := [0, 1, 2, 7, 47, 48, 49]) (ids := []) hT (by kernel_rfl)

theorem shL_loop {n p : Nat} {z : Int} {a : List Rat} (hn : n ≤ 16) :
    AM.Moves Tryz.prog Glob (.loop (loopN Tryz.f7 0)) (shLT n p z a 0) (shLV n p z a 0) (.exit 0) (shLT n p z a n) (shLV n p z a n) :=
  loop_moves (n := n) (tm := fun k => (shLT n p z a k)) (vr := fun k => (shLV n p z a k)) (fun k hk => by
    by_cases h : (k : Int) = z
    · exact shL_at hn hk h
    · exact shL_off hn hk h) (by simp) shL_exit
set_option maxRecDepth 100000 in
theorem VecShapes_ne {n p : Nat} {z : Int} {a : List Rat} (hn : n ≤ 16) (hp : p ≤ 16) (h1 : a.length = p) (ha : ∀ x ∈ a, BQ 5 x) (h : n ≠ p) : FitsP 7 [intS (n : Int), intS z, ratsN p a] [] (.one (boolS true)) := by
  have hT : AllOk Tryz.prog Glob [
    Tr.call 32 [] [] (Av.one (Sv.cel (Cv.raw (Value.bool true)))),
    Tr.froz,
    Tr.call 33 [Sv.cel (Cv.ent (rowOf (1 : Nat) [Cv.ent (rowOf p (List.flatMap rqC a))]))] [] (Av.one (Sv.cel (Cv.raw (Value.bool true)))),
    Tr.norm (nat_lit 14) (Av.one (Sv.cel (Cv.raw (Value.bool (decide ((↑n : Int) > (16 : Int))))))) (Av.one (Sv.cel (Cv.raw (Value.bool false)))),
    Tr.call 47 [Sv.cel (Cv.raw (Value.int IntKind.i64 (↑n : Int))), Sv.cel (Cv.raw (Value.int IntKind.i64 z))] [] (Av.one (Sv.cel (Cv.ent (rowOf n (List.flatMap rqC (unitL n z)))))),
    Tr.norm (nat_lit 23) (Av.one (Sv.cel (Cv.raw (Value.bool ((↑n : Int) != (↑n : Int)))))) (Av.one (Sv.cel (Cv.raw (Value.bool false)))),
    Tr.call 48 [Sv.cel (Cv.ent (rowOf n (List.flatMap rqC (unitL n z)))), Sv.cel (Cv.raw (Value.int IntKind.i64 (↑n : Int)))] [] (Av.one (Sv.cel (Cv.raw (Value.int IntKind.i64 (Int.ofNat (nat_lit 0)))))),
    Tr.loop ((loopN Tryz.f7 0)) [nat_lit 0, nat_lit 1, nat_lit 2, nat_lit 7, nat_lit 47, nat_lit 48, nat_lit 49] [] ((shLT n p z a 0)) ((shLV n p z a 0)) (Exit.exit (nat_lit 0)) ((shLT n p z a n)) ((shLV n p z a n)) (nat_lit 100),
    Tr.call 34 [Sv.cel (Cv.ent (rowOf n (List.flatMap rqC (unitL n z)))), Sv.cel (Cv.ent (rowOf p (List.flatMap rqC a)))] [] (Av.tup [Sv.cel (Cv.raw (Value.slice none (nat_lit 0) (nat_lit 0))), Sv.cel (Cv.raw (Value.int IntKind.i64 (Int.ofNat (nat_lit 20))))]),
    Tr.call 38 [Sv.cel (Cv.ent (rowOf n (List.flatMap rqC (unitL n z)))), Sv.cel (Cv.ent (rowOf p (List.flatMap rqC a)))] [] (Av.tup [Sv.agg [Cv.raw (Value.bool (decide (Rat.num (0 : Rat) < (0 : Int)))), Cv.ent (nat (Int.natAbs (Rat.num (0 : Rat)))), Cv.ent (nat (Rat.den (0 : Rat)))], Sv.cel (Cv.raw (Value.int IntKind.i64 (Int.ofNat (nat_lit 20))))]),
    Tr.call 35 [Sv.cel (Cv.ent (rowOf p (List.flatMap rqC a))), Sv.cel (Cv.ent (rowOf n (List.flatMap rqC (unitL n z))))] [] (Av.tup [Sv.cel (Cv.raw (Value.slice none (nat_lit 0) (nat_lit 0))), Sv.cel (Cv.raw (Value.int IntKind.i64 (Int.ofNat (nat_lit 20))))]),
    Tr.call 41 [Sv.cel (Cv.ent (rowOf n (List.flatMap rqC (unitL n z)))), Sv.cel (Cv.raw (Value.int IntKind.i64 (Int.ofNat (nat_lit 5))))] [] (Av.tup [Sv.cel (Cv.ent (rowOf n (List.flatMap spC (unitD n z)))), Sv.cel (Cv.raw (Value.int IntKind.i64 (Int.ofNat (nat_lit 0))))]),
    Tr.call 44 [Sv.cel (Cv.ent (rowOf n (List.flatMap spC (unitD n z)))), Sv.cel (Cv.ent (rowOf p (List.flatMap rqC a)))] [] (Av.tup [Sv.cel (Cv.raw (Value.bool false)), Sv.cel (Cv.raw (Value.int IntKind.i64 (Int.ofNat (nat_lit 20))))]),
    Tr.norm (nat_lit 143) (Av.one (Sv.cel (Cv.raw (Value.bool ((↑n : Int) != (↑p : Int)))))) (Av.one (Sv.cel (Cv.raw (Value.bool true)))),
    Tr.call 36 [Sv.cel (Cv.ent (rowOf n (List.flatMap rqC (unitL n z)))), Sv.cel (Cv.ent (rowOf p (List.flatMap rqC a)))] [] (Av.one (Sv.cel (Cv.raw (Value.bool false)))),
    Tr.call 48 [Sv.cel (Cv.ent (rowOf p (List.flatMap rqC a))), Sv.cel (Cv.raw (Value.int IntKind.i64 (↑n : Int)))] [] (Av.one (Sv.cel (Cv.raw (Value.int IntKind.i64 (Int.ofNat (nat_lit 20))))))] := ⟨
    points7,
    trivial,
    fit1R hp h1 ha,
    norm_bool (decide_eq_false (show ¬ (n : Int) > 16 by omega)),
    unit_n hn,
    norm_bool (ne_self),
    checkV_f rfl hn (unitL_len n z) fun k x hx => checkB_f (mem_get unit_bq hx) (by omega),
    shL_loop hn,
    addV_un h,
    dotV_un h,
    subV_un (Ne.symm h),
    near_unit hn,
    holdsV_un h,
    norm_bool (ne_len h),
    sameV_un h,
    checkV_un0 (show ¬ (n : Int) < 0 by omega) (show ¬ (n : Int) > 16 by omega) (show (p : Int) ≠ (n : Int) by omega), trivial⟩
  exact fits_of_trace (n := 600) (k0 := 0) hT Tryz.func7 (by kernel_rfl) (by kernel_rfl) (by kernel_rfl)

set_option maxRecDepth 100000 in
theorem VecShapes_eq {n : Nat} {z : Int} {a : List Rat} {b : Bool} (hn : n ≤ 16) (h1 : a.length = n) (ha : ∀ x ∈ a, BQ 5 x) (hb : FitsP 44 [spansN n (unitD n z), ratsN n a] [] (.tup [boolS b, ok0])) : FitsP 7 [intS (n : Int), intS z, ratsN n a] [] (.one (boolS true)) := by
  have hT : AllOk Tryz.prog Glob [
    Tr.call 32 [] [] (Av.one (Sv.cel (Cv.raw (Value.bool true)))),
    Tr.froz,
    Tr.call 33 [Sv.cel (Cv.ent (rowOf (1 : Nat) [Cv.ent (rowOf n (List.flatMap rqC a))]))] [] (Av.one (Sv.cel (Cv.raw (Value.bool true)))),
    Tr.norm (nat_lit 14) (Av.one (Sv.cel (Cv.raw (Value.bool (decide ((↑n : Int) > (16 : Int))))))) (Av.one (Sv.cel (Cv.raw (Value.bool false)))),
    Tr.call 47 [Sv.cel (Cv.raw (Value.int IntKind.i64 (↑n : Int))), Sv.cel (Cv.raw (Value.int IntKind.i64 z))] [] (Av.one (Sv.cel (Cv.ent (rowOf n (List.flatMap rqC (unitL n z)))))),
    Tr.norm (nat_lit 23) (Av.one (Sv.cel (Cv.raw (Value.bool ((↑n : Int) != (↑n : Int)))))) (Av.one (Sv.cel (Cv.raw (Value.bool false)))),
    Tr.call 48 [Sv.cel (Cv.ent (rowOf n (List.flatMap rqC (unitL n z)))), Sv.cel (Cv.raw (Value.int IntKind.i64 (↑n : Int)))] [] (Av.one (Sv.cel (Cv.raw (Value.int IntKind.i64 (Int.ofNat (nat_lit 0)))))),
    Tr.loop ((loopN Tryz.f7 0)) [nat_lit 0, nat_lit 1, nat_lit 2, nat_lit 7, nat_lit 47, nat_lit 48, nat_lit 49] [] ((shLT n n z a 0)) ((shLV n n z a 0)) (Exit.exit (nat_lit 0)) ((shLT n n z a n)) ((shLV n n z a n)) (nat_lit 100),
    Tr.call 34 [Sv.cel (Cv.ent (rowOf n (List.flatMap rqC (unitL n z)))), Sv.cel (Cv.ent (rowOf n (List.flatMap rqC a)))] [] (Av.tup [Sv.cel (Cv.ent (rowOf n (List.flatMap rqC (List.zipWith (fun x1 x2 => x1 + x2) (unitL n z) a)))), Sv.cel (Cv.raw (Value.int IntKind.i64 (Int.ofNat (nat_lit 0))))]),
    Tr.call 38 [Sv.cel (Cv.ent (rowOf n (List.flatMap rqC (unitL n z)))), Sv.cel (Cv.ent (rowOf n (List.flatMap rqC a)))] [] (Av.tup [Sv.agg [Cv.raw (Value.bool (decide (Rat.num (dotQ (unitL n z) a n) < (0 : Int)))), Cv.ent (nat (Int.natAbs (Rat.num (dotQ (unitL n z) a n)))), Cv.ent (nat (Rat.den (dotQ (unitL n z) a n)))], Sv.cel (Cv.raw (Value.int IntKind.i64 (Int.ofNat (nat_lit 0))))]),
    Tr.call 35 [Sv.cel (Cv.ent (rowOf n (List.flatMap rqC a))), Sv.cel (Cv.ent (rowOf n (List.flatMap rqC (unitL n z))))] [] (Av.tup [Sv.cel (Cv.ent (rowOf n (List.flatMap rqC (List.zipWith (fun x1 x2 => x1 - x2) a (unitL n z))))), Sv.cel (Cv.raw (Value.int IntKind.i64 (Int.ofNat (nat_lit 0))))]),
    Tr.call 41 [Sv.cel (Cv.ent (rowOf n (List.flatMap rqC (unitL n z)))), Sv.cel (Cv.raw (Value.int IntKind.i64 (Int.ofNat (nat_lit 5))))] [] (Av.tup [Sv.cel (Cv.ent (rowOf n (List.flatMap spC (unitD n z)))), Sv.cel (Cv.raw (Value.int IntKind.i64 (Int.ofNat (nat_lit 0))))]),
    Tr.call 44 [Sv.cel (Cv.ent (rowOf n (List.flatMap spC (unitD n z)))), Sv.cel (Cv.ent (rowOf n (List.flatMap rqC a)))] [] (Av.tup [Sv.cel (Cv.raw (Value.bool b)), Sv.cel (Cv.raw (Value.int IntKind.i64 (Int.ofNat (nat_lit 0))))]),
    Tr.norm (nat_lit 143) (Av.one (Sv.cel (Cv.raw (Value.bool ((↑n : Int) != (↑n : Int)))))) (Av.one (Sv.cel (Cv.raw (Value.bool false)))),
    Tr.call 48 [Sv.cel (Cv.ent (rowOf n (List.flatMap rqC a))), Sv.cel (Cv.raw (Value.int IntKind.i64 (↑n : Int)))] [] (Av.one (Sv.cel (Cv.raw (Value.int IntKind.i64 (Int.ofNat (nat_lit 0))))))] := ⟨
    points7,
    trivial,
    fit1R hn h1 ha,
    norm_bool (decide_eq_false (show ¬ (n : Int) > 16 by omega)),
    unit_n hn,
    norm_bool (ne_self),
    checkV_f rfl hn (unitL_len n z) fun k x hx => checkB_f (mem_get unit_bq hx) (by omega),
    shL_loop hn,
    addV_f (by omega) (unitL_len n z) h1 (zip_len (unitL_len n z) h1) fun k x y r e1 e2 e3 => by rw [zip_get e1 e2 e3]; exact addQ_f (mem_get unit_bq e1) (mem_get ha e2) (by omega),
    dotQ_f (m := 1) (j := 5) hn (unitL_len n z) h1 unit_bq ha (by omega) (by omega),
    subV_f (by omega) h1 (unitL_len n z) (zip_len h1 (unitL_len n z)) fun k x y r e1 e2 e3 => by rw [zip_get e1 e2 e3]; exact subQ_f (mem_get ha e1) (mem_get unit_bq e2) (by omega),
    near_unit hn,
    hb,
    norm_bool (ne_self),
    checkV_f rfl hn h1 fun k x hx => checkB_f (mem_get ha hx) (by omega), trivial⟩
  exact fits_of_trace (n := 600) (k0 := 0) hT Tryz.func7 (by kernel_rfl) (by kernel_rfl) (by kernel_rfl)

set_option maxRecDepth 100000 in
theorem VecShapes_lo {p : Nat} {n z : Int} {a : List Rat} (hp : p ≤ 16) (h1 : a.length = p) (ha : ∀ x ∈ a, BQ 5 x) (hn : n < 0) : FitsP 7 [intS n, intS z, ratsN p a] [] (.one (boolS true)) := by
  have hT : AllOk Tryz.prog Glob [
    Tr.call 32 [] [] (Av.one (Sv.cel (Cv.raw (Value.bool true)))),
    Tr.froz,
    Tr.call 33 [Sv.cel (Cv.ent (rowOf (1 : Nat) [Cv.ent (rowOf p (List.flatMap rqC a))]))] [] (Av.one (Sv.cel (Cv.raw (Value.bool true)))),
    Tr.norm (nat_lit 11) (Av.one (Sv.cel (Cv.raw (Value.bool (decide (n < (0 : Int))))))) (Av.one (Sv.cel (Cv.raw (Value.bool true))))] := ⟨
    points7,
    trivial,
    fit1R hp h1 ha,
    norm_bool (decide_eq_true hn), trivial⟩
  exact fits_of_trace (n := 300) (k0 := 0) hT Tryz.func7 (by kernel_rfl) (by kernel_rfl) (by kernel_rfl)

set_option maxRecDepth 100000 in
theorem VecShapes_hi {p : Nat} {n z : Int} {a : List Rat} (hp : p ≤ 16) (h1 : a.length = p) (ha : ∀ x ∈ a, BQ 5 x) (hn : ¬ n < 0) (hm : n > 16) : FitsP 7 [intS n, intS z, ratsN p a] [] (.one (boolS true)) := by
  have hT : AllOk Tryz.prog Glob [
    Tr.call 32 [] [] (Av.one (Sv.cel (Cv.raw (Value.bool true)))),
    Tr.froz,
    Tr.call 33 [Sv.cel (Cv.ent (rowOf (1 : Nat) [Cv.ent (rowOf p (List.flatMap rqC a))]))] [] (Av.one (Sv.cel (Cv.raw (Value.bool true)))),
    Tr.norm (nat_lit 11) (Av.one (Sv.cel (Cv.raw (Value.bool (decide (n < (0 : Int))))))) (Av.one (Sv.cel (Cv.raw (Value.bool false)))),
    Tr.norm (nat_lit 14) (Av.one (Sv.cel (Cv.raw (Value.bool (decide (n > (16 : Int))))))) (Av.one (Sv.cel (Cv.raw (Value.bool true))))] := ⟨
    points7,
    trivial,
    fit1R hp h1 ha,
    norm_bool (decide_eq_false hn),
    norm_bool (decide_eq_true hm), trivial⟩
  exact fits_of_trace (n := 300) (k0 := 0) hT Tryz.func7 (by kernel_rfl) (by kernel_rfl) (by kernel_rfl)

set_option maxRecDepth 100000 in
theorem VecShapes_un {m : Nat} {n z : Int} {cs : List Cv} (hu : FitsP 33 [.cel (.ent (rowOf 1 [.ent (rowOf m cs)]))] [] (.one (boolS false))) : FitsP 7 [intS n, intS z, .cel (.ent (rowOf m cs))] [] (.one (boolS true)) := by
  have hT : AllOk Tryz.prog Glob [
    Tr.call 32 [] [] (Av.one (Sv.cel (Cv.raw (Value.bool true)))),
    Tr.froz,
    Tr.call 33 [Sv.cel (Cv.ent (rowOf (1 : Nat) [Cv.ent (rowOf m cs)]))] [] (Av.one (Sv.cel (Cv.raw (Value.bool false))))] := ⟨
    points7,
    trivial,
    hu, trivial⟩
  exact fits_of_trace (n := 300) (k0 := 0) hT Tryz.func7 (by kernel_rfl) (by kernel_rfl) (by kernel_rfl)
end Go.Proofs.YtejkcmklhmifaaaGreatDoor
