/- DyadRings. -/
import Derived.Test.YtphpaejgcahgbaaGreatDoorDyL
import Derived.Test.YtphpaejgcahgbaaGreatDoorDyFit
namespace Go.Proofs.YtphpaejgcahgbaaGreatDoor
open Go Go.RowKit Go.Shelf AM
set_option maxRecDepth 100000 in
theorem exact_f {a : Dy} {q : Rat} {n k m : Nat} (ha : BD n k a) (hq : BQ m q) (hk : n + k + 1 + m ≤ 512) (h : dv a = q) : FitsP 51 [dS a, ok0, rq q, ok0] [] (.one (boolS true)) := by
  have hT : AllOk Tryz.prog Glob [
    Tr.call 46 [Sv.agg [Cv.raw (Value.bool (decide (Dy.m a < (0 : Int)))), Cv.ent (nat (Int.natAbs (Dy.m a))), Cv.raw (Value.int IntKind.i64 (Dy.e a))]] [] (Av.tup [Sv.agg [Cv.raw (Value.bool (decide (Rat.num (dv a) < (0 : Int)))), Cv.ent (nat (Int.natAbs (Rat.num (dv a)))), Cv.ent (nat (Rat.den (dv a)))], Sv.cel (Cv.raw (Value.int IntKind.i64 (Int.ofNat (nat_lit 0))))]),
    Tr.call 38 [Sv.agg [Cv.raw (Value.bool (decide (Rat.num (dv a) < (0 : Int)))), Cv.ent (nat (Int.natAbs (Rat.num (dv a)))), Cv.ent (nat (Rat.den (dv a)))], Sv.agg [Cv.raw (Value.bool (decide (Rat.num q < (0 : Int)))), Cv.ent (nat (Int.natAbs (Rat.num q))), Cv.ent (nat (Rat.den q))]] [] (Av.tup [Sv.cel (Cv.raw (Value.int IntKind.i64 (Int.ofNat (nat_lit 0)))), Sv.cel (Cv.raw (Value.int IntKind.i64 (Int.ofNat (nat_lit 0))))]),
    Tr.call 57 [Sv.agg [Cv.raw (Value.bool (decide (Dy.m a < (0 : Int)))), Cv.ent (nat (Int.natAbs (Dy.m a))), Cv.raw (Value.int IntKind.i64 (Dy.e a))]] [] (Av.one (Sv.cel (Cv.raw (Value.int IntKind.i64 (Int.ofNat (nat_lit 0))))))] := ⟨
    ratioD_f ha (by omega),
    cmp_lit ha.bq hq hk (ordQ_eqI h),
    checkD_f ha (by omega), trivial⟩
  exact fits_of_trace (n := 300) (k0 := 0) hT Tryz.func51 (by kernel_rfl) (by kernel_rfl) (by kernel_rfl)

set_option maxRecDepth 100000 in
theorem DyadRings_fit {a b : Dy} (ha : FitD a) (hb : FitD b) : FitsP 7 [dS a, dS b] [] (.one (boolS true)) := by
  have hT : AllOk Tryz.prog Glob [
    Tr.call 44 [] [] (Av.one (Sv.cel (Cv.raw (Value.bool true)))),
    Tr.call 45 [Sv.cel (Cv.row (nat_lit 7) (nat_lit 0) (nat_lit 2) (nat_lit 2))] [(nat_lit 7, { t := 66, cs := [Cv.raw (Value.bool (decide (Dy.m a < (0 : Int)))), Cv.ent (nat (Int.natAbs (Dy.m a))), Cv.raw (Value.int IntKind.i64 (Dy.e a)), Cv.raw (Value.bool (decide (Dy.m b < (0 : Int)))), Cv.ent (nat (Int.natAbs (Dy.m b))), Cv.raw (Value.int IntKind.i64 (Dy.e b))], own := true })] (Av.one (Sv.cel (Cv.raw (Value.bool true)))),
    Tr.call 46 [Sv.agg [Cv.raw (Value.bool (decide (Dy.m a < (0 : Int)))), Cv.ent (nat (Int.natAbs (Dy.m a))), Cv.raw (Value.int IntKind.i64 (Dy.e a))]] [] (Av.tup [Sv.agg [Cv.raw (Value.bool (decide (Rat.num (dv a) < (0 : Int)))), Cv.ent (nat (Int.natAbs (Rat.num (dv a)))), Cv.ent (nat (Rat.den (dv a)))], Sv.cel (Cv.raw (Value.int IntKind.i64 (Int.ofNat (nat_lit 0))))]),
    Tr.call 46 [Sv.agg [Cv.raw (Value.bool (decide (Dy.m b < (0 : Int)))), Cv.ent (nat (Int.natAbs (Dy.m b))), Cv.raw (Value.int IntKind.i64 (Dy.e b))]] [] (Av.tup [Sv.agg [Cv.raw (Value.bool (decide (Rat.num (dv b) < (0 : Int)))), Cv.ent (nat (Int.natAbs (Rat.num (dv b)))), Cv.ent (nat (Rat.den (dv b)))], Sv.cel (Cv.raw (Value.int IntKind.i64 (Int.ofNat (nat_lit 0))))]),
    Tr.call 47 [Sv.agg [Cv.raw (Value.bool (decide (Dy.m a < (0 : Int)))), Cv.ent (nat (Int.natAbs (Dy.m a))), Cv.raw (Value.int IntKind.i64 (Dy.e a))], Sv.agg [Cv.raw (Value.bool (decide (Dy.m b < (0 : Int)))), Cv.ent (nat (Int.natAbs (Dy.m b))), Cv.raw (Value.int IntKind.i64 (Dy.e b))]] [] (Av.tup [Sv.agg [Cv.raw (Value.bool (decide (Dy.m (addD a b) < (0 : Int)))), Cv.ent (nat (Int.natAbs (Dy.m (addD a b)))), Cv.raw (Value.int IntKind.i64 (Dy.e (addD a b)))], Sv.cel (Cv.raw (Value.int IntKind.i64 (Int.ofNat (nat_lit 0))))]),
    Tr.call 37 [Sv.agg [Cv.raw (Value.bool (decide (Rat.num (dv a) < (0 : Int)))), Cv.ent (nat (Int.natAbs (Rat.num (dv a)))), Cv.ent (nat (Rat.den (dv a)))], Sv.agg [Cv.raw (Value.bool (decide (Rat.num (dv b) < (0 : Int)))), Cv.ent (nat (Int.natAbs (Rat.num (dv b)))), Cv.ent (nat (Rat.den (dv b)))]] [] (Av.tup [Sv.agg [Cv.raw (Value.bool (decide (Rat.num (dv a + dv b) < (0 : Int)))), Cv.ent (nat (Int.natAbs (Rat.num (dv a + dv b)))), Cv.ent (nat (Rat.den (dv a + dv b)))], Sv.cel (Cv.raw (Value.int IntKind.i64 (Int.ofNat (nat_lit 0))))]),
    Tr.call 48 [Sv.agg [Cv.raw (Value.bool (decide (Dy.m a < (0 : Int)))), Cv.ent (nat (Int.natAbs (Dy.m a))), Cv.raw (Value.int IntKind.i64 (Dy.e a))], Sv.agg [Cv.raw (Value.bool (decide (Dy.m b < (0 : Int)))), Cv.ent (nat (Int.natAbs (Dy.m b))), Cv.raw (Value.int IntKind.i64 (Dy.e b))]] [] (Av.tup [Sv.agg [Cv.raw (Value.bool (decide (Dy.m (subD a b) < (0 : Int)))), Cv.ent (nat (Int.natAbs (Dy.m (subD a b)))), Cv.raw (Value.int IntKind.i64 (Dy.e (subD a b)))], Sv.cel (Cv.raw (Value.int IntKind.i64 (Int.ofNat (nat_lit 0))))]),
    Tr.call 39 [Sv.agg [Cv.raw (Value.bool (decide (Rat.num (dv a) < (0 : Int)))), Cv.ent (nat (Int.natAbs (Rat.num (dv a)))), Cv.ent (nat (Rat.den (dv a)))], Sv.agg [Cv.raw (Value.bool (decide (Rat.num (dv b) < (0 : Int)))), Cv.ent (nat (Int.natAbs (Rat.num (dv b)))), Cv.ent (nat (Rat.den (dv b)))]] [] (Av.tup [Sv.agg [Cv.raw (Value.bool (decide (Rat.num (dv a - dv b) < (0 : Int)))), Cv.ent (nat (Int.natAbs (Rat.num (dv a - dv b)))), Cv.ent (nat (Rat.den (dv a - dv b)))], Sv.cel (Cv.raw (Value.int IntKind.i64 (Int.ofNat (nat_lit 0))))]),
    Tr.call 49 [Sv.agg [Cv.raw (Value.bool (decide (Dy.m a < (0 : Int)))), Cv.ent (nat (Int.natAbs (Dy.m a))), Cv.raw (Value.int IntKind.i64 (Dy.e a))], Sv.agg [Cv.raw (Value.bool (decide (Dy.m b < (0 : Int)))), Cv.ent (nat (Int.natAbs (Dy.m b))), Cv.raw (Value.int IntKind.i64 (Dy.e b))]] [] (Av.tup [Sv.agg [Cv.raw (Value.bool (decide (Dy.m (mulD a b) < (0 : Int)))), Cv.ent (nat (Int.natAbs (Dy.m (mulD a b)))), Cv.raw (Value.int IntKind.i64 (Dy.e (mulD a b)))], Sv.cel (Cv.raw (Value.int IntKind.i64 (Int.ofNat (nat_lit 0))))]),
    Tr.call 50 [Sv.agg [Cv.raw (Value.bool (decide (Rat.num (dv a) < (0 : Int)))), Cv.ent (nat (Int.natAbs (Rat.num (dv a)))), Cv.ent (nat (Rat.den (dv a)))], Sv.agg [Cv.raw (Value.bool (decide (Rat.num (dv b) < (0 : Int)))), Cv.ent (nat (Int.natAbs (Rat.num (dv b)))), Cv.ent (nat (Rat.den (dv b)))]] [] (Av.tup [Sv.agg [Cv.raw (Value.bool (decide (Rat.num (dv a * dv b) < (0 : Int)))), Cv.ent (nat (Int.natAbs (Rat.num (dv a * dv b)))), Cv.ent (nat (Rat.den (dv a * dv b)))], Sv.cel (Cv.raw (Value.int IntKind.i64 (Int.ofNat (nat_lit 0))))]),
    Tr.call 51 [Sv.agg [Cv.raw (Value.bool (decide (Dy.m (addD a b) < (0 : Int)))), Cv.ent (nat (Int.natAbs (Dy.m (addD a b)))), Cv.raw (Value.int IntKind.i64 (Dy.e (addD a b)))], Sv.cel (Cv.raw (Value.int IntKind.i64 (Int.ofNat (nat_lit 0)))), Sv.agg [Cv.raw (Value.bool (decide (Rat.num (dv a + dv b) < (0 : Int)))), Cv.ent (nat (Int.natAbs (Rat.num (dv a + dv b)))), Cv.ent (nat (Rat.den (dv a + dv b)))], Sv.cel (Cv.raw (Value.int IntKind.i64 (Int.ofNat (nat_lit 0))))] [] (Av.one (Sv.cel (Cv.raw (Value.bool true)))),
    Tr.call 51 [Sv.agg [Cv.raw (Value.bool (decide (Dy.m (subD a b) < (0 : Int)))), Cv.ent (nat (Int.natAbs (Dy.m (subD a b)))), Cv.raw (Value.int IntKind.i64 (Dy.e (subD a b)))], Sv.cel (Cv.raw (Value.int IntKind.i64 (Int.ofNat (nat_lit 0)))), Sv.agg [Cv.raw (Value.bool (decide (Rat.num (dv a - dv b) < (0 : Int)))), Cv.ent (nat (Int.natAbs (Rat.num (dv a - dv b)))), Cv.ent (nat (Rat.den (dv a - dv b)))], Sv.cel (Cv.raw (Value.int IntKind.i64 (Int.ofNat (nat_lit 0))))] [] (Av.one (Sv.cel (Cv.raw (Value.bool true)))),
    Tr.call 51 [Sv.agg [Cv.raw (Value.bool (decide (Dy.m (mulD a b) < (0 : Int)))), Cv.ent (nat (Int.natAbs (Dy.m (mulD a b)))), Cv.raw (Value.int IntKind.i64 (Dy.e (mulD a b)))], Sv.cel (Cv.raw (Value.int IntKind.i64 (Int.ofNat (nat_lit 0)))), Sv.agg [Cv.raw (Value.bool (decide (Rat.num (dv a * dv b) < (0 : Int)))), Cv.ent (nat (Int.natAbs (Rat.num (dv a * dv b)))), Cv.ent (nat (Rat.den (dv a * dv b)))], Sv.cel (Cv.raw (Value.int IntKind.i64 (Int.ofNat (nat_lit 0))))] [] (Av.one (Sv.cel (Cv.raw (Value.bool true))))] := ⟨
    halves_f,
    dfitTwo_f ha hb _ _,
    ratioD_f ha.bd (by omega),
    ratioD_f hb.bd (by omega),
    addD_f ha.bd hb.bd (by omega),
    addQ_f ha.bd.bq hb.bd.bq (by omega),
    subD_f ha.bd hb.bd (by omega),
    subQ_f ha.bd.bq hb.bd.bq (by omega),
    mulD_f ha.bd hb.bd (by omega),
    mulQ_f ha.bd.bq hb.bd.bq (by omega),
    exact_f (ha.bd.add hb.bd) (ha.bd.bq.add hb.bd.bq) (by omega) (addD_dv a b),
    exact_f (ha.bd.sub hb.bd) (ha.bd.bq.sub hb.bd.bq) (by omega) (subD_dv a b),
    exact_f (ha.bd.mul hb.bd) (ha.bd.bq.mul hb.bd.bq) (by omega) (mulD_dv a b), trivial⟩
  exact fits_of_trace (n := 300) (k0 := 0) hT Tryz.func7 (by kernel_rfl) (by kernel_rfl) (by kernel_rfl)

set_option maxRecDepth 100000 in
theorem DyadRings_unfit (m0 : Bool) (e0 : Ent) (x0 : Int) (m1 : Bool) (e1 : Ent) (x1 : Int) (hu : ∀ (x : Nat) (o : Bool), FitsP 45 [Sv.cel (Cv.row x 0 2 2)] [(x, ⟨66, [.raw (.bool m0), .ent e0, .raw (.int .i64 x0), .raw (.bool m1), .ent e1, .raw (.int .i64 x1)], o⟩)] (.one (boolS false))) : FitsP 7 [.agg [.raw (.bool m0), .ent e0, .raw (.int .i64 x0)], .agg [.raw (.bool m1), .ent e1, .raw (.int .i64 x1)]] [] (.one (boolS true)) := by
  have hT : AllOk Tryz.prog Glob [
    Tr.call 44 [] [] (Av.one (Sv.cel (Cv.raw (Value.bool true)))),
    Tr.call 45 [Sv.cel (Cv.row (nat_lit 7) (nat_lit 0) (nat_lit 2) (nat_lit 2))] [(nat_lit 7, { t := 66, cs := [Cv.raw (Value.bool m0), Cv.ent e0, Cv.raw (Value.int IntKind.i64 x0), Cv.raw (Value.bool m1), Cv.ent e1, Cv.raw (Value.int IntKind.i64 x1)], own := true })] (Av.one (Sv.cel (Cv.raw (Value.bool false))))] := ⟨
    halves_f,
    hu _ _, trivial⟩
  exact fits_of_trace (n := 300) (k0 := 0) hT Tryz.func7 (by kernel_rfl) (by kernel_rfl) (by kernel_rfl)

theorem DyadRings_un0 {m : Bool} {xs : List Nat} {e : Int} (hu : UnfitD m xs e) (m1 : Bool) (a1 : List Nat) (e1 : Int) : FitsP 7 [adS m xs e, adS m1 a1 e1] [] (.one (boolS true)) := DyadRings_unfit _ _ _ _ _ _ fun x o => dunfit2_0 hu m1 a1 e1 x o

theorem DyadRings_un1 {d0 : Dy} (h0 : FitD d0) {m : Bool} {xs : List Nat} {e : Int} (hu : UnfitD m xs e) : FitsP 7 [dS d0, adS m xs e] [] (.one (boolS true)) := DyadRings_unfit _ _ _ _ _ _ fun x o => dunfit2_1 h0 hu x o
end Go.Proofs.YtphpaejgcahgbaaGreatDoor
