/- DyadHalves. -/
import Derived.Test.YtphpaejgcahgbaaGreatDoorDyL
import Derived.Test.YtphpaejgcahgbaaGreatDoorDyFit
namespace Go.Proofs.YtphpaejgcahgbaaGreatDoor
open Go Go.RowKit Go.Shelf AM
/-! Half of two numbers. -/
def halfD : Dy := ⟨1, -1⟩
def twoD : Dy := ⟨1, 1⟩
theorem half_dv : dv halfD = 1 / 2 := by decide +kernel
theorem two_dv : dv twoD = 2 := by decide +kernel
theorem half_bd : BD 1 1 halfD := by decide +kernel
theorem two_bd : BD 1 1 twoD := by decide +kernel
section
variable {a b : Dy}
def midD (a b : Dy) : Dy := mulD (addD a b) halfD
theorem mid_dv : dv (midD a b) = (dv a + dv b) * (1 / 2) := by unfold midD; rw [mulD_dv, addD_dv, half_dv]
theorem mid_bd (ha : FitD a) (hb : FitD b) : BD 27 11 (midD a b) := (ha.bd.add hb.bd).mul half_bd
theorem mid_far : ordQ (dv (subD (midD a b) a)) (dv (subD b (midD a b))) = 0 := ordQ_eqI (by rw [subD_dv, subD_dv, mid_dv]; grind)
theorem mid_twice : ordQ (dv (mulD (midD a b) twoD)) (dv (addD a b)) = 0 := ordQ_eqI (by rw [mulD_dv, mid_dv, addD_dv, two_dv]; grind)
theorem mid_sign {c : Int} (h : ordQ (dv b) (dv a) = c) : sign3 (subD (midD a b) a).m = c := by
  rw [sign_dv, subD_dv, mid_dv, ← h]
  rcases rat_tri (dv b) (dv a) with h1 | h1 | h1
  · rw [ordQ_ltI h1, ordQ_ltI (by grind)]
  · rw [ordQ_eqI h1, ordQ_eqI (by grind)]
  · rw [ordQ_gtI h1, ordQ_gtI (by grind)]
theorem beq_selfH (k : Int) : (k == k) = true := by simp
end

set_option maxRecDepth 100000 in
theorem DyadHalves_fit0 {a b : Dy} {c : Int} (ha : FitD a) (hb : FitD b) (hc : ordQ (dv b) (dv a) = c) : FitsP 12 [dS a, dS b] [] (.one (boolS true)) := by
  have hT : AllOk Tryz.prog Glob [
    Tr.call 44 [] [] (Av.one (Sv.cel (Cv.raw (Value.bool true)))),
    Tr.call 45 [Sv.cel (Cv.row (nat_lit 7) (nat_lit 0) (nat_lit 2) (nat_lit 2))] [(nat_lit 7, { t := 66, cs := [Cv.raw (Value.bool (decide (Dy.m a < (0 : Int)))), Cv.ent (nat (Int.natAbs (Dy.m a))), Cv.raw (Value.int IntKind.i64 (Dy.e a)), Cv.raw (Value.bool (decide (Dy.m b < (0 : Int)))), Cv.ent (nat (Int.natAbs (Dy.m b))), Cv.raw (Value.int IntKind.i64 (Dy.e b))], own := true })] (Av.one (Sv.cel (Cv.raw (Value.bool true)))),
    Tr.call 70 [Sv.cel (Cv.raw (Value.int IntKind.i64 (Int.ofNat (nat_lit 1)))), Sv.cel (Cv.raw (Value.int IntKind.i64 (Int.negSucc (nat_lit 0))))] [] (Av.one (Sv.agg [Cv.raw (Value.bool (decide (Dy.m halfD < (0 : Int)))), Cv.ent (nat (Int.natAbs (Dy.m halfD))), Cv.raw (Value.int IntKind.i64 (Int.negSucc (nat_lit 0)))])),
    Tr.call 47 [Sv.agg [Cv.raw (Value.bool (decide (Dy.m a < (0 : Int)))), Cv.ent (nat (Int.natAbs (Dy.m a))), Cv.raw (Value.int IntKind.i64 (Dy.e a))], Sv.agg [Cv.raw (Value.bool (decide (Dy.m b < (0 : Int)))), Cv.ent (nat (Int.natAbs (Dy.m b))), Cv.raw (Value.int IntKind.i64 (Dy.e b))]] [] (Av.tup [Sv.agg [Cv.raw (Value.bool (decide (Dy.m (addD a b) < (0 : Int)))), Cv.ent (nat (Int.natAbs (Dy.m (addD a b)))), Cv.raw (Value.int IntKind.i64 (Dy.e (addD a b)))], Sv.cel (Cv.raw (Value.int IntKind.i64 (Int.ofNat (nat_lit 0))))]),
    Tr.call 49 [Sv.agg [Cv.raw (Value.bool (decide (Dy.m (addD a b) < (0 : Int)))), Cv.ent (nat (Int.natAbs (Dy.m (addD a b)))), Cv.raw (Value.int IntKind.i64 (Dy.e (addD a b)))], Sv.agg [Cv.raw (Value.bool (decide (Dy.m halfD < (0 : Int)))), Cv.ent (nat (Int.natAbs (Dy.m halfD))), Cv.raw (Value.int IntKind.i64 (Int.negSucc (nat_lit 0)))]] [] (Av.tup [Sv.agg [Cv.raw (Value.bool (decide (Dy.m (midD a b) < (0 : Int)))), Cv.ent (nat (Int.natAbs (Dy.m (midD a b)))), Cv.raw (Value.int IntKind.i64 (Dy.e (midD a b)))], Sv.cel (Cv.raw (Value.int IntKind.i64 (Int.ofNat (nat_lit 0))))]),
    Tr.call 48 [Sv.agg [Cv.raw (Value.bool (decide (Dy.m (midD a b) < (0 : Int)))), Cv.ent (nat (Int.natAbs (Dy.m (midD a b)))), Cv.raw (Value.int IntKind.i64 (Dy.e (midD a b)))], Sv.agg [Cv.raw (Value.bool (decide (Dy.m a < (0 : Int)))), Cv.ent (nat (Int.natAbs (Dy.m a))), Cv.raw (Value.int IntKind.i64 (Dy.e a))]] [] (Av.tup [Sv.agg [Cv.raw (Value.bool (decide (Dy.m (subD (midD a b) a) < (0 : Int)))), Cv.ent (nat (Int.natAbs (Dy.m (subD (midD a b) a)))), Cv.raw (Value.int IntKind.i64 (Dy.e (subD (midD a b) a)))], Sv.cel (Cv.raw (Value.int IntKind.i64 (Int.ofNat (nat_lit 0))))]),
    Tr.call 48 [Sv.agg [Cv.raw (Value.bool (decide (Dy.m b < (0 : Int)))), Cv.ent (nat (Int.natAbs (Dy.m b))), Cv.raw (Value.int IntKind.i64 (Dy.e b))], Sv.agg [Cv.raw (Value.bool (decide (Dy.m (midD a b) < (0 : Int)))), Cv.ent (nat (Int.natAbs (Dy.m (midD a b)))), Cv.raw (Value.int IntKind.i64 (Dy.e (midD a b)))]] [] (Av.tup [Sv.agg [Cv.raw (Value.bool (decide (Dy.m (subD b (midD a b)) < (0 : Int)))), Cv.ent (nat (Int.natAbs (Dy.m (subD b (midD a b))))), Cv.raw (Value.int IntKind.i64 (Dy.e (subD b (midD a b))))], Sv.cel (Cv.raw (Value.int IntKind.i64 (Int.ofNat (nat_lit 0))))]),
    Tr.call 70 [Sv.cel (Cv.raw (Value.int IntKind.i64 (Int.ofNat (nat_lit 1)))), Sv.cel (Cv.raw (Value.int IntKind.i64 (Int.ofNat (nat_lit 1))))] [] (Av.one (Sv.agg [Cv.raw (Value.bool (decide (Dy.m twoD < (0 : Int)))), Cv.ent (nat (Int.natAbs (Dy.m twoD))), Cv.raw (Value.int IntKind.i64 (Int.ofNat (nat_lit 1)))])),
    Tr.call 49 [Sv.agg [Cv.raw (Value.bool (decide (Dy.m (midD a b) < (0 : Int)))), Cv.ent (nat (Int.natAbs (Dy.m (midD a b)))), Cv.raw (Value.int IntKind.i64 (Dy.e (midD a b)))], Sv.agg [Cv.raw (Value.bool (decide (Dy.m twoD < (0 : Int)))), Cv.ent (nat (Int.natAbs (Dy.m twoD))), Cv.raw (Value.int IntKind.i64 (Int.ofNat (nat_lit 1)))]] [] (Av.tup [Sv.agg [Cv.raw (Value.bool (decide (Dy.m (mulD (midD a b) twoD) < (0 : Int)))), Cv.ent (nat (Int.natAbs (Dy.m (mulD (midD a b) twoD)))), Cv.raw (Value.int IntKind.i64 (Dy.e (mulD (midD a b) twoD)))], Sv.cel (Cv.raw (Value.int IntKind.i64 (Int.ofNat (nat_lit 0))))]),
    Tr.call 59 [Sv.agg [Cv.raw (Value.bool (decide (Dy.m (subD (midD a b) a) < (0 : Int)))), Cv.ent (nat (Int.natAbs (Dy.m (subD (midD a b) a)))), Cv.raw (Value.int IntKind.i64 (Dy.e (subD (midD a b) a)))], Sv.agg [Cv.raw (Value.bool (decide (Dy.m (subD b (midD a b)) < (0 : Int)))), Cv.ent (nat (Int.natAbs (Dy.m (subD b (midD a b))))), Cv.raw (Value.int IntKind.i64 (Dy.e (subD b (midD a b))))]] [] (Av.one (Sv.cel (Cv.raw (Value.int IntKind.i64 (Int.ofNat (nat_lit 0)))))),
    Tr.call 59 [Sv.agg [Cv.raw (Value.bool (decide (Dy.m (mulD (midD a b) twoD) < (0 : Int)))), Cv.ent (nat (Int.natAbs (Dy.m (mulD (midD a b) twoD)))), Cv.raw (Value.int IntKind.i64 (Dy.e (mulD (midD a b) twoD)))], Sv.agg [Cv.raw (Value.bool (decide (Dy.m (addD a b) < (0 : Int)))), Cv.ent (nat (Int.natAbs (Dy.m (addD a b)))), Cv.raw (Value.int IntKind.i64 (Dy.e (addD a b)))]] [] (Av.one (Sv.cel (Cv.raw (Value.int IntKind.i64 (Int.ofNat (nat_lit 0)))))),
    Tr.call 54 [Sv.agg [Cv.raw (Value.bool (decide (Dy.m (subD (midD a b) a) < (0 : Int)))), Cv.ent (nat (Int.natAbs (Dy.m (subD (midD a b) a)))), Cv.raw (Value.int IntKind.i64 (Dy.e (subD (midD a b) a)))]] [] (Av.one (Sv.cel (Cv.raw (Value.int IntKind.i64 c)))),
    Tr.call 59 [Sv.agg [Cv.raw (Value.bool (decide (Dy.m b < (0 : Int)))), Cv.ent (nat (Int.natAbs (Dy.m b))), Cv.raw (Value.int IntKind.i64 (Dy.e b))], Sv.agg [Cv.raw (Value.bool (decide (Dy.m a < (0 : Int)))), Cv.ent (nat (Int.natAbs (Dy.m a))), Cv.raw (Value.int IntKind.i64 (Dy.e a))]] [] (Av.one (Sv.cel (Cv.raw (Value.int IntKind.i64 c))))] := ⟨
    halves_f,
    dfitTwo_f ha hb _ _,
    ofL halfD (by decide +kernel) (by decide +kernel) (by decide +kernel) (by decide +kernel) (by decide +kernel) (by decide +kernel),
    addD_f ha.bd hb.bd (by omega),
    mulD_f (ha.bd.add hb.bd) half_bd (by omega),
    subD_f (mid_bd ha hb) (ha.bd.mono (by omega) (by omega)) (by omega),
    subD_f (hb.bd.mono (by omega) (by omega)) (mid_bd ha hb) (by omega),
    ofL twoD (by decide +kernel) (by decide +kernel) (by decide +kernel) (by decide +kernel) (by decide +kernel) (by decide +kernel),
    mulD_f (mid_bd ha hb) two_bd (by omega),
    compareD_is ((mid_bd ha hb).sub (ha.bd.mono (by omega) (by omega))) ((hb.bd.mono (by omega) (by omega)).sub (mid_bd ha hb)) (by omega) mid_far,
    compareD_is ((mid_bd ha hb).mul two_bd) ((ha.bd.add hb.bd).mono (by omega) (by omega)) (by omega) mid_twice,
    signD_f (mid_sign hc),
    compareD_is hb.bd ha.bd (by omega) hc, trivial⟩
  exact Fits.res (r := (.one (Sv.cel (Cv.raw (Value.bool (c == c)))))) (fits_of_trace (n := 300) (k0 := 0) hT Tryz.func12 (by kernel_rfl) (by kernel_rfl) (by kernel_rfl)) (norm_bool (beq_selfH c))

theorem DyadHalves_fit {a b : Dy} (ha : FitD a) (hb : FitD b) : FitsP 12 [dS a, dS b] [] (.one (boolS true)) := DyadHalves_fit0 ha hb rfl

set_option maxRecDepth 100000 in
theorem DyadHalves_unfit (m0 : Bool) (e0 : Ent) (x0 : Int) (m1 : Bool) (e1 : Ent) (x1 : Int) (hu : ∀ (x : Nat) (o : Bool), FitsP 45 [Sv.cel (Cv.row x 0 2 2)] [(x, ⟨66, [.raw (.bool m0), .ent e0, .raw (.int .i64 x0), .raw (.bool m1), .ent e1, .raw (.int .i64 x1)], o⟩)] (.one (boolS false))) : FitsP 12 [.agg [.raw (.bool m0), .ent e0, .raw (.int .i64 x0)], .agg [.raw (.bool m1), .ent e1, .raw (.int .i64 x1)]] [] (.one (boolS true)) := by
  have hT : AllOk Tryz.prog Glob [
    Tr.call 44 [] [] (Av.one (Sv.cel (Cv.raw (Value.bool true)))),
    Tr.call 45 [Sv.cel (Cv.row (nat_lit 7) (nat_lit 0) (nat_lit 2) (nat_lit 2))] [(nat_lit 7, { t := 66, cs := [Cv.raw (Value.bool m0), Cv.ent e0, Cv.raw (Value.int IntKind.i64 x0), Cv.raw (Value.bool m1), Cv.ent e1, Cv.raw (Value.int IntKind.i64 x1)], own := true })] (Av.one (Sv.cel (Cv.raw (Value.bool false))))] := ⟨
    halves_f,
    hu _ _, trivial⟩
  exact fits_of_trace (n := 300) (k0 := 0) hT Tryz.func12 (by kernel_rfl) (by kernel_rfl) (by kernel_rfl)

theorem DyadHalves_un0 {m : Bool} {xs : List Nat} {e : Int} (hu : UnfitD m xs e) (m1 : Bool) (a1 : List Nat) (e1 : Int) : FitsP 12 [adS m xs e, adS m1 a1 e1] [] (.one (boolS true)) := DyadHalves_unfit _ _ _ _ _ _ fun x o => dunfit2_0 hu m1 a1 e1 x o

theorem DyadHalves_un1 {d0 : Dy} (h0 : FitD d0) {m : Bool} {xs : List Nat} {e : Int} (hu : UnfitD m xs e) : FitsP 12 [dS d0, adS m xs e] [] (.one (boolS true)) := DyadHalves_unfit _ _ _ _ _ _ fun x o => dunfit2_1 h0 hu x o
end Go.Proofs.YtphpaejgcahgbaaGreatDoor
