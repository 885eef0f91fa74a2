/- DyadOrders. -/
import Derived.Test.YtphpaejgcahgbaaGreatDoorDyL
import Derived.Test.YtphpaejgcahgbaaGreatDoorDyFit
namespace Go.Proofs.YtphpaejgcahgbaaGreatDoor
open Go Go.RowKit Go.Shelf AM
theorem ord_anti {p q : Rat} {d : Int} (h : ordQ p q = d) : ordQ q p = -d := by rw [ordQ_anti, h]
theorem ord_self_neg {p q : Rat} {d : Int} (h : ordQ p q = d) : (d == IntKind.i64.wrap (0 - -d)) = true := by
  have := ordQ_range p q
  rw [h] at this
  rw [w64s (by omega) (by omega), beq_iff_eq]; omega
theorem ord_lt_dec {p q : Rat} {d : Int} (h : ordQ p q = d) : (decide (p < q) == decide (d < 0)) = true := by rw [← h, ordQ_neg_iff]; simp
theorem BD.max {n k : Nat} {a b : Dy} (ha : BD n k a) (hb : BD n k b) : BD n k (maxD a b) := by unfold maxD; split <;> assumption
theorem BD.min {n k : Nat} {a b : Dy} (ha : BD n k a) (hb : BD n k b) : BD n k (minD a b) := by unfold minD; split <;> assumption
theorem ord_max_min {a b : Dy} {c : Int} (h : ordQ (dv (maxD a b)) (dv (minD a b)) = c) : decide (c ≥ 0) = true := by
  rw [decide_eq_true_iff, ← h]
  have : ¬ dv (maxD a b) < dv (minD a b) := by unfold maxD minD; split <;> split <;> grind
  unfold ordQ
  rw [if_neg this]
  split <;> omega
theorem beq_selfI (k : Int) : (k == k) = true := by simp

set_option maxRecDepth 100000 in
theorem DyadOrders_fit0 {a b : Dy} {d c s : Int} (ha : FitD a) (hb : FitD b) (hd : ordQ (dv a) (dv b) = d) (hc : ordQ (dv (maxD a b)) (dv (minD a b)) = c) (hs : sign3 a.m = s) (hs2 : ordQ (dv a) 0 = s) : FitsP 9 [dS a, dS b] [] (.one (boolS true)) := by
  have hT : AllOk Tryz.prog Glob [
    Tr.call 44 [] [] (Av.one (Sv.cel (Cv.raw (Value.bool true)))),
    Tr.call 45 [Sv.cel (Cv.row (nat_lit 7) (nat_lit 0) (nat_lit 2) (nat_lit 2))] [(nat_lit 7, { t := 66, cs := [Cv.raw (Value.bool (decide (Dy.m a < (0 : Int)))), Cv.ent (nat (Int.natAbs (Dy.m a))), Cv.raw (Value.int IntKind.i64 (Dy.e a)), Cv.raw (Value.bool (decide (Dy.m b < (0 : Int)))), Cv.ent (nat (Int.natAbs (Dy.m b))), Cv.raw (Value.int IntKind.i64 (Dy.e b))], own := true })] (Av.one (Sv.cel (Cv.raw (Value.bool true)))),
    Tr.call 46 [Sv.agg [Cv.raw (Value.bool (decide (Dy.m a < (0 : Int)))), Cv.ent (nat (Int.natAbs (Dy.m a))), Cv.raw (Value.int IntKind.i64 (Dy.e a))]] [] (Av.tup [Sv.agg [Cv.raw (Value.bool (decide (Rat.num (dv a) < (0 : Int)))), Cv.ent (nat (Int.natAbs (Rat.num (dv a)))), Cv.ent (nat (Rat.den (dv a)))], Sv.cel (Cv.raw (Value.int IntKind.i64 (Int.ofNat (nat_lit 0))))]),
    Tr.call 46 [Sv.agg [Cv.raw (Value.bool (decide (Dy.m b < (0 : Int)))), Cv.ent (nat (Int.natAbs (Dy.m b))), Cv.raw (Value.int IntKind.i64 (Dy.e b))]] [] (Av.tup [Sv.agg [Cv.raw (Value.bool (decide (Rat.num (dv b) < (0 : Int)))), Cv.ent (nat (Int.natAbs (Rat.num (dv b)))), Cv.ent (nat (Rat.den (dv b)))], Sv.cel (Cv.raw (Value.int IntKind.i64 (Int.ofNat (nat_lit 0))))]),
    Tr.call 38 [Sv.agg [Cv.raw (Value.bool (decide (Rat.num (dv a) < (0 : Int)))), Cv.ent (nat (Int.natAbs (Rat.num (dv a)))), Cv.ent (nat (Rat.den (dv a)))], Sv.agg [Cv.raw (Value.bool (decide (Rat.num (dv b) < (0 : Int)))), Cv.ent (nat (Int.natAbs (Rat.num (dv b)))), Cv.ent (nat (Rat.den (dv b)))]] [] (Av.tup [Sv.cel (Cv.raw (Value.int IntKind.i64 d)), Sv.cel (Cv.raw (Value.int IntKind.i64 (Int.ofNat (nat_lit 0))))]),
    Tr.call 58 [Sv.agg [Cv.raw (Value.bool (decide (Dy.m a < (0 : Int)))), Cv.ent (nat (Int.natAbs (Dy.m a))), Cv.raw (Value.int IntKind.i64 (Dy.e a))], Sv.agg [Cv.raw (Value.bool (decide (Rat.num (dv b) < (0 : Int)))), Cv.ent (nat (Int.natAbs (Rat.num (dv b)))), Cv.ent (nat (Rat.den (dv b)))]] [] (Av.tup [Sv.cel (Cv.raw (Value.int IntKind.i64 d)), Sv.cel (Cv.raw (Value.int IntKind.i64 (Int.ofNat (nat_lit 0))))]),
    Tr.call 59 [Sv.agg [Cv.raw (Value.bool (decide (Dy.m a < (0 : Int)))), Cv.ent (nat (Int.natAbs (Dy.m a))), Cv.raw (Value.int IntKind.i64 (Dy.e a))], Sv.agg [Cv.raw (Value.bool (decide (Dy.m b < (0 : Int)))), Cv.ent (nat (Int.natAbs (Dy.m b))), Cv.raw (Value.int IntKind.i64 (Dy.e b))]] [] (Av.one (Sv.cel (Cv.raw (Value.int IntKind.i64 d)))),
    Tr.norm (nat_lit 57) (Av.one (Sv.cel (Cv.raw (Value.bool (d == d))))) (Av.one (Sv.cel (Cv.raw (Value.bool true)))),
    Tr.norm (nat_lit 62) (Av.one (Sv.cel (Cv.raw (Value.bool (d == d))))) (Av.one (Sv.cel (Cv.raw (Value.bool true)))),
    Tr.call 59 [Sv.agg [Cv.raw (Value.bool (decide (Dy.m b < (0 : Int)))), Cv.ent (nat (Int.natAbs (Dy.m b))), Cv.raw (Value.int IntKind.i64 (Dy.e b))], Sv.agg [Cv.raw (Value.bool (decide (Dy.m a < (0 : Int)))), Cv.ent (nat (Int.natAbs (Dy.m a))), Cv.raw (Value.int IntKind.i64 (Dy.e a))]] [] (Av.one (Sv.cel (Cv.raw (Value.int IntKind.i64 (-d))))),
    Tr.norm (nat_lit 70) (Av.one (Sv.cel (Cv.raw (Value.bool (d == IntKind.wrap IntKind.i64 ((0 : Int) - -d)))))) (Av.one (Sv.cel (Cv.raw (Value.bool true)))),
    Tr.call 60 [Sv.agg [Cv.raw (Value.bool (decide (Dy.m a < (0 : Int)))), Cv.ent (nat (Int.natAbs (Dy.m a))), Cv.raw (Value.int IntKind.i64 (Dy.e a))], Sv.agg [Cv.raw (Value.bool (decide (Dy.m b < (0 : Int)))), Cv.ent (nat (Int.natAbs (Dy.m b))), Cv.raw (Value.int IntKind.i64 (Dy.e b))]] [] (Av.one (Sv.cel (Cv.raw (Value.bool (decide (dv a < dv b)))))),
    Tr.norm (nat_lit 78) (Av.one (Sv.cel (Cv.raw (Value.bool (decide (dv a < dv b) == decide (d < (0 : Int))))))) (Av.one (Sv.cel (Cv.raw (Value.bool true)))),
    Tr.call 61 [Sv.agg [Cv.raw (Value.bool (decide (Dy.m a < (0 : Int)))), Cv.ent (nat (Int.natAbs (Dy.m a))), Cv.raw (Value.int IntKind.i64 (Dy.e a))], Sv.agg [Cv.raw (Value.bool (decide (Dy.m b < (0 : Int)))), Cv.ent (nat (Int.natAbs (Dy.m b))), Cv.raw (Value.int IntKind.i64 (Dy.e b))]] [] (Av.one (Sv.agg [Cv.raw (Value.bool (decide (Dy.m (maxD a b) < (0 : Int)))), Cv.ent (nat (Int.natAbs (Dy.m (maxD a b)))), Cv.raw (Value.int IntKind.i64 (Dy.e (maxD a b)))])),
    Tr.call 62 [Sv.agg [Cv.raw (Value.bool (decide (Dy.m a < (0 : Int)))), Cv.ent (nat (Int.natAbs (Dy.m a))), Cv.raw (Value.int IntKind.i64 (Dy.e a))], Sv.agg [Cv.raw (Value.bool (decide (Dy.m b < (0 : Int)))), Cv.ent (nat (Int.natAbs (Dy.m b))), Cv.raw (Value.int IntKind.i64 (Dy.e b))]] [] (Av.one (Sv.agg [Cv.raw (Value.bool (decide (Dy.m (minD a b) < (0 : Int)))), Cv.ent (nat (Int.natAbs (Dy.m (minD a b)))), Cv.raw (Value.int IntKind.i64 (Dy.e (minD a b)))])),
    Tr.call 59 [Sv.agg [Cv.raw (Value.bool (decide (Dy.m (maxD a b) < (0 : Int)))), Cv.ent (nat (Int.natAbs (Dy.m (maxD a b)))), Cv.raw (Value.int IntKind.i64 (Dy.e (maxD a b)))], Sv.agg [Cv.raw (Value.bool (decide (Dy.m (minD a b) < (0 : Int)))), Cv.ent (nat (Int.natAbs (Dy.m (minD a b)))), Cv.raw (Value.int IntKind.i64 (Dy.e (minD a b)))]] [] (Av.one (Sv.cel (Cv.raw (Value.int IntKind.i64 c)))),
    Tr.norm (nat_lit 88) (Av.one (Sv.cel (Cv.raw (Value.bool (decide (c ≥ (0 : Int))))))) (Av.one (Sv.cel (Cv.raw (Value.bool true)))),
    Tr.call 54 [Sv.agg [Cv.raw (Value.bool (decide (Dy.m a < (0 : Int)))), Cv.ent (nat (Int.natAbs (Dy.m a))), Cv.raw (Value.int IntKind.i64 (Dy.e a))]] [] (Av.one (Sv.cel (Cv.raw (Value.int IntKind.i64 s)))),
    Tr.call 43 [Sv.agg [Cv.raw (Value.bool (decide (Rat.num (dv a) < (0 : Int)))), Cv.ent (nat (Int.natAbs (Rat.num (dv a)))), Cv.ent (nat (Rat.den (dv a)))]] [] (Av.one (Sv.cel (Cv.raw (Value.int IntKind.i64 s))))] := ⟨
    halves_f,
    dfitTwo_f ha hb _ _,
    ratioD_f ha.bd (by omega),
    ratioD_f hb.bd (by omega),
    cmp_lit ha.bd.bq hb.bd.bq (by omega) hd,
    cmpDQ_f ha.bd hb.bd.bq (by omega) hd,
    compareD_is ha.bd hb.bd (by omega) hd,
    norm_bool (beq_selfI d),
    norm_bool (beq_selfI d),
    compareD_is hb.bd ha.bd (by omega) (ord_anti hd),
    norm_bool (ord_self_neg hd),
    lessD_f ha.bd hb.bd (by omega),
    norm_bool (ord_lt_dec hd),
    maxD_f ha.bd hb.bd (by omega),
    minD_f ha.bd hb.bd (by omega),
    compareD_is (BD.max ha.bd hb.bd) (BD.min ha.bd hb.bd) (by omega) hc,
    norm_bool (ord_max_min hc),
    signD_f hs,
    signQ_is hs2, trivial⟩
  exact Fits.res (r := (.one (Sv.cel (Cv.raw (Value.bool (s == s)))))) (fits_of_trace (n := 300) (k0 := 0) hT Tryz.func9 (by kernel_rfl) (by kernel_rfl) (by kernel_rfl)) (norm_bool (beq_selfI s))

theorem DyadOrders_fit {a b : Dy} (ha : FitD a) (hb : FitD b) : FitsP 9 [dS a, dS b] [] (.one (boolS true)) := DyadOrders_fit0 ha hb rfl rfl rfl (sign_dv a).symm

set_option maxRecDepth 100000 in
theorem DyadOrders_unfit (m0 : Bool) (e0 : Ent) (x0 : Int) (m1 : Bool) (e1 : Ent) (x1 : Int) (hu : ∀ (x : Nat) (o : Bool), FitsP 45 [Sv.cel (Cv.row x 0 2 2)] [(x, ⟨66, [.raw (.bool m0), .ent e0, .raw (.int .i64 x0), .raw (.bool m1), .ent e1, .raw (.int .i64 x1)], o⟩)] (.one (boolS false))) : FitsP 9 [.agg [.raw (.bool m0), .ent e0, .raw (.int .i64 x0)], .agg [.raw (.bool m1), .ent e1, .raw (.int .i64 x1)]] [] (.one (boolS true)) := by
  have hT : AllOk Tryz.prog Glob [
    Tr.call 44 [] [] (Av.one (Sv.cel (Cv.raw (Value.bool true)))),
    Tr.call 45 [Sv.cel (Cv.row (nat_lit 7) (nat_lit 0) (nat_lit 2) (nat_lit 2))] [(nat_lit 7, { t := 66, cs := [Cv.raw (Value.bool m0), Cv.ent e0, Cv.raw (Value.int IntKind.i64 x0), Cv.raw (Value.bool m1), Cv.ent e1, Cv.raw (Value.int IntKind.i64 x1)], own := true })] (Av.one (Sv.cel (Cv.raw (Value.bool false))))] := ⟨
    halves_f,
    hu _ _, trivial⟩
  exact fits_of_trace (n := 300) (k0 := 0) hT Tryz.func9 (by kernel_rfl) (by kernel_rfl) (by kernel_rfl)

theorem DyadOrders_un0 {m : Bool} {xs : List Nat} {e : Int} (hu : UnfitD m xs e) (m1 : Bool) (a1 : List Nat) (e1 : Int) : FitsP 9 [adS m xs e, adS m1 a1 e1] [] (.one (boolS true)) := DyadOrders_unfit _ _ _ _ _ _ fun x o => dunfit2_0 hu m1 a1 e1 x o

theorem DyadOrders_un1 {d0 : Dy} (h0 : FitD d0) {m : Bool} {xs : List Nat} {e : Int} (hu : UnfitD m xs e) : FitsP 9 [dS d0, adS m xs e] [] (.one (boolS true)) := DyadOrders_unfit _ _ _ _ _ _ fun x o => dunfit2_1 h0 hu x o
end Go.Proofs.YtphpaejgcahgbaaGreatDoor
