/- IntegerMuls. -/
import Derived.Test.YtphpaejgcahgbaaGreatDoorInt3F
namespace Go.Proofs.YtphpaejgcahgbaaGreatDoor
open Go Go.RowKit Go.Shelf AM
set_option maxRecDepth 100000 in
theorem IntegerMuls_fit {a b c : Int} (ha : a.natAbs < 4294967296 ^ 30) (hb : b.natAbs < 4294967296 ^ 30) (hc : c.natAbs < 4294967296 ^ 30) : FitsP 4 [im a, im b, im c] [] (.one (boolS true)) := by
  have hT : AllOk Tryz.prog Glob [
    Tr.call 14 [] [] (Av.one (Sv.cel (Cv.raw (Value.bool true)))),
    Tr.call 15 [Sv.cel (Cv.row (nat_lit 9) (nat_lit 0) (nat_lit 3) (nat_lit 3))] [(nat_lit 9, { t := 25, cs := [Cv.raw (Value.bool (decide (a < (0 : Int)))), Cv.ent (nat (Int.natAbs a)), Cv.raw (Value.bool (decide (b < (0 : Int)))), Cv.ent (nat (Int.natAbs b)), Cv.raw (Value.bool (decide (c < (0 : Int)))), Cv.ent (nat (Int.natAbs c))], own := true })] (Av.one (Sv.cel (Cv.raw (Value.bool true)))),
    Tr.call 23 [Sv.agg [Cv.raw (Value.bool (decide (a < (0 : Int)))), Cv.ent (nat (Int.natAbs a))], Sv.agg [Cv.raw (Value.bool (decide (b < (0 : Int)))), Cv.ent (nat (Int.natAbs b))]] [] (Av.tup [Sv.agg [Cv.raw (Value.bool (decide (a * b < (0 : Int)))), Cv.ent (nat (Int.natAbs (a * b)))], Sv.cel (Cv.raw (Value.int IntKind.i64 (Int.ofNat (nat_lit 0))))]),
    Tr.call 23 [Sv.agg [Cv.raw (Value.bool (decide (a < (0 : Int)))), Cv.ent (nat (Int.natAbs a))], Sv.agg [Cv.raw (Value.bool (decide (c < (0 : Int)))), Cv.ent (nat (Int.natAbs c))]] [] (Av.tup [Sv.agg [Cv.raw (Value.bool (decide (a * c < (0 : Int)))), Cv.ent (nat (Int.natAbs (a * c)))], Sv.cel (Cv.raw (Value.int IntKind.i64 (Int.ofNat (nat_lit 0))))]),
    Tr.call 17 [Sv.agg [Cv.raw (Value.bool (decide (b < (0 : Int)))), Cv.ent (nat (Int.natAbs b))], Sv.agg [Cv.raw (Value.bool (decide (c < (0 : Int)))), Cv.ent (nat (Int.natAbs c))]] [] (Av.tup [Sv.agg [Cv.raw (Value.bool (decide (b + c < (0 : Int)))), Cv.ent (nat (Int.natAbs (b + c)))], Sv.cel (Cv.raw (Value.int IntKind.i64 (Int.ofNat (nat_lit 0))))]),
    Tr.call 23 [Sv.agg [Cv.raw (Value.bool (decide (a < (0 : Int)))), Cv.ent (nat (Int.natAbs a))], Sv.agg [Cv.raw (Value.bool (decide (b + c < (0 : Int)))), Cv.ent (nat (Int.natAbs (b + c)))]] [] (Av.tup [Sv.agg [Cv.raw (Value.bool (decide (a * (b + c) < (0 : Int)))), Cv.ent (nat (Int.natAbs (a * (b + c))))], Sv.cel (Cv.raw (Value.int IntKind.i64 (Int.ofNat (nat_lit 0))))]),
    Tr.call 17 [Sv.agg [Cv.raw (Value.bool (decide (a * b < (0 : Int)))), Cv.ent (nat (Int.natAbs (a * b)))], Sv.agg [Cv.raw (Value.bool (decide (a * c < (0 : Int)))), Cv.ent (nat (Int.natAbs (a * c)))]] [] (Av.tup [Sv.agg [Cv.raw (Value.bool (decide (a * b + a * c < (0 : Int)))), Cv.ent (nat (Int.natAbs (a * b + a * c)))], Sv.cel (Cv.raw (Value.int IntKind.i64 (Int.ofNat (nat_lit 0))))]),
    Tr.call 16 [Sv.agg [Cv.raw (Value.bool (decide (a < (0 : Int)))), Cv.ent (nat (Int.natAbs a))]] [] (Av.one (Sv.agg [Cv.raw (Value.bool (decide (a < (0 : Int)))), Cv.ent (dgt (Int.natAbs a))])),
    Tr.call 16 [Sv.agg [Cv.raw (Value.bool (decide (b < (0 : Int)))), Cv.ent (nat (Int.natAbs b))]] [] (Av.one (Sv.agg [Cv.raw (Value.bool (decide (b < (0 : Int)))), Cv.ent (dgt (Int.natAbs b))])),
    Tr.call 24 [Sv.cel (Cv.ent (dgt (Int.natAbs a))), Sv.cel (Cv.ent (dgt (Int.natAbs b)))] [] (Av.one (Sv.cel (Cv.ent (dgt (Int.natAbs a * Int.natAbs b))))),
    Tr.call 20 [Sv.agg [Cv.raw (Value.bool (decide (a * b < (0 : Int)))), Cv.ent (nat (Int.natAbs (a * b)))], Sv.agg [Cv.raw (Value.bool !decide (a < (0 : Int)) == decide (b < (0 : Int))), Cv.ent (dgt (Int.natAbs a * Int.natAbs b))]] [] (Av.one (Sv.cel (Cv.raw (Value.bool true)))),
    Tr.call 22 [Sv.agg [Cv.raw (Value.bool (decide (a * (b + c) < (0 : Int)))), Cv.ent (nat (Int.natAbs (a * (b + c))))], Sv.agg [Cv.raw (Value.bool (decide (a * b + a * c < (0 : Int)))), Cv.ent (nat (Int.natAbs (a * b + a * c)))]] [] (Av.one (Sv.cel (Cv.raw (Value.bool true))))] := ⟨
    counts_f,
    tfit_f ha hb hc _ _,
    mulI_f (lim_of (mul_abs2 ha hb) (by omega)),
    mulI_f (lim_of (mul_abs2 ha hc) (by omega)),
    addI_f (limI30 hb) (limI30 hc) (lim_of (sumLim hb hc) (by omega)),
    mulI_f (lim_of (mul_abs2 ha (sumLim hb hc)) (by omega)),
    addI_f (lim_of (mul_abs2 ha hb) (by omega)) (lim_of (mul_abs2 ha hc) (by omega)) (lim_of (sumLim (mul_abs2 ha hb) (mul_abs2 ha hc)) (by omega)),
    of3_f (limI30 ha),
    of3_f (limI30 hb),
    refMul8_f (k := 120) (by omega) (d8 (n := 30) ha) (d8 (n := 30) hb),
    is3_f (k := 240) (by omega) (by rw [← Int.natAbs_mul]; exact d8 (n := 60) (mul_abs2 ha hb)) (lim_of (mul_abs2 ha hb) (by omega)) (sgv_mul a b),
    sameI3 (by rw [Int.mul_add]), trivial⟩
  exact fits_of_trace (n := 500) (k0 := 0) hT Tryz.func4 (by kernel_rfl) (by kernel_rfl) (by kernel_rfl)

set_option maxRecDepth 100000 in
theorem IntegerMuls_unfit (n0 n1 n2 : Bool) (e0 e1 e2 : Ent) (hu : ∀ (x : Nat) (o : Bool), FitsP 15 [Sv.cel (Cv.row x 0 3 3)] [(x, ⟨25, [.raw (.bool n0), .ent e0, .raw (.bool n1), .ent e1, .raw (.bool n2), .ent e2], o⟩)] (.one (boolS false))) : FitsP 4 [.agg [.raw (.bool n0), .ent e0], .agg [.raw (.bool n1), .ent e1], .agg [.raw (.bool n2), .ent e2]] [] (.one (boolS true)) := by
  have hT : AllOk Tryz.prog Glob [
    Tr.call 14 [] [] (Av.one (Sv.cel (Cv.raw (Value.bool true)))),
    Tr.call 15 [Sv.cel (Cv.row (nat_lit 9) (nat_lit 0) (nat_lit 3) (nat_lit 3))] [(nat_lit 9, { t := 25, cs := [Cv.raw (Value.bool n0), Cv.ent e0, Cv.raw (Value.bool n1), Cv.ent e1, Cv.raw (Value.bool n2), Cv.ent e2], own := true })] (Av.one (Sv.cel (Cv.raw (Value.bool false))))] := ⟨
    counts_f,
    hu _ _, trivial⟩
  exact fits_of_trace (n := 300) (k0 := 0) hT Tryz.func4 (by kernel_rfl) (by kernel_rfl) (by kernel_rfl)

theorem IntegerMuls_un0 {m : Bool} {xs : List Nat} (hu : UnfitI m xs) (m1 : Bool) (a1 : List Nat) (m2 : Bool) (a2 : List Nat) : FitsP 4 [aiS m xs, aiS m1 a1, aiS m2 a2] [] (.one (boolS true)) := IntegerMuls_unfit _ _ _ _ _ _ fun x o => tunfit_0 hu m1 a1 m2 a2 x o

theorem IntegerMuls_un1 {z0 : Int} (h0 : z0.natAbs < 4294967296 ^ 30) {m : Bool} {xs : List Nat} (hu : UnfitI m xs) (m2 : Bool) (a2 : List Nat) : FitsP 4 [im z0, aiS m xs, aiS m2 a2] [] (.one (boolS true)) := IntegerMuls_unfit _ _ _ _ _ _ fun x o => tunfit_1 h0 hu m2 a2 x o

theorem IntegerMuls_un2 {z0 : Int} (h0 : z0.natAbs < 4294967296 ^ 30) {z1 : Int} (h1 : z1.natAbs < 4294967296 ^ 30) {m : Bool} {xs : List Nat} (hu : UnfitI m xs) : FitsP 4 [im z0, im z1, aiS m xs] [] (.one (boolS true)) := IntegerMuls_unfit _ _ _ _ _ _ fun x o => tunfit_2 h0 h1 hu x o
end Go.Proofs.YtphpaejgcahgbaaGreatDoor
