/- IntegerAdds. -/
import Derived.Test.YtphpaejgcahgbaaGreatDoorInt3F
namespace Go.Proofs.YtphpaejgcahgbaaGreatDoor
open Go Go.RowKit Go.Shelf AM
set_option maxRecDepth 100000 in
theorem IntegerAdds_go {a b c : Int} (ha : a.natAbs < 4294967296 ^ 30) (hb : b.natAbs < 4294967296 ^ 30) (hc : c.natAbs < 4294967296 ^ 30) {o1 o2 o3 : Bool} {u1 u2 u3 : Nat} (h1 : sgv o1 u1 = a + b) (h2 : sgv o2 u2 = a - b) (h3 : sgv o3 u3 = a + b + c) (b1 : u1 < 256 ^ 132) (b2 : u2 < 256 ^ 132) (b3 : u3 < 256 ^ 132) (f1 : FitsP 21 [(sgm (decide (a < 0)) a.natAbs), (sgm (decide (b < 0)) b.natAbs)] [] (.one (sgm o1 u1))) (f2 : FitsP 21 [(sgm (decide (a < 0)) a.natAbs), (sgm (!decide (b < 0)) b.natAbs)] [] (.one (sgm o2 u2))) (f3 : FitsP 21 [sgm o1 u1, (sgm (decide (c < 0)) c.natAbs)] [] (.one (sgm o3 u3))) : FitsP 3 [im a, im b, im c] [] (.one (boolS true)) := by
  have hT : AllOk Tryz.prog Glob [
    Tr.call 14 [] [] (Av.one (Sv.cel (Cv.raw (Value.bool true)))),
    Tr.call 15 [Sv.cel (Cv.row (nat_lit 9) (nat_lit 0) (nat_lit 3) (nat_lit 3))] [(nat_lit 9, { t := 25, cs := [Cv.raw (Value.bool (decide (a < (0 : Int)))), Cv.ent (nat (Int.natAbs a)), Cv.raw (Value.bool (decide (b < (0 : Int)))), Cv.ent (nat (Int.natAbs b)), Cv.raw (Value.bool (decide (c < (0 : Int)))), Cv.ent (nat (Int.natAbs c))], own := true })] (Av.one (Sv.cel (Cv.raw (Value.bool true)))),
    Tr.call 16 [Sv.agg [Cv.raw (Value.bool (decide (a < (0 : Int)))), Cv.ent (nat (Int.natAbs a))]] [] (Av.one (Sv.agg [Cv.raw (Value.bool (decide (a < (0 : Int)))), Cv.ent (dgt (Int.natAbs a))])),
    Tr.call 16 [Sv.agg [Cv.raw (Value.bool (decide (b < (0 : Int)))), Cv.ent (nat (Int.natAbs b))]] [] (Av.one (Sv.agg [Cv.raw (Value.bool (decide (b < (0 : Int)))), Cv.ent (dgt (Int.natAbs b))])),
    Tr.call 17 [Sv.agg [Cv.raw (Value.bool (decide (a < (0 : Int)))), Cv.ent (nat (Int.natAbs a))], Sv.agg [Cv.raw (Value.bool (decide (b < (0 : Int)))), Cv.ent (nat (Int.natAbs b))]] [] (Av.tup [Sv.agg [Cv.raw (Value.bool (decide (a + b < (0 : Int)))), Cv.ent (nat (Int.natAbs (a + b)))], Sv.cel (Cv.raw (Value.int IntKind.i64 (Int.ofNat (nat_lit 0))))]),
    Tr.call 18 [Sv.agg [Cv.raw (Value.bool (decide (a < (0 : Int)))), Cv.ent (nat (Int.natAbs a))], Sv.agg [Cv.raw (Value.bool (decide (b < (0 : Int)))), Cv.ent (nat (Int.natAbs b))]] [] (Av.tup [Sv.agg [Cv.raw (Value.bool (decide (a - b < (0 : Int)))), Cv.ent (nat (Int.natAbs (a - b)))], Sv.cel (Cv.raw (Value.int IntKind.i64 (Int.ofNat (nat_lit 0))))]),
    Tr.call 19 [Sv.cel (Cv.row (nat_lit 41) (nat_lit 0) (nat_lit 3) (nat_lit 3))] [(nat_lit 41, { t := 25, cs := [Cv.raw (Value.bool (decide (a < (0 : Int)))), Cv.ent (nat (Int.natAbs a)), Cv.raw (Value.bool (decide (b < (0 : Int)))), Cv.ent (nat (Int.natAbs b)), Cv.raw (Value.bool (decide (c < (0 : Int)))), Cv.ent (nat (Int.natAbs c))], own := true })] (Av.tup [Sv.agg [Cv.raw (Value.bool (decide (a + b + c < (0 : Int)))), Cv.ent (nat (Int.natAbs (a + b + c)))], Sv.cel (Cv.raw (Value.int IntKind.i64 (Int.ofNat (nat_lit 0))))]),
    Tr.call 19 [Sv.cel (Cv.row (nat_lit 52) (nat_lit 0) (nat_lit 3) (nat_lit 3))] [(nat_lit 52, { t := 25, cs := [Cv.raw (Value.bool (decide (c < (0 : Int)))), Cv.ent (nat (Int.natAbs c)), Cv.raw (Value.bool (decide (b < (0 : Int)))), Cv.ent (nat (Int.natAbs b)), Cv.raw (Value.bool (decide (a < (0 : Int)))), Cv.ent (nat (Int.natAbs a))], own := true })] (Av.tup [Sv.agg [Cv.raw (Value.bool (decide (c + b + a < (0 : Int)))), Cv.ent (nat (Int.natAbs (c + b + a)))], Sv.cel (Cv.raw (Value.int IntKind.i64 (Int.ofNat (nat_lit 0))))]),
    Tr.call 21 [Sv.agg [Cv.raw (Value.bool (decide (a < (0 : Int)))), Cv.ent (dgt (Int.natAbs a))], Sv.agg [Cv.raw (Value.bool (decide (b < (0 : Int)))), Cv.ent (dgt (Int.natAbs b))]] [] (Av.one (Sv.agg [Cv.raw (Value.bool o1), Cv.ent (dgt u1)])),
    Tr.call 20 [Sv.agg [Cv.raw (Value.bool (decide (a + b < (0 : Int)))), Cv.ent (nat (Int.natAbs (a + b)))], Sv.agg [Cv.raw (Value.bool o1), Cv.ent (dgt u1)]] [] (Av.one (Sv.cel (Cv.raw (Value.bool true)))),
    Tr.call 21 [Sv.agg [Cv.raw (Value.bool (decide (a < (0 : Int)))), Cv.ent (dgt (Int.natAbs a))], Sv.agg [Cv.raw (Value.bool !decide (b < (0 : Int))), Cv.ent (dgt (Int.natAbs b))]] [] (Av.one (Sv.agg [Cv.raw (Value.bool o2), Cv.ent (dgt u2)])),
    Tr.call 20 [Sv.agg [Cv.raw (Value.bool (decide (a - b < (0 : Int)))), Cv.ent (nat (Int.natAbs (a - b)))], Sv.agg [Cv.raw (Value.bool o2), Cv.ent (dgt u2)]] [] (Av.one (Sv.cel (Cv.raw (Value.bool true)))),
    Tr.call 21 [Sv.agg [Cv.raw (Value.bool (decide (a < (0 : Int)))), Cv.ent (dgt (Int.natAbs a))], Sv.agg [Cv.raw (Value.bool (decide (b < (0 : Int)))), Cv.ent (dgt (Int.natAbs b))]] [] (Av.one (Sv.agg [Cv.raw (Value.bool o1), Cv.ent (dgt u1)])),
    Tr.call 16 [Sv.agg [Cv.raw (Value.bool (decide (c < (0 : Int)))), Cv.ent (nat (Int.natAbs c))]] [] (Av.one (Sv.agg [Cv.raw (Value.bool (decide (c < (0 : Int)))), Cv.ent (dgt (Int.natAbs c))])),
    Tr.call 21 [Sv.agg [Cv.raw (Value.bool o1), Cv.ent (dgt u1)], Sv.agg [Cv.raw (Value.bool (decide (c < (0 : Int)))), Cv.ent (dgt (Int.natAbs c))]] [] (Av.one (Sv.agg [Cv.raw (Value.bool o3), Cv.ent (dgt u3)])),
    Tr.call 20 [Sv.agg [Cv.raw (Value.bool (decide (a + b + c < (0 : Int)))), Cv.ent (nat (Int.natAbs (a + b + c)))], Sv.agg [Cv.raw (Value.bool o3), Cv.ent (dgt u3)]] [] (Av.one (Sv.cel (Cv.raw (Value.bool true)))),
    Tr.call 22 [Sv.agg [Cv.raw (Value.bool (decide (a + b + c < (0 : Int)))), Cv.ent (nat (Int.natAbs (a + b + c)))], Sv.agg [Cv.raw (Value.bool (decide (c + b + a < (0 : Int)))), Cv.ent (nat (Int.natAbs (c + b + a)))]] [] (Av.one (Sv.cel (Cv.raw (Value.bool true))))] := ⟨
    counts_f,
    tfit_f ha hb hc _ _,
    of3_f (limI30 ha),
    of3_f (limI30 hb),
    addI_f (limI30 ha) (limI30 hb) (lim_of (sumLim ha hb) (by omega)),
    subI_f (limI30 ha) (limI30 hb) (lim_of (sub_abs ha hb) (by omega)),
    sum3I_f ha hb hc _ _,
    sum3I_f hc hb ha _ _,
    f1,
    is3_f (k := 132) (by omega) b1 (lim_of (sumLim ha hb) (by omega)) h1,
    f2,
    is3_f (k := 132) (by omega) b2 (lim_of (sub_abs ha hb) (by omega)) h2,
    f1,
    of3_f (limI30 hc),
    f3,
    is3_f (k := 132) (by omega) b3 (lim_of (sumLim (n := 31) (sumLim ha hb) (Nat.lt_of_lt_of_le hc (Nat.pow_le_pow_right (by omega) (by omega)))) (by omega)) h3,
    sameI3 (by omega), trivial⟩
  exact fits_of_trace (n := 500) (k0 := 0) hT Tryz.func3 (by kernel_rfl) (by kernel_rfl) (by kernel_rfl)

theorem two_pow {n : Nat} : 2 * 4294967296 ^ n ≤ 4294967296 ^ (n + 1) := by rw [Nat.pow_succ]; omega
theorem big8 {x n : Nat} (h : x < 4294967296 ^ n) (hn : n ≤ 33) : x < 256 ^ 132 := Nat.lt_of_lt_of_le (d8 h) (Nat.pow_le_pow_right (by omega) (by omega))
theorem IntegerAdds_fit {a b c : Int} (ha : a.natAbs < 4294967296 ^ 30) (hb : b.natAbs < 4294967296 ^ 30) (hc : c.natAbs < 4294967296 ^ 30) : FitsP 3 [im a, im b, im c] [] (.one (boolS true)) := by
  have ba := big8 ha (by omega)
  have bb := big8 hb (by omega)
  have bc := big8 hc (by omega)
  obtain ⟨o1, u1, e1, _, l1, f1⟩ := add3_f (m := decide (a < 0)) (n := decide (b < 0)) (k := 132) (by omega) ba bb
  obtain ⟨o2, u2, e2, _, l2, f2⟩ := add3_f (m := decide (a < 0)) (n := !decide (b < 0)) (k := 132) (by omega) ba bb
  have p31 := two_pow (n := 30)
  have p32' := two_pow (n := 31)
  have v1 : u1 < 256 ^ 132 := big8 (n := 31) (by omega) (by omega)
  have v2 : u2 < 256 ^ 132 := big8 (n := 31) (by omega) (by omega)
  obtain ⟨o3, u3, e3, _, l3, f3⟩ := add3_f (m := o1) (n := decide (c < 0)) (k := 132) (by omega) v1 bc
  have v3 : u3 < 256 ^ 132 := big8 (n := 32) (by omega) (by omega)
  rw [sgv_self] at e1 e2 e3
  rw [sgv_self] at e1
  rw [sgv_neg] at e2
  exact IntegerAdds_go ha hb hc e1 (by omega) (by omega) v1 v2 v3 f1 f2 f3

set_option maxRecDepth 100000 in
theorem IntegerAdds_unfit (n0 n1 n2 : Bool) (e0 e1 e2 : Ent) (hu : ∀ (x : Nat) (o : Bool), FitsP 15 [Sv.cel (Cv.row x 0 3 3)] [(x, ⟨25, [.raw (.bool n0), .ent e0, .raw (.bool n1), .ent e1, .raw (.bool n2), .ent e2], o⟩)] (.one (boolS false))) : FitsP 3 [.agg [.raw (.bool n0), .ent e0], .agg [.raw (.bool n1), .ent e1], .agg [.raw (.bool n2), .ent e2]] [] (.one (boolS true)) := by
  have hT : AllOk Tryz.prog Glob [
    Tr.call 14 [] [] (Av.one (Sv.cel (Cv.raw (Value.bool true)))),
    Tr.call 15 [Sv.cel (Cv.row (nat_lit 9) (nat_lit 0) (nat_lit 3) (nat_lit 3))] [(nat_lit 9, { t := 25, cs := [Cv.raw (Value.bool n0), Cv.ent e0, Cv.raw (Value.bool n1), Cv.ent e1, Cv.raw (Value.bool n2), Cv.ent e2], own := true })] (Av.one (Sv.cel (Cv.raw (Value.bool false))))] := ⟨
    counts_f,
    hu _ _, trivial⟩
  exact fits_of_trace (n := 300) (k0 := 0) hT Tryz.func3 (by kernel_rfl) (by kernel_rfl) (by kernel_rfl)

theorem IntegerAdds_un0 {m : Bool} {xs : List Nat} (hu : UnfitI m xs) (m1 : Bool) (a1 : List Nat) (m2 : Bool) (a2 : List Nat) : FitsP 3 [aiS m xs, aiS m1 a1, aiS m2 a2] [] (.one (boolS true)) := IntegerAdds_unfit _ _ _ _ _ _ fun x o => tunfit_0 hu m1 a1 m2 a2 x o

theorem IntegerAdds_un1 {z0 : Int} (h0 : z0.natAbs < 4294967296 ^ 30) {m : Bool} {xs : List Nat} (hu : UnfitI m xs) (m2 : Bool) (a2 : List Nat) : FitsP 3 [im z0, aiS m xs, aiS m2 a2] [] (.one (boolS true)) := IntegerAdds_unfit _ _ _ _ _ _ fun x o => tunfit_1 h0 hu m2 a2 x o

theorem IntegerAdds_un2 {z0 : Int} (h0 : z0.natAbs < 4294967296 ^ 30) {z1 : Int} (h1 : z1.natAbs < 4294967296 ^ 30) {m : Bool} {xs : List Nat} (hu : UnfitI m xs) : FitsP 3 [im z0, im z1, aiS m xs] [] (.one (boolS true)) := IntegerAdds_unfit _ _ _ _ _ _ fun x o => tunfit_2 h0 h1 hu x o
end Go.Proofs.YtphpaejgcahgbaaGreatDoor
