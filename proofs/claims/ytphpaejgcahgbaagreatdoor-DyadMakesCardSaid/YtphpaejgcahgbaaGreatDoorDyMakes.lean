/- DyadMakes. -/
import Derived.Test.YtphpaejgcahgbaaGreatDoorDyL
import Derived.Test.YtphpaejgcahgbaaGreatDoorDyFit
namespace Go.Proofs.YtphpaejgcahgbaaGreatDoor
open Go Go.RowKit Go.Shelf AM
/-! What a number and a power of two come to. -/
theorem len15 {z : Int} (h : z.natAbs < 4294967296 ^ 15) : decide (((lenN z.natAbs : Nat) : Int) > 15) = false := gt_false (lenN_le.2 h)
theorem lim15 {z : Int} (h : z.natAbs < 4294967296 ^ 15) : LimI z := lim_of h (by omega)
theorem tl_bound {t x n : Nat} (ht : IsTail t x) (h0 : x ≠ 0) (h : x < 4294967296 ^ n) : t < 32 * n := by
  rcases ht with ⟨h2, _⟩ | ⟨m, hm⟩
  · exact absurd h2 h0
  · have h3 : 2 ^ t ≤ x := by rw [hm]; exact Nat.le_mul_of_pos_right _ (by omega)
    rw [p32] at h
    exact (Nat.pow_lt_pow_iff_right (a := 2) (by omega)).1 (Nat.lt_of_le_of_lt h3 h)
theorem tl15 {z : Int} {t : Nat} (h : z.natAbs < 4294967296 ^ 15) (h0 : z ≠ 0) (ht : IsTail t z.natAbs) : t ≤ 480 := by
  have := tl_bound ht (by omega) h
  omega
theorem sameI_eq {z1 z2 : Int} (h : z1 = z2) : FitsP 22 [im z1, im z2] [] (.one (boolS true)) := by
  have := sameI_f (z1 := z1) (z2 := z2)
  rw [decide_eq_true h] at this; exact this

set_option maxRecDepth 100000 in
theorem DyadMakes_zero {x : Int} (h : (0 : Int).natAbs < 4294967296 ^ 15) : FitsP 8 [im 0, intS x] [] (.one (boolS true)) := by
  have hT : AllOk Tryz.prog Glob [
    Tr.call 44 [] [] (Av.one (Sv.cel (Cv.raw (Value.bool true)))),
    Tr.call 26 [Sv.agg [Cv.raw (Value.bool (decide ((0 : Int) < (0 : Int)))), Cv.ent (nat (Int.natAbs (0 : Int)))]] [] (Av.one (Sv.cel (Cv.raw (Value.int IntKind.i64 (Int.ofNat (nat_lit 0)))))),
    Tr.call 52 [Sv.agg [Cv.raw (Value.bool (decide ((0 : Int) < (0 : Int)))), Cv.ent (nat (Int.natAbs (0 : Int)))], Sv.cel (Cv.raw (Value.int IntKind.i64 x))] [] (Av.tup [Sv.agg [Cv.raw (Value.bool (decide (Dy.m { m := (0 : Int), e := (0 : Int) } < (0 : Int)))), Cv.ent (nat (Int.natAbs (Dy.m { m := (0 : Int), e := (0 : Int) }))), Cv.raw (Value.int IntKind.i64 (Int.ofNat (nat_lit 0)))], Sv.cel (Cv.raw (Value.int IntKind.i64 (Int.ofNat (nat_lit 0))))]),
    Tr.call 53 [Sv.agg [Cv.raw (Value.bool (decide ((0 : Int) < (0 : Int)))), Cv.ent (nat (Int.natAbs (0 : Int)))]] [] (Av.one (Sv.cel (Cv.raw (Value.int IntKind.i64 (Int.ofNat (nat_lit 0)))))),
    Tr.call 54 [Sv.agg [Cv.raw (Value.bool (decide (Dy.m { m := (0 : Int), e := (0 : Int) } < (0 : Int)))), Cv.ent (nat (Int.natAbs (Dy.m { m := (0 : Int), e := (0 : Int) }))), Cv.raw (Value.int IntKind.i64 (Int.ofNat (nat_lit 0)))]] [] (Av.one (Sv.cel (Cv.raw (Value.int IntKind.i64 (Int.ofNat (nat_lit 0))))))] := ⟨
    halves_f,
    checkI_f (lim15 h),
    make0D_f,
    sign_lit rfl,
    signD_f rfl, trivial⟩
  exact fits_of_trace (n := 300) (k0 := 0) hT Tryz.func8 (by kernel_rfl) (by kernel_rfl) (by kernel_rfl)

set_option maxRecDepth 100000 in
theorem DyadMakes_hi {z x s : Int} {t : Nat} (h : z.natAbs < 4294967296 ^ 15) (_h0 : z ≠ 0) (hs : sign3 z = s) (hs0 : s ≠ 0) (ht : IsTail t z.natAbs) (hx : x > 65536) : FitsP 8 [im z, intS x] [] (.one (boolS true)) := by
  have hT : AllOk Tryz.prog Glob [
    Tr.call 44 [] [] (Av.one (Sv.cel (Cv.raw (Value.bool true)))),
    Tr.norm (nat_lit 8) (Av.one (Sv.cel (Cv.raw (Value.bool (decide ((↑(lenN (Int.natAbs z)) : Int) > (15 : Int))))))) (Av.one (Sv.cel (Cv.raw (Value.bool false)))),
    Tr.call 26 [Sv.agg [Cv.raw (Value.bool (decide (z < (0 : Int)))), Cv.ent (nat (Int.natAbs z))]] [] (Av.one (Sv.cel (Cv.raw (Value.int IntKind.i64 (Int.ofNat (nat_lit 0)))))),
    Tr.call 52 [Sv.agg [Cv.raw (Value.bool (decide (z < (0 : Int)))), Cv.ent (nat (Int.natAbs z))], Sv.cel (Cv.raw (Value.int IntKind.i64 x))] [] (Av.tup [Sv.agg [Cv.raw (Value.bool (decide (Dy.m { m := (0 : Int), e := (0 : Int) } < (0 : Int)))), Cv.ent (nat (Int.natAbs (Dy.m { m := (0 : Int), e := (0 : Int) }))), Cv.raw (Value.int IntKind.i64 (Int.ofNat (nat_lit 0)))], Sv.cel (Cv.raw (Value.int IntKind.i64 (Int.ofNat (nat_lit 1))))]),
    Tr.call 53 [Sv.agg [Cv.raw (Value.bool (decide (z < (0 : Int)))), Cv.ent (nat (Int.natAbs z))]] [] (Av.one (Sv.cel (Cv.raw (Value.int IntKind.i64 s)))),
    Tr.norm (nat_lit 24) (Av.one (Sv.cel (Cv.raw (Value.bool (s == (0 : Int)))))) (Av.one (Sv.cel (Cv.raw (Value.bool false)))),
    Tr.norm (nat_lit 27) (Av.one (Sv.cel (Cv.raw (Value.bool (decide (x > (65536 : Int))))))) (Av.one (Sv.cel (Cv.raw (Value.bool true)))),
    Tr.call 54 [Sv.agg [Cv.raw (Value.bool (decide (Dy.m { m := (0 : Int), e := (0 : Int) } < (0 : Int)))), Cv.ent (nat (Int.natAbs (Dy.m { m := (0 : Int), e := (0 : Int) }))), Cv.raw (Value.int IntKind.i64 (Int.ofNat (nat_lit 0)))]] [] (Av.one (Sv.cel (Cv.raw (Value.int IntKind.i64 (Int.ofNat (nat_lit 0))))))] := ⟨
    halves_f,
    norm_bool (len15 h),
    checkI_f (lim15 h),
    make2D_f hs hs0 ht (by omega),
    sign_lit hs,
    norm_bool (eq_false hs0),
    norm_bool (decide_eq_true hx),
    signD_f rfl, trivial⟩
  exact fits_of_trace (n := 300) (k0 := 0) hT Tryz.func8 (by kernel_rfl) (by kernel_rfl) (by kernel_rfl)

set_option maxRecDepth 100000 in
theorem DyadMakes_lo {z x s : Int} {t : Nat} (h : z.natAbs < 4294967296 ^ 15) (_h0 : z ≠ 0) (hs : sign3 z = s) (hs0 : s ≠ 0) (ht : IsTail t z.natAbs) (hx : ¬ x > 65536) (hy : x < -65536) : FitsP 8 [im z, intS x] [] (.one (boolS true)) := by
  have hT : AllOk Tryz.prog Glob [
    Tr.call 44 [] [] (Av.one (Sv.cel (Cv.raw (Value.bool true)))),
    Tr.norm (nat_lit 8) (Av.one (Sv.cel (Cv.raw (Value.bool (decide ((↑(lenN (Int.natAbs z)) : Int) > (15 : Int))))))) (Av.one (Sv.cel (Cv.raw (Value.bool false)))),
    Tr.call 26 [Sv.agg [Cv.raw (Value.bool (decide (z < (0 : Int)))), Cv.ent (nat (Int.natAbs z))]] [] (Av.one (Sv.cel (Cv.raw (Value.int IntKind.i64 (Int.ofNat (nat_lit 0)))))),
    Tr.call 52 [Sv.agg [Cv.raw (Value.bool (decide (z < (0 : Int)))), Cv.ent (nat (Int.natAbs z))], Sv.cel (Cv.raw (Value.int IntKind.i64 x))] [] (Av.tup [Sv.agg [Cv.raw (Value.bool (decide (Dy.m { m := (0 : Int), e := (0 : Int) } < (0 : Int)))), Cv.ent (nat (Int.natAbs (Dy.m { m := (0 : Int), e := (0 : Int) }))), Cv.raw (Value.int IntKind.i64 (Int.ofNat (nat_lit 0)))], Sv.cel (Cv.raw (Value.int IntKind.i64 (Int.ofNat (nat_lit 1))))]),
    Tr.call 53 [Sv.agg [Cv.raw (Value.bool (decide (z < (0 : Int)))), Cv.ent (nat (Int.natAbs z))]] [] (Av.one (Sv.cel (Cv.raw (Value.int IntKind.i64 s)))),
    Tr.norm (nat_lit 24) (Av.one (Sv.cel (Cv.raw (Value.bool (s == (0 : Int)))))) (Av.one (Sv.cel (Cv.raw (Value.bool false)))),
    Tr.norm (nat_lit 27) (Av.one (Sv.cel (Cv.raw (Value.bool (decide (x > (65536 : Int))))))) (Av.one (Sv.cel (Cv.raw (Value.bool false)))),
    Tr.norm (nat_lit 31) (Av.one (Sv.cel (Cv.raw (Value.bool (decide (x < (-65536 : Int))))))) (Av.one (Sv.cel (Cv.raw (Value.bool true)))),
    Tr.call 54 [Sv.agg [Cv.raw (Value.bool (decide (Dy.m { m := (0 : Int), e := (0 : Int) } < (0 : Int)))), Cv.ent (nat (Int.natAbs (Dy.m { m := (0 : Int), e := (0 : Int) }))), Cv.raw (Value.int IntKind.i64 (Int.ofNat (nat_lit 0)))]] [] (Av.one (Sv.cel (Cv.raw (Value.int IntKind.i64 (Int.ofNat (nat_lit 0))))))] := ⟨
    halves_f,
    norm_bool (len15 h),
    checkI_f (lim15 h),
    make2D_f hs hs0 ht (by omega),
    sign_lit hs,
    norm_bool (eq_false hs0),
    norm_bool (decide_eq_false hx),
    norm_bool (decide_eq_true hy),
    signD_f rfl, trivial⟩
  exact fits_of_trace (n := 300) (k0 := 0) hT Tryz.func8 (by kernel_rfl) (by kernel_rfl) (by kernel_rfl)

set_option maxRecDepth 100000 in
theorem DyadMakes_over {z x s : Int} {t : Nat} (h : z.natAbs < 4294967296 ^ 15) (h0 : z ≠ 0) (hs : sign3 z = s) (hs0 : s ≠ 0) (ht : IsTail t z.natAbs) (hx : ¬ x > 65536) (hy : ¬ x < -65536) (hz : 65536 < x + t) : FitsP 8 [im z, intS x] [] (.one (boolS true)) := by
  have hT : AllOk Tryz.prog Glob [
    Tr.call 44 [] [] (Av.one (Sv.cel (Cv.raw (Value.bool true)))),
    Tr.norm (nat_lit 8) (Av.one (Sv.cel (Cv.raw (Value.bool (decide ((↑(lenN (Int.natAbs z)) : Int) > (15 : Int))))))) (Av.one (Sv.cel (Cv.raw (Value.bool false)))),
    Tr.call 26 [Sv.agg [Cv.raw (Value.bool (decide (z < (0 : Int)))), Cv.ent (nat (Int.natAbs z))]] [] (Av.one (Sv.cel (Cv.raw (Value.int IntKind.i64 (Int.ofNat (nat_lit 0)))))),
    Tr.call 52 [Sv.agg [Cv.raw (Value.bool (decide (z < (0 : Int)))), Cv.ent (nat (Int.natAbs z))], Sv.cel (Cv.raw (Value.int IntKind.i64 x))] [] (Av.tup [Sv.agg [Cv.raw (Value.bool (decide (Dy.m { m := (0 : Int), e := (0 : Int) } < (0 : Int)))), Cv.ent (nat (Int.natAbs (Dy.m { m := (0 : Int), e := (0 : Int) }))), Cv.raw (Value.int IntKind.i64 (Int.ofNat (nat_lit 0)))], Sv.cel (Cv.raw (Value.int IntKind.i64 (Int.ofNat (nat_lit 1))))]),
    Tr.call 53 [Sv.agg [Cv.raw (Value.bool (decide (z < (0 : Int)))), Cv.ent (nat (Int.natAbs z))]] [] (Av.one (Sv.cel (Cv.raw (Value.int IntKind.i64 s)))),
    Tr.norm (nat_lit 24) (Av.one (Sv.cel (Cv.raw (Value.bool (s == (0 : Int)))))) (Av.one (Sv.cel (Cv.raw (Value.bool false)))),
    Tr.norm (nat_lit 27) (Av.one (Sv.cel (Cv.raw (Value.bool (decide (x > (65536 : Int))))))) (Av.one (Sv.cel (Cv.raw (Value.bool false)))),
    Tr.norm (nat_lit 31) (Av.one (Sv.cel (Cv.raw (Value.bool (decide (x < (-65536 : Int))))))) (Av.one (Sv.cel (Cv.raw (Value.bool false)))),
    Tr.call 55 [Sv.cel (Cv.ent (nat (Int.natAbs z)))] [] (Av.one (Sv.cel (Cv.raw (Value.int IntKind.i64 (↑t : Int))))),
    Tr.norm (nat_lit 38) (Av.one (Sv.cel (Cv.raw (Value.bool (decide (IntKind.wrap IntKind.i64 (x + (↑t : Int)) > (65536 : Int))))))) (Av.one (Sv.cel (Cv.raw (Value.bool true)))),
    Tr.call 54 [Sv.agg [Cv.raw (Value.bool (decide (Dy.m { m := (0 : Int), e := (0 : Int) } < (0 : Int)))), Cv.ent (nat (Int.natAbs (Dy.m { m := (0 : Int), e := (0 : Int) }))), Cv.raw (Value.int IntKind.i64 (Int.ofNat (nat_lit 0)))]] [] (Av.one (Sv.cel (Cv.raw (Value.int IntKind.i64 (Int.ofNat (nat_lit 0))))))] := ⟨
    halves_f,
    norm_bool (len15 h),
    checkI_f (lim15 h),
    make3D_f hs hs0 ht (by omega) (by omega) hz (by have := tl15 h h0 ht; omega),
    sign_lit hs,
    norm_bool (eq_false hs0),
    norm_bool (decide_eq_false hx),
    norm_bool (decide_eq_false hy),
    tail_f ht,
    norm_bool (by rw [w64s (by have := tl15 h h0 ht; omega) (by have := tl15 h h0 ht; omega)]; exact decide_eq_true (by omega)),
    signD_f rfl, trivial⟩
  exact fits_of_trace (n := 300) (k0 := 0) hT Tryz.func8 (by kernel_rfl) (by kernel_rfl) (by kernel_rfl)

theorem checkFine {z x : Int} {t : Nat} (h : z.natAbs < 4294967296 ^ 15) (h0 : z ≠ 0) (ht : IsTail t z.natAbs) (h1 : -65536 ≤ x) (h2 : x + t ≤ 65536) : FitsP 57 [dS ⟨z / 2 ^ t, x + t⟩] [] (.one ok0) := by
  have hd := tail_div ht h0
  exact checkD1_f (by show -65536 ≤ x + (t : Int); omega) h2 (lim_of (Nat.lt_of_le_of_lt (Int.natAbs_ediv_le_natAbs _ _) h) (by omega)) rfl (sign3_ne (by show z / 2 ^ t ≠ 0; have := hd.2; omega)) hd.2
set_option maxRecDepth 100000 in
theorem DyadMakes_fine {z x s : Int} {t : Nat} (h : z.natAbs < 4294967296 ^ 15) (h0 : z ≠ 0) (hs : sign3 z = s) (hs0 : s ≠ 0) (ht : IsTail t z.natAbs) (hx : ¬ x > 65536) (hy : ¬ x < -65536) (hz : ¬ 65536 < x + t) : FitsP 8 [im z, intS x] [] (.one (boolS true)) := by
  have hT : AllOk Tryz.prog Glob [
    Tr.call 44 [] [] (Av.one (Sv.cel (Cv.raw (Value.bool true)))),
    Tr.norm (nat_lit 8) (Av.one (Sv.cel (Cv.raw (Value.bool (decide ((↑(lenN (Int.natAbs z)) : Int) > (15 : Int))))))) (Av.one (Sv.cel (Cv.raw (Value.bool false)))),
    Tr.call 26 [Sv.agg [Cv.raw (Value.bool (decide (z < (0 : Int)))), Cv.ent (nat (Int.natAbs z))]] [] (Av.one (Sv.cel (Cv.raw (Value.int IntKind.i64 (Int.ofNat (nat_lit 0)))))),
    Tr.call 52 [Sv.agg [Cv.raw (Value.bool (decide (z < (0 : Int)))), Cv.ent (nat (Int.natAbs z))], Sv.cel (Cv.raw (Value.int IntKind.i64 x))] [] (Av.tup [Sv.agg [Cv.raw (Value.bool (decide (Dy.m { m := z / (2 : Int) ^ t, e := x + (↑t : Int) } < (0 : Int)))), Cv.ent (nat (Int.natAbs (Dy.m { m := z / (2 : Int) ^ t, e := x + (↑t : Int) }))), Cv.raw (Value.int IntKind.i64 (Dy.e { m := z / (2 : Int) ^ t, e := x + (↑t : Int) }))], Sv.cel (Cv.raw (Value.int IntKind.i64 (Int.ofNat (nat_lit 0))))]),
    Tr.call 53 [Sv.agg [Cv.raw (Value.bool (decide (z < (0 : Int)))), Cv.ent (nat (Int.natAbs z))]] [] (Av.one (Sv.cel (Cv.raw (Value.int IntKind.i64 s)))),
    Tr.norm (nat_lit 24) (Av.one (Sv.cel (Cv.raw (Value.bool (s == (0 : Int)))))) (Av.one (Sv.cel (Cv.raw (Value.bool false)))),
    Tr.norm (nat_lit 27) (Av.one (Sv.cel (Cv.raw (Value.bool (decide (x > (65536 : Int))))))) (Av.one (Sv.cel (Cv.raw (Value.bool false)))),
    Tr.norm (nat_lit 31) (Av.one (Sv.cel (Cv.raw (Value.bool (decide (x < (-65536 : Int))))))) (Av.one (Sv.cel (Cv.raw (Value.bool false)))),
    Tr.call 55 [Sv.cel (Cv.ent (nat (Int.natAbs z)))] [] (Av.one (Sv.cel (Cv.raw (Value.int IntKind.i64 (↑t : Int))))),
    Tr.norm (nat_lit 38) (Av.one (Sv.cel (Cv.raw (Value.bool (decide (IntKind.wrap IntKind.i64 (x + (↑t : Int)) > (65536 : Int))))))) (Av.one (Sv.cel (Cv.raw (Value.bool false)))),
    Tr.call 56 [Sv.agg [Cv.raw (Value.bool (decide (Dy.m { m := z / (2 : Int) ^ t, e := x + (↑t : Int) } < (0 : Int)))), Cv.ent (nat (Int.natAbs (Dy.m { m := z / (2 : Int) ^ t, e := x + (↑t : Int) })))], Sv.cel (Cv.raw (Value.int IntKind.i64 (IntKind.wrap IntKind.i64 (Dy.e { m := z / (2 : Int) ^ t, e := x + (↑t : Int) } - x))))] [] (Av.tup [Sv.agg [Cv.raw (Value.bool (decide (z / (2 : Int) ^ t * (2 : Int) ^ t < (0 : Int)))), Cv.ent (nat (Int.natAbs (z / (2 : Int) ^ t * (2 : Int) ^ t)))], Sv.cel (Cv.raw (Value.int IntKind.i64 (Int.ofNat (nat_lit 0))))]),
    Tr.call 22 [Sv.agg [Cv.raw (Value.bool (decide (z / (2 : Int) ^ t * (2 : Int) ^ t < (0 : Int)))), Cv.ent (nat (Int.natAbs (z / (2 : Int) ^ t * (2 : Int) ^ t)))], Sv.agg [Cv.raw (Value.bool (decide (z < (0 : Int)))), Cv.ent (nat (Int.natAbs z))]] [] (Av.one (Sv.cel (Cv.raw (Value.bool true)))),
    Tr.call 57 [Sv.agg [Cv.raw (Value.bool (decide (Dy.m { m := z / (2 : Int) ^ t, e := x + (↑t : Int) } < (0 : Int)))), Cv.ent (nat (Int.natAbs (Dy.m { m := z / (2 : Int) ^ t, e := x + (↑t : Int) }))), Cv.raw (Value.int IntKind.i64 (Dy.e { m := z / (2 : Int) ^ t, e := x + (↑t : Int) }))]] [] (Av.one (Sv.cel (Cv.raw (Value.int IntKind.i64 (Int.ofNat (nat_lit 0))))))] := ⟨
    halves_f,
    norm_bool (len15 h),
    checkI_f (lim15 h),
    make1D_f hs hs0 ht (by omega) (by omega) (lim15 h),
    sign_lit hs,
    norm_bool (eq_false hs0),
    norm_bool (decide_eq_false hx),
    norm_bool (decide_eq_false hy),
    tail_f ht,
    norm_bool (by rw [w64s (by have := tl15 h h0 ht; omega) (by have := tl15 h h0 ht; omega)]; exact decide_eq_false (by omega)),
    leftW_f (j := t) (by rw [w64s (by have := tl15 h h0 ht; show -1000000000 ≤ x + (t : Int) - x; omega) (by have := tl15 h h0 ht; show x + (t : Int) - x ≤ 1000000000; omega)]; show x + (t : Int) - x = t; omega) (by have := tl15 h h0 ht; omega) (by show LimI (z / 2 ^ t * 2 ^ t); rw [(tail_div ht h0).1]; exact lim15 h),
    sameI_eq (tail_div ht h0).1,
    checkFine h h0 ht (by omega) (by omega), trivial⟩
  exact fits_of_trace (n := 300) (k0 := 0) hT Tryz.func8 (by kernel_rfl) (by kernel_rfl) (by kernel_rfl)

theorem DyadMakes_fit {z x : Int} (h : z.natAbs < 4294967296 ^ 15) : FitsP 8 [im z, intS x] [] (.one (boolS true)) := by
  by_cases h0 : z = 0
  · subst h0; exact DyadMakes_zero h
  have hs := sign3_ne h0
  have ht := tl_is z.natAbs
  by_cases hx : x > 65536
  · exact DyadMakes_hi h h0 rfl hs ht hx
  by_cases hy : x < -65536
  · exact DyadMakes_lo h h0 rfl hs ht hx hy
  by_cases hz : 65536 < x + (tl z.natAbs : Int)
  · exact DyadMakes_over h h0 rfl hs ht hx hy hz
  · exact DyadMakes_fine h h0 rfl hs ht hx hy hz

set_option maxRecDepth 100000 in
theorem DyadMakes_un1 {m : Bool} {xs : List Nat} {x : Int} (h : 15 < xs.length) : FitsP 8 [aiS m xs, intS x] [] (.one (boolS true)) := by
  have hT : AllOk Tryz.prog Glob [
    Tr.call 44 [] [] (Av.one (Sv.cel (Cv.raw (Value.bool true)))),
    Tr.norm (nat_lit 8) (Av.one (Sv.cel (Cv.raw (Value.bool (decide ((↑(List.length xs) : Int) > (15 : Int))))))) (Av.one (Sv.cel (Cv.raw (Value.bool true))))] := ⟨
    halves_f,
    norm_bool (gt_true h), trivial⟩
  exact fits_of_trace (n := 300) (k0 := 0) hT Tryz.func8 (by kernel_rfl) (by kernel_rfl) (by kernel_rfl)

set_option maxRecDepth 100000 in
theorem DyadMakes_un2 {m : Bool} {xs : List Nat} {x c : Int} (hx : xs.length ≤ 15) (hc : checkI m xs = c) (h : c ≠ 0) : FitsP 8 [aiS m xs, intS x] [] (.one (boolS true)) := by
  have hT : AllOk Tryz.prog Glob [
    Tr.call 44 [] [] (Av.one (Sv.cel (Cv.raw (Value.bool true)))),
    Tr.norm (nat_lit 8) (Av.one (Sv.cel (Cv.raw (Value.bool (decide ((↑(List.length xs) : Int) > (15 : Int))))))) (Av.one (Sv.cel (Cv.raw (Value.bool false)))),
    Tr.call 26 [Sv.agg [Cv.raw (Value.bool m), Cv.ent (argE xs)]] [] (Av.one (Sv.cel (Cv.raw (Value.int IntKind.i64 c)))),
    Tr.norm (nat_lit 12) (Av.one (Sv.cel (Cv.raw (Value.bool (c != (0 : Int)))))) (Av.one (Sv.cel (Cv.raw (Value.bool true))))] := ⟨
    halves_f,
    norm_bool (gt_false hx),
    checkA_is (by omega) hc,
    norm_bool (ne_true h), trivial⟩
  exact fits_of_trace (n := 300) (k0 := 0) hT Tryz.func8 (by kernel_rfl) (by kernel_rfl) (by kernel_rfl)
end Go.Proofs.YtphpaejgcahgbaaGreatDoor
