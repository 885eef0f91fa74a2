/- IntegerShifts. -/
import Derived.Test.YtlgfjgkcgimdoaaDoorIntFit
namespace Go.Proofs.YtlgfjgkcgimdoaaDoor
open Go Go.RowKit Go.Shelf AM
section
variable {z : Int} {k x y : Nat}
theorem lt0 {n : Nat} : decide ((n : Int) < 0) = false := by rw [decide_eq_false_iff_not]; omega
theorem sh_abs (h : z.natAbs < 4294967296 ^ 30) (hk : k ≤ 1000) : (z * 2 ^ k).natAbs < 4294967296 ^ 62 := by
  rw [Int.natAbs_mul, Int.natAbs_pow, show (62 : Nat) = 30 + 32 from rfl]
  exact mul_pow_lt h (Nat.lt_of_le_of_lt (Nat.pow_le_pow_right (by decide) hk) (by decide +kernel))
theorem pow_lt32 (hk : k ≤ 1000) : 2 ^ k < 4294967296 ^ 32 := Nat.lt_of_le_of_lt (Nat.pow_le_pow_right (by omega) hk) (by decide +kernel)
theorem leftN_is (h1 : k ≤ 1000) : FitsP 7 [natS 1, intS (k : Int)] [] (.tup [natS (2 ^ k), ok0]) := by
  have := left_f (x := 1) (k := k) (by omega) (by rw [Nat.one_mul]; exact lim_of (pow_lt32 h1) (by omega))
  rw [Nat.one_mul] at this; exact this
theorem natPn_f {d : Nat} : FitsP 12 [natS d] [] (.one (pn d)) := by rw [← im_pn]; exact nat_f
theorem pow_cast : ((2 ^ k : Nat) : Int) = 2 ^ k := by rw [Int.natCast_pow]; rfl
theorem mulP_f (h : z.natAbs < 4294967296 ^ 30) (hk : k ≤ 1000) : FitsP 11 [im z, pn (2 ^ k)] [] (.tup [im (z * 2 ^ k), ok0]) := by
  rw [← im_pn, pow_cast]; exact mulI_f (lim_of (sh_abs h hk) (by omega))
theorem divP_f (h : z.natAbs < 4294967296 ^ 30) (hk : k ≤ 1000) : FitsP 13 [im z, pn (2 ^ k)] [] (.tup [im (z / 2 ^ k), im (z % 2 ^ k), ok0]) := by
  rw [← im_pn, pow_cast]
  refine divI_f (limI30 h) ?_ ?_
  · rw [← pow_cast]; unfold LimI; rw [Int.natAbs_natCast]; exact lim_of (pow_lt32 hk) (by omega)
  · rw [← pow_cast]; have : 0 < 2 ^ k := Nat.two_pow_pos k; omega
theorem backP_f (h : z.natAbs < 4294967296 ^ 30) (hk : k ≤ 1000) : FitsP 10 [im (z * 2 ^ k), intS (k : Int)] [] (.tup [im z, ok0]) := by
  have := rightI_f (z1 := z * 2 ^ k) (k := k) (by omega) (lim_of (sh_abs h hk) (by omega))
  rw [Int.mul_ediv_cancel _ (by rw [← pow_cast]; have : 0 < 2 ^ k := Nat.two_pow_pos k; omega)] at this; exact this
theorem of1_f : FitsP 8 [rawS (.int .u64 1)] [] (.one (natS 1)) := of_f (x := 1) (by decide)
theorem sameT_f : FitsP 14 [im z, im z] [] (.one (boolS true)) := by
  have := sameI_f (z1 := z) (z2 := z)
  rw [decide_eq_true rfl] at this; exact this
end

set_option maxRecDepth 100000 in
theorem IntegerShifts_fit {z : Int} {k : Nat} (hz : z.natAbs < 4294967296 ^ 30) (hk : k ≤ 1000) : FitsP 3 [im z, rawS (.int .i64 (k : Int))] [] (.one (boolS true)) := by
  have hT : AllOk Tryd.prog Glob [
    Tr.call (nat_lit 5) [] [] (Av.one (Sv.cel (Cv.raw (Value.bool true)))),
    Tr.call (nat_lit 6) [Sv.cel (Cv.row (nat_lit 5) (nat_lit 0) (nat_lit 1) (nat_lit 1))] [(nat_lit 5, { t := nat_lit 25, cs := [Cv.raw (Value.bool (decide (z < (0 : Int)))), Cv.ent (nat (Int.natAbs z))], own := true })] (Av.one (Sv.cel (Cv.raw (Value.bool true)))),
    Tr.norm (nat_lit 15) (Av.one (Sv.cel (Cv.raw (Value.bool (decide ((↑k : Int) > (1000 : Int))))))) (Av.one (Sv.cel (Cv.raw (Value.bool false)))),
    Tr.call (nat_lit 8) [Sv.cel (Cv.raw (Value.int IntKind.u64 (Int.ofNat (nat_lit 1))))] [] (Av.one (Sv.cel (Cv.ent (nat (1 : Nat))))),
    Tr.call (nat_lit 7) [Sv.cel (Cv.ent (nat (1 : Nat))), Sv.cel (Cv.raw (Value.int IntKind.i64 (↑k : Int)))] [] (Av.tup [Sv.cel (Cv.ent (nat ((2 : Nat) ^ k))), Sv.cel (Cv.raw (Value.int IntKind.i64 (Int.ofNat (nat_lit 0))))]),
    Tr.call (nat_lit 9) [Sv.agg [Cv.raw (Value.bool (decide (z < (0 : Int)))), Cv.ent (nat (Int.natAbs z))], Sv.cel (Cv.raw (Value.int IntKind.i64 (↑k : Int)))] [] (Av.tup [Sv.agg [Cv.raw (Value.bool (decide (z * (2 : Int) ^ k < (0 : Int)))), Cv.ent (nat (Int.natAbs (z * (2 : Int) ^ k)))], Sv.cel (Cv.raw (Value.int IntKind.i64 (Int.ofNat (nat_lit 0))))]),
    Tr.call (nat_lit 10) [Sv.agg [Cv.raw (Value.bool (decide (z < (0 : Int)))), Cv.ent (nat (Int.natAbs z))], Sv.cel (Cv.raw (Value.int IntKind.i64 (↑k : Int)))] [] (Av.tup [Sv.agg [Cv.raw (Value.bool (decide (z / (2 : Int) ^ k < (0 : Int)))), Cv.ent (nat (Int.natAbs (z / (2 : Int) ^ k)))], Sv.cel (Cv.raw (Value.int IntKind.i64 (Int.ofNat (nat_lit 0))))]),
    Tr.call (nat_lit 12) [Sv.cel (Cv.ent (nat ((2 : Nat) ^ k)))] [] (Av.one (Sv.agg [Cv.raw (Value.bool false), Cv.ent (nat ((2 : Nat) ^ k))])),
    Tr.call (nat_lit 11) [Sv.agg [Cv.raw (Value.bool (decide (z < (0 : Int)))), Cv.ent (nat (Int.natAbs z))], Sv.agg [Cv.raw (Value.bool false), Cv.ent (nat ((2 : Nat) ^ k))]] [] (Av.tup [Sv.agg [Cv.raw (Value.bool (decide (z * (2 : Int) ^ k < (0 : Int)))), Cv.ent (nat (Int.natAbs (z * (2 : Int) ^ k)))], Sv.cel (Cv.raw (Value.int IntKind.i64 (Int.ofNat (nat_lit 0))))]),
    Tr.call (nat_lit 12) [Sv.cel (Cv.ent (nat ((2 : Nat) ^ k)))] [] (Av.one (Sv.agg [Cv.raw (Value.bool false), Cv.ent (nat ((2 : Nat) ^ k))])),
    Tr.call (nat_lit 13) [Sv.agg [Cv.raw (Value.bool (decide (z < (0 : Int)))), Cv.ent (nat (Int.natAbs z))], Sv.agg [Cv.raw (Value.bool false), Cv.ent (nat ((2 : Nat) ^ k))]] [] (Av.tup [Sv.agg [Cv.raw (Value.bool (decide (z / (2 : Int) ^ k < (0 : Int)))), Cv.ent (nat (Int.natAbs (z / (2 : Int) ^ k)))], Sv.agg [Cv.raw (Value.bool (decide (z % (2 : Int) ^ k < (0 : Int)))), Cv.ent (nat (Int.natAbs (z % (2 : Int) ^ k)))], Sv.cel (Cv.raw (Value.int IntKind.i64 (Int.ofNat (nat_lit 0))))]),
    Tr.call (nat_lit 10) [Sv.agg [Cv.raw (Value.bool (decide (z * (2 : Int) ^ k < (0 : Int)))), Cv.ent (nat (Int.natAbs (z * (2 : Int) ^ k)))], Sv.cel (Cv.raw (Value.int IntKind.i64 (↑k : Int)))] [] (Av.tup [Sv.agg [Cv.raw (Value.bool (decide (z < (0 : Int)))), Cv.ent (nat (Int.natAbs z))], Sv.cel (Cv.raw (Value.int IntKind.i64 (Int.ofNat (nat_lit 0))))]),
    Tr.call (nat_lit 14) [Sv.agg [Cv.raw (Value.bool (decide (z * (2 : Int) ^ k < (0 : Int)))), Cv.ent (nat (Int.natAbs (z * (2 : Int) ^ k)))], Sv.agg [Cv.raw (Value.bool (decide (z * (2 : Int) ^ k < (0 : Int)))), Cv.ent (nat (Int.natAbs (z * (2 : Int) ^ k)))]] [] (Av.one (Sv.cel (Cv.raw (Value.bool true)))),
    Tr.call (nat_lit 14) [Sv.agg [Cv.raw (Value.bool (decide (z / (2 : Int) ^ k < (0 : Int)))), Cv.ent (nat (Int.natAbs (z / (2 : Int) ^ k)))], Sv.agg [Cv.raw (Value.bool (decide (z / (2 : Int) ^ k < (0 : Int)))), Cv.ent (nat (Int.natAbs (z / (2 : Int) ^ k)))]] [] (Av.one (Sv.cel (Cv.raw (Value.bool true)))),
    Tr.call (nat_lit 14) [Sv.agg [Cv.raw (Value.bool (decide (z < (0 : Int)))), Cv.ent (nat (Int.natAbs z))], Sv.agg [Cv.raw (Value.bool (decide (z < (0 : Int)))), Cv.ent (nat (Int.natAbs z))]] [] (Av.one (Sv.cel (Cv.raw (Value.bool true))))] := ⟨
    counts_f,
    ifit_f hz _ _,
    norm_bool (gt_false hk),
    of1_f,
    leftN_is hk,
    leftI_f (by omega) (lim_of (sh_abs hz hk) (by omega)),
    rightI_f (by omega) (limI30 hz),
    natPn_f,
    mulP_f hz hk,
    natPn_f,
    divP_f hz hk,
    backP_f hz hk,
    sameT_f,
    sameT_f,
    sameT_f, trivial⟩
  exact fits_of_trace (n := 300) (k0 := 0) hT Tryd.func3 (by kernel_rfl) (by kernel_rfl) (by kernel_rfl)

set_option maxRecDepth 100000 in
theorem IntegerShifts_low {z n : Int} (hz : z.natAbs < 4294967296 ^ 30) (h : decide (n < 0) = true) : FitsP 3 [im z, rawS (.int .i64 n)] [] (.one (boolS true)) := by
  have hT : AllOk Tryd.prog Glob [
    Tr.call (nat_lit 5) [] [] (Av.one (Sv.cel (Cv.raw (Value.bool true)))),
    Tr.call (nat_lit 6) [Sv.cel (Cv.row (nat_lit 5) (nat_lit 0) (nat_lit 1) (nat_lit 1))] [(nat_lit 5, { t := nat_lit 25, cs := [Cv.raw (Value.bool (decide (z < (0 : Int)))), Cv.ent (nat (Int.natAbs z))], own := true })] (Av.one (Sv.cel (Cv.raw (Value.bool true)))),
    Tr.norm (nat_lit 12) (Av.one (Sv.cel (Cv.raw (Value.bool (decide (n < (0 : Int))))))) (Av.one (Sv.cel (Cv.raw (Value.bool true))))] := ⟨
    counts_f,
    ifit_f hz _ _,
    norm_bool h, trivial⟩
  exact fits_of_trace (n := 300) (k0 := 0) hT Tryd.func3 (by kernel_rfl) (by kernel_rfl) (by kernel_rfl)

set_option maxRecDepth 100000 in
theorem IntegerShifts_high {z : Int} {k : Nat} (hz : z.natAbs < 4294967296 ^ 30) (h : 1000 < k) : FitsP 3 [im z, rawS (.int .i64 (k : Int))] [] (.one (boolS true)) := by
  have hT : AllOk Tryd.prog Glob [
    Tr.call (nat_lit 5) [] [] (Av.one (Sv.cel (Cv.raw (Value.bool true)))),
    Tr.call (nat_lit 6) [Sv.cel (Cv.row (nat_lit 5) (nat_lit 0) (nat_lit 1) (nat_lit 1))] [(nat_lit 5, { t := nat_lit 25, cs := [Cv.raw (Value.bool (decide (z < (0 : Int)))), Cv.ent (nat (Int.natAbs z))], own := true })] (Av.one (Sv.cel (Cv.raw (Value.bool true)))),
    Tr.norm (nat_lit 15) (Av.one (Sv.cel (Cv.raw (Value.bool (decide ((↑k : Int) > (1000 : Int))))))) (Av.one (Sv.cel (Cv.raw (Value.bool true))))] := ⟨
    counts_f,
    ifit_f hz _ _,
    norm_bool (gt_true h), trivial⟩
  exact fits_of_trace (n := 300) (k0 := 0) hT Tryd.func3 (by kernel_rfl) (by kernel_rfl) (by kernel_rfl)

set_option maxRecDepth 100000 in
theorem IntegerShifts_un {m : Bool} {xs : List Nat} {n : Int} (hu : UnfitI m xs) : FitsP 3 [aiS m xs, rawS (.int .i64 n)] [] (.one (boolS true)) := by
  have hT : AllOk Tryd.prog Glob [
    Tr.call (nat_lit 5) [] [] (Av.one (Sv.cel (Cv.raw (Value.bool true)))),
    Tr.call (nat_lit 6) [Sv.cel (Cv.row (nat_lit 5) (nat_lit 0) (nat_lit 1) (nat_lit 1))] [(nat_lit 5, { t := nat_lit 25, cs := [Cv.raw (Value.bool m), Cv.ent (argE xs)], own := true })] (Av.one (Sv.cel (Cv.raw (Value.bool false))))] := ⟨
    counts_f,
    iunfit hu _ _, trivial⟩
  exact fits_of_trace (n := 300) (k0 := 0) hT Tryd.func3 (by kernel_rfl) (by kernel_rfl) (by kernel_rfl)

theorem IntegerShifts_any {z n : Int} (hz : z.natAbs < 4294967296 ^ 30) : FitsP 3 [im z, rawS (.int .i64 n)] [] (.one (boolS true)) := by
  by_cases h : n < 0
  · exact IntegerShifts_low hz (decide_eq_true h)
  · obtain ⟨k, rfl⟩ : ∃ k : Nat, n = k := ⟨n.toNat, by omega⟩
    by_cases hk : 1000 < k
    · exact IntegerShifts_high hz hk
    · exact IntegerShifts_fit hz (by omega)
end Go.Proofs.YtlgfjgkcgimdoaaDoor
