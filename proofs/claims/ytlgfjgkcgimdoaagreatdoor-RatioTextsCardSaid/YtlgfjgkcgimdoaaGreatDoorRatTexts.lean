/- RatioTexts. -/
import Derived.Test.YtlgfjgkcgimdoaaGreatDoorRatT
namespace Go.Proofs.YtlgfjgkcgimdoaaGreatDoor
open Go Go.RowKit Go.Shelf AM
section
variable {q : Rat} {n : Nat}
def txtN (n : Nat) : ByteArray := ⟨(Lib.decDigits n).toArray⟩
theorem txtN_dec (n : Nat) : Dec n (txtN n).data.toList := by unfold txtN; exact dec_decDigits n
theorem text1_is (hp : BQ 20 q) (h : q.den = 1) : FitsP 48 [rq q] [] (.one (rawS (.string (txtI q.num)))) := by
  rw [rq_lit (z := q.num) (d := 1) rfl h]; exact text1_f (txtI_dec _) (hp.num (by omega))
theorem text2_is (hp : BQ 20 q) (h : q.den ≠ 1) : FitsP 48 [rq q] [] (.one (rawS (.string (txtI q.num ++ ⟨#[47]⟩ ++ txtN q.den)))) := by
  rw [rq_lit (q := q) rfl rfl]; exact text2_f h (txtI_dec _) (txtN_dec _) (hp.num (by omega)) (hp.den (by omega))
theorem up44 {x m : Nat} (h : x < 4294967296 ^ m) (hm : m ≤ 44) : x < 4294967296 ^ 44 := Nat.lt_of_lt_of_le h (Nat.pow_le_pow_right (by omega) hm)
theorem txtI_len {z : Int} {m : Nat} (h : z.natAbs < 4294967296 ^ m) (hm : m ≤ 44) : (txtI z).size ≤ 431 := decI_short (txtI_dec z) (up44 h hm)
theorem txtN_len {x m : Nat} (h : x < 4294967296 ^ m) (hm : m ≤ 44) : (txtN x).size ≤ 430 := decS_short (txtN_dec x) (up44 h hm)
theorem frac_len {z : Int} {d m : Nat} (h1 : z.natAbs < 4294967296 ^ m) (h2 : d < 4294967296 ^ m) (hm : m ≤ 44) : (txtI z ++ ⟨#[47]⟩ ++ txtN d).size ≤ 862 := by
  have := txtI_len h1 hm
  have := txtN_len h2 hm
  rw [size3]; omega
theorem parseF_is {z : Int} {d m : Nat} (r : Rat) (h1 : z.natAbs < 4294967296 ^ m) (h2 : d < 4294967296 ^ m) (hm : m ≤ 44) (h0 : d ≠ 0) (e : Rat.normalize z d h0 = r) : FitsP 49 [rawS (.string (txtI z ++ ⟨#[47]⟩ ++ txtN d))] [] (.tup [rq r, ok0]) := by
  subst e
  have a1 := txtI_len h1 hm
  have a2 := txtN_len h2 hm
  exact parseFrac_f (by have := frac_len h1 h2 hm; omega) (decI_not (txtI_dec z) (by decide) (by decide)) (parsePair_f (txtI_dec z) (txtN_dec d) (by omega) (by omega) (lim_of h1 (by omega)) (lim_of h2 (by omega)) h0)
theorem norm_self (q : Rat) : Rat.normalize q.num q.den q.den_nz = q := by rw [Rat.normalize_eq_mkRat, Rat.mkRat_self]
theorem norm_times (q : Rat) (_hn : 1 ≤ n) (h0 : q.den * n ≠ 0) : Rat.normalize (q.num * (n : Int)) (q.den * n) h0 = q := by
  conv => rhs; rw [← norm_self q]
  rw [Rat.normalize_eq_mkRat, Rat.normalize_eq_mkRat]
  refine (Rat.mkRat_eq_iff h0 q.den_nz).2 ?_
  rw [Int.natCast_mul]
  rw [Int.mul_assoc, Int.mul_comm (n : Int)]
theorem n2 (h : n ≤ 9223372036854775807) : n < 4294967296 ^ 2 := by rw [pow2]; omega
theorem mulN_is {x y z : Nat} (h : z < Lim) (e : x * y = z) : FitsP 51 [natS x, natS y] [] (.tup [natS z, ok0]) := by subst e; exact mul_f h
theorem u64_n (h : n ≤ 9223372036854775807) : IntKind.wrap .u64 (n : Int) = (n : Int) := by
  unfold IntKind.wrap
  simp [IntKind.signed, IntKind.bits]
  omega
theorem cont_true {k : Int} (h : k ≠ 0) : (true != (k != 0)) = false := by rw [ne_true h]; rfl
theorem lt1 (h : 1 ≤ n) : decide ((n : Int) < 1) = false := by rw [decide_eq_false_iff_not]; omega
theorem n_in (h : n ≤ 9223372036854775807) : inI64 (n : Int) := ⟨by omega, by omega⟩
theorem tcat1 {z : Int} (h : z.natAbs < 4294967296 ^ 22) : (txtI z).size + (⟨#[47]⟩ : ByteArray).size ≤ 9223372036854775807 := by
  have := txtI_len h (by omega)
  exact concat1 (by omega)
theorem tcat2 {z : Int} {d : Nat} (h : z.natAbs < 4294967296 ^ 22) (h2 : d < 4294967296 ^ 22) : (txtI z ++ ⟨#[47]⟩).size + (txtN d).size ≤ 9223372036854775807 := by
  have := txtI_len h (by omega)
  have := txtN_len h2 (by omega)
  exact concat2 (by omega) (by omega)
theorem whole_numT (h : q.den = 1) : ((q.num : Int) : Rat) = q := by
  apply Rat.ext
  · exact Rat.num_intCast _
  · rw [Rat.den_intCast, h]
theorem ofN_isT {x : Nat} (h : x < 18446744073709551616) : FitsP 46 [rawS (.int .u64 (x : Int))] [] (.one (natS x)) := of_f h
theorem mulJ_is {z1 z2 z : Int} (h : LimI z) (e : z1 * z2 = z) : FitsP 22 [im z1, im z2] [] (.tup [im z, ok0]) := by subst e; exact mulI_f h
theorem den_times (hn : 1 ≤ n) : q.den * n ≠ 0 := Nat.mul_ne_zero q.den_nz (by omega)
end

set_option maxRecDepth 100000 in
theorem RatioTexts_w0 {p : Rat} {n : Int} (hp : BQ 20 p) (h : p.den = 1) (hn : decide (n < 1) = true) : FitsP 9 [rq p, rawS (.int .i64 n)] [] (.one (boolS true)) := by
  have hT : AllOk Tryz.prog Glob [
    Tr.call (nat_lit 24) [] [] (Av.one (Sv.cel (Cv.raw (Value.bool true)))),
    Tr.call (nat_lit 32) [Sv.cel (Cv.row (nat_lit 5) (nat_lit 0) (nat_lit 1) (nat_lit 1))] [(nat_lit 5, { t := nat_lit 43, cs := [Cv.raw (Value.bool (decide (Rat.num p < (0 : Int)))), Cv.ent (nat (Int.natAbs (Rat.num p))), Cv.ent (nat (Rat.den p))], own := true })] (Av.one (Sv.cel (Cv.raw (Value.bool true)))),
    Tr.call (nat_lit 48) [Sv.agg [Cv.raw (Value.bool (decide (Rat.num p < (0 : Int)))), Cv.ent (nat (Int.natAbs (Rat.num p))), Cv.ent (nat (Rat.den p))]] [] (Av.one (Sv.cel (Cv.raw (Value.string (txtI (Rat.num p)))))),
    Tr.call (nat_lit 49) [Sv.cel (Cv.raw (Value.string (txtI (Rat.num p))))] [] (Av.tup [Sv.agg [Cv.raw (Value.bool (decide (Rat.num p < (0 : Int)))), Cv.ent (nat (Int.natAbs (Rat.num p))), Cv.ent (nat (Rat.den p))], Sv.cel (Cv.raw (Value.int IntKind.i64 (Int.ofNat (nat_lit 0))))]),
    Tr.call (nat_lit 28) [Sv.agg [Cv.raw (Value.bool (decide (Rat.num p < (0 : Int)))), Cv.ent (nat (Int.natAbs (Rat.num p))), Cv.ent (nat (Rat.den p))], Sv.agg [Cv.raw (Value.bool (decide (Rat.num p < (0 : Int)))), Cv.ent (nat (Int.natAbs (Rat.num p))), Cv.ent (nat (Rat.den p))]] [] (Av.one (Sv.cel (Cv.raw (Value.bool true)))),
    Tr.call (nat_lit 50) [Sv.cel (Cv.raw (Value.string (txtI (Rat.num p)))), Sv.cel (Cv.raw (Value.string { data := #[(47 : UInt8)] }))] [] (Av.one (Sv.cel (Cv.raw (Value.bool false)))),
    Tr.call (nat_lit 46) [Sv.cel (Cv.raw (Value.int IntKind.u64 (Int.ofNat (nat_lit 1))))] [] (Av.one (Sv.cel (Cv.ent (nat (1 : Nat))))),
    Tr.call (nat_lit 45) [Sv.cel (Cv.ent (nat (Rat.den p))), Sv.cel (Cv.ent (nat (1 : Nat)))] [] (Av.one (Sv.cel (Cv.raw (Value.int IntKind.i64 (Int.ofNat (nat_lit 0)))))),
    Tr.norm (nat_lit 38) (Av.one (Sv.cel (Cv.raw (Value.bool (decide (n < (1 : Int))))))) (Av.one (Sv.cel (Cv.raw (Value.bool true))))] := ⟨
    parts_f,
    fitOne_f hp _ _,
    text1_is hp h,
    by have := parseWhole_f (txtI_dec p.num) (by have := txtI_len hp.1 (by omega); omega); rw [whole_numT h] at this; exact this,
    sameEq_f rfl,
    containsNot_f (by have := txtI_len hp.1 (by omega); omega) (decI_not (txtI_dec _) (by decide) (by decide)),
    ofN_isT (x := 1) (by decide),
    cmpN_is (by rw [h]; rfl),
    norm_bool hn, trivial⟩
  exact fits_of_trace (n := 300) (k0 := 0) hT Tryz.func9 (by kernel_rfl) (by kernel_rfl) (by kernel_rfl)

set_option maxRecDepth 100000 in
theorem RatioTexts_f0 {p : Rat} {n k : Int} (hp : BQ 20 p) (h : p.den ≠ 1) (hk : ord3 p.den 1 = k) (h0 : k ≠ 0) (hn : decide (n < 1) = true) : FitsP 9 [rq p, rawS (.int .i64 n)] [] (.one (boolS true)) := by
  have hT : AllOk Tryz.prog Glob [
    Tr.call (nat_lit 24) [] [] (Av.one (Sv.cel (Cv.raw (Value.bool true)))),
    Tr.call (nat_lit 32) [Sv.cel (Cv.row (nat_lit 5) (nat_lit 0) (nat_lit 1) (nat_lit 1))] [(nat_lit 5, { t := nat_lit 43, cs := [Cv.raw (Value.bool (decide (Rat.num p < (0 : Int)))), Cv.ent (nat (Int.natAbs (Rat.num p))), Cv.ent (nat (Rat.den p))], own := true })] (Av.one (Sv.cel (Cv.raw (Value.bool true)))),
    Tr.call (nat_lit 48) [Sv.agg [Cv.raw (Value.bool (decide (Rat.num p < (0 : Int)))), Cv.ent (nat (Int.natAbs (Rat.num p))), Cv.ent (nat (Rat.den p))]] [] (Av.one (Sv.cel (Cv.raw (Value.string (txtI (Rat.num p) ++ { data := #[(47 : UInt8)] } ++ txtN (Rat.den p)))))),
    Tr.call (nat_lit 49) [Sv.cel (Cv.raw (Value.string (txtI (Rat.num p) ++ { data := #[(47 : UInt8)] } ++ txtN (Rat.den p))))] [] (Av.tup [Sv.agg [Cv.raw (Value.bool (decide (Rat.num p < (0 : Int)))), Cv.ent (nat (Int.natAbs (Rat.num p))), Cv.ent (nat (Rat.den p))], Sv.cel (Cv.raw (Value.int IntKind.i64 (Int.ofNat (nat_lit 0))))]),
    Tr.call (nat_lit 28) [Sv.agg [Cv.raw (Value.bool (decide (Rat.num p < (0 : Int)))), Cv.ent (nat (Int.natAbs (Rat.num p))), Cv.ent (nat (Rat.den p))], Sv.agg [Cv.raw (Value.bool (decide (Rat.num p < (0 : Int)))), Cv.ent (nat (Int.natAbs (Rat.num p))), Cv.ent (nat (Rat.den p))]] [] (Av.one (Sv.cel (Cv.raw (Value.bool true)))),
    Tr.call (nat_lit 50) [Sv.cel (Cv.raw (Value.string (txtI (Rat.num p) ++ { data := #[(47 : UInt8)] } ++ txtN (Rat.den p)))), Sv.cel (Cv.raw (Value.string { data := #[(47 : UInt8)] }))] [] (Av.one (Sv.cel (Cv.raw (Value.bool true)))),
    Tr.call (nat_lit 46) [Sv.cel (Cv.raw (Value.int IntKind.u64 (Int.ofNat (nat_lit 1))))] [] (Av.one (Sv.cel (Cv.ent (nat (1 : Nat))))),
    Tr.call (nat_lit 45) [Sv.cel (Cv.ent (nat (Rat.den p))), Sv.cel (Cv.ent (nat (1 : Nat)))] [] (Av.one (Sv.cel (Cv.raw (Value.int IntKind.i64 k)))),
    Tr.norm (nat_lit 36) (Av.one (Sv.cel (Cv.raw (Value.bool !true == (k != (0 : Int)))))) (Av.one (Sv.cel (Cv.raw (Value.bool false)))),
    Tr.norm (nat_lit 38) (Av.one (Sv.cel (Cv.raw (Value.bool (decide (n < (1 : Int))))))) (Av.one (Sv.cel (Cv.raw (Value.bool true))))] := ⟨
    parts_f,
    fitOne_f hp _ _,
    text2_is hp h,
    parseF_is p hp.1 hp.2 (by omega) p.den_nz (norm_self p),
    sameEq_f rfl,
    containsAt_f (by have := frac_len hp.1 hp.2 (by omega); omega) (decI_not (txtI_dec _) (by decide) (by decide)),
    ofN_isT (x := 1) (by decide),
    cmpN_is hk,
    norm_bool (cont_true h0),
    norm_bool hn, trivial⟩
  exact fits_of_trace (n := 300) (k0 := 0) hT Tryz.func9 (by kernel_rfl) (by kernel_rfl) (by kernel_rfl)

set_option maxRecDepth 100000 in
theorem RatioTexts_w1 {p : Rat} {n : Nat} (hp : BQ 20 p) (h : p.den = 1) (hn1 : 1 ≤ n) (hn2 : n ≤ 9223372036854775807) : FitsP 9 [rq p, rawS (.int .i64 (n : Int))] [] (.one (boolS true)) := by
  have hT : AllOk Tryz.prog Glob [
    Tr.call (nat_lit 24) [] [] (Av.one (Sv.cel (Cv.raw (Value.bool true)))),
    Tr.call (nat_lit 32) [Sv.cel (Cv.row (nat_lit 5) (nat_lit 0) (nat_lit 1) (nat_lit 1))] [(nat_lit 5, { t := nat_lit 43, cs := [Cv.raw (Value.bool (decide (Rat.num p < (0 : Int)))), Cv.ent (nat (Int.natAbs (Rat.num p))), Cv.ent (nat (Rat.den p))], own := true })] (Av.one (Sv.cel (Cv.raw (Value.bool true)))),
    Tr.call (nat_lit 48) [Sv.agg [Cv.raw (Value.bool (decide (Rat.num p < (0 : Int)))), Cv.ent (nat (Int.natAbs (Rat.num p))), Cv.ent (nat (Rat.den p))]] [] (Av.one (Sv.cel (Cv.raw (Value.string (txtI (Rat.num p)))))),
    Tr.call (nat_lit 49) [Sv.cel (Cv.raw (Value.string (txtI (Rat.num p))))] [] (Av.tup [Sv.agg [Cv.raw (Value.bool (decide (Rat.num p < (0 : Int)))), Cv.ent (nat (Int.natAbs (Rat.num p))), Cv.ent (nat (Rat.den p))], Sv.cel (Cv.raw (Value.int IntKind.i64 (Int.ofNat (nat_lit 0))))]),
    Tr.call (nat_lit 28) [Sv.agg [Cv.raw (Value.bool (decide (Rat.num p < (0 : Int)))), Cv.ent (nat (Int.natAbs (Rat.num p))), Cv.ent (nat (Rat.den p))], Sv.agg [Cv.raw (Value.bool (decide (Rat.num p < (0 : Int)))), Cv.ent (nat (Int.natAbs (Rat.num p))), Cv.ent (nat (Rat.den p))]] [] (Av.one (Sv.cel (Cv.raw (Value.bool true)))),
    Tr.call (nat_lit 50) [Sv.cel (Cv.raw (Value.string (txtI (Rat.num p)))), Sv.cel (Cv.raw (Value.string { data := #[(47 : UInt8)] }))] [] (Av.one (Sv.cel (Cv.raw (Value.bool false)))),
    Tr.call (nat_lit 46) [Sv.cel (Cv.raw (Value.int IntKind.u64 (Int.ofNat (nat_lit 1))))] [] (Av.one (Sv.cel (Cv.ent (nat (1 : Nat))))),
    Tr.call (nat_lit 45) [Sv.cel (Cv.ent (nat (Rat.den p))), Sv.cel (Cv.ent (nat (1 : Nat)))] [] (Av.one (Sv.cel (Cv.raw (Value.int IntKind.i64 (Int.ofNat (nat_lit 0)))))),
    Tr.norm (nat_lit 38) (Av.one (Sv.cel (Cv.raw (Value.bool (decide ((↑n : Int) < (1 : Int))))))) (Av.one (Sv.cel (Cv.raw (Value.bool false)))),
    Tr.call (nat_lit 47) [Sv.cel (Cv.raw (Value.int IntKind.i64 (↑n : Int)))] [] (Av.one (Sv.agg [Cv.raw (Value.bool (decide ((↑n : Int) < (0 : Int)))), Cv.ent (nat (Int.natAbs (↑n : Int)))])),
    Tr.call (nat_lit 22) [Sv.agg [Cv.raw (Value.bool (decide (Rat.num p < (0 : Int)))), Cv.ent (nat (Int.natAbs (Rat.num p)))], Sv.agg [Cv.raw (Value.bool (decide ((↑n : Int) < (0 : Int)))), Cv.ent (nat (Int.natAbs (↑n : Int)))]] [] (Av.tup [Sv.agg [Cv.raw (Value.bool (decide (Rat.num p * (↑n : Int) < (0 : Int)))), Cv.ent (nat (Int.natAbs (Rat.num p * (↑n : Int))))], Sv.cel (Cv.raw (Value.int IntKind.i64 (Int.ofNat (nat_lit 0))))]),
    Tr.norm (nat_lit 53) (Av.one (Sv.cel (Cv.raw (Value.int IntKind.u64 (IntKind.wrap IntKind.u64 (↑n : Int)))))) (Av.one (Sv.cel (Cv.raw (Value.int IntKind.u64 (↑n : Int))))),
    Tr.call (nat_lit 46) [Sv.cel (Cv.raw (Value.int IntKind.u64 (↑n : Int)))] [] (Av.one (Sv.cel (Cv.ent (nat n)))),
    Tr.call (nat_lit 51) [Sv.cel (Cv.ent (nat (Rat.den p))), Sv.cel (Cv.ent (nat n))] [] (Av.tup [Sv.cel (Cv.ent (nat (Rat.den p * n))), Sv.cel (Cv.raw (Value.int IntKind.i64 (Int.ofNat (nat_lit 0))))]),
    Tr.call (nat_lit 52) [Sv.agg [Cv.raw (Value.bool (decide (Rat.num p * (↑n : Int) < (0 : Int)))), Cv.ent (nat (Int.natAbs (Rat.num p * (↑n : Int))))]] [] (Av.one (Sv.cel (Cv.raw (Value.string (txtI (Rat.num p * (↑n : Int))))))),
    Tr.prim (nat_lit 63) (Op.binOp BinOp.add (9 : Nat) (Operand.tmp (66 : Nat)) (Operand.const (Value.string { data := #[(47 : UInt8)] })) (9 : Nat)) (nat_lit 9) [Value.string (txtI (Rat.num p * (↑n : Int))), Value.string { data := #[(47 : UInt8)] }] (Value.string (txtI (Rat.num p * (↑n : Int)) ++ { data := #[(47 : UInt8)] })),
    Tr.call (nat_lit 53) [Sv.cel (Cv.ent (nat (Rat.den p * n)))] [] (Av.one (Sv.cel (Cv.raw (Value.string (txtN (Rat.den p * n)))))),
    Tr.prim (nat_lit 66) (Op.binOp BinOp.add (9 : Nat) (Operand.tmp (67 : Nat)) (Operand.tmp (69 : Nat)) (9 : Nat)) (nat_lit 9) [Value.string (txtI (Rat.num p * (↑n : Int)) ++ { data := #[(47 : UInt8)] }), Value.string (txtN (Rat.den p * n))] (Value.string (txtI (Rat.num p * (↑n : Int)) ++ { data := #[(47 : UInt8)] } ++ txtN (Rat.den p * n))),
    Tr.call (nat_lit 49) [Sv.cel (Cv.raw (Value.string (txtI (Rat.num p * (↑n : Int)) ++ { data := #[(47 : UInt8)] } ++ txtN (Rat.den p * n))))] [] (Av.tup [Sv.agg [Cv.raw (Value.bool (decide (Rat.num p < (0 : Int)))), Cv.ent (nat (Int.natAbs (Rat.num p))), Cv.ent (nat (Rat.den p))], Sv.cel (Cv.raw (Value.int IntKind.i64 (Int.ofNat (nat_lit 0))))]),
    Tr.call (nat_lit 28) [Sv.agg [Cv.raw (Value.bool (decide (Rat.num p < (0 : Int)))), Cv.ent (nat (Int.natAbs (Rat.num p))), Cv.ent (nat (Rat.den p))], Sv.agg [Cv.raw (Value.bool (decide (Rat.num p < (0 : Int)))), Cv.ent (nat (Int.natAbs (Rat.num p))), Cv.ent (nat (Rat.den p))]] [] (Av.one (Sv.cel (Cv.raw (Value.bool true))))] := ⟨
    parts_f,
    fitOne_f hp _ _,
    text1_is hp h,
    by have := parseWhole_f (txtI_dec p.num) (by have := txtI_len hp.1 (by omega); omega); rw [whole_numT h] at this; exact this,
    sameEq_f rfl,
    containsNot_f (by have := txtI_len hp.1 (by omega); omega) (decI_not (txtI_dec _) (by decide) (by decide)),
    ofN_isT (x := 1) (by decide),
    cmpN_is (by rw [h]; rfl),
    norm_bool (lt1 hn1),
    ofI_f (n_in hn2),
    mulJ_is (lim_of (mul_abs hp.1 (n2 hn2)) (by omega)) rfl,
    Norm.of_eq (by rw [u64_n hn2]),
    ofN_isT (by omega),
    mulN_is (lim_of (mul_pow_lt hp.2 (n2 hn2)) (by omega)) rfl,
    textI_f _ (txtI_dec _) (lim_of (mul_abs hp.1 (n2 hn2)) (by omega)),
    prim_concat (tcat1 (mul_abs hp.1 (n2 hn2))),
    dtext_f _ (txtN_dec _) (lim_of (mul_pow_lt hp.2 (n2 hn2)) (by omega)),
    prim_concat (tcat2 (mul_abs hp.1 (n2 hn2)) (mul_pow_lt hp.2 (n2 hn2))),
    parseF_is p (mul_abs hp.1 (n2 hn2)) (mul_pow_lt hp.2 (n2 hn2)) (by omega) (den_times hn1) (norm_times p hn1 _),
    sameEq_f rfl, trivial⟩
  exact fits_of_trace (n := 300) (k0 := 0) hT Tryz.func9 (by kernel_rfl) (by kernel_rfl) (by kernel_rfl)

set_option maxRecDepth 100000 in
theorem RatioTexts_f1 {p : Rat} {n : Nat} {k : Int} (hp : BQ 20 p) (h : p.den ≠ 1) (hk : ord3 p.den 1 = k) (h0 : k ≠ 0) (hn1 : 1 ≤ n) (hn2 : n ≤ 9223372036854775807) : FitsP 9 [rq p, rawS (.int .i64 (n : Int))] [] (.one (boolS true)) := by
  have hT : AllOk Tryz.prog Glob [
    Tr.call (nat_lit 24) [] [] (Av.one (Sv.cel (Cv.raw (Value.bool true)))),
    Tr.call (nat_lit 32) [Sv.cel (Cv.row (nat_lit 5) (nat_lit 0) (nat_lit 1) (nat_lit 1))] [(nat_lit 5, { t := nat_lit 43, cs := [Cv.raw (Value.bool (decide (Rat.num p < (0 : Int)))), Cv.ent (nat (Int.natAbs (Rat.num p))), Cv.ent (nat (Rat.den p))], own := true })] (Av.one (Sv.cel (Cv.raw (Value.bool true)))),
    Tr.call (nat_lit 48) [Sv.agg [Cv.raw (Value.bool (decide (Rat.num p < (0 : Int)))), Cv.ent (nat (Int.natAbs (Rat.num p))), Cv.ent (nat (Rat.den p))]] [] (Av.one (Sv.cel (Cv.raw (Value.string (txtI (Rat.num p) ++ { data := #[(47 : UInt8)] } ++ txtN (Rat.den p)))))),
    Tr.call (nat_lit 49) [Sv.cel (Cv.raw (Value.string (txtI (Rat.num p) ++ { data := #[(47 : UInt8)] } ++ txtN (Rat.den p))))] [] (Av.tup [Sv.agg [Cv.raw (Value.bool (decide (Rat.num p < (0 : Int)))), Cv.ent (nat (Int.natAbs (Rat.num p))), Cv.ent (nat (Rat.den p))], Sv.cel (Cv.raw (Value.int IntKind.i64 (Int.ofNat (nat_lit 0))))]),
    Tr.call (nat_lit 28) [Sv.agg [Cv.raw (Value.bool (decide (Rat.num p < (0 : Int)))), Cv.ent (nat (Int.natAbs (Rat.num p))), Cv.ent (nat (Rat.den p))], Sv.agg [Cv.raw (Value.bool (decide (Rat.num p < (0 : Int)))), Cv.ent (nat (Int.natAbs (Rat.num p))), Cv.ent (nat (Rat.den p))]] [] (Av.one (Sv.cel (Cv.raw (Value.bool true)))),
    Tr.call (nat_lit 50) [Sv.cel (Cv.raw (Value.string (txtI (Rat.num p) ++ { data := #[(47 : UInt8)] } ++ txtN (Rat.den p)))), Sv.cel (Cv.raw (Value.string { data := #[(47 : UInt8)] }))] [] (Av.one (Sv.cel (Cv.raw (Value.bool true)))),
    Tr.call (nat_lit 46) [Sv.cel (Cv.raw (Value.int IntKind.u64 (Int.ofNat (nat_lit 1))))] [] (Av.one (Sv.cel (Cv.ent (nat (1 : Nat))))),
    Tr.call (nat_lit 45) [Sv.cel (Cv.ent (nat (Rat.den p))), Sv.cel (Cv.ent (nat (1 : Nat)))] [] (Av.one (Sv.cel (Cv.raw (Value.int IntKind.i64 k)))),
    Tr.norm (nat_lit 36) (Av.one (Sv.cel (Cv.raw (Value.bool !true == (k != (0 : Int)))))) (Av.one (Sv.cel (Cv.raw (Value.bool false)))),
    Tr.norm (nat_lit 38) (Av.one (Sv.cel (Cv.raw (Value.bool (decide ((↑n : Int) < (1 : Int))))))) (Av.one (Sv.cel (Cv.raw (Value.bool false)))),
    Tr.call (nat_lit 47) [Sv.cel (Cv.raw (Value.int IntKind.i64 (↑n : Int)))] [] (Av.one (Sv.agg [Cv.raw (Value.bool (decide ((↑n : Int) < (0 : Int)))), Cv.ent (nat (Int.natAbs (↑n : Int)))])),
    Tr.call (nat_lit 22) [Sv.agg [Cv.raw (Value.bool (decide (Rat.num p < (0 : Int)))), Cv.ent (nat (Int.natAbs (Rat.num p)))], Sv.agg [Cv.raw (Value.bool (decide ((↑n : Int) < (0 : Int)))), Cv.ent (nat (Int.natAbs (↑n : Int)))]] [] (Av.tup [Sv.agg [Cv.raw (Value.bool (decide (Rat.num p * (↑n : Int) < (0 : Int)))), Cv.ent (nat (Int.natAbs (Rat.num p * (↑n : Int))))], Sv.cel (Cv.raw (Value.int IntKind.i64 (Int.ofNat (nat_lit 0))))]),
    Tr.norm (nat_lit 53) (Av.one (Sv.cel (Cv.raw (Value.int IntKind.u64 (IntKind.wrap IntKind.u64 (↑n : Int)))))) (Av.one (Sv.cel (Cv.raw (Value.int IntKind.u64 (↑n : Int))))),
    Tr.call (nat_lit 46) [Sv.cel (Cv.raw (Value.int IntKind.u64 (↑n : Int)))] [] (Av.one (Sv.cel (Cv.ent (nat n)))),
    Tr.call (nat_lit 51) [Sv.cel (Cv.ent (nat (Rat.den p))), Sv.cel (Cv.ent (nat n))] [] (Av.tup [Sv.cel (Cv.ent (nat (Rat.den p * n))), Sv.cel (Cv.raw (Value.int IntKind.i64 (Int.ofNat (nat_lit 0))))]),
    Tr.call (nat_lit 52) [Sv.agg [Cv.raw (Value.bool (decide (Rat.num p * (↑n : Int) < (0 : Int)))), Cv.ent (nat (Int.natAbs (Rat.num p * (↑n : Int))))]] [] (Av.one (Sv.cel (Cv.raw (Value.string (txtI (Rat.num p * (↑n : Int))))))),
    Tr.prim (nat_lit 63) (Op.binOp BinOp.add (9 : Nat) (Operand.tmp (66 : Nat)) (Operand.const (Value.string { data := #[(47 : UInt8)] })) (9 : Nat)) (nat_lit 9) [Value.string (txtI (Rat.num p * (↑n : Int))), Value.string { data := #[(47 : UInt8)] }] (Value.string (txtI (Rat.num p * (↑n : Int)) ++ { data := #[(47 : UInt8)] })),
    Tr.call (nat_lit 53) [Sv.cel (Cv.ent (nat (Rat.den p * n)))] [] (Av.one (Sv.cel (Cv.raw (Value.string (txtN (Rat.den p * n)))))),
    Tr.prim (nat_lit 66) (Op.binOp BinOp.add (9 : Nat) (Operand.tmp (67 : Nat)) (Operand.tmp (69 : Nat)) (9 : Nat)) (nat_lit 9) [Value.string (txtI (Rat.num p * (↑n : Int)) ++ { data := #[(47 : UInt8)] }), Value.string (txtN (Rat.den p * n))] (Value.string (txtI (Rat.num p * (↑n : Int)) ++ { data := #[(47 : UInt8)] } ++ txtN (Rat.den p * n))),
    Tr.call (nat_lit 49) [Sv.cel (Cv.raw (Value.string (txtI (Rat.num p * (↑n : Int)) ++ { data := #[(47 : UInt8)] } ++ txtN (Rat.den p * n))))] [] (Av.tup [Sv.agg [Cv.raw (Value.bool (decide (Rat.num p < (0 : Int)))), Cv.ent (nat (Int.natAbs (Rat.num p))), Cv.ent (nat (Rat.den p))], Sv.cel (Cv.raw (Value.int IntKind.i64 (Int.ofNat (nat_lit 0))))]),
    Tr.call (nat_lit 28) [Sv.agg [Cv.raw (Value.bool (decide (Rat.num p < (0 : Int)))), Cv.ent (nat (Int.natAbs (Rat.num p))), Cv.ent (nat (Rat.den p))], Sv.agg [Cv.raw (Value.bool (decide (Rat.num p < (0 : Int)))), Cv.ent (nat (Int.natAbs (Rat.num p))), Cv.ent (nat (Rat.den p))]] [] (Av.one (Sv.cel (Cv.raw (Value.bool true))))] := ⟨
    parts_f,
    fitOne_f hp _ _,
    text2_is hp h,
    parseF_is p hp.1 hp.2 (by omega) p.den_nz (norm_self p),
    sameEq_f rfl,
    containsAt_f (by have := frac_len hp.1 hp.2 (by omega); omega) (decI_not (txtI_dec _) (by decide) (by decide)),
    ofN_isT (x := 1) (by decide),
    cmpN_is hk,
    norm_bool (cont_true h0),
    norm_bool (lt1 hn1),
    ofI_f (n_in hn2),
    mulJ_is (lim_of (mul_abs hp.1 (n2 hn2)) (by omega)) rfl,
    Norm.of_eq (by rw [u64_n hn2]),
    ofN_isT (by omega),
    mulN_is (lim_of (mul_pow_lt hp.2 (n2 hn2)) (by omega)) rfl,
    textI_f _ (txtI_dec _) (lim_of (mul_abs hp.1 (n2 hn2)) (by omega)),
    prim_concat (tcat1 (mul_abs hp.1 (n2 hn2))),
    dtext_f _ (txtN_dec _) (lim_of (mul_pow_lt hp.2 (n2 hn2)) (by omega)),
    prim_concat (tcat2 (mul_abs hp.1 (n2 hn2)) (mul_pow_lt hp.2 (n2 hn2))),
    parseF_is p (mul_abs hp.1 (n2 hn2)) (mul_pow_lt hp.2 (n2 hn2)) (by omega) (den_times hn1) (norm_times p hn1 _),
    sameEq_f rfl, trivial⟩
  exact fits_of_trace (n := 300) (k0 := 0) hT Tryz.func9 (by kernel_rfl) (by kernel_rfl) (by kernel_rfl)

theorem RatioTexts_fit {p : Rat} {n : Int} (hp : BQ 20 p) (hn : inI64 n) : FitsP 9 [rq p, rawS (.int .i64 n)] [] (.one (boolS true)) := by
  by_cases h1 : n < 1
  · by_cases h : p.den = 1
    · exact RatioTexts_w0 hp h (decide_eq_true h1)
    · exact RatioTexts_f0 hp h rfl (ord3_ne h) (decide_eq_true h1)
  · obtain ⟨k, rfl⟩ : ∃ k : Nat, n = k := ⟨n.toNat, by omega⟩
    by_cases h : p.den = 1
    · exact RatioTexts_w1 hp h (by omega) (by have := hn.2; omega)
    · exact RatioTexts_f1 hp h rfl (ord3_ne h) (by omega) (by have := hn.2; omega)

set_option maxRecDepth 100000 in
theorem RatioTexts_unfit (m0 : Bool) (e0 d0 : Ent) (n : Int) (hu : ∀ (x : Nat) (o : Bool), FitsP 32 [Sv.cel (Cv.row x 0 1 1)] [(x, ⟨43, [.raw (.bool m0), .ent e0, .ent d0], o⟩)] (.one (boolS false))) : FitsP 9 [.agg [.raw (.bool m0), .ent e0, .ent d0], rawS (.int .i64 n)] [] (.one (boolS true)) := by
  have hT : AllOk Tryz.prog Glob [
    Tr.call (nat_lit 24) [] [] (Av.one (Sv.cel (Cv.raw (Value.bool true)))),
    Tr.call (nat_lit 32) [Sv.cel (Cv.row (nat_lit 5) (nat_lit 0) (nat_lit 1) (nat_lit 1))] [(nat_lit 5, { t := nat_lit 43, cs := [Cv.raw (Value.bool m0), Cv.ent e0, Cv.ent d0], own := true })] (Av.one (Sv.cel (Cv.raw (Value.bool false))))] := ⟨
    parts_f,
    hu _ _, trivial⟩
  exact fits_of_trace (n := 300) (k0 := 0) hT Tryz.func9 (by kernel_rfl) (by kernel_rfl) (by kernel_rfl)

theorem RatioTexts_un0 {m : Bool} {xs ds : List Nat} (hu : Unfit m xs ds) (n : Int) : FitsP 9 [ag m xs ds, rawS (.int .i64 n)] [] (.one (boolS true)) := RatioTexts_unfit _ _ _ _ fun x o => unfit1_0 hu x o
end Go.Proofs.YtlgfjgkcgimdoaaGreatDoor
