/- WholeSums. -/
import Derived.Test.YtphpaejgcahgbaaGreatDoorRatLong
import Derived.Test.YtphpaejgcahgbaaGreatDoorRatParses
namespace Go.Proofs.YtphpaejgcahgbaaGreatDoor
open Go Go.RowKit Go.Shelf AM
theorem BQ.flo {m : Nat} {p : Rat} (hp : BQ m p) (h : 1 ≤ m) : BQ m (p.floor : Rat) := ⟨by
  rw [Rat.num_intCast, Rat.floor_def]; exact Nat.lt_of_le_of_lt (Int.natAbs_ediv_le_natAbs _ _) hp.1, by
  rw [Rat.den_intCast]; exact Nat.lt_of_lt_of_le (show 1 < 4294967296 ^ 1 by decide) (Nat.pow_le_pow_right (by omega) h)⟩
theorem rest_lt (p : Rat) : ordQ (p - (p.floor : Rat)) 1 = -1 := by
  unfold ordQ
  have := Rat.lt_floor_add_one p
  rw [if_pos (by grind)]
theorem rest_ge {p : Rat} {c : Int} (h : ordQ (p - (p.floor : Rat)) 0 = c) : decide (c ≥ 0) = true := by
  rw [decide_eq_true_iff, ← h]
  have := Rat.floor_le p
  unfold ordQ
  rw [if_neg (by grind)]
  split <;> omega
theorem len10 {x : Nat} (h : x < 4294967296 ^ 10) : decide (((lenN x : Nat) : Int) > 10) = false := gt_false (lenN_le.2 h)
theorem len10t {x : Nat} (h : ¬ x < 4294967296 ^ 10) : decide (((lenN x : Nat) : Int) > 10) = true := gt_true (n := lenN x) (k := 10) (Nat.lt_of_not_le (mt (lenN_le (x := x) (k := 10)).1 h))
theorem half_parse : FitsP 28 [rawS (.string ⟨#[49, 47, 50]⟩)] [] (.tup [rq (1 / 2 : Rat), ok0]) := by
  have := parseFrac_f (q := (1 / 2 : Rat)) (a := ⟨#[49]⟩) (b := ⟨#[50]⟩) (by decide) (by decide) (by
    have := parsePair_f (z := 1) (d := 2) (a := ⟨#[49]⟩) (b := ⟨#[50]⟩) ⟨[49], by decide +kernel, rfl⟩ (by decide +kernel) (by decide) (by decide) (small_lim (by decide)) (small_lim (by decide)) (by decide)
    rw [show Rat.normalize 1 2 (by decide) = (1 / 2 : Rat) by decide +kernel] at this
    exact this)
  exact this

instance (z : Int) : Decidable (inI64 z) := by unfold inI64; exact inferInstance

set_option maxRecDepth 100000 in
theorem WholeSums_go {p q : Rat} {c : Int} (lp : LQ p) (lq : LQ q) (hp : BQ 10 p) (hq : BQ 10 q) (hc : ordQ ((p + q) - ((p + q).floor : Rat)) 0 = c) : FitsP 6 [rq p, rq q] [] (.one (boolS true)) := by
  have hT : AllOk Tryz.prog Glob [
    Tr.call 28 [Sv.cel (Cv.raw (Value.string { data := #[(49 : UInt8), (47 : UInt8), (50 : UInt8)] }))] [] (Av.tup [Sv.agg [Cv.raw (Value.bool (decide (Rat.num (1 / 2 : Rat) < (0 : Int)))), Cv.ent (nat (Int.natAbs (Rat.num (1 / 2 : Rat)))), Cv.ent (nat (Rat.den (1 / 2 : Rat)))], Sv.cel (Cv.raw (Value.int IntKind.i64 (Int.ofNat (nat_lit 0))))]),
    Tr.call 33 [Sv.agg [Cv.raw (Value.bool (decide (Rat.num (1 / 2 : Rat) < (0 : Int)))), Cv.ent (nat (Int.natAbs (Rat.num (1 / 2 : Rat)))), Cv.ent (nat (Rat.den (1 / 2 : Rat)))]] [] (Av.one (Sv.cel (Cv.raw (Value.string { data := #[(49 : UInt8), (47 : UInt8), (50 : UInt8)] })))),
    Tr.call 35 [Sv.cel (Cv.raw (Value.int IntKind.i64 (Int.ofNat (nat_lit 3))))] [] (Av.one (Sv.agg [Cv.raw (Value.bool (decide ((3 : Int) < (0 : Int)))), Cv.ent (nat (Int.natAbs (3 : Int)))])),
    Tr.call 34 [Sv.agg [Cv.raw (Value.bool (decide ((3 : Int) < (0 : Int)))), Cv.ent (nat (Int.natAbs (3 : Int)))]] [] (Av.one (Sv.cel (Cv.raw (Value.string { data := #[(51 : UInt8)] })))),
    Tr.call 36 [Sv.agg [Cv.raw (Value.bool (decide (Rat.num p < (0 : Int)))), Cv.ent (nat (Int.natAbs (Rat.num p))), Cv.ent (nat (Rat.den p))]] [] (Av.one (Sv.cel (Cv.raw (Value.int IntKind.i64 (Int.ofNat (nat_lit 0)))))),
    Tr.norm (nat_lit 42) (Av.one (Sv.cel (Cv.raw (Value.bool (decide ((↑(lenN (Int.natAbs (Rat.num p))) : Int) > (10 : Int))))))) (Av.one (Sv.cel (Cv.raw (Value.bool false)))),
    Tr.norm (nat_lit 47) (Av.one (Sv.cel (Cv.raw (Value.bool (decide ((↑(lenN (Rat.den p)) : Int) > (10 : Int))))))) (Av.one (Sv.cel (Cv.raw (Value.bool false)))),
    Tr.call 36 [Sv.agg [Cv.raw (Value.bool (decide (Rat.num q < (0 : Int)))), Cv.ent (nat (Int.natAbs (Rat.num q))), Cv.ent (nat (Rat.den q))]] [] (Av.one (Sv.cel (Cv.raw (Value.int IntKind.i64 (Int.ofNat (nat_lit 0)))))),
    Tr.norm (nat_lit 65) (Av.one (Sv.cel (Cv.raw (Value.bool (decide ((↑(lenN (Int.natAbs (Rat.num q))) : Int) > (10 : Int))))))) (Av.one (Sv.cel (Cv.raw (Value.bool false)))),
    Tr.norm (nat_lit 70) (Av.one (Sv.cel (Cv.raw (Value.bool (decide ((↑(lenN (Rat.den q)) : Int) > (10 : Int))))))) (Av.one (Sv.cel (Cv.raw (Value.bool false)))),
    Tr.call 33 [Sv.agg [Cv.raw (Value.bool (decide (Rat.num p < (0 : Int)))), Cv.ent (nat (Int.natAbs (Rat.num p))), Cv.ent (nat (Rat.den p))]] [] (Av.one (Sv.cel (Cv.raw (Value.string (txtQ p))))),
    Tr.call 28 [Sv.cel (Cv.raw (Value.string (txtQ p)))] [] (Av.tup [Sv.agg [Cv.raw (Value.bool (decide (Rat.num p < (0 : Int)))), Cv.ent (nat (Int.natAbs (Rat.num p))), Cv.ent (nat (Rat.den p))], Sv.cel (Cv.raw (Value.int IntKind.i64 (Int.ofNat (nat_lit 0))))]),
    Tr.call 33 [Sv.agg [Cv.raw (Value.bool (decide (Rat.num q < (0 : Int)))), Cv.ent (nat (Int.natAbs (Rat.num q))), Cv.ent (nat (Rat.den q))]] [] (Av.one (Sv.cel (Cv.raw (Value.string (txtQ q))))),
    Tr.call 28 [Sv.cel (Cv.raw (Value.string (txtQ q)))] [] (Av.tup [Sv.agg [Cv.raw (Value.bool (decide (Rat.num q < (0 : Int)))), Cv.ent (nat (Int.natAbs (Rat.num q))), Cv.ent (nat (Rat.den q))], Sv.cel (Cv.raw (Value.int IntKind.i64 (Int.ofNat (nat_lit 0))))]),
    Tr.call 37 [Sv.agg [Cv.raw (Value.bool (decide (Rat.num p < (0 : Int)))), Cv.ent (nat (Int.natAbs (Rat.num p))), Cv.ent (nat (Rat.den p))], Sv.agg [Cv.raw (Value.bool (decide (Rat.num q < (0 : Int)))), Cv.ent (nat (Int.natAbs (Rat.num q))), Cv.ent (nat (Rat.den q))]] [] (Av.tup [Sv.agg [Cv.raw (Value.bool (decide (Rat.num (p + q) < (0 : Int)))), Cv.ent (nat (Int.natAbs (Rat.num (p + q)))), Cv.ent (nat (Rat.den (p + q)))], Sv.cel (Cv.raw (Value.int IntKind.i64 (Int.ofNat (nat_lit 0))))]),
    Tr.call 37 [Sv.agg [Cv.raw (Value.bool (decide (Rat.num p < (0 : Int)))), Cv.ent (nat (Int.natAbs (Rat.num p))), Cv.ent (nat (Rat.den p))], Sv.agg [Cv.raw (Value.bool (decide (Rat.num q < (0 : Int)))), Cv.ent (nat (Int.natAbs (Rat.num q))), Cv.ent (nat (Rat.den q))]] [] (Av.tup [Sv.agg [Cv.raw (Value.bool (decide (Rat.num (p + q) < (0 : Int)))), Cv.ent (nat (Int.natAbs (Rat.num (p + q)))), Cv.ent (nat (Rat.den (p + q)))], Sv.cel (Cv.raw (Value.int IntKind.i64 (Int.ofNat (nat_lit 0))))]),
    Tr.call 33 [Sv.agg [Cv.raw (Value.bool (decide (Rat.num (p + q) < (0 : Int)))), Cv.ent (nat (Int.natAbs (Rat.num (p + q)))), Cv.ent (nat (Rat.den (p + q)))]] [] (Av.one (Sv.cel (Cv.raw (Value.string (txtQ (p + q)))))),
    Tr.call 28 [Sv.cel (Cv.raw (Value.string (txtQ (p + q))))] [] (Av.tup [Sv.agg [Cv.raw (Value.bool (decide (Rat.num (p + q) < (0 : Int)))), Cv.ent (nat (Int.natAbs (Rat.num (p + q)))), Cv.ent (nat (Rat.den (p + q)))], Sv.cel (Cv.raw (Value.int IntKind.i64 (Int.ofNat (nat_lit 0))))]),
    Tr.call 38 [Sv.agg [Cv.raw (Value.bool (decide (Rat.num (p + q) < (0 : Int)))), Cv.ent (nat (Int.natAbs (Rat.num (p + q)))), Cv.ent (nat (Rat.den (p + q)))], Sv.agg [Cv.raw (Value.bool (decide (Rat.num (p + q) < (0 : Int)))), Cv.ent (nat (Int.natAbs (Rat.num (p + q)))), Cv.ent (nat (Rat.den (p + q)))]] [] (Av.tup [Sv.cel (Cv.raw (Value.int IntKind.i64 (Int.ofNat (nat_lit 0)))), Sv.cel (Cv.raw (Value.int IntKind.i64 (Int.ofNat (nat_lit 0))))]),
    Tr.call 41 [Sv.agg [Cv.raw (Value.bool (decide (Rat.num (p + q) < (0 : Int)))), Cv.ent (nat (Int.natAbs (Rat.num (p + q)))), Cv.ent (nat (Rat.den (p + q)))]] [] (Av.one (Sv.agg [Cv.raw (Value.bool (decide (Rat.floor (p + q) < (0 : Int)))), Cv.ent (nat (Int.natAbs (Rat.floor (p + q))))])),
    Tr.call 40 [Sv.agg [Cv.raw (Value.bool (decide (Rat.floor (p + q) < (0 : Int)))), Cv.ent (nat (Int.natAbs (Rat.floor (p + q))))]] [] (Av.one (Sv.agg [Cv.raw (Value.bool (decide (Rat.num (↑(Rat.floor (p + q)) : Rat) < (0 : Int)))), Cv.ent (nat (Int.natAbs (Rat.num (↑(Rat.floor (p + q)) : Rat)))), Cv.ent (nat (Rat.den (↑(Rat.floor (p + q)) : Rat)))])),
    Tr.call 39 [Sv.agg [Cv.raw (Value.bool (decide (Rat.num (p + q) < (0 : Int)))), Cv.ent (nat (Int.natAbs (Rat.num (p + q)))), Cv.ent (nat (Rat.den (p + q)))], Sv.agg [Cv.raw (Value.bool (decide (Rat.num (↑(Rat.floor (p + q)) : Rat) < (0 : Int)))), Cv.ent (nat (Int.natAbs (Rat.num (↑(Rat.floor (p + q)) : Rat)))), Cv.ent (nat (Rat.den (↑(Rat.floor (p + q)) : Rat)))]] [] (Av.tup [Sv.agg [Cv.raw (Value.bool (decide (Rat.num (p + q - (↑(Rat.floor (p + q)) : Rat)) < (0 : Int)))), Cv.ent (nat (Int.natAbs (Rat.num (p + q - (↑(Rat.floor (p + q)) : Rat))))), Cv.ent (nat (Rat.den (p + q - (↑(Rat.floor (p + q)) : Rat))))], Sv.cel (Cv.raw (Value.int IntKind.i64 (Int.ofNat (nat_lit 0))))]),
    Tr.call 42 [Sv.cel (Cv.raw (Value.int IntKind.i64 (Int.ofNat (nat_lit 1)))), Sv.cel (Cv.raw (Value.int IntKind.i64 (Int.ofNat (nat_lit 1))))] [] (Av.one (Sv.agg [Cv.raw (Value.bool (decide (Rat.num (1 : Rat) < (0 : Int)))), Cv.ent (nat (Int.natAbs (Rat.num (1 : Rat)))), Cv.ent (nat (Rat.den (1 : Rat)))])),
    Tr.call 38 [Sv.agg [Cv.raw (Value.bool (decide (Rat.num (p + q - (↑(Rat.floor (p + q)) : Rat)) < (0 : Int)))), Cv.ent (nat (Int.natAbs (Rat.num (p + q - (↑(Rat.floor (p + q)) : Rat))))), Cv.ent (nat (Rat.den (p + q - (↑(Rat.floor (p + q)) : Rat))))], Sv.agg [Cv.raw (Value.bool (decide (Rat.num (1 : Rat) < (0 : Int)))), Cv.ent (nat (Int.natAbs (Rat.num (1 : Rat)))), Cv.ent (nat (Rat.den (1 : Rat)))]] [] (Av.tup [Sv.cel (Cv.raw (Value.int IntKind.i64 (Int.negSucc (nat_lit 0)))), Sv.cel (Cv.raw (Value.int IntKind.i64 (Int.ofNat (nat_lit 0))))]),
    Tr.call 43 [Sv.agg [Cv.raw (Value.bool (decide (Rat.num (p + q - (↑(Rat.floor (p + q)) : Rat)) < (0 : Int)))), Cv.ent (nat (Int.natAbs (Rat.num (p + q - (↑(Rat.floor (p + q)) : Rat))))), Cv.ent (nat (Rat.den (p + q - (↑(Rat.floor (p + q)) : Rat))))]] [] (Av.one (Sv.cel (Cv.raw (Value.int IntKind.i64 c)))),
    Tr.norm (nat_lit 177) (Av.one (Sv.cel (Cv.raw (Value.bool (decide (c ≥ (0 : Int))))))) (Av.one (Sv.cel (Cv.raw (Value.bool true))))] := ⟨
    half_parse,
    text2_lit (z := 1) (d := 2) (s := ⟨#[49]⟩) (t := ⟨#[50]⟩) (u := ⟨#[49, 47, 50]⟩) (1 / 2 : Rat) (by decide +kernel) (by decide +kernel) (by decide +kernel) ⟨[49], by decide +kernel, rfl⟩ (by decide +kernel) (lim_small1 (by decide +kernel)) (small_lim (by decide +kernel)) (by decide +kernel),
    ofI_f (z1 := 3) (by decide),
    textI_f (z1 := 3) ⟨#[51]⟩ ⟨[51], by decide +kernel, rfl⟩ (lim_small1 (by decide +kernel)),
    checkQ_f lp.1 lp.2,
    norm_bool (len10 hp.1),
    norm_bool (len10 hp.2),
    checkQ_f lq.1 lq.2,
    norm_bool (len10 hq.1),
    norm_bool (len10 hq.2),
    textAny (hp.mono (by omega)),
    backAny (hp.mono (by omega)),
    textAny (hq.mono (by omega)),
    backAny (hq.mono (by omega)),
    addQ_f hp hq (by omega),
    addQ_f hp hq (by omega),
    textAny ((hp.add hq).mono (by omega)),
    backAny ((hp.add hq).mono (by omega)),
    cmp_lit (hp.add hq) (hp.add hq) (by omega) (by unfold ordQ; rw [if_neg Rat.lt_irrefl, if_pos rfl]; rfl),
    floorB_f (hp.add hq) (by omega),
    wholeB_f,
    subQ_f (hp.add hq) ((hp.add hq).flo (by omega)) (by omega),
    ofQ_lit (a := 1) (d := 1) 1 (by decide +kernel) (by decide +kernel) (by decide) (by decide +kernel),
    cmp_lit ((hp.add hq).sub ((hp.add hq).flo (by omega))) (n := 1) ⟨by decide +kernel, by decide +kernel⟩ (by omega) (rest_lt _),
    signQ_is hc,
    norm_bool (rest_ge hc), trivial⟩
  exact fits_of_trace (n := 500) (k0 := 0) hT Tryz.func6 (by kernel_rfl) (by kernel_rfl) (by kernel_rfl)

set_option maxRecDepth 100000 in
theorem WholeSums_a1 {m : Bool} {xs ds : List Nat} {c : Int} (hc : c ≠ 0) (hu : FitsP 36 [agL m xs ds] [] (.one (intS c))) (n : Bool) (a b : Ent) : FitsP 6 [agL m xs ds, .agg [.raw (.bool n), .ent a, .ent b]] [] (.one (boolS true)) := by
  have hT : AllOk Tryz.prog Glob [
    Tr.call 28 [Sv.cel (Cv.raw (Value.string { data := #[(49 : UInt8), (47 : UInt8), (50 : UInt8)] }))] [] (Av.tup [Sv.agg [Cv.raw (Value.bool (decide (Rat.num (1 / 2 : Rat) < (0 : Int)))), Cv.ent (nat (Int.natAbs (Rat.num (1 / 2 : Rat)))), Cv.ent (nat (Rat.den (1 / 2 : Rat)))], Sv.cel (Cv.raw (Value.int IntKind.i64 (Int.ofNat (nat_lit 0))))]),
    Tr.call 33 [Sv.agg [Cv.raw (Value.bool (decide (Rat.num (1 / 2 : Rat) < (0 : Int)))), Cv.ent (nat (Int.natAbs (Rat.num (1 / 2 : Rat)))), Cv.ent (nat (Rat.den (1 / 2 : Rat)))]] [] (Av.one (Sv.cel (Cv.raw (Value.string { data := #[(49 : UInt8), (47 : UInt8), (50 : UInt8)] })))),
    Tr.call 35 [Sv.cel (Cv.raw (Value.int IntKind.i64 (Int.ofNat (nat_lit 3))))] [] (Av.one (Sv.agg [Cv.raw (Value.bool (decide ((3 : Int) < (0 : Int)))), Cv.ent (nat (Int.natAbs (3 : Int)))])),
    Tr.call 34 [Sv.agg [Cv.raw (Value.bool (decide ((3 : Int) < (0 : Int)))), Cv.ent (nat (Int.natAbs (3 : Int)))]] [] (Av.one (Sv.cel (Cv.raw (Value.string { data := #[(51 : UInt8)] })))),
    Tr.call 36 [Sv.agg [Cv.raw (Value.bool m), Cv.ent (argL xs), Cv.ent (argL ds)]] [] (Av.one (Sv.cel (Cv.raw (Value.int IntKind.i64 c)))),
    Tr.norm (nat_lit 35) (Av.one (Sv.cel (Cv.raw (Value.bool (c != (0 : Int)))))) (Av.one (Sv.cel (Cv.raw (Value.bool true))))] := ⟨
    half_parse,
    text2_lit (z := 1) (d := 2) (s := ⟨#[49]⟩) (t := ⟨#[50]⟩) (u := ⟨#[49, 47, 50]⟩) (1 / 2 : Rat) (by decide +kernel) (by decide +kernel) (by decide +kernel) ⟨[49], by decide +kernel, rfl⟩ (by decide +kernel) (lim_small1 (by decide +kernel)) (small_lim (by decide +kernel)) (by decide +kernel),
    ofI_f (z1 := 3) (by decide),
    textI_f (z1 := 3) ⟨#[51]⟩ ⟨[51], by decide +kernel, rfl⟩ (lim_small1 (by decide +kernel)),
    hu,
    norm_bool (ne_true hc), trivial⟩
  exact fits_of_trace (n := 300) (k0 := 0) hT Tryz.func6 (by kernel_rfl) (by kernel_rfl) (by kernel_rfl)

set_option maxRecDepth 100000 in
theorem WholeSums_a2 {p : Rat} (lp : LQ p) (h : ¬ p.num.natAbs < 4294967296 ^ 10) (n : Bool) (a b : Ent) : FitsP 6 [rq p, .agg [.raw (.bool n), .ent a, .ent b]] [] (.one (boolS true)) := by
  have hT : AllOk Tryz.prog Glob [
    Tr.call 28 [Sv.cel (Cv.raw (Value.string { data := #[(49 : UInt8), (47 : UInt8), (50 : UInt8)] }))] [] (Av.tup [Sv.agg [Cv.raw (Value.bool (decide (Rat.num (1 / 2 : Rat) < (0 : Int)))), Cv.ent (nat (Int.natAbs (Rat.num (1 / 2 : Rat)))), Cv.ent (nat (Rat.den (1 / 2 : Rat)))], Sv.cel (Cv.raw (Value.int IntKind.i64 (Int.ofNat (nat_lit 0))))]),
    Tr.call 33 [Sv.agg [Cv.raw (Value.bool (decide (Rat.num (1 / 2 : Rat) < (0 : Int)))), Cv.ent (nat (Int.natAbs (Rat.num (1 / 2 : Rat)))), Cv.ent (nat (Rat.den (1 / 2 : Rat)))]] [] (Av.one (Sv.cel (Cv.raw (Value.string { data := #[(49 : UInt8), (47 : UInt8), (50 : UInt8)] })))),
    Tr.call 35 [Sv.cel (Cv.raw (Value.int IntKind.i64 (Int.ofNat (nat_lit 3))))] [] (Av.one (Sv.agg [Cv.raw (Value.bool (decide ((3 : Int) < (0 : Int)))), Cv.ent (nat (Int.natAbs (3 : Int)))])),
    Tr.call 34 [Sv.agg [Cv.raw (Value.bool (decide ((3 : Int) < (0 : Int)))), Cv.ent (nat (Int.natAbs (3 : Int)))]] [] (Av.one (Sv.cel (Cv.raw (Value.string { data := #[(51 : UInt8)] })))),
    Tr.call 36 [Sv.agg [Cv.raw (Value.bool (decide (Rat.num p < (0 : Int)))), Cv.ent (nat (Int.natAbs (Rat.num p))), Cv.ent (nat (Rat.den p))]] [] (Av.one (Sv.cel (Cv.raw (Value.int IntKind.i64 (Int.ofNat (nat_lit 0)))))),
    Tr.norm (nat_lit 42) (Av.one (Sv.cel (Cv.raw (Value.bool (decide ((↑(lenN (Int.natAbs (Rat.num p))) : Int) > (10 : Int))))))) (Av.one (Sv.cel (Cv.raw (Value.bool true))))] := ⟨
    half_parse,
    text2_lit (z := 1) (d := 2) (s := ⟨#[49]⟩) (t := ⟨#[50]⟩) (u := ⟨#[49, 47, 50]⟩) (1 / 2 : Rat) (by decide +kernel) (by decide +kernel) (by decide +kernel) ⟨[49], by decide +kernel, rfl⟩ (by decide +kernel) (lim_small1 (by decide +kernel)) (small_lim (by decide +kernel)) (by decide +kernel),
    ofI_f (z1 := 3) (by decide),
    textI_f (z1 := 3) ⟨#[51]⟩ ⟨[51], by decide +kernel, rfl⟩ (lim_small1 (by decide +kernel)),
    checkQ_f lp.1 lp.2,
    norm_bool (len10t h), trivial⟩
  exact fits_of_trace (n := 300) (k0 := 0) hT Tryz.func6 (by kernel_rfl) (by kernel_rfl) (by kernel_rfl)

set_option maxRecDepth 100000 in
theorem WholeSums_a3 {p : Rat} (lp : LQ p) (h0 : p.num.natAbs < 4294967296 ^ 10) (h : ¬ p.den < 4294967296 ^ 10) (n : Bool) (a b : Ent) : FitsP 6 [rq p, .agg [.raw (.bool n), .ent a, .ent b]] [] (.one (boolS true)) := by
  have hT : AllOk Tryz.prog Glob [
    Tr.call 28 [Sv.cel (Cv.raw (Value.string { data := #[(49 : UInt8), (47 : UInt8), (50 : UInt8)] }))] [] (Av.tup [Sv.agg [Cv.raw (Value.bool (decide (Rat.num (1 / 2 : Rat) < (0 : Int)))), Cv.ent (nat (Int.natAbs (Rat.num (1 / 2 : Rat)))), Cv.ent (nat (Rat.den (1 / 2 : Rat)))], Sv.cel (Cv.raw (Value.int IntKind.i64 (Int.ofNat (nat_lit 0))))]),
    Tr.call 33 [Sv.agg [Cv.raw (Value.bool (decide (Rat.num (1 / 2 : Rat) < (0 : Int)))), Cv.ent (nat (Int.natAbs (Rat.num (1 / 2 : Rat)))), Cv.ent (nat (Rat.den (1 / 2 : Rat)))]] [] (Av.one (Sv.cel (Cv.raw (Value.string { data := #[(49 : UInt8), (47 : UInt8), (50 : UInt8)] })))),
    Tr.call 35 [Sv.cel (Cv.raw (Value.int IntKind.i64 (Int.ofNat (nat_lit 3))))] [] (Av.one (Sv.agg [Cv.raw (Value.bool (decide ((3 : Int) < (0 : Int)))), Cv.ent (nat (Int.natAbs (3 : Int)))])),
    Tr.call 34 [Sv.agg [Cv.raw (Value.bool (decide ((3 : Int) < (0 : Int)))), Cv.ent (nat (Int.natAbs (3 : Int)))]] [] (Av.one (Sv.cel (Cv.raw (Value.string { data := #[(51 : UInt8)] })))),
    Tr.call 36 [Sv.agg [Cv.raw (Value.bool (decide (Rat.num p < (0 : Int)))), Cv.ent (nat (Int.natAbs (Rat.num p))), Cv.ent (nat (Rat.den p))]] [] (Av.one (Sv.cel (Cv.raw (Value.int IntKind.i64 (Int.ofNat (nat_lit 0)))))),
    Tr.norm (nat_lit 42) (Av.one (Sv.cel (Cv.raw (Value.bool (decide ((↑(lenN (Int.natAbs (Rat.num p))) : Int) > (10 : Int))))))) (Av.one (Sv.cel (Cv.raw (Value.bool false)))),
    Tr.norm (nat_lit 47) (Av.one (Sv.cel (Cv.raw (Value.bool (decide ((↑(lenN (Rat.den p)) : Int) > (10 : Int))))))) (Av.one (Sv.cel (Cv.raw (Value.bool true))))] := ⟨
    half_parse,
    text2_lit (z := 1) (d := 2) (s := ⟨#[49]⟩) (t := ⟨#[50]⟩) (u := ⟨#[49, 47, 50]⟩) (1 / 2 : Rat) (by decide +kernel) (by decide +kernel) (by decide +kernel) ⟨[49], by decide +kernel, rfl⟩ (by decide +kernel) (lim_small1 (by decide +kernel)) (small_lim (by decide +kernel)) (by decide +kernel),
    ofI_f (z1 := 3) (by decide),
    textI_f (z1 := 3) ⟨#[51]⟩ ⟨[51], by decide +kernel, rfl⟩ (lim_small1 (by decide +kernel)),
    checkQ_f lp.1 lp.2,
    norm_bool (len10 h0),
    norm_bool (len10t h), trivial⟩
  exact fits_of_trace (n := 300) (k0 := 0) hT Tryz.func6 (by kernel_rfl) (by kernel_rfl) (by kernel_rfl)

set_option maxRecDepth 100000 in
theorem WholeSums_b1 {p : Rat} (lp : LQ p) (hp : BQ 10 p) {m : Bool} {xs ds : List Nat} {c : Int} (hc : c ≠ 0) (hu : FitsP 36 [agL m xs ds] [] (.one (intS c))) : FitsP 6 [rq p, agL m xs ds] [] (.one (boolS true)) := by
  have hT : AllOk Tryz.prog Glob [
    Tr.call 28 [Sv.cel (Cv.raw (Value.string { data := #[(49 : UInt8), (47 : UInt8), (50 : UInt8)] }))] [] (Av.tup [Sv.agg [Cv.raw (Value.bool (decide (Rat.num (1 / 2 : Rat) < (0 : Int)))), Cv.ent (nat (Int.natAbs (Rat.num (1 / 2 : Rat)))), Cv.ent (nat (Rat.den (1 / 2 : Rat)))], Sv.cel (Cv.raw (Value.int IntKind.i64 (Int.ofNat (nat_lit 0))))]),
    Tr.call 33 [Sv.agg [Cv.raw (Value.bool (decide (Rat.num (1 / 2 : Rat) < (0 : Int)))), Cv.ent (nat (Int.natAbs (Rat.num (1 / 2 : Rat)))), Cv.ent (nat (Rat.den (1 / 2 : Rat)))]] [] (Av.one (Sv.cel (Cv.raw (Value.string { data := #[(49 : UInt8), (47 : UInt8), (50 : UInt8)] })))),
    Tr.call 35 [Sv.cel (Cv.raw (Value.int IntKind.i64 (Int.ofNat (nat_lit 3))))] [] (Av.one (Sv.agg [Cv.raw (Value.bool (decide ((3 : Int) < (0 : Int)))), Cv.ent (nat (Int.natAbs (3 : Int)))])),
    Tr.call 34 [Sv.agg [Cv.raw (Value.bool (decide ((3 : Int) < (0 : Int)))), Cv.ent (nat (Int.natAbs (3 : Int)))]] [] (Av.one (Sv.cel (Cv.raw (Value.string { data := #[(51 : UInt8)] })))),
    Tr.call 36 [Sv.agg [Cv.raw (Value.bool (decide (Rat.num p < (0 : Int)))), Cv.ent (nat (Int.natAbs (Rat.num p))), Cv.ent (nat (Rat.den p))]] [] (Av.one (Sv.cel (Cv.raw (Value.int IntKind.i64 (Int.ofNat (nat_lit 0)))))),
    Tr.norm (nat_lit 42) (Av.one (Sv.cel (Cv.raw (Value.bool (decide ((↑(lenN (Int.natAbs (Rat.num p))) : Int) > (10 : Int))))))) (Av.one (Sv.cel (Cv.raw (Value.bool false)))),
    Tr.norm (nat_lit 47) (Av.one (Sv.cel (Cv.raw (Value.bool (decide ((↑(lenN (Rat.den p)) : Int) > (10 : Int))))))) (Av.one (Sv.cel (Cv.raw (Value.bool false)))),
    Tr.call 36 [Sv.agg [Cv.raw (Value.bool m), Cv.ent (argL xs), Cv.ent (argL ds)]] [] (Av.one (Sv.cel (Cv.raw (Value.int IntKind.i64 c)))),
    Tr.norm (nat_lit 58) (Av.one (Sv.cel (Cv.raw (Value.bool (c != (0 : Int)))))) (Av.one (Sv.cel (Cv.raw (Value.bool true))))] := ⟨
    half_parse,
    text2_lit (z := 1) (d := 2) (s := ⟨#[49]⟩) (t := ⟨#[50]⟩) (u := ⟨#[49, 47, 50]⟩) (1 / 2 : Rat) (by decide +kernel) (by decide +kernel) (by decide +kernel) ⟨[49], by decide +kernel, rfl⟩ (by decide +kernel) (lim_small1 (by decide +kernel)) (small_lim (by decide +kernel)) (by decide +kernel),
    ofI_f (z1 := 3) (by decide),
    textI_f (z1 := 3) ⟨#[51]⟩ ⟨[51], by decide +kernel, rfl⟩ (lim_small1 (by decide +kernel)),
    checkQ_f lp.1 lp.2,
    norm_bool (len10 hp.1),
    norm_bool (len10 hp.2),
    hu,
    norm_bool (ne_true hc), trivial⟩
  exact fits_of_trace (n := 300) (k0 := 0) hT Tryz.func6 (by kernel_rfl) (by kernel_rfl) (by kernel_rfl)

set_option maxRecDepth 100000 in
theorem WholeSums_b2 {p q : Rat} (lp : LQ p) (lq : LQ q) (hp : BQ 10 p) (h : ¬ q.num.natAbs < 4294967296 ^ 10) : FitsP 6 [rq p, rq q] [] (.one (boolS true)) := by
  have hT : AllOk Tryz.prog Glob [
    Tr.call 28 [Sv.cel (Cv.raw (Value.string { data := #[(49 : UInt8), (47 : UInt8), (50 : UInt8)] }))] [] (Av.tup [Sv.agg [Cv.raw (Value.bool (decide (Rat.num (1 / 2 : Rat) < (0 : Int)))), Cv.ent (nat (Int.natAbs (Rat.num (1 / 2 : Rat)))), Cv.ent (nat (Rat.den (1 / 2 : Rat)))], Sv.cel (Cv.raw (Value.int IntKind.i64 (Int.ofNat (nat_lit 0))))]),
    Tr.call 33 [Sv.agg [Cv.raw (Value.bool (decide (Rat.num (1 / 2 : Rat) < (0 : Int)))), Cv.ent (nat (Int.natAbs (Rat.num (1 / 2 : Rat)))), Cv.ent (nat (Rat.den (1 / 2 : Rat)))]] [] (Av.one (Sv.cel (Cv.raw (Value.string { data := #[(49 : UInt8), (47 : UInt8), (50 : UInt8)] })))),
    Tr.call 35 [Sv.cel (Cv.raw (Value.int IntKind.i64 (Int.ofNat (nat_lit 3))))] [] (Av.one (Sv.agg [Cv.raw (Value.bool (decide ((3 : Int) < (0 : Int)))), Cv.ent (nat (Int.natAbs (3 : Int)))])),
    Tr.call 34 [Sv.agg [Cv.raw (Value.bool (decide ((3 : Int) < (0 : Int)))), Cv.ent (nat (Int.natAbs (3 : Int)))]] [] (Av.one (Sv.cel (Cv.raw (Value.string { data := #[(51 : UInt8)] })))),
    Tr.call 36 [Sv.agg [Cv.raw (Value.bool (decide (Rat.num p < (0 : Int)))), Cv.ent (nat (Int.natAbs (Rat.num p))), Cv.ent (nat (Rat.den p))]] [] (Av.one (Sv.cel (Cv.raw (Value.int IntKind.i64 (Int.ofNat (nat_lit 0)))))),
    Tr.norm (nat_lit 42) (Av.one (Sv.cel (Cv.raw (Value.bool (decide ((↑(lenN (Int.natAbs (Rat.num p))) : Int) > (10 : Int))))))) (Av.one (Sv.cel (Cv.raw (Value.bool false)))),
    Tr.norm (nat_lit 47) (Av.one (Sv.cel (Cv.raw (Value.bool (decide ((↑(lenN (Rat.den p)) : Int) > (10 : Int))))))) (Av.one (Sv.cel (Cv.raw (Value.bool false)))),
    Tr.call 36 [Sv.agg [Cv.raw (Value.bool (decide (Rat.num q < (0 : Int)))), Cv.ent (nat (Int.natAbs (Rat.num q))), Cv.ent (nat (Rat.den q))]] [] (Av.one (Sv.cel (Cv.raw (Value.int IntKind.i64 (Int.ofNat (nat_lit 0)))))),
    Tr.norm (nat_lit 65) (Av.one (Sv.cel (Cv.raw (Value.bool (decide ((↑(lenN (Int.natAbs (Rat.num q))) : Int) > (10 : Int))))))) (Av.one (Sv.cel (Cv.raw (Value.bool true))))] := ⟨
    half_parse,
    text2_lit (z := 1) (d := 2) (s := ⟨#[49]⟩) (t := ⟨#[50]⟩) (u := ⟨#[49, 47, 50]⟩) (1 / 2 : Rat) (by decide +kernel) (by decide +kernel) (by decide +kernel) ⟨[49], by decide +kernel, rfl⟩ (by decide +kernel) (lim_small1 (by decide +kernel)) (small_lim (by decide +kernel)) (by decide +kernel),
    ofI_f (z1 := 3) (by decide),
    textI_f (z1 := 3) ⟨#[51]⟩ ⟨[51], by decide +kernel, rfl⟩ (lim_small1 (by decide +kernel)),
    checkQ_f lp.1 lp.2,
    norm_bool (len10 hp.1),
    norm_bool (len10 hp.2),
    checkQ_f lq.1 lq.2,
    norm_bool (len10t h), trivial⟩
  exact fits_of_trace (n := 300) (k0 := 0) hT Tryz.func6 (by kernel_rfl) (by kernel_rfl) (by kernel_rfl)

set_option maxRecDepth 100000 in
theorem WholeSums_b3 {p q : Rat} (lp : LQ p) (lq : LQ q) (hp : BQ 10 p) (h0 : q.num.natAbs < 4294967296 ^ 10) (h : ¬ q.den < 4294967296 ^ 10) : FitsP 6 [rq p, rq q] [] (.one (boolS true)) := by
  have hT : AllOk Tryz.prog Glob [
    Tr.call 28 [Sv.cel (Cv.raw (Value.string { data := #[(49 : UInt8), (47 : UInt8), (50 : UInt8)] }))] [] (Av.tup [Sv.agg [Cv.raw (Value.bool (decide (Rat.num (1 / 2 : Rat) < (0 : Int)))), Cv.ent (nat (Int.natAbs (Rat.num (1 / 2 : Rat)))), Cv.ent (nat (Rat.den (1 / 2 : Rat)))], Sv.cel (Cv.raw (Value.int IntKind.i64 (Int.ofNat (nat_lit 0))))]),
    Tr.call 33 [Sv.agg [Cv.raw (Value.bool (decide (Rat.num (1 / 2 : Rat) < (0 : Int)))), Cv.ent (nat (Int.natAbs (Rat.num (1 / 2 : Rat)))), Cv.ent (nat (Rat.den (1 / 2 : Rat)))]] [] (Av.one (Sv.cel (Cv.raw (Value.string { data := #[(49 : UInt8), (47 : UInt8), (50 : UInt8)] })))),
    Tr.call 35 [Sv.cel (Cv.raw (Value.int IntKind.i64 (Int.ofNat (nat_lit 3))))] [] (Av.one (Sv.agg [Cv.raw (Value.bool (decide ((3 : Int) < (0 : Int)))), Cv.ent (nat (Int.natAbs (3 : Int)))])),
    Tr.call 34 [Sv.agg [Cv.raw (Value.bool (decide ((3 : Int) < (0 : Int)))), Cv.ent (nat (Int.natAbs (3 : Int)))]] [] (Av.one (Sv.cel (Cv.raw (Value.string { data := #[(51 : UInt8)] })))),
    Tr.call 36 [Sv.agg [Cv.raw (Value.bool (decide (Rat.num p < (0 : Int)))), Cv.ent (nat (Int.natAbs (Rat.num p))), Cv.ent (nat (Rat.den p))]] [] (Av.one (Sv.cel (Cv.raw (Value.int IntKind.i64 (Int.ofNat (nat_lit 0)))))),
    Tr.norm (nat_lit 42) (Av.one (Sv.cel (Cv.raw (Value.bool (decide ((↑(lenN (Int.natAbs (Rat.num p))) : Int) > (10 : Int))))))) (Av.one (Sv.cel (Cv.raw (Value.bool false)))),
    Tr.norm (nat_lit 47) (Av.one (Sv.cel (Cv.raw (Value.bool (decide ((↑(lenN (Rat.den p)) : Int) > (10 : Int))))))) (Av.one (Sv.cel (Cv.raw (Value.bool false)))),
    Tr.call 36 [Sv.agg [Cv.raw (Value.bool (decide (Rat.num q < (0 : Int)))), Cv.ent (nat (Int.natAbs (Rat.num q))), Cv.ent (nat (Rat.den q))]] [] (Av.one (Sv.cel (Cv.raw (Value.int IntKind.i64 (Int.ofNat (nat_lit 0)))))),
    Tr.norm (nat_lit 65) (Av.one (Sv.cel (Cv.raw (Value.bool (decide ((↑(lenN (Int.natAbs (Rat.num q))) : Int) > (10 : Int))))))) (Av.one (Sv.cel (Cv.raw (Value.bool false)))),
    Tr.norm (nat_lit 70) (Av.one (Sv.cel (Cv.raw (Value.bool (decide ((↑(lenN (Rat.den q)) : Int) > (10 : Int))))))) (Av.one (Sv.cel (Cv.raw (Value.bool true))))] := ⟨
    half_parse,
    text2_lit (z := 1) (d := 2) (s := ⟨#[49]⟩) (t := ⟨#[50]⟩) (u := ⟨#[49, 47, 50]⟩) (1 / 2 : Rat) (by decide +kernel) (by decide +kernel) (by decide +kernel) ⟨[49], by decide +kernel, rfl⟩ (by decide +kernel) (lim_small1 (by decide +kernel)) (small_lim (by decide +kernel)) (by decide +kernel),
    ofI_f (z1 := 3) (by decide),
    textI_f (z1 := 3) ⟨#[51]⟩ ⟨[51], by decide +kernel, rfl⟩ (lim_small1 (by decide +kernel)),
    checkQ_f lp.1 lp.2,
    norm_bool (len10 hp.1),
    norm_bool (len10 hp.2),
    checkQ_f lq.1 lq.2,
    norm_bool (len10 h0),
    norm_bool (len10t h), trivial⟩
  exact fits_of_trace (n := 300) (k0 := 0) hT Tryz.func6 (by kernel_rfl) (by kernel_rfl) (by kernel_rfl)
end Go.Proofs.YtphpaejgcahgbaaGreatDoor
