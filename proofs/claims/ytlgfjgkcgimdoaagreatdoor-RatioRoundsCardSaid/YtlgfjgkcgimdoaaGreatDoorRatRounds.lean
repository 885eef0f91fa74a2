/- RatioRounds. -/
import Derived.Test.YtlgfjgkcgimdoaaGreatDoorRatOrders
namespace Go.Proofs.YtlgfjgkcgimdoaaGreatDoor
open Go Go.RowKit Go.Shelf AM
section
variable {p q : Rat} {m : Nat} {z : Int}
theorem floor_is (hp : BQ m p) (h : m ≤ 512) (e : p.floor = z) : FitsP 42 [rq p] [] (.one (im z)) := by subst e; exact floorB_f hp h
theorem ceil_is (hp : BQ m p) (h : m ≤ 512) (e : p.ceil = z) : FitsP 43 [rq p] [] (.one (im z)) := by
  rw [Rat.ceil_eq_neg_floor_neg] at e; subst e; exact ceilB_f hp h
theorem BQ.cast (h : z.natAbs < 4294967296 ^ 20) : BQ 20 (z : Rat) := ⟨by rw [Rat.num_intCast]; exact h, by rw [Rat.den_intCast]; decide +kernel⟩
theorem floor_abs (hp : BQ 20 p) : p.floor.natAbs < 4294967296 ^ 20 := by
  rw [Rat.floor_def]; exact Nat.lt_of_le_of_lt (Int.natAbs_ediv_le_natAbs _ _) hp.1
theorem ceil_abs (hp : BQ 20 p) : p.ceil.natAbs < 4294967296 ^ 20 := by
  rw [Rat.ceil_eq_neg_floor_neg, Int.natAbs_neg, Rat.floor_def, Rat.neg_num, Rat.neg_den]
  exact Nat.lt_of_le_of_lt (Int.natAbs_ediv_le_natAbs _ _) (by rw [Int.natAbs_neg]; exact hp.1)
theorem whole_num (h : p.den = 1) : ((p.num : Int) : Rat) = p := by
  apply Rat.ext
  · exact Rat.num_intCast _
  · rw [Rat.den_intCast, h]
theorem whole_floor (h : p.den = 1) : p.floor = p.num := by rw [Rat.floor_def, h]; simp
theorem whole_ceil (h : p.den = 1) : p.ceil = p.num := by rw [Rat.ceil_eq_neg_floor_neg, Rat.floor_def, Rat.neg_num, Rat.neg_den, h]; simp
theorem floor_lt (h : p.den ≠ 1) : (p.floor : Rat) < p := by
  refine Rat.lt_iff_le_and_ne.2 ⟨Rat.floor_le p, fun e => h ?_⟩
  rw [← e]; exact Rat.den_intCast _
theorem lt_ceil (h : p.den ≠ 1) : p < (p.ceil : Rat) := by
  refine Rat.lt_iff_le_and_ne.2 ⟨Rat.le_ceil, fun e => h ?_⟩
  rw [e]; exact Rat.den_intCast _
theorem ceil_floor (h : p.den ≠ 1) : p.ceil = p.floor + 1 := by
  have h1 : p.floor < p.ceil := Rat.lt_ceil_iff.2 (floor_lt h)
  have h2 : p.ceil ≤ p.floor + 1 := Rat.ceil_le_iff.2 (Rat.le_of_lt (Rat.lt_floor_add_one p))
  omega
theorem ordQ_lt (h : p < q) : ordQ p q = -1 := by unfold ordQ; rw [if_pos h]
theorem subI_is {z1 z2 z : Int} (h1 : LimI z1) (h2 : LimI z2) (h : LimI z) (e : z1 - z2 = z) : FitsP 17 [im z1, im z2] [] (.tup [im z, ok0]) := by subst e; exact subI_f h1 h2 h
theorem ofN_is {x : Nat} (h : x < 18446744073709551616) : FitsP 46 [rawS (.int .u64 (x : Int))] [] (.one (natS x)) := of_f h
theorem ofI_is {z1 : Int} (h : inI64 z1) : FitsP 47 [intS z1] [] (.one (im z1)) := ofI_f h
end

set_option maxRecDepth 100000 in
theorem RatioRounds_fit1 {p : Rat} (hp : BQ 20 p) (h : p.den = 1) : FitsP 8 [rq p] [] (.one (boolS true)) := by
  have hT : AllOk Tryz.prog Glob [
    Tr.call (nat_lit 24) [] [] (Av.one (Sv.cel (Cv.raw (Value.bool true)))),
    Tr.call (nat_lit 32) [Sv.cel (Cv.row (nat_lit 5) (nat_lit 0) (nat_lit 1) (nat_lit 1))] [(nat_lit 5, { t := nat_lit 43, cs := [Cv.raw (Value.bool (decide (Rat.num p < (0 : Int)))), Cv.ent (nat (Int.natAbs (Rat.num p))), Cv.ent (nat (Rat.den p))], own := true })] (Av.one (Sv.cel (Cv.raw (Value.bool true)))),
    Tr.call (nat_lit 42) [Sv.agg [Cv.raw (Value.bool (decide (Rat.num p < (0 : Int)))), Cv.ent (nat (Int.natAbs (Rat.num p))), Cv.ent (nat (Rat.den p))]] [] (Av.one (Sv.agg [Cv.raw (Value.bool (decide (Rat.num p < (0 : Int)))), Cv.ent (nat (Int.natAbs (Rat.num p)))])),
    Tr.call (nat_lit 43) [Sv.agg [Cv.raw (Value.bool (decide (Rat.num p < (0 : Int)))), Cv.ent (nat (Int.natAbs (Rat.num p))), Cv.ent (nat (Rat.den p))]] [] (Av.one (Sv.agg [Cv.raw (Value.bool (decide (Rat.num p < (0 : Int)))), Cv.ent (nat (Int.natAbs (Rat.num p)))])),
    Tr.call (nat_lit 44) [Sv.agg [Cv.raw (Value.bool (decide (Rat.num p < (0 : Int)))), Cv.ent (nat (Int.natAbs (Rat.num p)))]] [] (Av.one (Sv.agg [Cv.raw (Value.bool (decide (Rat.num p < (0 : Int)))), Cv.ent (nat (Int.natAbs (Rat.num p))), Cv.ent (nat (Rat.den p))])),
    Tr.call (nat_lit 39) [Sv.agg [Cv.raw (Value.bool (decide (Rat.num p < (0 : Int)))), Cv.ent (nat (Int.natAbs (Rat.num p))), Cv.ent (nat (Rat.den p))], Sv.agg [Cv.raw (Value.bool (decide (Rat.num p < (0 : Int)))), Cv.ent (nat (Int.natAbs (Rat.num p))), Cv.ent (nat (Rat.den p))]] [] (Av.tup [Sv.cel (Cv.raw (Value.int IntKind.i64 (Int.ofNat (nat_lit 0)))), Sv.cel (Cv.raw (Value.int IntKind.i64 (Int.ofNat (nat_lit 0))))]),
    Tr.call (nat_lit 44) [Sv.agg [Cv.raw (Value.bool (decide (Rat.num p < (0 : Int)))), Cv.ent (nat (Int.natAbs (Rat.num p)))]] [] (Av.one (Sv.agg [Cv.raw (Value.bool (decide (Rat.num p < (0 : Int)))), Cv.ent (nat (Int.natAbs (Rat.num p))), Cv.ent (nat (Rat.den p))])),
    Tr.call (nat_lit 39) [Sv.agg [Cv.raw (Value.bool (decide (Rat.num p < (0 : Int)))), Cv.ent (nat (Int.natAbs (Rat.num p))), Cv.ent (nat (Rat.den p))], Sv.agg [Cv.raw (Value.bool (decide (Rat.num p < (0 : Int)))), Cv.ent (nat (Int.natAbs (Rat.num p))), Cv.ent (nat (Rat.den p))]] [] (Av.tup [Sv.cel (Cv.raw (Value.int IntKind.i64 (Int.ofNat (nat_lit 0)))), Sv.cel (Cv.raw (Value.int IntKind.i64 (Int.ofNat (nat_lit 0))))]),
    Tr.call (nat_lit 17) [Sv.agg [Cv.raw (Value.bool (decide (Rat.num p < (0 : Int)))), Cv.ent (nat (Int.natAbs (Rat.num p)))], Sv.agg [Cv.raw (Value.bool (decide (Rat.num p < (0 : Int)))), Cv.ent (nat (Int.natAbs (Rat.num p)))]] [] (Av.tup [Sv.agg [Cv.raw (Value.bool (decide ((0 : Int) < (0 : Int)))), Cv.ent (nat (Int.natAbs (0 : Int)))], Sv.cel (Cv.raw (Value.int IntKind.i64 (Int.ofNat (nat_lit 0))))]),
    Tr.call (nat_lit 46) [Sv.cel (Cv.raw (Value.int IntKind.u64 (Int.ofNat (nat_lit 1))))] [] (Av.one (Sv.cel (Cv.ent (nat (1 : Nat))))),
    Tr.call (nat_lit 45) [Sv.cel (Cv.ent (nat (Rat.den p))), Sv.cel (Cv.ent (nat (1 : Nat)))] [] (Av.one (Sv.cel (Cv.raw (Value.int IntKind.i64 (Int.ofNat (nat_lit 0)))))),
    Tr.call (nat_lit 21) [Sv.agg [Cv.raw (Value.bool (decide (Rat.num p < (0 : Int)))), Cv.ent (nat (Int.natAbs (Rat.num p)))], Sv.agg [Cv.raw (Value.bool (decide (Rat.num p < (0 : Int)))), Cv.ent (nat (Int.natAbs (Rat.num p)))]] [] (Av.one (Sv.cel (Cv.raw (Value.bool true))))] := ⟨
    parts_f,
    fitOne_f hp _ _,
    floor_is hp (by omega) (whole_floor h),
    ceil_is hp (by omega) (whole_ceil h),
    by have := wholeB_f (z := p.num); rw [whole_num h] at this; exact this,
    cmp_lit hp hp (by omega) (ordQ_zero2.2 rfl),
    by have := wholeB_f (z := p.num); rw [whole_num h] at this; exact this,
    cmp_lit hp hp (by omega) (ordQ_zero2.2 rfl),
    subI_is (hp.num (by omega)) (hp.num (by omega)) (small_lim (by decide)) (by omega),
    ofN_is (x := 1) (by decide),
    cmpN_is (by rw [h]; rfl),
    sameI_is (by simp), trivial⟩
  exact fits_of_trace (n := 300) (k0 := 0) hT Tryz.func8 (by kernel_rfl) (by kernel_rfl) (by kernel_rfl)

set_option maxRecDepth 100000 in
theorem RatioRounds_fit2 {p : Rat} {k : Int} (hp : BQ 20 p) (h : p.den ≠ 1) (hk : ord3 p.den 1 = k) (h0 : k ≠ 0) : FitsP 8 [rq p] [] (.one (boolS true)) := by
  have hT : AllOk Tryz.prog Glob [
    Tr.call (nat_lit 24) [] [] (Av.one (Sv.cel (Cv.raw (Value.bool true)))),
    Tr.call (nat_lit 32) [Sv.cel (Cv.row (nat_lit 5) (nat_lit 0) (nat_lit 1) (nat_lit 1))] [(nat_lit 5, { t := nat_lit 43, cs := [Cv.raw (Value.bool (decide (Rat.num p < (0 : Int)))), Cv.ent (nat (Int.natAbs (Rat.num p))), Cv.ent (nat (Rat.den p))], own := true })] (Av.one (Sv.cel (Cv.raw (Value.bool true)))),
    Tr.call (nat_lit 42) [Sv.agg [Cv.raw (Value.bool (decide (Rat.num p < (0 : Int)))), Cv.ent (nat (Int.natAbs (Rat.num p))), Cv.ent (nat (Rat.den p))]] [] (Av.one (Sv.agg [Cv.raw (Value.bool (decide (Rat.floor p < (0 : Int)))), Cv.ent (nat (Int.natAbs (Rat.floor p)))])),
    Tr.call (nat_lit 43) [Sv.agg [Cv.raw (Value.bool (decide (Rat.num p < (0 : Int)))), Cv.ent (nat (Int.natAbs (Rat.num p))), Cv.ent (nat (Rat.den p))]] [] (Av.one (Sv.agg [Cv.raw (Value.bool (decide (Rat.ceil p < (0 : Int)))), Cv.ent (nat (Int.natAbs (Rat.ceil p)))])),
    Tr.call (nat_lit 44) [Sv.agg [Cv.raw (Value.bool (decide (Rat.floor p < (0 : Int)))), Cv.ent (nat (Int.natAbs (Rat.floor p)))]] [] (Av.one (Sv.agg [Cv.raw (Value.bool (decide (Rat.num (↑(Rat.floor p) : Rat) < (0 : Int)))), Cv.ent (nat (Int.natAbs (Rat.num (↑(Rat.floor p) : Rat)))), Cv.ent (nat (Rat.den (↑(Rat.floor p) : Rat)))])),
    Tr.call (nat_lit 39) [Sv.agg [Cv.raw (Value.bool (decide (Rat.num (↑(Rat.floor p) : Rat) < (0 : Int)))), Cv.ent (nat (Int.natAbs (Rat.num (↑(Rat.floor p) : Rat)))), Cv.ent (nat (Rat.den (↑(Rat.floor p) : Rat)))], Sv.agg [Cv.raw (Value.bool (decide (Rat.num p < (0 : Int)))), Cv.ent (nat (Int.natAbs (Rat.num p))), Cv.ent (nat (Rat.den p))]] [] (Av.tup [Sv.cel (Cv.raw (Value.int IntKind.i64 (Int.negSucc (nat_lit 0)))), Sv.cel (Cv.raw (Value.int IntKind.i64 (Int.ofNat (nat_lit 0))))]),
    Tr.call (nat_lit 44) [Sv.agg [Cv.raw (Value.bool (decide (Rat.ceil p < (0 : Int)))), Cv.ent (nat (Int.natAbs (Rat.ceil p)))]] [] (Av.one (Sv.agg [Cv.raw (Value.bool (decide (Rat.num (↑(Rat.ceil p) : Rat) < (0 : Int)))), Cv.ent (nat (Int.natAbs (Rat.num (↑(Rat.ceil p) : Rat)))), Cv.ent (nat (Rat.den (↑(Rat.ceil p) : Rat)))])),
    Tr.call (nat_lit 39) [Sv.agg [Cv.raw (Value.bool (decide (Rat.num p < (0 : Int)))), Cv.ent (nat (Int.natAbs (Rat.num p))), Cv.ent (nat (Rat.den p))], Sv.agg [Cv.raw (Value.bool (decide (Rat.num (↑(Rat.ceil p) : Rat) < (0 : Int)))), Cv.ent (nat (Int.natAbs (Rat.num (↑(Rat.ceil p) : Rat)))), Cv.ent (nat (Rat.den (↑(Rat.ceil p) : Rat)))]] [] (Av.tup [Sv.cel (Cv.raw (Value.int IntKind.i64 (Int.negSucc (nat_lit 0)))), Sv.cel (Cv.raw (Value.int IntKind.i64 (Int.ofNat (nat_lit 0))))]),
    Tr.call (nat_lit 17) [Sv.agg [Cv.raw (Value.bool (decide (Rat.ceil p < (0 : Int)))), Cv.ent (nat (Int.natAbs (Rat.ceil p)))], Sv.agg [Cv.raw (Value.bool (decide (Rat.floor p < (0 : Int)))), Cv.ent (nat (Int.natAbs (Rat.floor p)))]] [] (Av.tup [Sv.agg [Cv.raw (Value.bool (decide ((1 : Int) < (0 : Int)))), Cv.ent (nat (Int.natAbs (1 : Int)))], Sv.cel (Cv.raw (Value.int IntKind.i64 (Int.ofNat (nat_lit 0))))]),
    Tr.call (nat_lit 46) [Sv.cel (Cv.raw (Value.int IntKind.u64 (Int.ofNat (nat_lit 1))))] [] (Av.one (Sv.cel (Cv.ent (nat (1 : Nat))))),
    Tr.call (nat_lit 45) [Sv.cel (Cv.ent (nat (Rat.den p))), Sv.cel (Cv.ent (nat (1 : Nat)))] [] (Av.one (Sv.cel (Cv.raw (Value.int IntKind.i64 k)))),
    Tr.norm (nat_lit 47) (Av.one (Sv.cel (Cv.raw (Value.bool (k == (0 : Int)))))) (Av.one (Sv.cel (Cv.raw (Value.bool false)))),
    Tr.call (nat_lit 47) [Sv.cel (Cv.raw (Value.int IntKind.i64 (Int.ofNat (nat_lit 1))))] [] (Av.one (Sv.agg [Cv.raw (Value.bool (decide ((1 : Int) < (0 : Int)))), Cv.ent (nat (Int.natAbs (1 : Int)))])),
    Tr.call (nat_lit 21) [Sv.agg [Cv.raw (Value.bool (decide ((1 : Int) < (0 : Int)))), Cv.ent (nat (Int.natAbs (1 : Int)))], Sv.agg [Cv.raw (Value.bool (decide ((1 : Int) < (0 : Int)))), Cv.ent (nat (Int.natAbs (1 : Int)))]] [] (Av.one (Sv.cel (Cv.raw (Value.bool true))))] := ⟨
    parts_f,
    fitOne_f hp _ _,
    floor_is hp (by omega) rfl,
    ceil_is hp (by omega) rfl,
    wholeB_f,
    cmp_lit (k := Int.negSucc 0) (BQ.cast (floor_abs hp)) hp (by omega) (ordQ_lt (floor_lt h)),
    wholeB_f,
    cmp_lit (k := Int.negSucc 0) hp (BQ.cast (ceil_abs hp)) (by omega) (ordQ_lt (lt_ceil h)),
    subI_is (lim_of (ceil_abs hp) (by omega)) (lim_of (floor_abs hp) (by omega)) (small_lim (by decide)) (by have := ceil_floor h; omega),
    ofN_is (x := 1) (by decide),
    cmpN_is hk,
    norm_bool (eq_false h0),
    ofI_is (by decide),
    sameI_is (by simp), trivial⟩
  exact fits_of_trace (n := 300) (k0 := 0) hT Tryz.func8 (by kernel_rfl) (by kernel_rfl) (by kernel_rfl)

theorem RatioRounds_fit {p : Rat} (hp : BQ 20 p) : FitsP 8 [rq p] [] (.one (boolS true)) := by
  by_cases h : p.den = 1
  · exact RatioRounds_fit1 hp h
  · exact RatioRounds_fit2 hp h rfl (ord3_ne h)

set_option maxRecDepth 100000 in
theorem RatioRounds_unfit (m0 : Bool) (e0 d0 : Ent) (hu : ∀ (x : Nat) (o : Bool), FitsP 32 [Sv.cel (Cv.row x 0 1 1)] [(x, ⟨43, [.raw (.bool m0), .ent e0, .ent d0], o⟩)] (.one (boolS false))) : FitsP 8 [.agg [.raw (.bool m0), .ent e0, .ent d0]] [] (.one (boolS true)) := by
  have hT : AllOk Tryz.prog Glob [
    Tr.call (nat_lit 24) [] [] (Av.one (Sv.cel (Cv.raw (Value.bool true)))),
    Tr.call (nat_lit 32) [Sv.cel (Cv.row (nat_lit 5) (nat_lit 0) (nat_lit 1) (nat_lit 1))] [(nat_lit 5, { t := nat_lit 43, cs := [Cv.raw (Value.bool m0), Cv.ent e0, Cv.ent d0], own := true })] (Av.one (Sv.cel (Cv.raw (Value.bool false))))] := ⟨
    parts_f,
    hu _ _, trivial⟩
  exact fits_of_trace (n := 300) (k0 := 0) hT Tryz.func8 (by kernel_rfl) (by kernel_rfl) (by kernel_rfl)

theorem RatioRounds_un0 {m : Bool} {xs ds : List Nat} (hu : Unfit m xs ds) : FitsP 8 [ag m xs ds] [] (.one (boolS true)) := RatioRounds_unfit _ _ _ fun x o => unfit1_0 hu x o
end Go.Proofs.YtlgfjgkcgimdoaaGreatDoor
