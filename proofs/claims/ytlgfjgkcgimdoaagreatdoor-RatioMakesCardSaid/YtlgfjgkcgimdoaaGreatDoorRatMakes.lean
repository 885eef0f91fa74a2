/- RatioMakes. -/
import Derived.Test.YtlgfjgkcgimdoaaGreatDoorRatOrders
namespace Go.Proofs.YtlgfjgkcgimdoaaGreatDoor
open Go Go.RowKit Go.Shelf AM
/-- A whole number that may not be, or is too long for what is tried. -/
def UnfitI (m : Bool) (xs : List Nat) : Prop := 30 < xs.length ∨ (xs.length ≤ 30 ∧ checkI m xs ≠ 0)
theorem ai_cases {m : Bool} {xs : List Nat} (hb : ∀ x ∈ xs, x < 4294967296) : (∃ z : Int, z.natAbs < 4294967296 ^ 30 ∧ ∀ (β : Nat → Option Nat) (W : World) (v : Value), RelS β W v (aiS m xs) → RelS β W v (im z)) ∨ UnfitI m xs := by
  by_cases hx : 30 < xs.length
  · exact .inr (.inl hx)
  have hx : xs.length ≤ 30 := by omega
  by_cases h1 : checkI m xs = 0
  · refine .inl ⟨sg m (val 4294967296 xs), by rw [sg_natAbs]; exact Nat.lt_of_lt_of_le (val_lt hb) (Nat.pow_le_pow_right (by omega) hx), fun β W v h => ?_⟩
    obtain ⟨vs, rfl, hh⟩ := h
    match vs, hh with
    | [a, b], ⟨k1, k2, _⟩ =>
      obtain rfl : a = .bool m := k1
      have k2 : Arg W b xs := k2
      obtain ⟨⟨A, cap, rfl⟩, _⟩ := id k2
      obtain ⟨e1, hn⟩ := ai_im k2 hb (by omega) h1
      refine ⟨[_, _], rfl, ?_, hn, trivial⟩
      show Value.bool m = Value.bool _
      rw [e1]
  · exact .inr (.inr ⟨hx, h1⟩)
theorem len30 {x : Nat} (h : x < 4294967296 ^ 30) : decide (((lenN x : Nat) : Int) > 30) = false := gt_false (lenN_le.2 h)
theorem limI30 {z : Int} (h : z.natAbs < 4294967296 ^ 30) : LimI z := lim_of h (by omega)
theorem divInt_cross {n d : Int} (h : d ≠ 0) : (Rat.divInt n d).num * d = n * ((Rat.divInt n d).den : Int) := by
  have e : Rat.divInt (Rat.divInt n d).num ((Rat.divInt n d).den : Int) = Rat.divInt n d := Rat.num_divInt_den _
  exact (Rat.divInt_eq_divInt_iff (by have := (Rat.divInt n d).den_nz; omega) h).1 e
theorem bq_divInt {n d : Int} (h1 : n.natAbs < 4294967296 ^ 30) (h2 : d.natAbs < 4294967296 ^ 30) : BQ 30 (Rat.divInt n d) := by
  match d, h2 with
  | .ofNat d, h2 =>
    rcases Nat.eq_zero_or_pos d with rfl | h
    · exact ⟨by show (Rat.divInt n 0).num.natAbs < _; rw [Rat.divInt_zero]; decide +kernel, by show (Rat.divInt n 0).den < _; rw [Rat.divInt_zero]; decide +kernel⟩
    · rw [show Rat.divInt n (Int.ofNat d) = Rat.normalize n d (by omega) from divInt_norm (by omega)]
      exact norm_BQ _ h1 h2
  | .negSucc d, h2 =>
    exact norm_BQ (Nat.succ_ne_zero d) (by rw [Int.natAbs_neg]; exact h1) h2
theorem mulI_is {z1 z2 z : Int} (h : LimI z) (e : z1 * z2 = z) : FitsP 22 [im z1, im z2] [] (.tup [im z, ok0]) := by subst e; exact mulI_f h
theorem mulIpn_is {z1 z : Int} {d : Nat} (h : LimI z) (e : z1 * (d : Int) = z) : FitsP 22 [im z1, pn d] [] (.tup [im z, ok0]) := by rw [← im_pn]; exact mulI_is h e

set_option maxRecDepth 100000 in
theorem RatioMakes_fit1 {n d s : Int} (h1 : n.natAbs < 4294967296 ^ 30) (h2 : d.natAbs < 4294967296 ^ 30) (h0 : d ≠ 0) (hs : sign3 d = s) (hs0 : s ≠ 0) : FitsP 5 [im n, im d] [] (.one (boolS true)) := by
  have hT : AllOk Tryz.prog Glob [
    Tr.call (nat_lit 24) [] [] (Av.one (Sv.cel (Cv.raw (Value.bool true)))),
    Tr.norm (nat_lit 9) (Av.one (Sv.cel (Cv.raw (Value.bool (decide ((↑(lenN (Int.natAbs n)) : Int) > (30 : Int))))))) (Av.one (Sv.cel (Cv.raw (Value.bool false)))),
    Tr.norm (nat_lit 15) (Av.one (Sv.cel (Cv.raw (Value.bool (decide ((↑(lenN (Int.natAbs d)) : Int) > (30 : Int))))))) (Av.one (Sv.cel (Cv.raw (Value.bool false)))),
    Tr.call (nat_lit 25) [Sv.agg [Cv.raw (Value.bool (decide (n < (0 : Int)))), Cv.ent (nat (Int.natAbs n))]] [] (Av.one (Sv.cel (Cv.raw (Value.int IntKind.i64 (Int.ofNat (nat_lit 0)))))),
    Tr.call (nat_lit 25) [Sv.agg [Cv.raw (Value.bool (decide (d < (0 : Int)))), Cv.ent (nat (Int.natAbs d))]] [] (Av.one (Sv.cel (Cv.raw (Value.int IntKind.i64 (Int.ofNat (nat_lit 0)))))),
    Tr.call (nat_lit 26) [Sv.agg [Cv.raw (Value.bool (decide (n < (0 : Int)))), Cv.ent (nat (Int.natAbs n))], Sv.agg [Cv.raw (Value.bool (decide (d < (0 : Int)))), Cv.ent (nat (Int.natAbs d))]] [] (Av.tup [Sv.agg [Cv.raw (Value.bool (decide (Rat.num (Rat.divInt n d) < (0 : Int)))), Cv.ent (nat (Int.natAbs (Rat.num (Rat.divInt n d)))), Cv.ent (nat (Rat.den (Rat.divInt n d)))], Sv.cel (Cv.raw (Value.int IntKind.i64 (Int.ofNat (nat_lit 0))))]),
    Tr.call (nat_lit 27) [Sv.agg [Cv.raw (Value.bool (decide (d < (0 : Int)))), Cv.ent (nat (Int.natAbs d))]] [] (Av.one (Sv.cel (Cv.raw (Value.int IntKind.i64 s)))),
    Tr.norm (nat_lit 36) (Av.one (Sv.cel (Cv.raw (Value.bool (s == (0 : Int)))))) (Av.one (Sv.cel (Cv.raw (Value.bool false)))),
    Tr.call (nat_lit 22) [Sv.agg [Cv.raw (Value.bool (decide (Rat.num (Rat.divInt n d) < (0 : Int)))), Cv.ent (nat (Int.natAbs (Rat.num (Rat.divInt n d))))], Sv.agg [Cv.raw (Value.bool (decide (d < (0 : Int)))), Cv.ent (nat (Int.natAbs d))]] [] (Av.tup [Sv.agg [Cv.raw (Value.bool (decide (Rat.num (Rat.divInt n d) * d < (0 : Int)))), Cv.ent (nat (Int.natAbs (Rat.num (Rat.divInt n d) * d)))], Sv.cel (Cv.raw (Value.int IntKind.i64 (Int.ofNat (nat_lit 0))))]),
    Tr.call (nat_lit 30) [Sv.cel (Cv.ent (nat (Rat.den (Rat.divInt n d))))] [] (Av.one (Sv.agg [Cv.raw (Value.bool false), Cv.ent (nat (Rat.den (Rat.divInt n d)))])),
    Tr.call (nat_lit 22) [Sv.agg [Cv.raw (Value.bool (decide (n < (0 : Int)))), Cv.ent (nat (Int.natAbs n))], Sv.agg [Cv.raw (Value.bool false), Cv.ent (nat (Rat.den (Rat.divInt n d)))]] [] (Av.tup [Sv.agg [Cv.raw (Value.bool (decide (Rat.num (Rat.divInt n d) * d < (0 : Int)))), Cv.ent (nat (Int.natAbs (Rat.num (Rat.divInt n d) * d)))], Sv.cel (Cv.raw (Value.int IntKind.i64 (Int.ofNat (nat_lit 0))))]),
    Tr.call (nat_lit 31) [Sv.agg [Cv.raw (Value.bool (decide (Rat.num (Rat.divInt n d) < (0 : Int)))), Cv.ent (nat (Int.natAbs (Rat.num (Rat.divInt n d)))), Cv.ent (nat (Rat.den (Rat.divInt n d)))]] [] (Av.one (Sv.cel (Cv.raw (Value.int IntKind.i64 (Int.ofNat (nat_lit 0)))))),
    Tr.call (nat_lit 21) [Sv.agg [Cv.raw (Value.bool (decide (Rat.num (Rat.divInt n d) * d < (0 : Int)))), Cv.ent (nat (Int.natAbs (Rat.num (Rat.divInt n d) * d)))], Sv.agg [Cv.raw (Value.bool (decide (Rat.num (Rat.divInt n d) * d < (0 : Int)))), Cv.ent (nat (Int.natAbs (Rat.num (Rat.divInt n d) * d)))]] [] (Av.one (Sv.cel (Cv.raw (Value.bool true))))] := ⟨
    parts_f,
    norm_bool (len30 h1),
    norm_bool (len30 h2),
    checkI_f (limI30 h1),
    checkI_f (limI30 h2),
    make_f (limI30 h1) (limI30 h2) h0,
    sign_lit hs,
    norm_bool (eq_false hs0),
    mulI_is (lim_of (mul_abs2 (bq_divInt h1 h2).1 h2) (by omega)) rfl,
    nat_pn,
    mulIpn_is (lim_of (mul_abs2 (bq_divInt h1 h2).1 h2) (by omega)) (divInt_cross h0).symm,
    checkB_f (bq_divInt h1 h2) (by omega),
    sameI_is (decide_eq_true rfl), trivial⟩
  exact fits_of_trace (n := 300) (k0 := 0) hT Tryz.func5 (by kernel_rfl) (by kernel_rfl) (by kernel_rfl)

set_option maxRecDepth 100000 in
theorem RatioMakes_fit0 {n : Int} (h1 : n.natAbs < 4294967296 ^ 30) (h2 : (0 : Int).natAbs < 4294967296 ^ 30) : FitsP 5 [im n, im 0] [] (.one (boolS true)) := by
  have hT : AllOk Tryz.prog Glob [
    Tr.call (nat_lit 24) [] [] (Av.one (Sv.cel (Cv.raw (Value.bool true)))),
    Tr.norm (nat_lit 9) (Av.one (Sv.cel (Cv.raw (Value.bool (decide ((↑(lenN (Int.natAbs n)) : Int) > (30 : Int))))))) (Av.one (Sv.cel (Cv.raw (Value.bool false)))),
    Tr.call (nat_lit 25) [Sv.agg [Cv.raw (Value.bool (decide (n < (0 : Int)))), Cv.ent (nat (Int.natAbs n))]] [] (Av.one (Sv.cel (Cv.raw (Value.int IntKind.i64 (Int.ofNat (nat_lit 0)))))),
    Tr.call (nat_lit 25) [Sv.agg [Cv.raw (Value.bool (decide ((0 : Int) < (0 : Int)))), Cv.ent (nat (Int.natAbs (0 : Int)))]] [] (Av.one (Sv.cel (Cv.raw (Value.int IntKind.i64 (Int.ofNat (nat_lit 0)))))),
    Tr.call (nat_lit 26) [Sv.agg [Cv.raw (Value.bool (decide (n < (0 : Int)))), Cv.ent (nat (Int.natAbs n))], Sv.agg [Cv.raw (Value.bool (decide ((0 : Int) < (0 : Int)))), Cv.ent (nat (Int.natAbs (0 : Int)))]] [] (Av.tup [Sv.agg [Cv.raw (Value.bool (decide (Rat.num (0 : Rat) < (0 : Int)))), Cv.ent (nat (Int.natAbs (Rat.num (0 : Rat)))), Cv.ent (nat (Rat.den (0 : Rat)))], Sv.cel (Cv.raw (Value.int IntKind.i64 (Int.ofNat (nat_lit 10))))]),
    Tr.call (nat_lit 27) [Sv.agg [Cv.raw (Value.bool (decide ((0 : Int) < (0 : Int)))), Cv.ent (nat (Int.natAbs (0 : Int)))]] [] (Av.one (Sv.cel (Cv.raw (Value.int IntKind.i64 (Int.ofNat (nat_lit 0)))))),
    Tr.call (nat_lit 29) [] [] (Av.one (Sv.agg [Cv.raw (Value.bool (decide (Rat.num (0 : Rat) < (0 : Int)))), Cv.ent (nat (Int.natAbs (Rat.num (0 : Rat)))), Cv.ent (nat (Rat.den (0 : Rat)))])),
    Tr.call (nat_lit 28) [Sv.agg [Cv.raw (Value.bool (decide (Rat.num (0 : Rat) < (0 : Int)))), Cv.ent (nat (Int.natAbs (Rat.num (0 : Rat)))), Cv.ent (nat (Rat.den (0 : Rat)))], Sv.agg [Cv.raw (Value.bool (decide (Rat.num (0 : Rat) < (0 : Int)))), Cv.ent (nat (Int.natAbs (Rat.num (0 : Rat)))), Cv.ent (nat (Rat.den (0 : Rat)))]] [] (Av.one (Sv.cel (Cv.raw (Value.bool true))))] := ⟨
    parts_f,
    norm_bool (len30 h1),
    checkI_f (limI30 h1),
    checkI_f (limI30 h2),
    make0_f,
    sign_lit rfl,
    zeroQ0_f,
    sameEq_f rfl, trivial⟩
  exact fits_of_trace (n := 300) (k0 := 0) hT Tryz.func5 (by kernel_rfl) (by kernel_rfl) (by kernel_rfl)

set_option maxRecDepth 100000 in
theorem RatioMakes_un1 {m1 m2 : Bool} {xs ys : List Nat} (h : 30 < xs.length) : FitsP 5 [aiS m1 xs, aiS m2 ys] [] (.one (boolS true)) := by
  have hT : AllOk Tryz.prog Glob [
    Tr.call (nat_lit 24) [] [] (Av.one (Sv.cel (Cv.raw (Value.bool true)))),
    Tr.norm (nat_lit 9) (Av.one (Sv.cel (Cv.raw (Value.bool (decide ((↑(List.length xs) : Int) > (30 : Int))))))) (Av.one (Sv.cel (Cv.raw (Value.bool true))))] := ⟨
    parts_f,
    norm_bool (gt_true h), trivial⟩
  exact fits_of_trace (n := 300) (k0 := 0) hT Tryz.func5 (by kernel_rfl) (by kernel_rfl) (by kernel_rfl)

set_option maxRecDepth 100000 in
theorem RatioMakes_un2 {m1 m2 : Bool} {xs ys : List Nat} (hx : xs.length ≤ 30) (h : 30 < ys.length) : FitsP 5 [aiS m1 xs, aiS m2 ys] [] (.one (boolS true)) := by
  have hT : AllOk Tryz.prog Glob [
    Tr.call (nat_lit 24) [] [] (Av.one (Sv.cel (Cv.raw (Value.bool true)))),
    Tr.norm (nat_lit 9) (Av.one (Sv.cel (Cv.raw (Value.bool (decide ((↑(List.length xs) : Int) > (30 : Int))))))) (Av.one (Sv.cel (Cv.raw (Value.bool false)))),
    Tr.norm (nat_lit 15) (Av.one (Sv.cel (Cv.raw (Value.bool (decide ((↑(List.length ys) : Int) > (30 : Int))))))) (Av.one (Sv.cel (Cv.raw (Value.bool true))))] := ⟨
    parts_f,
    norm_bool (gt_false hx),
    norm_bool (gt_true h), trivial⟩
  exact fits_of_trace (n := 300) (k0 := 0) hT Tryz.func5 (by kernel_rfl) (by kernel_rfl) (by kernel_rfl)

set_option maxRecDepth 100000 in
theorem RatioMakes_un3 {m1 m2 : Bool} {xs ys : List Nat} {c : Int} (hx : xs.length ≤ 30) (hy : ys.length ≤ 30) (hc : checkI m1 xs = c) (h : c ≠ 0) : FitsP 5 [aiS m1 xs, aiS m2 ys] [] (.one (boolS true)) := by
  have hT : AllOk Tryz.prog Glob [
    Tr.call (nat_lit 24) [] [] (Av.one (Sv.cel (Cv.raw (Value.bool true)))),
    Tr.norm (nat_lit 9) (Av.one (Sv.cel (Cv.raw (Value.bool (decide ((↑(List.length xs) : Int) > (30 : Int))))))) (Av.one (Sv.cel (Cv.raw (Value.bool false)))),
    Tr.norm (nat_lit 15) (Av.one (Sv.cel (Cv.raw (Value.bool (decide ((↑(List.length ys) : Int) > (30 : Int))))))) (Av.one (Sv.cel (Cv.raw (Value.bool false)))),
    Tr.call (nat_lit 25) [Sv.agg [Cv.raw (Value.bool m1), Cv.ent (argE xs)]] [] (Av.one (Sv.cel (Cv.raw (Value.int IntKind.i64 c)))),
    Tr.norm (nat_lit 20) (Av.one (Sv.cel (Cv.raw (Value.bool (c != (0 : Int)))))) (Av.one (Sv.cel (Cv.raw (Value.bool true))))] := ⟨
    parts_f,
    norm_bool (gt_false hx),
    norm_bool (gt_false hy),
    checkA_is (by omega) hc,
    norm_bool (ne_true h), trivial⟩
  exact fits_of_trace (n := 300) (k0 := 0) hT Tryz.func5 (by kernel_rfl) (by kernel_rfl) (by kernel_rfl)

set_option maxRecDepth 100000 in
theorem RatioMakes_un4 {n : Int} {m2 : Bool} {ys : List Nat} {c : Int} (h1 : n.natAbs < 4294967296 ^ 30) (hy : ys.length ≤ 30) (hc : checkI m2 ys = c) (h : c ≠ 0) : FitsP 5 [im n, aiS m2 ys] [] (.one (boolS true)) := by
  have hT : AllOk Tryz.prog Glob [
    Tr.call (nat_lit 24) [] [] (Av.one (Sv.cel (Cv.raw (Value.bool true)))),
    Tr.norm (nat_lit 9) (Av.one (Sv.cel (Cv.raw (Value.bool (decide ((↑(lenN (Int.natAbs n)) : Int) > (30 : Int))))))) (Av.one (Sv.cel (Cv.raw (Value.bool false)))),
    Tr.norm (nat_lit 15) (Av.one (Sv.cel (Cv.raw (Value.bool (decide ((↑(List.length ys) : Int) > (30 : Int))))))) (Av.one (Sv.cel (Cv.raw (Value.bool false)))),
    Tr.call (nat_lit 25) [Sv.agg [Cv.raw (Value.bool (decide (n < (0 : Int)))), Cv.ent (nat (Int.natAbs n))]] [] (Av.one (Sv.cel (Cv.raw (Value.int IntKind.i64 (Int.ofNat (nat_lit 0)))))),
    Tr.call (nat_lit 25) [Sv.agg [Cv.raw (Value.bool m2), Cv.ent (argE ys)]] [] (Av.one (Sv.cel (Cv.raw (Value.int IntKind.i64 c)))),
    Tr.norm (nat_lit 24) (Av.one (Sv.cel (Cv.raw (Value.bool (c != (0 : Int)))))) (Av.one (Sv.cel (Cv.raw (Value.bool true))))] := ⟨
    parts_f,
    norm_bool (len30 h1),
    norm_bool (gt_false hy),
    checkI_f (limI30 h1),
    checkA_is (by omega) hc,
    norm_bool (ne_true h), trivial⟩
  exact fits_of_trace (n := 300) (k0 := 0) hT Tryz.func5 (by kernel_rfl) (by kernel_rfl) (by kernel_rfl)

set_option maxRecDepth 100000 in
theorem RatioMakes_un5 {n : Int} {m2 : Bool} {ys : List Nat} (h1 : n.natAbs < 4294967296 ^ 30) (h : 30 < ys.length) : FitsP 5 [im n, aiS m2 ys] [] (.one (boolS true)) := by
  have hT : AllOk Tryz.prog Glob [
    Tr.call (nat_lit 24) [] [] (Av.one (Sv.cel (Cv.raw (Value.bool true)))),
    Tr.norm (nat_lit 9) (Av.one (Sv.cel (Cv.raw (Value.bool (decide ((↑(lenN (Int.natAbs n)) : Int) > (30 : Int))))))) (Av.one (Sv.cel (Cv.raw (Value.bool false)))),
    Tr.norm (nat_lit 15) (Av.one (Sv.cel (Cv.raw (Value.bool (decide ((↑(List.length ys) : Int) > (30 : Int))))))) (Av.one (Sv.cel (Cv.raw (Value.bool true))))] := ⟨
    parts_f,
    norm_bool (len30 h1),
    norm_bool (gt_true h), trivial⟩
  exact fits_of_trace (n := 300) (k0 := 0) hT Tryz.func5 (by kernel_rfl) (by kernel_rfl) (by kernel_rfl)
end Go.Proofs.YtlgfjgkcgimdoaaGreatDoor
