/- DyadRounds. -/
import Derived.Test.YtphpaejgcahgbaaGreatDoorDyL
import Derived.Test.YtphpaejgcahgbaaGreatDoorDyFit
namespace Go.Proofs.YtphpaejgcahgbaaGreatDoor
open Go Go.RowKit Go.Shelf AM
section
variable {a : Dy} {b : Nat}
theorem few_dec (h : Few b a) : decide ((bt a.m.natAbs : Int) ≤ (b : Int)) = true := decide_eq_true (by unfold Few at h; omega)
theorem few_not (h : ¬ Few b a) : decide ((bt a.m.natAbs : Int) ≤ (b : Int)) = false := decide_eq_false (by unfold Few at h; omega)
theorem one_bd {n k : Nat} {x : Int} (h1 : -(32 * (k : Int)) ≤ x) (h2 : x < 32 * (n : Int)) : BD n k (mkD 1 x) := by
  refine bd_mk h1 ?_
  rw [natAbs_pow2, p32]
  show 1 * _ < _
  rw [Nat.one_mul]; exact Nat.pow_lt_pow_right (by omega) (by omega)
theorem last_bd (ha : FitD a) (hb : 2 ≤ b) (hf : ¬ Few b a) : BD 26 10 (lastD b a) := by
  have h1 := bt_bound ha.man
  have := ha.lo
  have := ha.hi
  unfold Few at hf
  exact one_bd (by omega) (by omega)
theorem last_w (ha : FitD a) (hb2 : b ≤ 4096) : IntKind.i64.wrap (IntKind.i64.wrap (a.e + (bt a.m.natAbs : Int)) - (b : Int)) = a.e + (bt a.m.natAbs : Int) - (b : Int) := by
  have h1 := bt_bound ha.man
  have := ha.lo
  have := ha.hi
  rw [w64s (z := a.e + (bt a.m.natAbs : Int)) (by omega) (by omega), w64s (by omega) (by omega)]
theorem last_f (ha : FitD a) (hb : 2 ≤ b) (hb2 : b ≤ 4096) (hf : ¬ Few b a) : FitsP 52 [im 1, intS (IntKind.i64.wrap (IntKind.i64.wrap (a.e + (bt a.m.natAbs : Int)) - (b : Int)))] [] (.tup [dS (lastD b a), ok0]) := by
  have h := last_bd ha hb hf
  have h1 := h.high
  have h2 := bt_bound ha.man
  have := ha.lo
  have := ha.hi
  unfold Few at hf
  unfold lastD at *
  exact makeW_f (last_w ha hb2) (by omega) (by omega) (small_lim (by decide))
theorem oneI_f : FitsP 35 [intS 1] [] (.one (im 1)) := ofI_f (by decide)
theorem ord_ge {p q : Rat} {c : Int} (h : ordQ p q = c) (hq : q ≤ p) : decide (c < 0) = false := by
  rw [← h, ordQ_neg_iff]; exact decide_eq_false (by grind)
theorem ord_le {p q : Rat} {c : Int} (h : ordQ p q = c) (hq : p ≤ q) : decide (c > 0) = false := by
  rw [← h]
  rcases rat_tri p q with h1 | h1 | h1
  · rw [ordQ_ltI h1]; rfl
  · rw [ordQ_eqI h1]; rfl
  · exfalso; grind
end

set_option maxRecDepth 100000 in
theorem few_yes {a : Dy} {b : Nat} (h : Few b a) : FitsP 64 [dS a, intS (b : Int)] [] (.one (boolS true)) := by
  have hT : AllOk Tryz.prog Glob [
    Tr.call 65 [Sv.cel (Cv.ent (nat (Int.natAbs (Dy.m a))))] [] (Av.one (Sv.cel (Cv.raw (Value.int IntKind.i64 (↑(bt (Int.natAbs (Dy.m a))) : Int)))))] := ⟨
    bits_is rfl, trivial⟩
  exact Fits.res (r := (.one (Sv.cel (Cv.raw (Value.bool (decide ((↑(bt (Int.natAbs (Dy.m a))) : Int) ≤ (↑b : Int)))))))) (fits_of_trace (n := 300) (k0 := 0) hT Tryz.func64 (by kernel_rfl) (by kernel_rfl) (by kernel_rfl)) (norm_bool (few_dec h))

set_option maxRecDepth 100000 in
theorem few_no {a : Dy} {b : Nat} (h : ¬ Few b a) : FitsP 64 [dS a, intS (b : Int)] [] (.one (boolS false)) := by
  have hT : AllOk Tryz.prog Glob [
    Tr.call 65 [Sv.cel (Cv.ent (nat (Int.natAbs (Dy.m a))))] [] (Av.one (Sv.cel (Cv.raw (Value.int IntKind.i64 (↑(bt (Int.natAbs (Dy.m a))) : Int)))))] := ⟨
    bits_is rfl, trivial⟩
  exact Fits.res (r := (.one (Sv.cel (Cv.raw (Value.bool (decide ((↑(bt (Int.natAbs (Dy.m a))) : Int) ≤ (↑b : Int)))))))) (fits_of_trace (n := 300) (k0 := 0) hT Tryz.func64 (by kernel_rfl) (by kernel_rfl) (by kernel_rfl)) (norm_bool (few_not h))

set_option maxRecDepth 100000 in
theorem DyadRounds_bad1 {a : Dy} {x : Int} {u : Bool} (ha : FitD a) (h : x < 2) : FitsP 10 [dS a, intS x, boolS u] [] (.one (boolS true)) := by
  have hT : AllOk Tryz.prog Glob [
    Tr.call 44 [] [] (Av.one (Sv.cel (Cv.raw (Value.bool true)))),
    Tr.call 45 [Sv.cel (Cv.row (nat_lit 5) (nat_lit 0) (nat_lit 1) (nat_lit 1))] [(nat_lit 5, { t := 66, cs := [Cv.raw (Value.bool (decide (Dy.m a < (0 : Int)))), Cv.ent (nat (Int.natAbs (Dy.m a))), Cv.raw (Value.int IntKind.i64 (Dy.e a))], own := true })] (Av.one (Sv.cel (Cv.raw (Value.bool true)))),
    Tr.call 63 [Sv.agg [Cv.raw (Value.bool (decide (Dy.m a < (0 : Int)))), Cv.ent (nat (Int.natAbs (Dy.m a))), Cv.raw (Value.int IntKind.i64 (Dy.e a))], Sv.cel (Cv.raw (Value.int IntKind.i64 x)), Sv.cel (Cv.raw (Value.bool u))] [] (Av.tup [Sv.agg [Cv.raw (Value.bool (decide (Dy.m { m := (0 : Int), e := (0 : Int) } < (0 : Int)))), Cv.ent (nat (Int.natAbs (Dy.m { m := (0 : Int), e := (0 : Int) }))), Cv.raw (Value.int IntKind.i64 (Int.ofNat (nat_lit 0)))], Sv.cel (Cv.raw (Value.int IntKind.i64 (Int.ofNat (nat_lit 1))))]),
    Tr.norm (nat_lit 20) (Av.one (Sv.cel (Cv.raw (Value.bool (decide (x < (2 : Int))))))) (Av.one (Sv.cel (Cv.raw (Value.bool true))))] := ⟨
    halves_f,
    dfitOne_f ha _ _,
    roundBad_f (by omega),
    norm_bool (decide_eq_true h), trivial⟩
  exact fits_of_trace (n := 300) (k0 := 0) hT Tryz.func10 (by kernel_rfl) (by kernel_rfl) (by kernel_rfl)

set_option maxRecDepth 100000 in
theorem DyadRounds_bad2 {a : Dy} {x : Int} {u : Bool} (ha : FitD a) (h0 : ¬ x < 2) (h : x > 4096) : FitsP 10 [dS a, intS x, boolS u] [] (.one (boolS true)) := by
  have hT : AllOk Tryz.prog Glob [
    Tr.call 44 [] [] (Av.one (Sv.cel (Cv.raw (Value.bool true)))),
    Tr.call 45 [Sv.cel (Cv.row (nat_lit 5) (nat_lit 0) (nat_lit 1) (nat_lit 1))] [(nat_lit 5, { t := 66, cs := [Cv.raw (Value.bool (decide (Dy.m a < (0 : Int)))), Cv.ent (nat (Int.natAbs (Dy.m a))), Cv.raw (Value.int IntKind.i64 (Dy.e a))], own := true })] (Av.one (Sv.cel (Cv.raw (Value.bool true)))),
    Tr.call 63 [Sv.agg [Cv.raw (Value.bool (decide (Dy.m a < (0 : Int)))), Cv.ent (nat (Int.natAbs (Dy.m a))), Cv.raw (Value.int IntKind.i64 (Dy.e a))], Sv.cel (Cv.raw (Value.int IntKind.i64 x)), Sv.cel (Cv.raw (Value.bool u))] [] (Av.tup [Sv.agg [Cv.raw (Value.bool (decide (Dy.m { m := (0 : Int), e := (0 : Int) } < (0 : Int)))), Cv.ent (nat (Int.natAbs (Dy.m { m := (0 : Int), e := (0 : Int) }))), Cv.raw (Value.int IntKind.i64 (Int.ofNat (nat_lit 0)))], Sv.cel (Cv.raw (Value.int IntKind.i64 (Int.ofNat (nat_lit 1))))]),
    Tr.norm (nat_lit 20) (Av.one (Sv.cel (Cv.raw (Value.bool (decide (x < (2 : Int))))))) (Av.one (Sv.cel (Cv.raw (Value.bool false)))),
    Tr.norm (nat_lit 23) (Av.one (Sv.cel (Cv.raw (Value.bool (decide (x > (4096 : Int))))))) (Av.one (Sv.cel (Cv.raw (Value.bool true))))] := ⟨
    halves_f,
    dfitOne_f ha _ _,
    roundBad_f (by omega),
    norm_bool (decide_eq_false h0),
    norm_bool (decide_eq_true h), trivial⟩
  exact fits_of_trace (n := 300) (k0 := 0) hT Tryz.func10 (by kernel_rfl) (by kernel_rfl) (by kernel_rfl)

set_option maxRecDepth 100000 in
theorem DyadRounds_rd1 {a : Dy} {b : Nat} (ha : FitD a) (hb : 2 ≤ b) (hb2 : b ≤ 4096) (hf : Few b a) : FitsP 10 [dS a, intS (b : Int), boolS false] [] (.one (boolS true)) := by
  have hT : AllOk Tryz.prog Glob [
    Tr.call 44 [] [] (Av.one (Sv.cel (Cv.raw (Value.bool true)))),
    Tr.call 45 [Sv.cel (Cv.row (nat_lit 5) (nat_lit 0) (nat_lit 1) (nat_lit 1))] [(nat_lit 5, { t := 66, cs := [Cv.raw (Value.bool (decide (Dy.m a < (0 : Int)))), Cv.ent (nat (Int.natAbs (Dy.m a))), Cv.raw (Value.int IntKind.i64 (Dy.e a))], own := true })] (Av.one (Sv.cel (Cv.raw (Value.bool true)))),
    Tr.call 63 [Sv.agg [Cv.raw (Value.bool (decide (Dy.m a < (0 : Int)))), Cv.ent (nat (Int.natAbs (Dy.m a))), Cv.raw (Value.int IntKind.i64 (Dy.e a))], Sv.cel (Cv.raw (Value.int IntKind.i64 (↑b : Int))), Sv.cel (Cv.raw (Value.bool false))] [] (Av.tup [Sv.agg [Cv.raw (Value.bool (decide (Dy.m (rdD b a) < (0 : Int)))), Cv.ent (nat (Int.natAbs (Dy.m (rdD b a)))), Cv.raw (Value.int IntKind.i64 (Dy.e (rdD b a)))], Sv.cel (Cv.raw (Value.int IntKind.i64 (Int.ofNat (nat_lit 0))))]),
    Tr.norm (nat_lit 20) (Av.one (Sv.cel (Cv.raw (Value.bool (decide ((↑b : Int) < (2 : Int))))))) (Av.one (Sv.cel (Cv.raw (Value.bool false)))),
    Tr.norm (nat_lit 23) (Av.one (Sv.cel (Cv.raw (Value.bool (decide ((↑b : Int) > (4096 : Int))))))) (Av.one (Sv.cel (Cv.raw (Value.bool false)))),
    Tr.call 64 [Sv.agg [Cv.raw (Value.bool (decide (Dy.m (rdD b a) < (0 : Int)))), Cv.ent (nat (Int.natAbs (Dy.m (rdD b a)))), Cv.raw (Value.int IntKind.i64 (Dy.e (rdD b a)))], Sv.cel (Cv.raw (Value.int IntKind.i64 (↑b : Int)))] [] (Av.one (Sv.cel (Cv.raw (Value.bool true)))),
    Tr.call 57 [Sv.agg [Cv.raw (Value.bool (decide (Dy.m (rdD b a) < (0 : Int)))), Cv.ent (nat (Int.natAbs (Dy.m (rdD b a)))), Cv.raw (Value.int IntKind.i64 (Dy.e (rdD b a)))]] [] (Av.one (Sv.cel (Cv.raw (Value.int IntKind.i64 (Int.ofNat (nat_lit 0)))))),
    Tr.call 59 [Sv.agg [Cv.raw (Value.bool (decide (Dy.m (rdD b a) < (0 : Int)))), Cv.ent (nat (Int.natAbs (Dy.m (rdD b a)))), Cv.raw (Value.int IntKind.i64 (Dy.e (rdD b a)))], Sv.agg [Cv.raw (Value.bool (decide (Dy.m a < (0 : Int)))), Cv.ent (nat (Int.natAbs (Dy.m a))), Cv.raw (Value.int IntKind.i64 (Dy.e a))]] [] (Av.one (Sv.cel (Cv.raw (Value.int IntKind.i64 (Int.ofNat (nat_lit 0)))))),
    Tr.call 64 [Sv.agg [Cv.raw (Value.bool (decide (Dy.m a < (0 : Int)))), Cv.ent (nat (Int.natAbs (Dy.m a))), Cv.raw (Value.int IntKind.i64 (Dy.e a))], Sv.cel (Cv.raw (Value.int IntKind.i64 (↑b : Int)))] [] (Av.one (Sv.cel (Cv.raw (Value.bool true))))] := ⟨
    halves_f,
    dfitOne_f ha _ _,
    roundDown_f ha.bd (by omega) hb hb2,
    norm_bool (decide_eq_false (show ¬ (b : Int) < 2 by omega)),
    norm_bool (decide_eq_false (show ¬ (b : Int) > 4096 by omega)),
    few_yes (rd_few (by omega)),
    checkD_f (ha.bd.rd (by omega)) (by omega),
    compareD_is (ha.bd.rd (by omega)) (ha.bd.mono (by omega) (by omega)) (by omega) (ordQ_eqI (by rw [rd_self hf])),
    few_yes hf, trivial⟩
  exact fits_of_trace (n := 300) (k0 := 0) hT Tryz.func10 (by kernel_rfl) (by kernel_rfl) (by kernel_rfl)

set_option maxRecDepth 100000 in
theorem DyadRounds_rd2 {a : Dy} {b : Nat} {c : Int} (ha : FitD a) (hb : 2 ≤ b) (hb2 : b ≤ 4096) (hf : ¬ Few b a) (hc : ordQ (dv (rdD b a)) (dv a) = c) : FitsP 10 [dS a, intS (b : Int), boolS false] [] (.one (boolS true)) := by
  have hT : AllOk Tryz.prog Glob [
    Tr.call 44 [] [] (Av.one (Sv.cel (Cv.raw (Value.bool true)))),
    Tr.call 45 [Sv.cel (Cv.row (nat_lit 5) (nat_lit 0) (nat_lit 1) (nat_lit 1))] [(nat_lit 5, { t := 66, cs := [Cv.raw (Value.bool (decide (Dy.m a < (0 : Int)))), Cv.ent (nat (Int.natAbs (Dy.m a))), Cv.raw (Value.int IntKind.i64 (Dy.e a))], own := true })] (Av.one (Sv.cel (Cv.raw (Value.bool true)))),
    Tr.call 63 [Sv.agg [Cv.raw (Value.bool (decide (Dy.m a < (0 : Int)))), Cv.ent (nat (Int.natAbs (Dy.m a))), Cv.raw (Value.int IntKind.i64 (Dy.e a))], Sv.cel (Cv.raw (Value.int IntKind.i64 (↑b : Int))), Sv.cel (Cv.raw (Value.bool false))] [] (Av.tup [Sv.agg [Cv.raw (Value.bool (decide (Dy.m (rdD b a) < (0 : Int)))), Cv.ent (nat (Int.natAbs (Dy.m (rdD b a)))), Cv.raw (Value.int IntKind.i64 (Dy.e (rdD b a)))], Sv.cel (Cv.raw (Value.int IntKind.i64 (Int.ofNat (nat_lit 0))))]),
    Tr.norm (nat_lit 20) (Av.one (Sv.cel (Cv.raw (Value.bool (decide ((↑b : Int) < (2 : Int))))))) (Av.one (Sv.cel (Cv.raw (Value.bool false)))),
    Tr.norm (nat_lit 23) (Av.one (Sv.cel (Cv.raw (Value.bool (decide ((↑b : Int) > (4096 : Int))))))) (Av.one (Sv.cel (Cv.raw (Value.bool false)))),
    Tr.call 64 [Sv.agg [Cv.raw (Value.bool (decide (Dy.m (rdD b a) < (0 : Int)))), Cv.ent (nat (Int.natAbs (Dy.m (rdD b a)))), Cv.raw (Value.int IntKind.i64 (Dy.e (rdD b a)))], Sv.cel (Cv.raw (Value.int IntKind.i64 (↑b : Int)))] [] (Av.one (Sv.cel (Cv.raw (Value.bool true)))),
    Tr.call 57 [Sv.agg [Cv.raw (Value.bool (decide (Dy.m (rdD b a) < (0 : Int)))), Cv.ent (nat (Int.natAbs (Dy.m (rdD b a)))), Cv.raw (Value.int IntKind.i64 (Dy.e (rdD b a)))]] [] (Av.one (Sv.cel (Cv.raw (Value.int IntKind.i64 (Int.ofNat (nat_lit 0)))))),
    Tr.call 59 [Sv.agg [Cv.raw (Value.bool (decide (Dy.m (rdD b a) < (0 : Int)))), Cv.ent (nat (Int.natAbs (Dy.m (rdD b a)))), Cv.raw (Value.int IntKind.i64 (Dy.e (rdD b a)))], Sv.agg [Cv.raw (Value.bool (decide (Dy.m a < (0 : Int)))), Cv.ent (nat (Int.natAbs (Dy.m a))), Cv.raw (Value.int IntKind.i64 (Dy.e a))]] [] (Av.one (Sv.cel (Cv.raw (Value.int IntKind.i64 c)))),
    Tr.call 64 [Sv.agg [Cv.raw (Value.bool (decide (Dy.m a < (0 : Int)))), Cv.ent (nat (Int.natAbs (Dy.m a))), Cv.raw (Value.int IntKind.i64 (Dy.e a))], Sv.cel (Cv.raw (Value.int IntKind.i64 (↑b : Int)))] [] (Av.one (Sv.cel (Cv.raw (Value.bool false)))),
    Tr.norm (nat_lit 56) (Av.one (Sv.cel (Cv.raw (Value.bool (decide (c > (0 : Int))))))) (Av.one (Sv.cel (Cv.raw (Value.bool false)))),
    Tr.call 35 [Sv.cel (Cv.raw (Value.int IntKind.i64 (Int.ofNat (nat_lit 1))))] [] (Av.one (Sv.agg [Cv.raw (Value.bool (decide ((1 : Int) < (0 : Int)))), Cv.ent (nat (Int.natAbs (1 : Int)))])),
    Tr.call 65 [Sv.cel (Cv.ent (nat (Int.natAbs (Dy.m a))))] [] (Av.one (Sv.cel (Cv.raw (Value.int IntKind.i64 (↑(bt (Int.natAbs (Dy.m a))) : Int))))),
    Tr.call 52 [Sv.agg [Cv.raw (Value.bool (decide ((1 : Int) < (0 : Int)))), Cv.ent (nat (Int.natAbs (1 : Int)))], Sv.cel (Cv.raw (Value.int IntKind.i64 (IntKind.wrap IntKind.i64 (IntKind.wrap IntKind.i64 (Dy.e a + (↑(bt (Int.natAbs (Dy.m a))) : Int)) - (↑b : Int)))))] [] (Av.tup [Sv.agg [Cv.raw (Value.bool (decide (Dy.m (lastD b a) < (0 : Int)))), Cv.ent (nat (Int.natAbs (Dy.m (lastD b a)))), Cv.raw (Value.int IntKind.i64 (Dy.e (lastD b a)))], Sv.cel (Cv.raw (Value.int IntKind.i64 (Int.ofNat (nat_lit 0))))]),
    Tr.call 47 [Sv.agg [Cv.raw (Value.bool (decide (Dy.m (rdD b a) < (0 : Int)))), Cv.ent (nat (Int.natAbs (Dy.m (rdD b a)))), Cv.raw (Value.int IntKind.i64 (Dy.e (rdD b a)))], Sv.agg [Cv.raw (Value.bool (decide (Dy.m (lastD b a) < (0 : Int)))), Cv.ent (nat (Int.natAbs (Dy.m (lastD b a)))), Cv.raw (Value.int IntKind.i64 (Dy.e (lastD b a)))]] [] (Av.tup [Sv.agg [Cv.raw (Value.bool (decide (Dy.m (addD (rdD b a) (lastD b a)) < (0 : Int)))), Cv.ent (nat (Int.natAbs (Dy.m (addD (rdD b a) (lastD b a))))), Cv.raw (Value.int IntKind.i64 (Dy.e (addD (rdD b a) (lastD b a))))], Sv.cel (Cv.raw (Value.int IntKind.i64 (Int.ofNat (nat_lit 0))))]),
    Tr.call 60 [Sv.agg [Cv.raw (Value.bool (decide (Dy.m a < (0 : Int)))), Cv.ent (nat (Int.natAbs (Dy.m a))), Cv.raw (Value.int IntKind.i64 (Dy.e a))], Sv.agg [Cv.raw (Value.bool (decide (Dy.m (addD (rdD b a) (lastD b a)) < (0 : Int)))), Cv.ent (nat (Int.natAbs (Dy.m (addD (rdD b a) (lastD b a))))), Cv.raw (Value.int IntKind.i64 (Dy.e (addD (rdD b a) (lastD b a))))]] [] (Av.one (Sv.cel (Cv.raw (Value.bool true))))] := ⟨
    halves_f,
    dfitOne_f ha _ _,
    roundDown_f ha.bd (by omega) hb hb2,
    norm_bool (decide_eq_false (show ¬ (b : Int) < 2 by omega)),
    norm_bool (decide_eq_false (show ¬ (b : Int) > 4096 by omega)),
    few_yes (rd_few (by omega)),
    checkD_f (ha.bd.rd (by omega)) (by omega),
    compareD_is (ha.bd.rd (by omega)) (ha.bd.mono (by omega) (by omega)) (by omega) hc,
    few_no hf,
    norm_bool (ord_le hc (rd_le b a)),
    oneI_f,
    bits_is rfl,
    last_f ha hb hb2 hf,
    addD_f (ha.bd.rd (by omega)) (last_bd ha hb hf) (by omega),
    lessD_is (ha.bd.mono (by omega) (by omega)) ((ha.bd.rd (by omega)).add (last_bd ha hb hf)) (by omega) (decide_eq_true (rd_next hf)), trivial⟩
  exact fits_of_trace (n := 300) (k0 := 0) hT Tryz.func10 (by kernel_rfl) (by kernel_rfl) (by kernel_rfl)

set_option maxRecDepth 100000 in
theorem DyadRounds_ru1 {a : Dy} {b : Nat} (ha : FitD a) (hb : 2 ≤ b) (hb2 : b ≤ 4096) (hf : Few b a) : FitsP 10 [dS a, intS (b : Int), boolS true] [] (.one (boolS true)) := by
  have hT : AllOk Tryz.prog Glob [
    Tr.call 44 [] [] (Av.one (Sv.cel (Cv.raw (Value.bool true)))),
    Tr.call 45 [Sv.cel (Cv.row (nat_lit 5) (nat_lit 0) (nat_lit 1) (nat_lit 1))] [(nat_lit 5, { t := 66, cs := [Cv.raw (Value.bool (decide (Dy.m a < (0 : Int)))), Cv.ent (nat (Int.natAbs (Dy.m a))), Cv.raw (Value.int IntKind.i64 (Dy.e a))], own := true })] (Av.one (Sv.cel (Cv.raw (Value.bool true)))),
    Tr.call 63 [Sv.agg [Cv.raw (Value.bool (decide (Dy.m a < (0 : Int)))), Cv.ent (nat (Int.natAbs (Dy.m a))), Cv.raw (Value.int IntKind.i64 (Dy.e a))], Sv.cel (Cv.raw (Value.int IntKind.i64 (↑b : Int))), Sv.cel (Cv.raw (Value.bool true))] [] (Av.tup [Sv.agg [Cv.raw (Value.bool (decide (Dy.m (ruD b a) < (0 : Int)))), Cv.ent (nat (Int.natAbs (Dy.m (ruD b a)))), Cv.raw (Value.int IntKind.i64 (Dy.e (ruD b a)))], Sv.cel (Cv.raw (Value.int IntKind.i64 (Int.ofNat (nat_lit 0))))]),
    Tr.norm (nat_lit 20) (Av.one (Sv.cel (Cv.raw (Value.bool (decide ((↑b : Int) < (2 : Int))))))) (Av.one (Sv.cel (Cv.raw (Value.bool false)))),
    Tr.norm (nat_lit 23) (Av.one (Sv.cel (Cv.raw (Value.bool (decide ((↑b : Int) > (4096 : Int))))))) (Av.one (Sv.cel (Cv.raw (Value.bool false)))),
    Tr.call 64 [Sv.agg [Cv.raw (Value.bool (decide (Dy.m (ruD b a) < (0 : Int)))), Cv.ent (nat (Int.natAbs (Dy.m (ruD b a)))), Cv.raw (Value.int IntKind.i64 (Dy.e (ruD b a)))], Sv.cel (Cv.raw (Value.int IntKind.i64 (↑b : Int)))] [] (Av.one (Sv.cel (Cv.raw (Value.bool true)))),
    Tr.call 57 [Sv.agg [Cv.raw (Value.bool (decide (Dy.m (ruD b a) < (0 : Int)))), Cv.ent (nat (Int.natAbs (Dy.m (ruD b a)))), Cv.raw (Value.int IntKind.i64 (Dy.e (ruD b a)))]] [] (Av.one (Sv.cel (Cv.raw (Value.int IntKind.i64 (Int.ofNat (nat_lit 0)))))),
    Tr.call 59 [Sv.agg [Cv.raw (Value.bool (decide (Dy.m (ruD b a) < (0 : Int)))), Cv.ent (nat (Int.natAbs (Dy.m (ruD b a)))), Cv.raw (Value.int IntKind.i64 (Dy.e (ruD b a)))], Sv.agg [Cv.raw (Value.bool (decide (Dy.m a < (0 : Int)))), Cv.ent (nat (Int.natAbs (Dy.m a))), Cv.raw (Value.int IntKind.i64 (Dy.e a))]] [] (Av.one (Sv.cel (Cv.raw (Value.int IntKind.i64 (Int.ofNat (nat_lit 0)))))),
    Tr.call 64 [Sv.agg [Cv.raw (Value.bool (decide (Dy.m a < (0 : Int)))), Cv.ent (nat (Int.natAbs (Dy.m a))), Cv.raw (Value.int IntKind.i64 (Dy.e a))], Sv.cel (Cv.raw (Value.int IntKind.i64 (↑b : Int)))] [] (Av.one (Sv.cel (Cv.raw (Value.bool true))))] := ⟨
    halves_f,
    dfitOne_f ha _ _,
    roundUp_f ha.bd (by omega) hb hb2,
    norm_bool (decide_eq_false (show ¬ (b : Int) < 2 by omega)),
    norm_bool (decide_eq_false (show ¬ (b : Int) > 4096 by omega)),
    few_yes (ru_few (by omega)),
    checkD_f (ha.bd.ru (by omega)) (by omega),
    compareD_is (ha.bd.ru (by omega)) (ha.bd.mono (by omega) (by omega)) (by omega) (ordQ_eqI (by rw [ru_self hf])),
    few_yes hf, trivial⟩
  exact fits_of_trace (n := 300) (k0 := 0) hT Tryz.func10 (by kernel_rfl) (by kernel_rfl) (by kernel_rfl)

set_option maxRecDepth 100000 in
theorem DyadRounds_ru2 {a : Dy} {b : Nat} {c : Int} (ha : FitD a) (hb : 2 ≤ b) (hb2 : b ≤ 4096) (hf : ¬ Few b a) (hc : ordQ (dv (ruD b a)) (dv a) = c) : FitsP 10 [dS a, intS (b : Int), boolS true] [] (.one (boolS true)) := by
  have hT : AllOk Tryz.prog Glob [
    Tr.call 44 [] [] (Av.one (Sv.cel (Cv.raw (Value.bool true)))),
    Tr.call 45 [Sv.cel (Cv.row (nat_lit 5) (nat_lit 0) (nat_lit 1) (nat_lit 1))] [(nat_lit 5, { t := 66, cs := [Cv.raw (Value.bool (decide (Dy.m a < (0 : Int)))), Cv.ent (nat (Int.natAbs (Dy.m a))), Cv.raw (Value.int IntKind.i64 (Dy.e a))], own := true })] (Av.one (Sv.cel (Cv.raw (Value.bool true)))),
    Tr.call 63 [Sv.agg [Cv.raw (Value.bool (decide (Dy.m a < (0 : Int)))), Cv.ent (nat (Int.natAbs (Dy.m a))), Cv.raw (Value.int IntKind.i64 (Dy.e a))], Sv.cel (Cv.raw (Value.int IntKind.i64 (↑b : Int))), Sv.cel (Cv.raw (Value.bool true))] [] (Av.tup [Sv.agg [Cv.raw (Value.bool (decide (Dy.m (ruD b a) < (0 : Int)))), Cv.ent (nat (Int.natAbs (Dy.m (ruD b a)))), Cv.raw (Value.int IntKind.i64 (Dy.e (ruD b a)))], Sv.cel (Cv.raw (Value.int IntKind.i64 (Int.ofNat (nat_lit 0))))]),
    Tr.norm (nat_lit 20) (Av.one (Sv.cel (Cv.raw (Value.bool (decide ((↑b : Int) < (2 : Int))))))) (Av.one (Sv.cel (Cv.raw (Value.bool false)))),
    Tr.norm (nat_lit 23) (Av.one (Sv.cel (Cv.raw (Value.bool (decide ((↑b : Int) > (4096 : Int))))))) (Av.one (Sv.cel (Cv.raw (Value.bool false)))),
    Tr.call 64 [Sv.agg [Cv.raw (Value.bool (decide (Dy.m (ruD b a) < (0 : Int)))), Cv.ent (nat (Int.natAbs (Dy.m (ruD b a)))), Cv.raw (Value.int IntKind.i64 (Dy.e (ruD b a)))], Sv.cel (Cv.raw (Value.int IntKind.i64 (↑b : Int)))] [] (Av.one (Sv.cel (Cv.raw (Value.bool true)))),
    Tr.call 57 [Sv.agg [Cv.raw (Value.bool (decide (Dy.m (ruD b a) < (0 : Int)))), Cv.ent (nat (Int.natAbs (Dy.m (ruD b a)))), Cv.raw (Value.int IntKind.i64 (Dy.e (ruD b a)))]] [] (Av.one (Sv.cel (Cv.raw (Value.int IntKind.i64 (Int.ofNat (nat_lit 0)))))),
    Tr.call 59 [Sv.agg [Cv.raw (Value.bool (decide (Dy.m (ruD b a) < (0 : Int)))), Cv.ent (nat (Int.natAbs (Dy.m (ruD b a)))), Cv.raw (Value.int IntKind.i64 (Dy.e (ruD b a)))], Sv.agg [Cv.raw (Value.bool (decide (Dy.m a < (0 : Int)))), Cv.ent (nat (Int.natAbs (Dy.m a))), Cv.raw (Value.int IntKind.i64 (Dy.e a))]] [] (Av.one (Sv.cel (Cv.raw (Value.int IntKind.i64 c)))),
    Tr.call 64 [Sv.agg [Cv.raw (Value.bool (decide (Dy.m a < (0 : Int)))), Cv.ent (nat (Int.natAbs (Dy.m a))), Cv.raw (Value.int IntKind.i64 (Dy.e a))], Sv.cel (Cv.raw (Value.int IntKind.i64 (↑b : Int)))] [] (Av.one (Sv.cel (Cv.raw (Value.bool false)))),
    Tr.norm (nat_lit 49) (Av.one (Sv.cel (Cv.raw (Value.bool (decide (c < (0 : Int))))))) (Av.one (Sv.cel (Cv.raw (Value.bool false)))),
    Tr.call 35 [Sv.cel (Cv.raw (Value.int IntKind.i64 (Int.ofNat (nat_lit 1))))] [] (Av.one (Sv.agg [Cv.raw (Value.bool (decide ((1 : Int) < (0 : Int)))), Cv.ent (nat (Int.natAbs (1 : Int)))])),
    Tr.call 65 [Sv.cel (Cv.ent (nat (Int.natAbs (Dy.m a))))] [] (Av.one (Sv.cel (Cv.raw (Value.int IntKind.i64 (↑(bt (Int.natAbs (Dy.m a))) : Int))))),
    Tr.call 52 [Sv.agg [Cv.raw (Value.bool (decide ((1 : Int) < (0 : Int)))), Cv.ent (nat (Int.natAbs (1 : Int)))], Sv.cel (Cv.raw (Value.int IntKind.i64 (IntKind.wrap IntKind.i64 (IntKind.wrap IntKind.i64 (Dy.e a + (↑(bt (Int.natAbs (Dy.m a))) : Int)) - (↑b : Int)))))] [] (Av.tup [Sv.agg [Cv.raw (Value.bool (decide (Dy.m (lastD b a) < (0 : Int)))), Cv.ent (nat (Int.natAbs (Dy.m (lastD b a)))), Cv.raw (Value.int IntKind.i64 (Dy.e (lastD b a)))], Sv.cel (Cv.raw (Value.int IntKind.i64 (Int.ofNat (nat_lit 0))))]),
    Tr.call 48 [Sv.agg [Cv.raw (Value.bool (decide (Dy.m (ruD b a) < (0 : Int)))), Cv.ent (nat (Int.natAbs (Dy.m (ruD b a)))), Cv.raw (Value.int IntKind.i64 (Dy.e (ruD b a)))], Sv.agg [Cv.raw (Value.bool (decide (Dy.m (lastD b a) < (0 : Int)))), Cv.ent (nat (Int.natAbs (Dy.m (lastD b a)))), Cv.raw (Value.int IntKind.i64 (Dy.e (lastD b a)))]] [] (Av.tup [Sv.agg [Cv.raw (Value.bool (decide (Dy.m (subD (ruD b a) (lastD b a)) < (0 : Int)))), Cv.ent (nat (Int.natAbs (Dy.m (subD (ruD b a) (lastD b a))))), Cv.raw (Value.int IntKind.i64 (Dy.e (subD (ruD b a) (lastD b a))))], Sv.cel (Cv.raw (Value.int IntKind.i64 (Int.ofNat (nat_lit 0))))]),
    Tr.call 60 [Sv.agg [Cv.raw (Value.bool (decide (Dy.m (subD (ruD b a) (lastD b a)) < (0 : Int)))), Cv.ent (nat (Int.natAbs (Dy.m (subD (ruD b a) (lastD b a))))), Cv.raw (Value.int IntKind.i64 (Dy.e (subD (ruD b a) (lastD b a))))], Sv.agg [Cv.raw (Value.bool (decide (Dy.m a < (0 : Int)))), Cv.ent (nat (Int.natAbs (Dy.m a))), Cv.raw (Value.int IntKind.i64 (Dy.e a))]] [] (Av.one (Sv.cel (Cv.raw (Value.bool true))))] := ⟨
    halves_f,
    dfitOne_f ha _ _,
    roundUp_f ha.bd (by omega) hb hb2,
    norm_bool (decide_eq_false (show ¬ (b : Int) < 2 by omega)),
    norm_bool (decide_eq_false (show ¬ (b : Int) > 4096 by omega)),
    few_yes (ru_few (by omega)),
    checkD_f (ha.bd.ru (by omega)) (by omega),
    compareD_is (ha.bd.ru (by omega)) (ha.bd.mono (by omega) (by omega)) (by omega) hc,
    few_no hf,
    norm_bool (ord_ge hc (ru_ge b a)),
    oneI_f,
    bits_is rfl,
    last_f ha hb hb2 hf,
    subD_f (ha.bd.ru (by omega)) (last_bd ha hb hf) (by omega),
    lessD_is ((ha.bd.ru (by omega)).sub (last_bd ha hb hf)) (ha.bd.mono (by omega) (by omega)) (by omega) (decide_eq_true (ru_next hf)), trivial⟩
  exact fits_of_trace (n := 300) (k0 := 0) hT Tryz.func10 (by kernel_rfl) (by kernel_rfl) (by kernel_rfl)

theorem DyadRounds_fit {a : Dy} {x : Int} {u : Bool} (ha : FitD a) : FitsP 10 [dS a, intS x, boolS u] [] (.one (boolS true)) := by
  by_cases h1 : x < 2
  · exact DyadRounds_bad1 ha h1
  by_cases h2 : x > 4096
  · exact DyadRounds_bad2 ha h1 h2
  obtain ⟨b, rfl⟩ : ∃ b : Nat, x = b := ⟨x.toNat, by omega⟩
  by_cases hf : Few b a
  · cases u
    · exact DyadRounds_rd1 ha (by omega) (by omega) hf
    · exact DyadRounds_ru1 ha (by omega) (by omega) hf
  · cases u
    · exact DyadRounds_rd2 ha (by omega) (by omega) hf rfl
    · exact DyadRounds_ru2 ha (by omega) (by omega) hf rfl

set_option maxRecDepth 100000 in
theorem DyadRounds_unfit (m0 : Bool) (e0 : Ent) (x0 : Int) (x : Int) (u : Bool) (hu : ∀ (x : Nat) (o : Bool), FitsP 45 [Sv.cel (Cv.row x 0 1 1)] [(x, ⟨66, [.raw (.bool m0), .ent e0, .raw (.int .i64 x0)], o⟩)] (.one (boolS false))) : FitsP 10 [.agg [.raw (.bool m0), .ent e0, .raw (.int .i64 x0)], intS x, boolS u] [] (.one (boolS true)) := by
  have hT : AllOk Tryz.prog Glob [
    Tr.call 44 [] [] (Av.one (Sv.cel (Cv.raw (Value.bool true)))),
    Tr.call 45 [Sv.cel (Cv.row (nat_lit 5) (nat_lit 0) (nat_lit 1) (nat_lit 1))] [(nat_lit 5, { t := 66, cs := [Cv.raw (Value.bool m0), Cv.ent e0, Cv.raw (Value.int IntKind.i64 x0)], own := true })] (Av.one (Sv.cel (Cv.raw (Value.bool false))))] := ⟨
    halves_f,
    hu _ _, trivial⟩
  exact fits_of_trace (n := 300) (k0 := 0) hT Tryz.func10 (by kernel_rfl) (by kernel_rfl) (by kernel_rfl)

theorem DyadRounds_un0 {m : Bool} {xs : List Nat} {e : Int} (hu : UnfitD m xs e) (x : Int) (u : Bool) : FitsP 10 [adS m xs e, intS x, boolS u] [] (.one (boolS true)) := DyadRounds_unfit _ _ _ _ _ fun x o => dunfit1_0 hu x o
end Go.Proofs.YtphpaejgcahgbaaGreatDoor
