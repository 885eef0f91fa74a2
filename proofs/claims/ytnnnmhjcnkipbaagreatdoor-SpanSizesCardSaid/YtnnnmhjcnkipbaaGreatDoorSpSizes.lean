/- SpanSizes. -/
import Derived.Test.YtnnnmhjcnkipbaaGreatDoorSpAt
namespace Go.Proofs.YtnnnmhjcnkipbaaGreatDoor
open Go Go.RowKit Go.Shelf AM
section
variable {x y : Dy} {k : Nat}
theorem absD_dv (x : Dy) : dv (absD x) = absQ (dv x) := by
  rcases Int.lt_trichotomy x.m 0 with h | h | h
  · have h1 : dv x < 0 := by rw [dv_neg h]; have := av_pos (d := x) (by omega); grind
    rw [absQ_lt h1, ← negD_dv]
    congr 1
    unfold absD negD
    congr 1; omega
  · have h1 : dv x = 0 := dv_zero.2 h
    rw [h1, absQ_pos (by grind)]
    exact dv_zero.2 (by show ((x.m.natAbs : Nat) : Int) = 0; omega)
  · have h1 : 0 < dv x := by rw [dv_pos h]; exact av_pos (by omega)
    rw [absQ_pos (by grind)]
    congr 1
    unfold absD
    obtain ⟨m, e⟩ := x
    congr 1
    show ((m.natAbs : Nat) : Int) = m
    have : 0 < m := h
    omega
theorem FitE.abs {x : Dy} (h : FitE x) : FitE (absD x) := ⟨by
  rcases h.ok with ⟨h1, h2⟩ | h1
  · exact .inl ⟨by show ((x.m.natAbs : Nat) : Int) = 0; omega, h2⟩
  · exact .inr (by show ((x.m.natAbs : Nat) : Int) % 2 = 1; omega), by show ((x.m.natAbs : Nat) : Int).natAbs < _; rw [Int.natAbs_natCast]; exact h.man, h.lo, h.hi⟩
theorem size_ge {X : Rat} (h1 : dv x ≤ X) (h2 : X ≤ dv y) : absQ X ≤ dv (maxD (absD x) (absD y)) := by
  have := maxD_dv (absD x) (absD y)
  rw [absD_dv, absD_dv] at this
  have h3 := this.1
  have h4 := this.2.1
  generalize dv (maxD (absD x) (absD y)) = M at *
  unfold absQ at *
  split at h3 <;> split at h4 <;> split <;> grind
theorem sz_bd (h : FitS x y) : BD 17 7 (maxD (absD x) (absD y)) := h.a.abs.bd.maxS h.b.abs.bd
theorem beq0 : ((0 : Int) == 0) = true := rfl
theorem sign_nn {z c : Int} (h : sign3 z = c) (hz : 0 ≤ z) : decide (c < 0) = false := by
  rw [← h, decide_eq_false_iff_not]; unfold sign3; split <;> (try split) <;> omega
theorem wid_nn (h : dv x ≤ dv y) : 0 ≤ (subD y x).m := by
  have h1 : 0 ≤ dv (subD y x) := by rw [subD_dv]; grind
  rcases Int.lt_or_le (subD y x).m 0 with h2 | h2
  · exfalso
    rw [dv_neg h2] at h1
    have := av_pos (d := subD y x) (by omega)
    grind
  · exact h2
theorem md_in (h : dv x ≤ dv y) : decide (dv x ≤ dv (mdD x y) ∧ dv (mdD x y) ≤ dv y) = true := decide_eq_true (by rw [mdD_dv]; constructor <;> grind)
theorem md_far (x y : Dy) : ordQ (dv (subD y (mdD x y))) (dv (subD (mdD x y) x)) = 0 := ordQ_eqI (by rw [subD_dv, subD_dv, mdD_dv]; grind)
theorem wid_back (x y : Dy) : ordQ (dv (addD x (subD y x))) (dv y) = 0 := ordQ_eqI (by rw [addD_dv, subD_dv]; grind)
theorem ord_ge' {p q : Rat} {c : Int} (h : ordQ p q = c) (hq : q ≤ p) : decide (c < 0) = false := by
  rw [← h, ordQ_neg_iff]; exact decide_eq_false (by grind)
end

theorem absQ_bqS {n : Nat} {q : Rat} (h : BQ n q) : BQ n (absQ q) := by unfold absQ; split; exact h.neg'; exact h

set_option maxRecDepth 100000 in
theorem SpanSizes_lo {x y : Dy} {k : Nat} {w c s : Int} (ha : FitS x y) (hk : k ≤ 100) (hw : partW w = (k : Int)) (hc : ordQ (dv (maxD (absD x) (absD y))) (absQ (atQ x y k)) = c) (hs : sign3 (subD y x).m = s) (hm : ¬ dv (absD x) < dv (absD y)) : FitsP 6 [spS x y, intS w] [] (.one (boolS true)) := by
  have hT : AllOk Tryz.prog Glob [
    Tr.call 14 [] [] (Av.one (Sv.cel (Cv.raw (Value.bool true)))),
    Tr.call 15 [Sv.cel (Cv.row (nat_lit 5) (nat_lit 0) (nat_lit 1) (nat_lit 1))] [(nat_lit 5, { t := 29, cs := [Cv.raw (Value.bool (decide (Dy.m x < (0 : Int)))), Cv.ent (nat (Int.natAbs (Dy.m x))), Cv.raw (Value.int IntKind.i64 (Dy.e x)), Cv.raw (Value.bool (decide (Dy.m y < (0 : Int)))), Cv.ent (nat (Int.natAbs (Dy.m y))), Cv.raw (Value.int IntKind.i64 (Dy.e y))], own := true })] (Av.one (Sv.cel (Cv.raw (Value.bool true)))),
    Tr.call 16 [Sv.agg [Cv.raw (Value.bool (decide (Dy.m x < (0 : Int)))), Cv.ent (nat (Int.natAbs (Dy.m x))), Cv.raw (Value.int IntKind.i64 (Dy.e x)), Cv.raw (Value.bool (decide (Dy.m y < (0 : Int)))), Cv.ent (nat (Int.natAbs (Dy.m y))), Cv.raw (Value.int IntKind.i64 (Dy.e y))], Sv.cel (Cv.raw (Value.int IntKind.i64 w))] [] (Av.one (Sv.agg [Cv.raw (Value.bool (decide (Rat.num (atQ x y k) < (0 : Int)))), Cv.ent (nat (Int.natAbs (Rat.num (atQ x y k)))), Cv.ent (nat (Rat.den (atQ x y k)))])),
    Tr.call 40 [Sv.agg [Cv.raw (Value.bool (decide (Dy.m x < (0 : Int)))), Cv.ent (nat (Int.natAbs (Dy.m x))), Cv.raw (Value.int IntKind.i64 (Dy.e x)), Cv.raw (Value.bool (decide (Dy.m y < (0 : Int)))), Cv.ent (nat (Int.natAbs (Dy.m y))), Cv.raw (Value.int IntKind.i64 (Dy.e y))]] [] (Av.one (Sv.agg [Cv.raw (Value.bool (decide (Dy.m (maxD (absD x) (absD y)) < (0 : Int)))), Cv.ent (nat (Int.natAbs (Dy.m (maxD (absD x) (absD y))))), Cv.raw (Value.int IntKind.i64 (Dy.e (maxD (absD x) (absD y))))])),
    Tr.call 41 [Sv.agg [Cv.raw (Value.bool (decide (Rat.num (atQ x y k) < (0 : Int)))), Cv.ent (nat (Int.natAbs (Rat.num (atQ x y k)))), Cv.ent (nat (Rat.den (atQ x y k)))]] [] (Av.one (Sv.agg [Cv.raw (Value.bool (decide (Rat.num (absQ (atQ x y k)) < (0 : Int)))), Cv.ent (nat (Int.natAbs (Rat.num (absQ (atQ x y k))))), Cv.ent (nat (Rat.den (absQ (atQ x y k))))])),
    Tr.call 39 [Sv.agg [Cv.raw (Value.bool (decide (Dy.m (maxD (absD x) (absD y)) < (0 : Int)))), Cv.ent (nat (Int.natAbs (Dy.m (maxD (absD x) (absD y))))), Cv.raw (Value.int IntKind.i64 (Dy.e (maxD (absD x) (absD y))))], Sv.agg [Cv.raw (Value.bool (decide (Rat.num (absQ (atQ x y k)) < (0 : Int)))), Cv.ent (nat (Int.natAbs (Rat.num (absQ (atQ x y k))))), Cv.ent (nat (Rat.den (absQ (atQ x y k))))]] [] (Av.tup [Sv.cel (Cv.raw (Value.int IntKind.i64 c)), Sv.cel (Cv.raw (Value.int IntKind.i64 (Int.ofNat (nat_lit 0))))]),
    Tr.call 42 [Sv.agg [Cv.raw (Value.bool (decide (Dy.m x < (0 : Int)))), Cv.ent (nat (Int.natAbs (Dy.m x))), Cv.raw (Value.int IntKind.i64 (Dy.e x)), Cv.raw (Value.bool (decide (Dy.m y < (0 : Int)))), Cv.ent (nat (Int.natAbs (Dy.m y))), Cv.raw (Value.int IntKind.i64 (Dy.e y))]] [] (Av.tup [Sv.agg [Cv.raw (Value.bool (decide (Dy.m (subD y x) < (0 : Int)))), Cv.ent (nat (Int.natAbs (Dy.m (subD y x)))), Cv.raw (Value.int IntKind.i64 (Dy.e (subD y x)))], Sv.cel (Cv.raw (Value.int IntKind.i64 (Int.ofNat (nat_lit 0))))]),
    Tr.call 43 [Sv.agg [Cv.raw (Value.bool (decide (Dy.m x < (0 : Int)))), Cv.ent (nat (Int.natAbs (Dy.m x))), Cv.raw (Value.int IntKind.i64 (Dy.e x)), Cv.raw (Value.bool (decide (Dy.m y < (0 : Int)))), Cv.ent (nat (Int.natAbs (Dy.m y))), Cv.raw (Value.int IntKind.i64 (Dy.e y))]] [] (Av.tup [Sv.agg [Cv.raw (Value.bool (decide (Dy.m (mdD x y) < (0 : Int)))), Cv.ent (nat (Int.natAbs (Dy.m (mdD x y)))), Cv.raw (Value.int IntKind.i64 (Dy.e (mdD x y)))], Sv.cel (Cv.raw (Value.int IntKind.i64 (Int.ofNat (nat_lit 0))))]),
    Tr.norm (nat_lit 53) (Av.one (Sv.cel (Cv.raw (Value.bool (decide (c < (0 : Int))))))) (Av.one (Sv.cel (Cv.raw (Value.bool false)))),
    Tr.call 44 [Sv.agg [Cv.raw (Value.bool (decide (Dy.m (subD y x) < (0 : Int)))), Cv.ent (nat (Int.natAbs (Dy.m (subD y x)))), Cv.raw (Value.int IntKind.i64 (Dy.e (subD y x)))]] [] (Av.one (Sv.cel (Cv.raw (Value.int IntKind.i64 s)))),
    Tr.norm (nat_lit 58) (Av.one (Sv.cel (Cv.raw (Value.bool (decide (s < (0 : Int))))))) (Av.one (Sv.cel (Cv.raw (Value.bool false)))),
    Tr.call 31 [Sv.agg [Cv.raw (Value.bool (decide (Dy.m x < (0 : Int)))), Cv.ent (nat (Int.natAbs (Dy.m x))), Cv.raw (Value.int IntKind.i64 (Dy.e x)), Cv.raw (Value.bool (decide (Dy.m y < (0 : Int)))), Cv.ent (nat (Int.natAbs (Dy.m y))), Cv.raw (Value.int IntKind.i64 (Dy.e y))], Sv.agg [Cv.raw (Value.bool (decide (Dy.m (mdD x y) < (0 : Int)))), Cv.ent (nat (Int.natAbs (Dy.m (mdD x y)))), Cv.raw (Value.int IntKind.i64 (Dy.e (mdD x y)))]] [] (Av.one (Sv.cel (Cv.raw (Value.bool true)))),
    Tr.call 28 [Sv.agg [Cv.raw (Value.bool (decide (Dy.m y < (0 : Int)))), Cv.ent (nat (Int.natAbs (Dy.m y))), Cv.raw (Value.int IntKind.i64 (Dy.e y))], Sv.agg [Cv.raw (Value.bool (decide (Dy.m (mdD x y) < (0 : Int)))), Cv.ent (nat (Int.natAbs (Dy.m (mdD x y)))), Cv.raw (Value.int IntKind.i64 (Dy.e (mdD x y)))]] [] (Av.tup [Sv.agg [Cv.raw (Value.bool (decide (Dy.m (subD y (mdD x y)) < (0 : Int)))), Cv.ent (nat (Int.natAbs (Dy.m (subD y (mdD x y))))), Cv.raw (Value.int IntKind.i64 (Dy.e (subD y (mdD x y))))], Sv.cel (Cv.raw (Value.int IntKind.i64 (Int.ofNat (nat_lit 0))))]),
    Tr.call 28 [Sv.agg [Cv.raw (Value.bool (decide (Dy.m (mdD x y) < (0 : Int)))), Cv.ent (nat (Int.natAbs (Dy.m (mdD x y)))), Cv.raw (Value.int IntKind.i64 (Dy.e (mdD x y)))], Sv.agg [Cv.raw (Value.bool (decide (Dy.m x < (0 : Int)))), Cv.ent (nat (Int.natAbs (Dy.m x))), Cv.raw (Value.int IntKind.i64 (Dy.e x))]] [] (Av.tup [Sv.agg [Cv.raw (Value.bool (decide (Dy.m (subD (mdD x y) x) < (0 : Int)))), Cv.ent (nat (Int.natAbs (Dy.m (subD (mdD x y) x)))), Cv.raw (Value.int IntKind.i64 (Dy.e (subD (mdD x y) x)))], Sv.cel (Cv.raw (Value.int IntKind.i64 (Int.ofNat (nat_lit 0))))]),
    Tr.call 27 [Sv.agg [Cv.raw (Value.bool (decide (Dy.m x < (0 : Int)))), Cv.ent (nat (Int.natAbs (Dy.m x))), Cv.raw (Value.int IntKind.i64 (Dy.e x))], Sv.agg [Cv.raw (Value.bool (decide (Dy.m (subD y x) < (0 : Int)))), Cv.ent (nat (Int.natAbs (Dy.m (subD y x)))), Cv.raw (Value.int IntKind.i64 (Dy.e (subD y x)))]] [] (Av.tup [Sv.agg [Cv.raw (Value.bool (decide (Dy.m (addD x (subD y x)) < (0 : Int)))), Cv.ent (nat (Int.natAbs (Dy.m (addD x (subD y x))))), Cv.raw (Value.int IntKind.i64 (Dy.e (addD x (subD y x))))], Sv.cel (Cv.raw (Value.int IntKind.i64 (Int.ofNat (nat_lit 0))))]),
    Tr.call 40 [Sv.agg [Cv.raw (Value.bool (decide (Dy.m x < (0 : Int)))), Cv.ent (nat (Int.natAbs (Dy.m x))), Cv.raw (Value.int IntKind.i64 (Dy.e x)), Cv.raw (Value.bool (decide (Dy.m y < (0 : Int)))), Cv.ent (nat (Int.natAbs (Dy.m y))), Cv.raw (Value.int IntKind.i64 (Dy.e y))]] [] (Av.one (Sv.agg [Cv.raw (Value.bool (decide (Dy.m (maxD (absD x) (absD y)) < (0 : Int)))), Cv.ent (nat (Int.natAbs (Dy.m (maxD (absD x) (absD y))))), Cv.raw (Value.int IntKind.i64 (Dy.e (maxD (absD x) (absD y))))])),
    Tr.call 45 [Sv.agg [Cv.raw (Value.bool (decide (Dy.m x < (0 : Int)))), Cv.ent (nat (Int.natAbs (Dy.m x))), Cv.raw (Value.int IntKind.i64 (Dy.e x))]] [] (Av.one (Sv.agg [Cv.raw (Value.bool (decide (Dy.m (absD x) < (0 : Int)))), Cv.ent (nat (Int.natAbs (Dy.m (absD x)))), Cv.raw (Value.int IntKind.i64 (Dy.e (absD x)))])),
    Tr.call 29 [Sv.agg [Cv.raw (Value.bool (decide (Dy.m (maxD (absD x) (absD y)) < (0 : Int)))), Cv.ent (nat (Int.natAbs (Dy.m (maxD (absD x) (absD y))))), Cv.raw (Value.int IntKind.i64 (Dy.e (maxD (absD x) (absD y))))], Sv.agg [Cv.raw (Value.bool (decide (Dy.m (absD x) < (0 : Int)))), Cv.ent (nat (Int.natAbs (Dy.m (absD x)))), Cv.raw (Value.int IntKind.i64 (Dy.e (absD x)))]] [] (Av.one (Sv.cel (Cv.raw (Value.int IntKind.i64 (Int.ofNat (nat_lit 0)))))),
    Tr.call 29 [Sv.agg [Cv.raw (Value.bool (decide (Dy.m (subD y (mdD x y)) < (0 : Int)))), Cv.ent (nat (Int.natAbs (Dy.m (subD y (mdD x y))))), Cv.raw (Value.int IntKind.i64 (Dy.e (subD y (mdD x y))))], Sv.agg [Cv.raw (Value.bool (decide (Dy.m (subD (mdD x y) x) < (0 : Int)))), Cv.ent (nat (Int.natAbs (Dy.m (subD (mdD x y) x)))), Cv.raw (Value.int IntKind.i64 (Dy.e (subD (mdD x y) x)))]] [] (Av.one (Sv.cel (Cv.raw (Value.int IntKind.i64 (Int.ofNat (nat_lit 0)))))),
    Tr.call 29 [Sv.agg [Cv.raw (Value.bool (decide (Dy.m (addD x (subD y x)) < (0 : Int)))), Cv.ent (nat (Int.natAbs (Dy.m (addD x (subD y x))))), Cv.raw (Value.int IntKind.i64 (Dy.e (addD x (subD y x))))], Sv.agg [Cv.raw (Value.bool (decide (Dy.m y < (0 : Int)))), Cv.ent (nat (Int.natAbs (Dy.m y))), Cv.raw (Value.int IntKind.i64 (Dy.e y))]] [] (Av.one (Sv.cel (Cv.raw (Value.int IntKind.i64 (Int.ofNat (nat_lit 0))))))] := ⟨
    between_f,
    sfitOne_f ha _ _,
    at_f ha hk hw,
    sizeS_f ha.a.abs.bd ha.b.abs.bd (by omega),
    absQ_f,
    cmpDQ_f (sz_bd ha) (absQ_bqS (at_bq ha hk)) (by omega) hc,
    widthS_f ha.a.bd ha.b.bd (by omega),
    middleS_f ha.a.bd ha.b.bd (by omega),
    norm_bool (ord_ge' hc (size_ge (at_ge ha.le) (at_le ha.le hk))),
    signD_f hs,
    norm_bool (sign_nn hs (wid_nn ha.le)),
    hasS_is (ha.a.bd.mono (by omega) (by omega)) (ha.b.bd.mono (by omega) (by omega)) (BD.md ha.a.bd ha.b.bd) (by omega) (md_in ha.le),
    subD_f (ha.b.bd.mono (by omega) (by omega)) (BD.md ha.a.bd ha.b.bd) (by omega),
    subD_f (BD.md ha.a.bd ha.b.bd) (ha.a.bd.mono (by omega) (by omega)) (by omega),
    addD_f (ha.a.bd.mono (by omega) (Nat.le_refl _)) (ha.b.bd.sub ha.a.bd) (by omega),
    sizeS_f ha.a.abs.bd ha.b.abs.bd (by omega),
    absD_f,
    compareD_is (sz_bd ha) ha.a.abs.bd (by omega) (ordQ_eqI (by rw [maxD_n hm])),
    compareD_is ((ha.b.bd.mono (by omega) (by omega)).sub (BD.md ha.a.bd ha.b.bd)) ((BD.md ha.a.bd ha.b.bd).sub (ha.a.bd.mono (by omega) (by omega))) (by omega) (md_far x y),
    compareD_is ((ha.a.bd.mono (by omega) (Nat.le_refl _)).add (ha.b.bd.sub ha.a.bd)) (ha.b.bd.mono (by omega) (Nat.le_refl _)) (by omega) (wid_back x y), trivial⟩
  exact fits_of_trace (n := 400) (k0 := 0) hT Tryz.func6 (by kernel_rfl) (by kernel_rfl) (by kernel_rfl)

set_option maxRecDepth 100000 in
theorem SpanSizes_hi {x y : Dy} {k : Nat} {w c s : Int} (ha : FitS x y) (hk : k ≤ 100) (hw : partW w = (k : Int)) (hc : ordQ (dv (maxD (absD x) (absD y))) (absQ (atQ x y k)) = c) (hs : sign3 (subD y x).m = s) {r : Int} (hm : dv (absD x) < dv (absD y)) (hr : ordQ (dv (maxD (absD x) (absD y))) (dv (absD x)) = r) (hr0 : r ≠ 0) : FitsP 6 [spS x y, intS w] [] (.one (boolS true)) := by
  have hT : AllOk Tryz.prog Glob [
    Tr.call 14 [] [] (Av.one (Sv.cel (Cv.raw (Value.bool true)))),
    Tr.call 15 [Sv.cel (Cv.row (nat_lit 5) (nat_lit 0) (nat_lit 1) (nat_lit 1))] [(nat_lit 5, { t := 29, cs := [Cv.raw (Value.bool (decide (Dy.m x < (0 : Int)))), Cv.ent (nat (Int.natAbs (Dy.m x))), Cv.raw (Value.int IntKind.i64 (Dy.e x)), Cv.raw (Value.bool (decide (Dy.m y < (0 : Int)))), Cv.ent (nat (Int.natAbs (Dy.m y))), Cv.raw (Value.int IntKind.i64 (Dy.e y))], own := true })] (Av.one (Sv.cel (Cv.raw (Value.bool true)))),
    Tr.call 16 [Sv.agg [Cv.raw (Value.bool (decide (Dy.m x < (0 : Int)))), Cv.ent (nat (Int.natAbs (Dy.m x))), Cv.raw (Value.int IntKind.i64 (Dy.e x)), Cv.raw (Value.bool (decide (Dy.m y < (0 : Int)))), Cv.ent (nat (Int.natAbs (Dy.m y))), Cv.raw (Value.int IntKind.i64 (Dy.e y))], Sv.cel (Cv.raw (Value.int IntKind.i64 w))] [] (Av.one (Sv.agg [Cv.raw (Value.bool (decide (Rat.num (atQ x y k) < (0 : Int)))), Cv.ent (nat (Int.natAbs (Rat.num (atQ x y k)))), Cv.ent (nat (Rat.den (atQ x y k)))])),
    Tr.call 40 [Sv.agg [Cv.raw (Value.bool (decide (Dy.m x < (0 : Int)))), Cv.ent (nat (Int.natAbs (Dy.m x))), Cv.raw (Value.int IntKind.i64 (Dy.e x)), Cv.raw (Value.bool (decide (Dy.m y < (0 : Int)))), Cv.ent (nat (Int.natAbs (Dy.m y))), Cv.raw (Value.int IntKind.i64 (Dy.e y))]] [] (Av.one (Sv.agg [Cv.raw (Value.bool (decide (Dy.m (maxD (absD x) (absD y)) < (0 : Int)))), Cv.ent (nat (Int.natAbs (Dy.m (maxD (absD x) (absD y))))), Cv.raw (Value.int IntKind.i64 (Dy.e (maxD (absD x) (absD y))))])),
    Tr.call 41 [Sv.agg [Cv.raw (Value.bool (decide (Rat.num (atQ x y k) < (0 : Int)))), Cv.ent (nat (Int.natAbs (Rat.num (atQ x y k)))), Cv.ent (nat (Rat.den (atQ x y k)))]] [] (Av.one (Sv.agg [Cv.raw (Value.bool (decide (Rat.num (absQ (atQ x y k)) < (0 : Int)))), Cv.ent (nat (Int.natAbs (Rat.num (absQ (atQ x y k))))), Cv.ent (nat (Rat.den (absQ (atQ x y k))))])),
    Tr.call 39 [Sv.agg [Cv.raw (Value.bool (decide (Dy.m (maxD (absD x) (absD y)) < (0 : Int)))), Cv.ent (nat (Int.natAbs (Dy.m (maxD (absD x) (absD y))))), Cv.raw (Value.int IntKind.i64 (Dy.e (maxD (absD x) (absD y))))], Sv.agg [Cv.raw (Value.bool (decide (Rat.num (absQ (atQ x y k)) < (0 : Int)))), Cv.ent (nat (Int.natAbs (Rat.num (absQ (atQ x y k))))), Cv.ent (nat (Rat.den (absQ (atQ x y k))))]] [] (Av.tup [Sv.cel (Cv.raw (Value.int IntKind.i64 c)), Sv.cel (Cv.raw (Value.int IntKind.i64 (Int.ofNat (nat_lit 0))))]),
    Tr.call 42 [Sv.agg [Cv.raw (Value.bool (decide (Dy.m x < (0 : Int)))), Cv.ent (nat (Int.natAbs (Dy.m x))), Cv.raw (Value.int IntKind.i64 (Dy.e x)), Cv.raw (Value.bool (decide (Dy.m y < (0 : Int)))), Cv.ent (nat (Int.natAbs (Dy.m y))), Cv.raw (Value.int IntKind.i64 (Dy.e y))]] [] (Av.tup [Sv.agg [Cv.raw (Value.bool (decide (Dy.m (subD y x) < (0 : Int)))), Cv.ent (nat (Int.natAbs (Dy.m (subD y x)))), Cv.raw (Value.int IntKind.i64 (Dy.e (subD y x)))], Sv.cel (Cv.raw (Value.int IntKind.i64 (Int.ofNat (nat_lit 0))))]),
    Tr.call 43 [Sv.agg [Cv.raw (Value.bool (decide (Dy.m x < (0 : Int)))), Cv.ent (nat (Int.natAbs (Dy.m x))), Cv.raw (Value.int IntKind.i64 (Dy.e x)), Cv.raw (Value.bool (decide (Dy.m y < (0 : Int)))), Cv.ent (nat (Int.natAbs (Dy.m y))), Cv.raw (Value.int IntKind.i64 (Dy.e y))]] [] (Av.tup [Sv.agg [Cv.raw (Value.bool (decide (Dy.m (mdD x y) < (0 : Int)))), Cv.ent (nat (Int.natAbs (Dy.m (mdD x y)))), Cv.raw (Value.int IntKind.i64 (Dy.e (mdD x y)))], Sv.cel (Cv.raw (Value.int IntKind.i64 (Int.ofNat (nat_lit 0))))]),
    Tr.norm (nat_lit 53) (Av.one (Sv.cel (Cv.raw (Value.bool (decide (c < (0 : Int))))))) (Av.one (Sv.cel (Cv.raw (Value.bool false)))),
    Tr.call 44 [Sv.agg [Cv.raw (Value.bool (decide (Dy.m (subD y x) < (0 : Int)))), Cv.ent (nat (Int.natAbs (Dy.m (subD y x)))), Cv.raw (Value.int IntKind.i64 (Dy.e (subD y x)))]] [] (Av.one (Sv.cel (Cv.raw (Value.int IntKind.i64 s)))),
    Tr.norm (nat_lit 58) (Av.one (Sv.cel (Cv.raw (Value.bool (decide (s < (0 : Int))))))) (Av.one (Sv.cel (Cv.raw (Value.bool false)))),
    Tr.call 31 [Sv.agg [Cv.raw (Value.bool (decide (Dy.m x < (0 : Int)))), Cv.ent (nat (Int.natAbs (Dy.m x))), Cv.raw (Value.int IntKind.i64 (Dy.e x)), Cv.raw (Value.bool (decide (Dy.m y < (0 : Int)))), Cv.ent (nat (Int.natAbs (Dy.m y))), Cv.raw (Value.int IntKind.i64 (Dy.e y))], Sv.agg [Cv.raw (Value.bool (decide (Dy.m (mdD x y) < (0 : Int)))), Cv.ent (nat (Int.natAbs (Dy.m (mdD x y)))), Cv.raw (Value.int IntKind.i64 (Dy.e (mdD x y)))]] [] (Av.one (Sv.cel (Cv.raw (Value.bool true)))),
    Tr.call 28 [Sv.agg [Cv.raw (Value.bool (decide (Dy.m y < (0 : Int)))), Cv.ent (nat (Int.natAbs (Dy.m y))), Cv.raw (Value.int IntKind.i64 (Dy.e y))], Sv.agg [Cv.raw (Value.bool (decide (Dy.m (mdD x y) < (0 : Int)))), Cv.ent (nat (Int.natAbs (Dy.m (mdD x y)))), Cv.raw (Value.int IntKind.i64 (Dy.e (mdD x y)))]] [] (Av.tup [Sv.agg [Cv.raw (Value.bool (decide (Dy.m (subD y (mdD x y)) < (0 : Int)))), Cv.ent (nat (Int.natAbs (Dy.m (subD y (mdD x y))))), Cv.raw (Value.int IntKind.i64 (Dy.e (subD y (mdD x y))))], Sv.cel (Cv.raw (Value.int IntKind.i64 (Int.ofNat (nat_lit 0))))]),
    Tr.call 28 [Sv.agg [Cv.raw (Value.bool (decide (Dy.m (mdD x y) < (0 : Int)))), Cv.ent (nat (Int.natAbs (Dy.m (mdD x y)))), Cv.raw (Value.int IntKind.i64 (Dy.e (mdD x y)))], Sv.agg [Cv.raw (Value.bool (decide (Dy.m x < (0 : Int)))), Cv.ent (nat (Int.natAbs (Dy.m x))), Cv.raw (Value.int IntKind.i64 (Dy.e x))]] [] (Av.tup [Sv.agg [Cv.raw (Value.bool (decide (Dy.m (subD (mdD x y) x) < (0 : Int)))), Cv.ent (nat (Int.natAbs (Dy.m (subD (mdD x y) x)))), Cv.raw (Value.int IntKind.i64 (Dy.e (subD (mdD x y) x)))], Sv.cel (Cv.raw (Value.int IntKind.i64 (Int.ofNat (nat_lit 0))))]),
    Tr.call 27 [Sv.agg [Cv.raw (Value.bool (decide (Dy.m x < (0 : Int)))), Cv.ent (nat (Int.natAbs (Dy.m x))), Cv.raw (Value.int IntKind.i64 (Dy.e x))], Sv.agg [Cv.raw (Value.bool (decide (Dy.m (subD y x) < (0 : Int)))), Cv.ent (nat (Int.natAbs (Dy.m (subD y x)))), Cv.raw (Value.int IntKind.i64 (Dy.e (subD y x)))]] [] (Av.tup [Sv.agg [Cv.raw (Value.bool (decide (Dy.m (addD x (subD y x)) < (0 : Int)))), Cv.ent (nat (Int.natAbs (Dy.m (addD x (subD y x))))), Cv.raw (Value.int IntKind.i64 (Dy.e (addD x (subD y x))))], Sv.cel (Cv.raw (Value.int IntKind.i64 (Int.ofNat (nat_lit 0))))]),
    Tr.call 40 [Sv.agg [Cv.raw (Value.bool (decide (Dy.m x < (0 : Int)))), Cv.ent (nat (Int.natAbs (Dy.m x))), Cv.raw (Value.int IntKind.i64 (Dy.e x)), Cv.raw (Value.bool (decide (Dy.m y < (0 : Int)))), Cv.ent (nat (Int.natAbs (Dy.m y))), Cv.raw (Value.int IntKind.i64 (Dy.e y))]] [] (Av.one (Sv.agg [Cv.raw (Value.bool (decide (Dy.m (maxD (absD x) (absD y)) < (0 : Int)))), Cv.ent (nat (Int.natAbs (Dy.m (maxD (absD x) (absD y))))), Cv.raw (Value.int IntKind.i64 (Dy.e (maxD (absD x) (absD y))))])),
    Tr.call 45 [Sv.agg [Cv.raw (Value.bool (decide (Dy.m x < (0 : Int)))), Cv.ent (nat (Int.natAbs (Dy.m x))), Cv.raw (Value.int IntKind.i64 (Dy.e x))]] [] (Av.one (Sv.agg [Cv.raw (Value.bool (decide (Dy.m (absD x) < (0 : Int)))), Cv.ent (nat (Int.natAbs (Dy.m (absD x)))), Cv.raw (Value.int IntKind.i64 (Dy.e (absD x)))])),
    Tr.call 29 [Sv.agg [Cv.raw (Value.bool (decide (Dy.m (maxD (absD x) (absD y)) < (0 : Int)))), Cv.ent (nat (Int.natAbs (Dy.m (maxD (absD x) (absD y))))), Cv.raw (Value.int IntKind.i64 (Dy.e (maxD (absD x) (absD y))))], Sv.agg [Cv.raw (Value.bool (decide (Dy.m (absD x) < (0 : Int)))), Cv.ent (nat (Int.natAbs (Dy.m (absD x)))), Cv.raw (Value.int IntKind.i64 (Dy.e (absD x)))]] [] (Av.one (Sv.cel (Cv.raw (Value.int IntKind.i64 r)))),
    Tr.norm (nat_lit 101) (Av.one (Sv.cel (Cv.raw (Value.bool (r == (0 : Int)))))) (Av.one (Sv.cel (Cv.raw (Value.bool false)))),
    Tr.call 40 [Sv.agg [Cv.raw (Value.bool (decide (Dy.m x < (0 : Int)))), Cv.ent (nat (Int.natAbs (Dy.m x))), Cv.raw (Value.int IntKind.i64 (Dy.e x)), Cv.raw (Value.bool (decide (Dy.m y < (0 : Int)))), Cv.ent (nat (Int.natAbs (Dy.m y))), Cv.raw (Value.int IntKind.i64 (Dy.e y))]] [] (Av.one (Sv.agg [Cv.raw (Value.bool (decide (Dy.m (maxD (absD x) (absD y)) < (0 : Int)))), Cv.ent (nat (Int.natAbs (Dy.m (maxD (absD x) (absD y))))), Cv.raw (Value.int IntKind.i64 (Dy.e (maxD (absD x) (absD y))))])),
    Tr.call 45 [Sv.agg [Cv.raw (Value.bool (decide (Dy.m y < (0 : Int)))), Cv.ent (nat (Int.natAbs (Dy.m y))), Cv.raw (Value.int IntKind.i64 (Dy.e y))]] [] (Av.one (Sv.agg [Cv.raw (Value.bool (decide (Dy.m (absD y) < (0 : Int)))), Cv.ent (nat (Int.natAbs (Dy.m (absD y)))), Cv.raw (Value.int IntKind.i64 (Dy.e (absD y)))])),
    Tr.call 29 [Sv.agg [Cv.raw (Value.bool (decide (Dy.m (maxD (absD x) (absD y)) < (0 : Int)))), Cv.ent (nat (Int.natAbs (Dy.m (maxD (absD x) (absD y))))), Cv.raw (Value.int IntKind.i64 (Dy.e (maxD (absD x) (absD y))))], Sv.agg [Cv.raw (Value.bool (decide (Dy.m (absD y) < (0 : Int)))), Cv.ent (nat (Int.natAbs (Dy.m (absD y)))), Cv.raw (Value.int IntKind.i64 (Dy.e (absD y)))]] [] (Av.one (Sv.cel (Cv.raw (Value.int IntKind.i64 (Int.ofNat (nat_lit 0)))))),
    Tr.call 29 [Sv.agg [Cv.raw (Value.bool (decide (Dy.m (subD y (mdD x y)) < (0 : Int)))), Cv.ent (nat (Int.natAbs (Dy.m (subD y (mdD x y))))), Cv.raw (Value.int IntKind.i64 (Dy.e (subD y (mdD x y))))], Sv.agg [Cv.raw (Value.bool (decide (Dy.m (subD (mdD x y) x) < (0 : Int)))), Cv.ent (nat (Int.natAbs (Dy.m (subD (mdD x y) x)))), Cv.raw (Value.int IntKind.i64 (Dy.e (subD (mdD x y) x)))]] [] (Av.one (Sv.cel (Cv.raw (Value.int IntKind.i64 (Int.ofNat (nat_lit 0)))))),
    Tr.call 29 [Sv.agg [Cv.raw (Value.bool (decide (Dy.m (addD x (subD y x)) < (0 : Int)))), Cv.ent (nat (Int.natAbs (Dy.m (addD x (subD y x))))), Cv.raw (Value.int IntKind.i64 (Dy.e (addD x (subD y x))))], Sv.agg [Cv.raw (Value.bool (decide (Dy.m y < (0 : Int)))), Cv.ent (nat (Int.natAbs (Dy.m y))), Cv.raw (Value.int IntKind.i64 (Dy.e y))]] [] (Av.one (Sv.cel (Cv.raw (Value.int IntKind.i64 (Int.ofNat (nat_lit 0))))))] := ⟨
    between_f,
    sfitOne_f ha _ _,
    at_f ha hk hw,
    sizeS_f ha.a.abs.bd ha.b.abs.bd (by omega),
    absQ_f,
    cmpDQ_f (sz_bd ha) (absQ_bqS (at_bq ha hk)) (by omega) hc,
    widthS_f ha.a.bd ha.b.bd (by omega),
    middleS_f ha.a.bd ha.b.bd (by omega),
    norm_bool (ord_ge' hc (size_ge (at_ge ha.le) (at_le ha.le hk))),
    signD_f hs,
    norm_bool (sign_nn hs (wid_nn ha.le)),
    hasS_is (ha.a.bd.mono (by omega) (by omega)) (ha.b.bd.mono (by omega) (by omega)) (BD.md ha.a.bd ha.b.bd) (by omega) (md_in ha.le),
    subD_f (ha.b.bd.mono (by omega) (by omega)) (BD.md ha.a.bd ha.b.bd) (by omega),
    subD_f (BD.md ha.a.bd ha.b.bd) (ha.a.bd.mono (by omega) (by omega)) (by omega),
    addD_f (ha.a.bd.mono (by omega) (Nat.le_refl _)) (ha.b.bd.sub ha.a.bd) (by omega),
    sizeS_f ha.a.abs.bd ha.b.abs.bd (by omega),
    absD_f,
    compareD_is (sz_bd ha) ha.a.abs.bd (by omega) hr,
    norm_bool (eq_false hr0),
    sizeS_f ha.a.abs.bd ha.b.abs.bd (by omega),
    absD_f,
    compareD_is (sz_bd ha) ha.b.abs.bd (by omega) (ordQ_eqI (by rw [maxD_l hm])),
    compareD_is ((ha.b.bd.mono (by omega) (by omega)).sub (BD.md ha.a.bd ha.b.bd)) ((BD.md ha.a.bd ha.b.bd).sub (ha.a.bd.mono (by omega) (by omega))) (by omega) (md_far x y),
    compareD_is ((ha.a.bd.mono (by omega) (Nat.le_refl _)).add (ha.b.bd.sub ha.a.bd)) (ha.b.bd.mono (by omega) (Nat.le_refl _)) (by omega) (wid_back x y), trivial⟩
  exact fits_of_trace (n := 400) (k0 := 0) hT Tryz.func6 (by kernel_rfl) (by kernel_rfl) (by kernel_rfl)

theorem SpanSizes_fit {x y : Dy} (ha : FitS x y) (w : Int) : FitsP 6 [spS x y, intS w] [] (.one (boolS true)) := by
  obtain ⟨k, hk, hw⟩ := partW_in w
  by_cases hm : dv (absD x) < dv (absD y)
  · exact SpanSizes_hi ha hk hw rfl rfl hm rfl (by rw [maxD_l hm, ordQ_gtI hm]; decide)
  · exact SpanSizes_lo ha hk hw rfl rfl hm

set_option maxRecDepth 100000 in
theorem SpanSizes_unfit (m0 : Bool) (g0 : Ent) (x0 : Int) (n0 : Bool) (h0 : Ent) (y0 : Int) (w : Int) (hu : ∀ (z : Nat) (o : Bool), FitsP 15 [Sv.cel (Cv.row z 0 1 1)] [(z, ⟨29, [.raw (.bool m0), .ent g0, .raw (.int .i64 x0), .raw (.bool n0), .ent h0, .raw (.int .i64 y0)], o⟩)] (.one (boolS false))) : FitsP 6 [.agg [.raw (.bool m0), .ent g0, .raw (.int .i64 x0), .raw (.bool n0), .ent h0, .raw (.int .i64 y0)], intS w] [] (.one (boolS true)) := by
  have hT : AllOk Tryz.prog Glob [
    Tr.call 14 [] [] (Av.one (Sv.cel (Cv.raw (Value.bool true)))),
    Tr.call 15 [Sv.cel (Cv.row (nat_lit 5) (nat_lit 0) (nat_lit 1) (nat_lit 1))] [(nat_lit 5, { t := 29, cs := [Cv.raw (Value.bool m0), Cv.ent g0, Cv.raw (Value.int IntKind.i64 x0), Cv.raw (Value.bool n0), Cv.ent h0, Cv.raw (Value.int IntKind.i64 y0)], own := true })] (Av.one (Sv.cel (Cv.raw (Value.bool false))))] := ⟨
    between_f,
    hu _ _, trivial⟩
  exact fits_of_trace (n := 300) (k0 := 0) hT Tryz.func6 (by kernel_rfl) (by kernel_rfl) (by kernel_rfl)

theorem SpanSizes_un0 {m : Bool} {xs : List Nat} {e : Int} {m' : Bool} {ys : List Nat} {e' : Int} (hu : UnfitS m xs e m' ys e') (w : Int) : FitsP 6 [spA m xs e m' ys e', intS w] [] (.one (boolS true)) := SpanSizes_unfit _ _ _ _ _ _ _ fun z o => sunfit1_0 hu z o
end Go.Proofs.YtnnnmhjcnkipbaaGreatDoor
