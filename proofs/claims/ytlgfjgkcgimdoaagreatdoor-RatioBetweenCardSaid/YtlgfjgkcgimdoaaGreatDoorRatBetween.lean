/- RatioBetween. -/
import Derived.Test.YtlgfjgkcgimdoaaGreatDoorRatOrders
namespace Go.Proofs.YtlgfjgkcgimdoaaGreatDoor
open Go Go.RowKit Go.Shelf AM
section
variable {p q : Rat} {m n : Nat} {k : Int}
/-- Both above together, over both below together. -/
def medQ (p q : Rat) : Rat := Rat.normalize (p.num + q.num) (p.den + q.den) (by have := den_pos p; omega)
theorem medQ_eq (p q : Rat) : medQ p q * ((p.den : Rat) + (q.den : Rat)) = p * (p.den : Rat) + q * (q.den : Rat) := by
  have hp : (0 : Rat) < (p.den : Rat) := Rat.natCast_pos.2 (den_pos p)
  have hq : (0 : Rat) < (q.den : Rat) := Rat.natCast_pos.2 (den_pos q)
  have h1 : medQ p q = ((p.num : Rat) + (q.num : Rat)) / ((p.den : Rat) + (q.den : Rat)) := by
    unfold medQ
    rw [Rat.normalize_eq_mkRat, Rat.mkRat_eq_div, Rat.intCast_add, Rat.natCast_add]
  have h2 : ∀ r : Rat, r * (r.den : Rat) = (r.num : Rat) := fun r => by
    have h3 : r = (r.num : Rat) / (r.den : Rat) := by rw [← Rat.mkRat_eq_div, Rat.mkRat_self]
    have h4 : (r.den : Rat) ≠ 0 := by have := Rat.natCast_pos.2 (den_pos r); grind
    conv => lhs; lhs; rw [h3]
    exact Rat.div_mul_cancel h4
  rw [h1, h2, h2, Rat.div_mul_cancel (by grind)]
theorem ord_pos {a b c : Rat} (hc : 0 < c) : ordQ (a * c) (b * c) = ordQ a b := by
  have h1 : a * c < b * c ↔ a < b := Rat.mul_lt_mul_right hc
  have h2 : a * c = b * c ↔ a = b := ⟨fun e => by
    have h0 : c ≠ 0 := by grind
    rw [← Rat.mul_div_cancel (a := a) h0, e, Rat.mul_div_cancel h0], fun e => by rw [e]⟩
  unfold ordQ; simp only [h1, h2]
theorem ord_diff {a b c d : Rat} (h : b - a = d - c) : ordQ a b = ordQ c d := by
  have h1 : a < b ↔ c < d := by constructor <;> intro h <;> grind
  have h2 : a = b ↔ c = d := by constructor <;> intro h <;> grind
  unfold ordQ; simp only [h1, h2]
theorem med1 (h : ordQ p q = k) : ordQ p (medQ p q) = k := by
  have hp : (0 : Rat) < (p.den : Rat) := Rat.natCast_pos.2 (den_pos p)
  have hq : (0 : Rat) < (q.den : Rat) := Rat.natCast_pos.2 (den_pos q)
  have e := medQ_eq p q
  rw [← ord_pos (c := (p.den : Rat) + (q.den : Rat)) (by grind), e, ← h, ← ord_pos (a := p) (b := q) hq]
  exact ord_diff (by grind)
theorem med2 (h : ordQ p q = k) : ordQ (medQ p q) q = k := by
  have hp : (0 : Rat) < (p.den : Rat) := Rat.natCast_pos.2 (den_pos p)
  have hq : (0 : Rat) < (q.den : Rat) := Rat.natCast_pos.2 (den_pos q)
  have e := medQ_eq p q
  rw [← ord_pos (c := (p.den : Rat) + (q.den : Rat)) (by grind), e, ← h, ← ord_pos (a := p) (b := q) hp]
  exact ord_diff (by grind)
theorem half1 (h : ordQ p q = k) : ordQ p ((p + q) * (1 / 2 : Rat)) = k := by
  have e1 : p < (p + q) * (1 / 2 : Rat) ↔ p < q := by constructor <;> intro h <;> grind
  have e2 : p = (p + q) * (1 / 2 : Rat) ↔ p = q := by constructor <;> intro h <;> grind
  rw [← h]; unfold ordQ; simp only [e1, e2]
theorem half2 (h : ordQ p q = k) : ordQ ((p + q) * (1 / 2 : Rat)) q = k := by
  have e1 : (p + q) * (1 / 2 : Rat) < q ↔ p < q := by constructor <;> intro h <;> grind
  have e2 : (p + q) * (1 / 2 : Rat) = q ↔ p = q := by constructor <;> intro h <;> grind
  rw [← h]; unfold ordQ; simp only [e1, e2]
theorem BQ.med (hp : BQ n p) (hq : BQ n q) : BQ (n + 1) (medQ p q) := by
  unfold medQ
  refine norm_BQ _ (add_abs hp.1 hq.1) ?_
  have h1 := hp.2
  have h2 := hq.2
  rw [Nat.pow_succ]; omega
theorem addPn_f {a b : Nat} (h : a + b < Lim) : FitsP 16 [pn a, pn b] [] (.tup [pn (a + b), ok0]) := by
  rw [← im_pn, ← im_pn, ← im_pn]
  have ha : LimI (a : Int) := by unfold LimI; omega
  have hb : LimI (b : Int) := by unfold LimI; omega
  have hs : LimI ((a : Int) + (b : Int)) := by unfold LimI; omega
  have := addI_f ha hb hs
  rw [← Int.natCast_add] at this; exact this
theorem dsum_lim (hp : BQ 20 p) (hq : BQ 20 q) : p.den + q.den < Lim := by
  have := hp.2
  have := hq.2
  refine lim_of (n := 21) ?_ (by omega)
  rw [Nat.pow_succ]; omega
theorem half_bq : BQ 1 (1 / 2 : Rat) := ⟨by decide +kernel, by decide +kernel⟩
end

set_option maxRecDepth 100000 in
theorem RatioBetween_fit {p q : Rat} {k : Int} (hp : BQ 20 p) (hq : BQ 20 q) (hk : ordQ p q = k) : FitsP 12 [rq p, rq q] [] (.one (boolS true)) := by
  have hT : AllOk Tryz.prog Glob [
    Tr.call (nat_lit 24) [] [] (Av.one (Sv.cel (Cv.raw (Value.bool true)))),
    Tr.call (nat_lit 32) [Sv.cel (Cv.row (nat_lit 7) (nat_lit 0) (nat_lit 2) (nat_lit 2))] [(nat_lit 7, { t := nat_lit 43, cs := [Cv.raw (Value.bool (decide (Rat.num p < (0 : Int)))), Cv.ent (nat (Int.natAbs (Rat.num p))), Cv.ent (nat (Rat.den p)), Cv.raw (Value.bool (decide (Rat.num q < (0 : Int)))), Cv.ent (nat (Int.natAbs (Rat.num q))), Cv.ent (nat (Rat.den q))], own := true })] (Av.one (Sv.cel (Cv.raw (Value.bool true)))),
    Tr.call (nat_lit 16) [Sv.agg [Cv.raw (Value.bool (decide (Rat.num p < (0 : Int)))), Cv.ent (nat (Int.natAbs (Rat.num p)))], Sv.agg [Cv.raw (Value.bool (decide (Rat.num q < (0 : Int)))), Cv.ent (nat (Int.natAbs (Rat.num q)))]] [] (Av.tup [Sv.agg [Cv.raw (Value.bool (decide (Rat.num p + Rat.num q < (0 : Int)))), Cv.ent (nat (Int.natAbs (Rat.num p + Rat.num q)))], Sv.cel (Cv.raw (Value.int IntKind.i64 (Int.ofNat (nat_lit 0))))]),
    Tr.call (nat_lit 30) [Sv.cel (Cv.ent (nat (Rat.den p)))] [] (Av.one (Sv.agg [Cv.raw (Value.bool false), Cv.ent (nat (Rat.den p))])),
    Tr.call (nat_lit 30) [Sv.cel (Cv.ent (nat (Rat.den q)))] [] (Av.one (Sv.agg [Cv.raw (Value.bool false), Cv.ent (nat (Rat.den q))])),
    Tr.call (nat_lit 16) [Sv.agg [Cv.raw (Value.bool false), Cv.ent (nat (Rat.den p))], Sv.agg [Cv.raw (Value.bool false), Cv.ent (nat (Rat.den q))]] [] (Av.tup [Sv.agg [Cv.raw (Value.bool false), Cv.ent (nat (Rat.den p + Rat.den q))], Sv.cel (Cv.raw (Value.int IntKind.i64 (Int.ofNat (nat_lit 0))))]),
    Tr.call (nat_lit 26) [Sv.agg [Cv.raw (Value.bool (decide (Rat.num p + Rat.num q < (0 : Int)))), Cv.ent (nat (Int.natAbs (Rat.num p + Rat.num q)))], Sv.agg [Cv.raw (Value.bool false), Cv.ent (nat (Rat.den p + Rat.den q))]] [] (Av.tup [Sv.agg [Cv.raw (Value.bool (decide (Rat.num (medQ p q) < (0 : Int)))), Cv.ent (nat (Int.natAbs (Rat.num (medQ p q)))), Cv.ent (nat (Rat.den (medQ p q)))], Sv.cel (Cv.raw (Value.int IntKind.i64 (Int.ofNat (nat_lit 0))))]),
    Tr.call (nat_lit 33) [Sv.agg [Cv.raw (Value.bool (decide (Rat.num p < (0 : Int)))), Cv.ent (nat (Int.natAbs (Rat.num p))), Cv.ent (nat (Rat.den p))], Sv.agg [Cv.raw (Value.bool (decide (Rat.num q < (0 : Int)))), Cv.ent (nat (Int.natAbs (Rat.num q))), Cv.ent (nat (Rat.den q))]] [] (Av.tup [Sv.agg [Cv.raw (Value.bool (decide (Rat.num (p + q) < (0 : Int)))), Cv.ent (nat (Int.natAbs (Rat.num (p + q)))), Cv.ent (nat (Rat.den (p + q)))], Sv.cel (Cv.raw (Value.int IntKind.i64 (Int.ofNat (nat_lit 0))))]),
    Tr.call (nat_lit 55) [Sv.cel (Cv.raw (Value.int IntKind.i64 (Int.ofNat (nat_lit 1)))), Sv.cel (Cv.raw (Value.int IntKind.i64 (Int.ofNat (nat_lit 2))))] [] (Av.one (Sv.agg [Cv.raw (Value.bool (decide (Rat.num (1 / 2 : Rat) < (0 : Int)))), Cv.ent (nat (Int.natAbs (Rat.num (1 / 2 : Rat)))), Cv.ent (nat (Rat.den (1 / 2 : Rat)))])),
    Tr.call (nat_lit 35) [Sv.agg [Cv.raw (Value.bool (decide (Rat.num (p + q) < (0 : Int)))), Cv.ent (nat (Int.natAbs (Rat.num (p + q)))), Cv.ent (nat (Rat.den (p + q)))], Sv.agg [Cv.raw (Value.bool (decide (Rat.num (1 / 2 : Rat) < (0 : Int)))), Cv.ent (nat (Int.natAbs (Rat.num (1 / 2 : Rat)))), Cv.ent (nat (Rat.den (1 / 2 : Rat)))]] [] (Av.tup [Sv.agg [Cv.raw (Value.bool (decide (Rat.num ((p + q) * (1 / 2 : Rat)) < (0 : Int)))), Cv.ent (nat (Int.natAbs (Rat.num ((p + q) * (1 / 2 : Rat))))), Cv.ent (nat (Rat.den ((p + q) * (1 / 2 : Rat))))], Sv.cel (Cv.raw (Value.int IntKind.i64 (Int.ofNat (nat_lit 0))))]),
    Tr.call (nat_lit 39) [Sv.agg [Cv.raw (Value.bool (decide (Rat.num p < (0 : Int)))), Cv.ent (nat (Int.natAbs (Rat.num p))), Cv.ent (nat (Rat.den p))], Sv.agg [Cv.raw (Value.bool (decide (Rat.num q < (0 : Int)))), Cv.ent (nat (Int.natAbs (Rat.num q))), Cv.ent (nat (Rat.den q))]] [] (Av.tup [Sv.cel (Cv.raw (Value.int IntKind.i64 k)), Sv.cel (Cv.raw (Value.int IntKind.i64 (Int.ofNat (nat_lit 0))))]),
    Tr.call (nat_lit 39) [Sv.agg [Cv.raw (Value.bool (decide (Rat.num p < (0 : Int)))), Cv.ent (nat (Int.natAbs (Rat.num p))), Cv.ent (nat (Rat.den p))], Sv.agg [Cv.raw (Value.bool (decide (Rat.num (medQ p q) < (0 : Int)))), Cv.ent (nat (Int.natAbs (Rat.num (medQ p q)))), Cv.ent (nat (Rat.den (medQ p q)))]] [] (Av.tup [Sv.cel (Cv.raw (Value.int IntKind.i64 k)), Sv.cel (Cv.raw (Value.int IntKind.i64 (Int.ofNat (nat_lit 0))))]),
    Tr.call (nat_lit 39) [Sv.agg [Cv.raw (Value.bool (decide (Rat.num (medQ p q) < (0 : Int)))), Cv.ent (nat (Int.natAbs (Rat.num (medQ p q)))), Cv.ent (nat (Rat.den (medQ p q)))], Sv.agg [Cv.raw (Value.bool (decide (Rat.num q < (0 : Int)))), Cv.ent (nat (Int.natAbs (Rat.num q))), Cv.ent (nat (Rat.den q))]] [] (Av.tup [Sv.cel (Cv.raw (Value.int IntKind.i64 k)), Sv.cel (Cv.raw (Value.int IntKind.i64 (Int.ofNat (nat_lit 0))))]),
    Tr.call (nat_lit 39) [Sv.agg [Cv.raw (Value.bool (decide (Rat.num p < (0 : Int)))), Cv.ent (nat (Int.natAbs (Rat.num p))), Cv.ent (nat (Rat.den p))], Sv.agg [Cv.raw (Value.bool (decide (Rat.num ((p + q) * (1 / 2 : Rat)) < (0 : Int)))), Cv.ent (nat (Int.natAbs (Rat.num ((p + q) * (1 / 2 : Rat))))), Cv.ent (nat (Rat.den ((p + q) * (1 / 2 : Rat))))]] [] (Av.tup [Sv.cel (Cv.raw (Value.int IntKind.i64 k)), Sv.cel (Cv.raw (Value.int IntKind.i64 (Int.ofNat (nat_lit 0))))]),
    Tr.call (nat_lit 39) [Sv.agg [Cv.raw (Value.bool (decide (Rat.num ((p + q) * (1 / 2 : Rat)) < (0 : Int)))), Cv.ent (nat (Int.natAbs (Rat.num ((p + q) * (1 / 2 : Rat))))), Cv.ent (nat (Rat.den ((p + q) * (1 / 2 : Rat))))], Sv.agg [Cv.raw (Value.bool (decide (Rat.num q < (0 : Int)))), Cv.ent (nat (Int.natAbs (Rat.num q))), Cv.ent (nat (Rat.den q))]] [] (Av.tup [Sv.cel (Cv.raw (Value.int IntKind.i64 k)), Sv.cel (Cv.raw (Value.int IntKind.i64 (Int.ofNat (nat_lit 0))))]),
    Tr.norm (nat_lit 180) (Av.one (Sv.cel (Cv.raw (Value.bool (k == k))))) (Av.one (Sv.cel (Cv.raw (Value.bool true)))),
    Tr.norm (nat_lit 185) (Av.one (Sv.cel (Cv.raw (Value.bool (k == k))))) (Av.one (Sv.cel (Cv.raw (Value.bool true)))),
    Tr.norm (nat_lit 190) (Av.one (Sv.cel (Cv.raw (Value.bool (k == k))))) (Av.one (Sv.cel (Cv.raw (Value.bool true)))),
    Tr.norm (nat_lit 194) (Av.one (Sv.cel (Cv.raw (Value.bool (k == k))))) (Av.one (Sv.cel (Cv.raw (Value.bool true))))] := ⟨
    parts_f,
    fitTwo_f hp hq _ _,
    addI_f (hp.num (by omega)) (hq.num (by omega)) (lim_of (add_abs hp.1 hq.1) (by omega)),
    nat_pn,
    nat_pn,
    addPn_f (dsum_lim hp hq),
    make1_f (lim_of (add_abs hp.1 hq.1) (by omega)) (dsum_lim hp hq) _,
    addQ_f hp hq (by omega),
    ofQ_lit (a := 1) (d := 2) _ (by decide +kernel) (by decide +kernel) (by decide +kernel) (by decide +kernel),
    mulQ_f (hp.add hq) half_bq (by omega),
    cmp_lit hp hq (by omega) hk,
    cmp_lit hp (hp.med hq) (by omega) (med1 hk),
    cmp_lit (hp.med hq) hq (by omega) (med2 hk),
    cmp_lit hp ((hp.add hq).mul half_bq) (by omega) (half1 hk),
    cmp_lit ((hp.add hq).mul half_bq) hq (by omega) (half2 hk),
    norm_bool (beq_self_int k),
    norm_bool (beq_self_int k),
    norm_bool (beq_self_int k),
    norm_bool (beq_self_int k), trivial⟩
  exact fits_of_trace (n := 600) (k0 := 0) hT Tryz.func12 (by kernel_rfl) (by kernel_rfl) (by kernel_rfl)

set_option maxRecDepth 100000 in
theorem RatioBetween_unfit (m0 : Bool) (e0 d0 : Ent) (m1 : Bool) (e1 d1 : Ent) (hu : ∀ (x : Nat) (o : Bool), FitsP 32 [Sv.cel (Cv.row x 0 2 2)] [(x, ⟨43, [.raw (.bool m0), .ent e0, .ent d0, .raw (.bool m1), .ent e1, .ent d1], o⟩)] (.one (boolS false))) : FitsP 12 [.agg [.raw (.bool m0), .ent e0, .ent d0], .agg [.raw (.bool m1), .ent e1, .ent d1]] [] (.one (boolS true)) := by
  have hT : AllOk Tryz.prog Glob [
    Tr.call (nat_lit 24) [] [] (Av.one (Sv.cel (Cv.raw (Value.bool true)))),
    Tr.call (nat_lit 32) [Sv.cel (Cv.row (nat_lit 7) (nat_lit 0) (nat_lit 2) (nat_lit 2))] [(nat_lit 7, { t := nat_lit 43, cs := [Cv.raw (Value.bool m0), Cv.ent e0, Cv.ent d0, Cv.raw (Value.bool m1), Cv.ent e1, Cv.ent d1], own := true })] (Av.one (Sv.cel (Cv.raw (Value.bool false))))] := ⟨
    parts_f,
    hu _ _, trivial⟩
  exact fits_of_trace (n := 300) (k0 := 0) hT Tryz.func12 (by kernel_rfl) (by kernel_rfl) (by kernel_rfl)

theorem RatioBetween_un0 {m : Bool} {xs ds : List Nat} (hu : Unfit m xs ds) (m1 : Bool) (a1 b1 : List Nat) : FitsP 12 [ag m xs ds, ag m1 a1 b1] [] (.one (boolS true)) := RatioBetween_unfit _ _ _ _ _ _ fun x o => unfit2_0 hu m1 a1 b1 x o

theorem RatioBetween_un1 {q0 : Rat} (h0 : BQ 20 q0) {m : Bool} {xs ds : List Nat} (hu : Unfit m xs ds) : FitsP 12 [rq q0, ag m xs ds] [] (.one (boolS true)) := RatioBetween_unfit _ _ _ _ _ _ fun x o => unfit2_1 h0 hu x o
end Go.Proofs.YtlgfjgkcgimdoaaGreatDoor
