/- Layer 4: the same, and what fits. -/
import Derived.Test.YtlgfjgkcgimdoaaGreatDoorRatFit
import Derived.Test.YtlgfjgkcgimdoaaGreatDoorRatL
namespace Go.Proofs.YtlgfjgkcgimdoaaGreatDoor
open Go Go.RowKit Go.Shelf AM
theorem sameI_is {z1 z2 : Int} {b : Bool} (h : decide (z1 = z2) = b) : FitsP 21 [im z1, im z2] [] (.one (boolS b)) := by subst h; exact sameI_f
theorem cmpN_is {x y : Nat} {k : Int} (h : ord3 x y = k) : FitsP 45 [natS x, natS y] [] (.one (intS k)) := by subst h; exact cmp_f
theorem ord3_self (x : Nat) : ord3 x x = 0 := by unfold ord3; simp
theorem ord3_ne {x y : Nat} (h : x ≠ y) : ord3 x y ≠ 0 := by unfold ord3; split <;> (try split) <;> omega

set_option maxRecDepth 100000 in
theorem sameEq_f {p q : Rat} (h : p = q) : FitsP 28 [rq p, rq q] [] (.one (boolS true)) := by
  have hT : AllOk Tryz.prog Glob [
    Tr.call (nat_lit 21) [Sv.agg [Cv.raw (Value.bool (decide (Rat.num p < (0 : Int)))), Cv.ent (nat (Int.natAbs (Rat.num p)))], Sv.agg [Cv.raw (Value.bool (decide (Rat.num q < (0 : Int)))), Cv.ent (nat (Int.natAbs (Rat.num q)))]] [] (Av.one (Sv.cel (Cv.raw (Value.bool true)))),
    Tr.call (nat_lit 45) [Sv.cel (Cv.ent (nat (Rat.den p))), Sv.cel (Cv.ent (nat (Rat.den q)))] [] (Av.one (Sv.cel (Cv.raw (Value.int IntKind.i64 (Int.ofNat (nat_lit 0))))))] := ⟨
    sameI_is (by rw [h]; simp),
    cmpN_is (by rw [h]; exact ord3_self _), trivial⟩
  exact fits_of_trace (n := 300) (k0 := 0) hT Tryz.func28 (by kernel_rfl) (by kernel_rfl) (by kernel_rfl)

set_option maxRecDepth 100000 in
theorem sameNum_f {p q : Rat} (h : p.num ≠ q.num) : FitsP 28 [rq p, rq q] [] (.one (boolS false)) := by
  have hT : AllOk Tryz.prog Glob [
    Tr.call (nat_lit 21) [Sv.agg [Cv.raw (Value.bool (decide (Rat.num p < (0 : Int)))), Cv.ent (nat (Int.natAbs (Rat.num p)))], Sv.agg [Cv.raw (Value.bool (decide (Rat.num q < (0 : Int)))), Cv.ent (nat (Int.natAbs (Rat.num q)))]] [] (Av.one (Sv.cel (Cv.raw (Value.bool false))))] := ⟨
    sameI_is (decide_eq_false h), trivial⟩
  exact fits_of_trace (n := 300) (k0 := 0) hT Tryz.func28 (by kernel_rfl) (by kernel_rfl) (by kernel_rfl)

set_option maxRecDepth 100000 in
theorem sameDen_f {p q : Rat} {k : Int} (h : p.num = q.num) (hk : ord3 p.den q.den = k) (h0 : k ≠ 0) : FitsP 28 [rq p, rq q] [] (.one (boolS false)) := by
  have hT : AllOk Tryz.prog Glob [
    Tr.call (nat_lit 21) [Sv.agg [Cv.raw (Value.bool (decide (Rat.num p < (0 : Int)))), Cv.ent (nat (Int.natAbs (Rat.num p)))], Sv.agg [Cv.raw (Value.bool (decide (Rat.num q < (0 : Int)))), Cv.ent (nat (Int.natAbs (Rat.num q)))]] [] (Av.one (Sv.cel (Cv.raw (Value.bool true)))),
    Tr.call (nat_lit 45) [Sv.cel (Cv.ent (nat (Rat.den p))), Sv.cel (Cv.ent (nat (Rat.den q)))] [] (Av.one (Sv.cel (Cv.raw (Value.int IntKind.i64 k))))] := ⟨
    sameI_is (decide_eq_true h),
    cmpN_is hk, trivial⟩
  exact Fits.res (r := (.one (Sv.cel (Cv.raw (Value.bool (k == (0 : Int))))))) (fits_of_trace (n := 300) (k0 := 0) hT Tryz.func28 (by kernel_rfl) (by kernel_rfl) (by kernel_rfl)) (norm_bool (eq_false h0))

theorem same_f {p q : Rat} : FitsP 28 [rq p, rq q] [] (.one (boolS (decide (p = q)))) := by
  by_cases h : p = q
  · rw [decide_eq_true h]; exact sameEq_f h
  · rw [decide_eq_false h]
    by_cases h1 : p.num = q.num
    · exact sameDen_f h1 rfl (ord3_ne fun e => h (Rat.ext h1 e))
    · exact sameNum_f h1
theorem sameNot_f {p q : Rat} (h : p ≠ q) : FitsP 28 [rq p, rq q] [] (.one (boolS false)) := by
  have := same_f (p := p) (q := q); rw [decide_eq_false h] at this; exact this
theorem fitOne_f {p : Rat} (hp : BQ 20 p) (x : Nat) (o : Bool) : FitsP 32 [Sv.cel (Cv.row x 0 1 1)] [(x, ⟨43, [.raw (.bool (decide (p.num < 0))), .ent (nat p.num.natAbs), .ent (nat p.den)], o⟩)] (.one (boolS true)) := Fits.row (pre := []) (fit1_1_0_0 hp) rfl rfl rfl x o
theorem fitTwo_f {p q : Rat} (hp : BQ 20 p) (hq : BQ 20 q) (x : Nat) (o : Bool) : FitsP 32 [Sv.cel (Cv.row x 0 2 2)] [(x, ⟨43, [.raw (.bool (decide (p.num < 0))), .ent (nat p.num.natAbs), .ent (nat p.den), .raw (.bool (decide (q.num < 0))), .ent (nat q.num.natAbs), .ent (nat q.den)], o⟩)] (.one (boolS true)) := Fits.row (pre := []) (fit2_2_0_0 hp hq) rfl rfl rfl x o
theorem fitThree_f {p q r : Rat} (hp : BQ 20 p) (hq : BQ 20 q) (hr : BQ 20 r) (x : Nat) (o : Bool) : FitsP 32 [Sv.cel (Cv.row x 0 3 3)] [(x, ⟨43, [.raw (.bool (decide (p.num < 0))), .ent (nat p.num.natAbs), .ent (nat p.den), .raw (.bool (decide (q.num < 0))), .ent (nat q.num.natAbs), .ent (nat q.den), .raw (.bool (decide (r.num < 0))), .ent (nat r.num.natAbs), .ent (nat r.den)], o⟩)] (.one (boolS true)) := Fits.row (pre := []) (fit3_3_0_0 hp hq hr) rfl rfl rfl x o

theorem unfit1_0 {m : Bool} {xs ds : List Nat} (hu : Unfit m xs ds) (x : Nat) (o : Bool) : FitsP 32 [Sv.cel (Cv.row x 0 1 1)] [(x, ⟨43, [.raw (.bool m), .ent (argE xs), .ent (argE ds)], o⟩)] (.one (boolS false)) := by
  refine Fits.row (pre := []) (f := 32) (n := 1) (c := 1) (t := 43) (o := true) ?_ rfl rfl rfl x o
  rcases hu with hu | ⟨hx, hu⟩ | ⟨hx, hy, c, hc, hu⟩
  · exact fit1_0_1_0 hu
  · exact fit1_0_2_0 hx hu
  · exact fit1_0_3_0 hx hy hc hu

theorem unfit2_0 {m : Bool} {xs ds : List Nat} (hu : Unfit m xs ds) (m1 : Bool) (a1 b1 : List Nat) (x : Nat) (o : Bool) : FitsP 32 [Sv.cel (Cv.row x 0 2 2)] [(x, ⟨43, [.raw (.bool m), .ent (argE xs), .ent (argE ds), .raw (.bool m1), .ent (argE a1), .ent (argE b1)], o⟩)] (.one (boolS false)) := by
  refine Fits.row (pre := []) (f := 32) (n := 2) (c := 2) (t := 43) (o := true) ?_ rfl rfl rfl x o
  rcases hu with hu | ⟨hx, hu⟩ | ⟨hx, hy, c, hc, hu⟩
  · exact fit2_0_1_0 m1 a1 b1 hu
  · exact fit2_0_2_0 m1 a1 b1 hx hu
  · exact fit2_0_3_0 m1 a1 b1 hx hy hc hu

theorem unfit2_1 {q0 : Rat} (h0 : BQ 20 q0) {m : Bool} {xs ds : List Nat} (hu : Unfit m xs ds) (x : Nat) (o : Bool) : FitsP 32 [Sv.cel (Cv.row x 0 2 2)] [(x, ⟨43, [.raw (.bool (decide (q0.num < 0))), .ent (nat q0.num.natAbs), .ent (nat q0.den), .raw (.bool m), .ent (argE xs), .ent (argE ds)], o⟩)] (.one (boolS false)) := by
  refine Fits.row (pre := []) (f := 32) (n := 2) (c := 2) (t := 43) (o := true) ?_ rfl rfl rfl x o
  rcases hu with hu | ⟨hx, hu⟩ | ⟨hx, hy, c, hc, hu⟩
  · exact fit2_1_1_0 h0 hu
  · exact fit2_1_2_0 h0 hx hu
  · exact fit2_1_3_0 h0 hx hy hc hu

theorem unfit3_0 {m : Bool} {xs ds : List Nat} (hu : Unfit m xs ds) (m1 : Bool) (a1 b1 : List Nat) (m2 : Bool) (a2 b2 : List Nat) (x : Nat) (o : Bool) : FitsP 32 [Sv.cel (Cv.row x 0 3 3)] [(x, ⟨43, [.raw (.bool m), .ent (argE xs), .ent (argE ds), .raw (.bool m1), .ent (argE a1), .ent (argE b1), .raw (.bool m2), .ent (argE a2), .ent (argE b2)], o⟩)] (.one (boolS false)) := by
  refine Fits.row (pre := []) (f := 32) (n := 3) (c := 3) (t := 43) (o := true) ?_ rfl rfl rfl x o
  rcases hu with hu | ⟨hx, hu⟩ | ⟨hx, hy, c, hc, hu⟩
  · exact fit3_0_1_0 m1 a1 b1 m2 a2 b2 hu
  · exact fit3_0_2_0 m1 a1 b1 m2 a2 b2 hx hu
  · exact fit3_0_3_0 m1 a1 b1 m2 a2 b2 hx hy hc hu

theorem unfit3_1 {q0 : Rat} (h0 : BQ 20 q0) {m : Bool} {xs ds : List Nat} (hu : Unfit m xs ds) (m2 : Bool) (a2 b2 : List Nat) (x : Nat) (o : Bool) : FitsP 32 [Sv.cel (Cv.row x 0 3 3)] [(x, ⟨43, [.raw (.bool (decide (q0.num < 0))), .ent (nat q0.num.natAbs), .ent (nat q0.den), .raw (.bool m), .ent (argE xs), .ent (argE ds), .raw (.bool m2), .ent (argE a2), .ent (argE b2)], o⟩)] (.one (boolS false)) := by
  refine Fits.row (pre := []) (f := 32) (n := 3) (c := 3) (t := 43) (o := true) ?_ rfl rfl rfl x o
  rcases hu with hu | ⟨hx, hu⟩ | ⟨hx, hy, c, hc, hu⟩
  · exact fit3_1_1_0 h0 m2 a2 b2 hu
  · exact fit3_1_2_0 h0 m2 a2 b2 hx hu
  · exact fit3_1_3_0 h0 m2 a2 b2 hx hy hc hu

theorem unfit3_2 {q0 : Rat} (h0 : BQ 20 q0) {q1 : Rat} (h1 : BQ 20 q1) {m : Bool} {xs ds : List Nat} (hu : Unfit m xs ds) (x : Nat) (o : Bool) : FitsP 32 [Sv.cel (Cv.row x 0 3 3)] [(x, ⟨43, [.raw (.bool (decide (q0.num < 0))), .ent (nat q0.num.natAbs), .ent (nat q0.den), .raw (.bool (decide (q1.num < 0))), .ent (nat q1.num.natAbs), .ent (nat q1.den), .raw (.bool m), .ent (argE xs), .ent (argE ds)], o⟩)] (.one (boolS false)) := by
  refine Fits.row (pre := []) (f := 32) (n := 3) (c := 3) (t := 43) (o := true) ?_ rfl rfl rfl x o
  rcases hu with hu | ⟨hx, hu⟩ | ⟨hx, hy, c, hc, hu⟩
  · exact fit3_2_1_0 h0 h1 hu
  · exact fit3_2_2_0 h0 h1 hx hu
  · exact fit3_2_3_0 h0 h1 hx hy hc hu
end Go.Proofs.YtlgfjgkcgimdoaaGreatDoor
