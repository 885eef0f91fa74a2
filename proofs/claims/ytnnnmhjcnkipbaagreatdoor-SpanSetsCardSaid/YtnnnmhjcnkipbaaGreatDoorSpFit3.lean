/- Which three spans may be. -/
import Derived.Test.YtnnnmhjcnkipbaaGreatDoorSpFit
namespace Go.Proofs.YtnnnmhjcnkipbaaGreatDoor
open Go Go.RowKit Go.Shelf AM
set_option maxRecDepth 100000 in
theorem sfit3_0_1 {m : Bool} {xs : List Nat} {e : Int} {m' : Bool} {ys : List Nat} {e' : Int} (m1 : Bool) (a1 : List Nat) (e1 : Int) (n1 : Bool) (b1 : List Nat) (f1 : Int) (m2 : Bool) (a2 : List Nat) (e2 : Int) (n2 : Bool) (b2 : List Nat) (f2 : Int) (hu : 10 < xs.length) : FitsP 15 [Sv.cel (Cv.row 0 0 3 3)] [(0, ⟨29, [.raw (.bool m), .ent (argE xs), .raw (.int .i64 e), .raw (.bool m'), .ent (argE ys), .raw (.int .i64 e'), .raw (.bool m1), .ent (argE a1), .raw (.int .i64 e1), .raw (.bool n1), .ent (argE b1), .raw (.int .i64 f1), .raw (.bool m2), .ent (argE a2), .raw (.int .i64 e2), .raw (.bool n2), .ent (argE b2), .raw (.int .i64 f2)], true⟩)] (.one (boolS false)) := by
  have hT : AllOk Tryz.prog Glob [
    Tr.norm (nat_lit 27) (Av.one (Sv.cel (Cv.raw (Value.bool (decide ((↑(List.length xs) : Int) > (10 : Int))))))) (Av.one (Sv.cel (Cv.raw (Value.bool true))))] := ⟨
    norm_bool (gt_true hu), trivial⟩
  exact fits_of_trace (n := 300) (k0 := 1) hT Tryz.func15 (by kernel_rfl) (by kernel_rfl) (by kernel_rfl)

set_option maxRecDepth 100000 in
theorem sfit3_0_2 {m : Bool} {xs : List Nat} {e : Int} {m' : Bool} {ys : List Nat} {e' : Int} (m1 : Bool) (a1 : List Nat) (e1 : Int) (n1 : Bool) (b1 : List Nat) (f1 : Int) (m2 : Bool) (a2 : List Nat) (e2 : Int) (n2 : Bool) (b2 : List Nat) (f2 : Int) (hx : xs.length ≤ 10) (hu : 200 < e) : FitsP 15 [Sv.cel (Cv.row 0 0 3 3)] [(0, ⟨29, [.raw (.bool m), .ent (argE xs), .raw (.int .i64 e), .raw (.bool m'), .ent (argE ys), .raw (.int .i64 e'), .raw (.bool m1), .ent (argE a1), .raw (.int .i64 e1), .raw (.bool n1), .ent (argE b1), .raw (.int .i64 f1), .raw (.bool m2), .ent (argE a2), .raw (.int .i64 e2), .raw (.bool n2), .ent (argE b2), .raw (.int .i64 f2)], true⟩)] (.one (boolS false)) := by
  have hT : AllOk Tryz.prog Glob [
    Tr.norm (nat_lit 27) (Av.one (Sv.cel (Cv.raw (Value.bool (decide ((↑(List.length xs) : Int) > (10 : Int))))))) (Av.one (Sv.cel (Cv.raw (Value.bool false)))),
    Tr.norm (nat_lit 32) (Av.one (Sv.cel (Cv.raw (Value.bool (decide (e > (200 : Int))))))) (Av.one (Sv.cel (Cv.raw (Value.bool true))))] := ⟨
    norm_bool (gt_false hx),
    norm_bool (decide_eq_true (show e > 200 from hu)), trivial⟩
  exact fits_of_trace (n := 300) (k0 := 1) hT Tryz.func15 (by kernel_rfl) (by kernel_rfl) (by kernel_rfl)

set_option maxRecDepth 100000 in
theorem sfit3_0_3 {m : Bool} {xs : List Nat} {e : Int} {m' : Bool} {ys : List Nat} {e' : Int} (m1 : Bool) (a1 : List Nat) (e1 : Int) (n1 : Bool) (b1 : List Nat) (f1 : Int) (m2 : Bool) (a2 : List Nat) (e2 : Int) (n2 : Bool) (b2 : List Nat) (f2 : Int) (hx : xs.length ≤ 10) (hu : e < -200) : FitsP 15 [Sv.cel (Cv.row 0 0 3 3)] [(0, ⟨29, [.raw (.bool m), .ent (argE xs), .raw (.int .i64 e), .raw (.bool m'), .ent (argE ys), .raw (.int .i64 e'), .raw (.bool m1), .ent (argE a1), .raw (.int .i64 e1), .raw (.bool n1), .ent (argE b1), .raw (.int .i64 f1), .raw (.bool m2), .ent (argE a2), .raw (.int .i64 e2), .raw (.bool n2), .ent (argE b2), .raw (.int .i64 f2)], true⟩)] (.one (boolS false)) := by
  have hT : AllOk Tryz.prog Glob [
    Tr.norm (nat_lit 27) (Av.one (Sv.cel (Cv.raw (Value.bool (decide ((↑(List.length xs) : Int) > (10 : Int))))))) (Av.one (Sv.cel (Cv.raw (Value.bool false)))),
    Tr.norm (nat_lit 32) (Av.one (Sv.cel (Cv.raw (Value.bool (decide (e > (200 : Int))))))) (Av.one (Sv.cel (Cv.raw (Value.bool false)))),
    Tr.norm (nat_lit 36) (Av.one (Sv.cel (Cv.raw (Value.bool (decide (e < (-200 : Int))))))) (Av.one (Sv.cel (Cv.raw (Value.bool true))))] := ⟨
    norm_bool (gt_false hx),
    norm_bool (decide_eq_false (show ¬ e > 200 by omega)),
    norm_bool (decide_eq_true hu), trivial⟩
  exact fits_of_trace (n := 300) (k0 := 1) hT Tryz.func15 (by kernel_rfl) (by kernel_rfl) (by kernel_rfl)

set_option maxRecDepth 100000 in
theorem sfit3_0_4 {m : Bool} {xs : List Nat} {e : Int} {m' : Bool} {ys : List Nat} {e' : Int} (m1 : Bool) (a1 : List Nat) (e1 : Int) (n1 : Bool) (b1 : List Nat) (f1 : Int) (m2 : Bool) (a2 : List Nat) (e2 : Int) (n2 : Bool) (b2 : List Nat) (f2 : Int) (hx : xs.length ≤ 10) (h1 : e ≤ 200) (h2 : -200 ≤ e) (hu : 10 < ys.length) : FitsP 15 [Sv.cel (Cv.row 0 0 3 3)] [(0, ⟨29, [.raw (.bool m), .ent (argE xs), .raw (.int .i64 e), .raw (.bool m'), .ent (argE ys), .raw (.int .i64 e'), .raw (.bool m1), .ent (argE a1), .raw (.int .i64 e1), .raw (.bool n1), .ent (argE b1), .raw (.int .i64 f1), .raw (.bool m2), .ent (argE a2), .raw (.int .i64 e2), .raw (.bool n2), .ent (argE b2), .raw (.int .i64 f2)], true⟩)] (.one (boolS false)) := by
  have hT : AllOk Tryz.prog Glob [
    Tr.norm (nat_lit 27) (Av.one (Sv.cel (Cv.raw (Value.bool (decide ((↑(List.length xs) : Int) > (10 : Int))))))) (Av.one (Sv.cel (Cv.raw (Value.bool false)))),
    Tr.norm (nat_lit 32) (Av.one (Sv.cel (Cv.raw (Value.bool (decide (e > (200 : Int))))))) (Av.one (Sv.cel (Cv.raw (Value.bool false)))),
    Tr.norm (nat_lit 36) (Av.one (Sv.cel (Cv.raw (Value.bool (decide (e < (-200 : Int))))))) (Av.one (Sv.cel (Cv.raw (Value.bool false)))),
    Tr.norm (nat_lit 49) (Av.one (Sv.cel (Cv.raw (Value.bool (decide ((↑(List.length ys) : Int) > (10 : Int))))))) (Av.one (Sv.cel (Cv.raw (Value.bool true))))] := ⟨
    norm_bool (gt_false hx),
    norm_bool (decide_eq_false (show ¬ e > 200 by omega)),
    norm_bool (decide_eq_false (show ¬ e < -200 by omega)),
    norm_bool (gt_true hu), trivial⟩
  exact fits_of_trace (n := 300) (k0 := 1) hT Tryz.func15 (by kernel_rfl) (by kernel_rfl) (by kernel_rfl)

set_option maxRecDepth 100000 in
theorem sfit3_0_5 {m : Bool} {xs : List Nat} {e : Int} {m' : Bool} {ys : List Nat} {e' : Int} (m1 : Bool) (a1 : List Nat) (e1 : Int) (n1 : Bool) (b1 : List Nat) (f1 : Int) (m2 : Bool) (a2 : List Nat) (e2 : Int) (n2 : Bool) (b2 : List Nat) (f2 : Int) (hx : xs.length ≤ 10) (h1 : e ≤ 200) (h2 : -200 ≤ e) (hy : ys.length ≤ 10) (hu : 200 < e') : FitsP 15 [Sv.cel (Cv.row 0 0 3 3)] [(0, ⟨29, [.raw (.bool m), .ent (argE xs), .raw (.int .i64 e), .raw (.bool m'), .ent (argE ys), .raw (.int .i64 e'), .raw (.bool m1), .ent (argE a1), .raw (.int .i64 e1), .raw (.bool n1), .ent (argE b1), .raw (.int .i64 f1), .raw (.bool m2), .ent (argE a2), .raw (.int .i64 e2), .raw (.bool n2), .ent (argE b2), .raw (.int .i64 f2)], true⟩)] (.one (boolS false)) := by
  have hT : AllOk Tryz.prog Glob [
    Tr.norm (nat_lit 27) (Av.one (Sv.cel (Cv.raw (Value.bool (decide ((↑(List.length xs) : Int) > (10 : Int))))))) (Av.one (Sv.cel (Cv.raw (Value.bool false)))),
    Tr.norm (nat_lit 32) (Av.one (Sv.cel (Cv.raw (Value.bool (decide (e > (200 : Int))))))) (Av.one (Sv.cel (Cv.raw (Value.bool false)))),
    Tr.norm (nat_lit 36) (Av.one (Sv.cel (Cv.raw (Value.bool (decide (e < (-200 : Int))))))) (Av.one (Sv.cel (Cv.raw (Value.bool false)))),
    Tr.norm (nat_lit 49) (Av.one (Sv.cel (Cv.raw (Value.bool (decide ((↑(List.length ys) : Int) > (10 : Int))))))) (Av.one (Sv.cel (Cv.raw (Value.bool false)))),
    Tr.norm (nat_lit 54) (Av.one (Sv.cel (Cv.raw (Value.bool (decide (e' > (200 : Int))))))) (Av.one (Sv.cel (Cv.raw (Value.bool true))))] := ⟨
    norm_bool (gt_false hx),
    norm_bool (decide_eq_false (show ¬ e > 200 by omega)),
    norm_bool (decide_eq_false (show ¬ e < -200 by omega)),
    norm_bool (gt_false hy),
    norm_bool (decide_eq_true (show e' > 200 from hu)), trivial⟩
  exact fits_of_trace (n := 300) (k0 := 1) hT Tryz.func15 (by kernel_rfl) (by kernel_rfl) (by kernel_rfl)

set_option maxRecDepth 100000 in
theorem sfit3_0_6 {m : Bool} {xs : List Nat} {e : Int} {m' : Bool} {ys : List Nat} {e' : Int} (m1 : Bool) (a1 : List Nat) (e1 : Int) (n1 : Bool) (b1 : List Nat) (f1 : Int) (m2 : Bool) (a2 : List Nat) (e2 : Int) (n2 : Bool) (b2 : List Nat) (f2 : Int) (hx : xs.length ≤ 10) (h1 : e ≤ 200) (h2 : -200 ≤ e) (hy : ys.length ≤ 10) (hu : e' < -200) : FitsP 15 [Sv.cel (Cv.row 0 0 3 3)] [(0, ⟨29, [.raw (.bool m), .ent (argE xs), .raw (.int .i64 e), .raw (.bool m'), .ent (argE ys), .raw (.int .i64 e'), .raw (.bool m1), .ent (argE a1), .raw (.int .i64 e1), .raw (.bool n1), .ent (argE b1), .raw (.int .i64 f1), .raw (.bool m2), .ent (argE a2), .raw (.int .i64 e2), .raw (.bool n2), .ent (argE b2), .raw (.int .i64 f2)], true⟩)] (.one (boolS false)) := by
  have hT : AllOk Tryz.prog Glob [
    Tr.norm (nat_lit 27) (Av.one (Sv.cel (Cv.raw (Value.bool (decide ((↑(List.length xs) : Int) > (10 : Int))))))) (Av.one (Sv.cel (Cv.raw (Value.bool false)))),
    Tr.norm (nat_lit 32) (Av.one (Sv.cel (Cv.raw (Value.bool (decide (e > (200 : Int))))))) (Av.one (Sv.cel (Cv.raw (Value.bool false)))),
    Tr.norm (nat_lit 36) (Av.one (Sv.cel (Cv.raw (Value.bool (decide (e < (-200 : Int))))))) (Av.one (Sv.cel (Cv.raw (Value.bool false)))),
    Tr.norm (nat_lit 49) (Av.one (Sv.cel (Cv.raw (Value.bool (decide ((↑(List.length ys) : Int) > (10 : Int))))))) (Av.one (Sv.cel (Cv.raw (Value.bool false)))),
    Tr.norm (nat_lit 54) (Av.one (Sv.cel (Cv.raw (Value.bool (decide (e' > (200 : Int))))))) (Av.one (Sv.cel (Cv.raw (Value.bool false)))),
    Tr.norm (nat_lit 58) (Av.one (Sv.cel (Cv.raw (Value.bool (decide (e' < (-200 : Int))))))) (Av.one (Sv.cel (Cv.raw (Value.bool true))))] := ⟨
    norm_bool (gt_false hx),
    norm_bool (decide_eq_false (show ¬ e > 200 by omega)),
    norm_bool (decide_eq_false (show ¬ e < -200 by omega)),
    norm_bool (gt_false hy),
    norm_bool (decide_eq_false (show ¬ e' > 200 by omega)),
    norm_bool (decide_eq_true hu), trivial⟩
  exact fits_of_trace (n := 300) (k0 := 1) hT Tryz.func15 (by kernel_rfl) (by kernel_rfl) (by kernel_rfl)

set_option maxRecDepth 100000 in
theorem sfit3_0_7 {m : Bool} {xs : List Nat} {e : Int} {m' : Bool} {ys : List Nat} {e' : Int} (m1 : Bool) (a1 : List Nat) (e1 : Int) (n1 : Bool) (b1 : List Nat) (f1 : Int) (m2 : Bool) (a2 : List Nat) (e2 : Int) (n2 : Bool) (b2 : List Nat) (f2 : Int) (hx : xs.length ≤ 10) (h1 : e ≤ 200) (h2 : -200 ≤ e) (hy : ys.length ≤ 10) (g1 : e' ≤ 200) (g2 : -200 ≤ e') {c : Int} (hc : c ≠ 0) (hu : FitsP 75 [spA m xs e m' ys e'] [] (.one (intS c))) : FitsP 15 [Sv.cel (Cv.row 0 0 3 3)] [(0, ⟨29, [.raw (.bool m), .ent (argE xs), .raw (.int .i64 e), .raw (.bool m'), .ent (argE ys), .raw (.int .i64 e'), .raw (.bool m1), .ent (argE a1), .raw (.int .i64 e1), .raw (.bool n1), .ent (argE b1), .raw (.int .i64 f1), .raw (.bool m2), .ent (argE a2), .raw (.int .i64 e2), .raw (.bool n2), .ent (argE b2), .raw (.int .i64 f2)], true⟩)] (.one (boolS false)) := by
  have hT : AllOk Tryz.prog Glob [
    Tr.norm (nat_lit 27) (Av.one (Sv.cel (Cv.raw (Value.bool (decide ((↑(List.length xs) : Int) > (10 : Int))))))) (Av.one (Sv.cel (Cv.raw (Value.bool false)))),
    Tr.norm (nat_lit 32) (Av.one (Sv.cel (Cv.raw (Value.bool (decide (e > (200 : Int))))))) (Av.one (Sv.cel (Cv.raw (Value.bool false)))),
    Tr.norm (nat_lit 36) (Av.one (Sv.cel (Cv.raw (Value.bool (decide (e < (-200 : Int))))))) (Av.one (Sv.cel (Cv.raw (Value.bool false)))),
    Tr.norm (nat_lit 49) (Av.one (Sv.cel (Cv.raw (Value.bool (decide ((↑(List.length ys) : Int) > (10 : Int))))))) (Av.one (Sv.cel (Cv.raw (Value.bool false)))),
    Tr.norm (nat_lit 54) (Av.one (Sv.cel (Cv.raw (Value.bool (decide (e' > (200 : Int))))))) (Av.one (Sv.cel (Cv.raw (Value.bool false)))),
    Tr.norm (nat_lit 58) (Av.one (Sv.cel (Cv.raw (Value.bool (decide (e' < (-200 : Int))))))) (Av.one (Sv.cel (Cv.raw (Value.bool false)))),
    Tr.call 75 [Sv.agg [Cv.raw (Value.bool m), Cv.ent (argE xs), Cv.raw (Value.int IntKind.i64 e), Cv.raw (Value.bool m'), Cv.ent (argE ys), Cv.raw (Value.int IntKind.i64 e')]] [] (Av.one (Sv.cel (Cv.raw (Value.int IntKind.i64 c)))),
    Tr.norm (nat_lit 64) (Av.one (Sv.cel (Cv.raw (Value.bool (c != (0 : Int)))))) (Av.one (Sv.cel (Cv.raw (Value.bool true))))] := ⟨
    norm_bool (gt_false hx),
    norm_bool (decide_eq_false (show ¬ e > 200 by omega)),
    norm_bool (decide_eq_false (show ¬ e < -200 by omega)),
    norm_bool (gt_false hy),
    norm_bool (decide_eq_false (show ¬ e' > 200 by omega)),
    norm_bool (decide_eq_false (show ¬ e' < -200 by omega)),
    hu,
    norm_bool (ne_true hc), trivial⟩
  exact fits_of_trace (n := 300) (k0 := 1) hT Tryz.func15 (by kernel_rfl) (by kernel_rfl) (by kernel_rfl)

set_option maxRecDepth 100000 in
theorem sfit3_1_1 {x0 y0 : Dy} (q0 : FitS x0 y0) {m : Bool} {xs : List Nat} {e : Int} {m' : Bool} {ys : List Nat} {e' : Int} (m2 : Bool) (a2 : List Nat) (e2 : Int) (n2 : Bool) (b2 : List Nat) (f2 : Int) (hu : 10 < xs.length) : FitsP 15 [Sv.cel (Cv.row 0 0 3 3)] [(0, ⟨29, [.raw (.bool (decide (x0.m < 0))), .ent (nat x0.m.natAbs), .raw (.int .i64 x0.e), .raw (.bool (decide (y0.m < 0))), .ent (nat y0.m.natAbs), .raw (.int .i64 y0.e), .raw (.bool m), .ent (argE xs), .raw (.int .i64 e), .raw (.bool m'), .ent (argE ys), .raw (.int .i64 e'), .raw (.bool m2), .ent (argE a2), .raw (.int .i64 e2), .raw (.bool n2), .ent (argE b2), .raw (.int .i64 f2)], true⟩)] (.one (boolS false)) := by
  have hT : AllOk Tryz.prog Glob [
    Tr.norm (nat_lit 27) (Av.one (Sv.cel (Cv.raw (Value.bool (decide ((↑(lenN (Int.natAbs (Dy.m x0))) : Int) > (10 : Int))))))) (Av.one (Sv.cel (Cv.raw (Value.bool false)))),
    Tr.norm (nat_lit 32) (Av.one (Sv.cel (Cv.raw (Value.bool (decide (Dy.e x0 > (200 : Int))))))) (Av.one (Sv.cel (Cv.raw (Value.bool false)))),
    Tr.norm (nat_lit 36) (Av.one (Sv.cel (Cv.raw (Value.bool (decide (Dy.e x0 < (-200 : Int))))))) (Av.one (Sv.cel (Cv.raw (Value.bool false)))),
    Tr.norm (nat_lit 49) (Av.one (Sv.cel (Cv.raw (Value.bool (decide ((↑(lenN (Int.natAbs (Dy.m y0))) : Int) > (10 : Int))))))) (Av.one (Sv.cel (Cv.raw (Value.bool false)))),
    Tr.norm (nat_lit 54) (Av.one (Sv.cel (Cv.raw (Value.bool (decide (Dy.e y0 > (200 : Int))))))) (Av.one (Sv.cel (Cv.raw (Value.bool false)))),
    Tr.norm (nat_lit 58) (Av.one (Sv.cel (Cv.raw (Value.bool (decide (Dy.e y0 < (-200 : Int))))))) (Av.one (Sv.cel (Cv.raw (Value.bool false)))),
    Tr.call 75 [Sv.agg [Cv.raw (Value.bool (decide (Dy.m x0 < (0 : Int)))), Cv.ent (nat (Int.natAbs (Dy.m x0))), Cv.raw (Value.int IntKind.i64 (Dy.e x0)), Cv.raw (Value.bool (decide (Dy.m y0 < (0 : Int)))), Cv.ent (nat (Int.natAbs (Dy.m y0))), Cv.raw (Value.int IntKind.i64 (Dy.e y0))]] [] (Av.one (Sv.cel (Cv.raw (Value.int IntKind.i64 (Int.ofNat (nat_lit 0)))))),
    Tr.norm (nat_lit 89) (Av.one (Sv.cel (Cv.raw (Value.bool (decide ((↑(List.length xs) : Int) > (10 : Int))))))) (Av.one (Sv.cel (Cv.raw (Value.bool true))))] := ⟨
    norm_bool (q0.a.len),
    norm_bool (decide_eq_false (show ¬ x0.e > 200 by have := q0.a.hi; omega)),
    norm_bool (decide_eq_false (show ¬ x0.e < -200 by have := q0.a.lo; omega)),
    norm_bool (q0.b.len),
    norm_bool (decide_eq_false (show ¬ y0.e > 200 by have := q0.b.hi; omega)),
    norm_bool (decide_eq_false (show ¬ y0.e < -200 by have := q0.b.lo; omega)),
    checkS_f q0.a.bd q0.b.bd (by omega) q0.no,
    norm_bool (gt_true hu), trivial⟩
  exact fits_of_trace (n := 300) (k0 := 1) hT Tryz.func15 (by kernel_rfl) (by kernel_rfl) (by kernel_rfl)

set_option maxRecDepth 100000 in
theorem sfit3_1_2 {x0 y0 : Dy} (q0 : FitS x0 y0) {m : Bool} {xs : List Nat} {e : Int} {m' : Bool} {ys : List Nat} {e' : Int} (m2 : Bool) (a2 : List Nat) (e2 : Int) (n2 : Bool) (b2 : List Nat) (f2 : Int) (hx : xs.length ≤ 10) (hu : 200 < e) : FitsP 15 [Sv.cel (Cv.row 0 0 3 3)] [(0, ⟨29, [.raw (.bool (decide (x0.m < 0))), .ent (nat x0.m.natAbs), .raw (.int .i64 x0.e), .raw (.bool (decide (y0.m < 0))), .ent (nat y0.m.natAbs), .raw (.int .i64 y0.e), .raw (.bool m), .ent (argE xs), .raw (.int .i64 e), .raw (.bool m'), .ent (argE ys), .raw (.int .i64 e'), .raw (.bool m2), .ent (argE a2), .raw (.int .i64 e2), .raw (.bool n2), .ent (argE b2), .raw (.int .i64 f2)], true⟩)] (.one (boolS false)) := by
  have hT : AllOk Tryz.prog Glob [
    Tr.norm (nat_lit 27) (Av.one (Sv.cel (Cv.raw (Value.bool (decide ((↑(lenN (Int.natAbs (Dy.m x0))) : Int) > (10 : Int))))))) (Av.one (Sv.cel (Cv.raw (Value.bool false)))),
    Tr.norm (nat_lit 32) (Av.one (Sv.cel (Cv.raw (Value.bool (decide (Dy.e x0 > (200 : Int))))))) (Av.one (Sv.cel (Cv.raw (Value.bool false)))),
    Tr.norm (nat_lit 36) (Av.one (Sv.cel (Cv.raw (Value.bool (decide (Dy.e x0 < (-200 : Int))))))) (Av.one (Sv.cel (Cv.raw (Value.bool false)))),
    Tr.norm (nat_lit 49) (Av.one (Sv.cel (Cv.raw (Value.bool (decide ((↑(lenN (Int.natAbs (Dy.m y0))) : Int) > (10 : Int))))))) (Av.one (Sv.cel (Cv.raw (Value.bool false)))),
    Tr.norm (nat_lit 54) (Av.one (Sv.cel (Cv.raw (Value.bool (decide (Dy.e y0 > (200 : Int))))))) (Av.one (Sv.cel (Cv.raw (Value.bool false)))),
    Tr.norm (nat_lit 58) (Av.one (Sv.cel (Cv.raw (Value.bool (decide (Dy.e y0 < (-200 : Int))))))) (Av.one (Sv.cel (Cv.raw (Value.bool false)))),
    Tr.call 75 [Sv.agg [Cv.raw (Value.bool (decide (Dy.m x0 < (0 : Int)))), Cv.ent (nat (Int.natAbs (Dy.m x0))), Cv.raw (Value.int IntKind.i64 (Dy.e x0)), Cv.raw (Value.bool (decide (Dy.m y0 < (0 : Int)))), Cv.ent (nat (Int.natAbs (Dy.m y0))), Cv.raw (Value.int IntKind.i64 (Dy.e y0))]] [] (Av.one (Sv.cel (Cv.raw (Value.int IntKind.i64 (Int.ofNat (nat_lit 0)))))),
    Tr.norm (nat_lit 89) (Av.one (Sv.cel (Cv.raw (Value.bool (decide ((↑(List.length xs) : Int) > (10 : Int))))))) (Av.one (Sv.cel (Cv.raw (Value.bool false)))),
    Tr.norm (nat_lit 94) (Av.one (Sv.cel (Cv.raw (Value.bool (decide (e > (200 : Int))))))) (Av.one (Sv.cel (Cv.raw (Value.bool true))))] := ⟨
    norm_bool (q0.a.len),
    norm_bool (decide_eq_false (show ¬ x0.e > 200 by have := q0.a.hi; omega)),
    norm_bool (decide_eq_false (show ¬ x0.e < -200 by have := q0.a.lo; omega)),
    norm_bool (q0.b.len),
    norm_bool (decide_eq_false (show ¬ y0.e > 200 by have := q0.b.hi; omega)),
    norm_bool (decide_eq_false (show ¬ y0.e < -200 by have := q0.b.lo; omega)),
    checkS_f q0.a.bd q0.b.bd (by omega) q0.no,
    norm_bool (gt_false hx),
    norm_bool (decide_eq_true (show e > 200 from hu)), trivial⟩
  exact fits_of_trace (n := 300) (k0 := 1) hT Tryz.func15 (by kernel_rfl) (by kernel_rfl) (by kernel_rfl)

set_option maxRecDepth 100000 in
theorem sfit3_1_3 {x0 y0 : Dy} (q0 : FitS x0 y0) {m : Bool} {xs : List Nat} {e : Int} {m' : Bool} {ys : List Nat} {e' : Int} (m2 : Bool) (a2 : List Nat) (e2 : Int) (n2 : Bool) (b2 : List Nat) (f2 : Int) (hx : xs.length ≤ 10) (hu : e < -200) : FitsP 15 [Sv.cel (Cv.row 0 0 3 3)] [(0, ⟨29, [.raw (.bool (decide (x0.m < 0))), .ent (nat x0.m.natAbs), .raw (.int .i64 x0.e), .raw (.bool (decide (y0.m < 0))), .ent (nat y0.m.natAbs), .raw (.int .i64 y0.e), .raw (.bool m), .ent (argE xs), .raw (.int .i64 e), .raw (.bool m'), .ent (argE ys), .raw (.int .i64 e'), .raw (.bool m2), .ent (argE a2), .raw (.int .i64 e2), .raw (.bool n2), .ent (argE b2), .raw (.int .i64 f2)], true⟩)] (.one (boolS false)) := by
  have hT : AllOk Tryz.prog Glob [
    Tr.norm (nat_lit 27) (Av.one (Sv.cel (Cv.raw (Value.bool (decide ((↑(lenN (Int.natAbs (Dy.m x0))) : Int) > (10 : Int))))))) (Av.one (Sv.cel (Cv.raw (Value.bool false)))),
    Tr.norm (nat_lit 32) (Av.one (Sv.cel (Cv.raw (Value.bool (decide (Dy.e x0 > (200 : Int))))))) (Av.one (Sv.cel (Cv.raw (Value.bool false)))),
    Tr.norm (nat_lit 36) (Av.one (Sv.cel (Cv.raw (Value.bool (decide (Dy.e x0 < (-200 : Int))))))) (Av.one (Sv.cel (Cv.raw (Value.bool false)))),
    Tr.norm (nat_lit 49) (Av.one (Sv.cel (Cv.raw (Value.bool (decide ((↑(lenN (Int.natAbs (Dy.m y0))) : Int) > (10 : Int))))))) (Av.one (Sv.cel (Cv.raw (Value.bool false)))),
    Tr.norm (nat_lit 54) (Av.one (Sv.cel (Cv.raw (Value.bool (decide (Dy.e y0 > (200 : Int))))))) (Av.one (Sv.cel (Cv.raw (Value.bool false)))),
    Tr.norm (nat_lit 58) (Av.one (Sv.cel (Cv.raw (Value.bool (decide (Dy.e y0 < (-200 : Int))))))) (Av.one (Sv.cel (Cv.raw (Value.bool false)))),
    Tr.call 75 [Sv.agg [Cv.raw (Value.bool (decide (Dy.m x0 < (0 : Int)))), Cv.ent (nat (Int.natAbs (Dy.m x0))), Cv.raw (Value.int IntKind.i64 (Dy.e x0)), Cv.raw (Value.bool (decide (Dy.m y0 < (0 : Int)))), Cv.ent (nat (Int.natAbs (Dy.m y0))), Cv.raw (Value.int IntKind.i64 (Dy.e y0))]] [] (Av.one (Sv.cel (Cv.raw (Value.int IntKind.i64 (Int.ofNat (nat_lit 0)))))),
    Tr.norm (nat_lit 89) (Av.one (Sv.cel (Cv.raw (Value.bool (decide ((↑(List.length xs) : Int) > (10 : Int))))))) (Av.one (Sv.cel (Cv.raw (Value.bool false)))),
    Tr.norm (nat_lit 94) (Av.one (Sv.cel (Cv.raw (Value.bool (decide (e > (200 : Int))))))) (Av.one (Sv.cel (Cv.raw (Value.bool false)))),
    Tr.norm (nat_lit 98) (Av.one (Sv.cel (Cv.raw (Value.bool (decide (e < (-200 : Int))))))) (Av.one (Sv.cel (Cv.raw (Value.bool true))))] := ⟨
    norm_bool (q0.a.len),
    norm_bool (decide_eq_false (show ¬ x0.e > 200 by have := q0.a.hi; omega)),
    norm_bool (decide_eq_false (show ¬ x0.e < -200 by have := q0.a.lo; omega)),
    norm_bool (q0.b.len),
    norm_bool (decide_eq_false (show ¬ y0.e > 200 by have := q0.b.hi; omega)),
    norm_bool (decide_eq_false (show ¬ y0.e < -200 by have := q0.b.lo; omega)),
    checkS_f q0.a.bd q0.b.bd (by omega) q0.no,
    norm_bool (gt_false hx),
    norm_bool (decide_eq_false (show ¬ e > 200 by omega)),
    norm_bool (decide_eq_true hu), trivial⟩
  exact fits_of_trace (n := 300) (k0 := 1) hT Tryz.func15 (by kernel_rfl) (by kernel_rfl) (by kernel_rfl)

set_option maxRecDepth 100000 in
theorem sfit3_1_4 {x0 y0 : Dy} (q0 : FitS x0 y0) {m : Bool} {xs : List Nat} {e : Int} {m' : Bool} {ys : List Nat} {e' : Int} (m2 : Bool) (a2 : List Nat) (e2 : Int) (n2 : Bool) (b2 : List Nat) (f2 : Int) (hx : xs.length ≤ 10) (h1 : e ≤ 200) (h2 : -200 ≤ e) (hu : 10 < ys.length) : FitsP 15 [Sv.cel (Cv.row 0 0 3 3)] [(0, ⟨29, [.raw (.bool (decide (x0.m < 0))), .ent (nat x0.m.natAbs), .raw (.int .i64 x0.e), .raw (.bool (decide (y0.m < 0))), .ent (nat y0.m.natAbs), .raw (.int .i64 y0.e), .raw (.bool m), .ent (argE xs), .raw (.int .i64 e), .raw (.bool m'), .ent (argE ys), .raw (.int .i64 e'), .raw (.bool m2), .ent (argE a2), .raw (.int .i64 e2), .raw (.bool n2), .ent (argE b2), .raw (.int .i64 f2)], true⟩)] (.one (boolS false)) := by
  have hT : AllOk Tryz.prog Glob [
    Tr.norm (nat_lit 27) (Av.one (Sv.cel (Cv.raw (Value.bool (decide ((↑(lenN (Int.natAbs (Dy.m x0))) : Int) > (10 : Int))))))) (Av.one (Sv.cel (Cv.raw (Value.bool false)))),
    Tr.norm (nat_lit 32) (Av.one (Sv.cel (Cv.raw (Value.bool (decide (Dy.e x0 > (200 : Int))))))) (Av.one (Sv.cel (Cv.raw (Value.bool false)))),
    Tr.norm (nat_lit 36) (Av.one (Sv.cel (Cv.raw (Value.bool (decide (Dy.e x0 < (-200 : Int))))))) (Av.one (Sv.cel (Cv.raw (Value.bool false)))),
    Tr.norm (nat_lit 49) (Av.one (Sv.cel (Cv.raw (Value.bool (decide ((↑(lenN (Int.natAbs (Dy.m y0))) : Int) > (10 : Int))))))) (Av.one (Sv.cel (Cv.raw (Value.bool false)))),
    Tr.norm (nat_lit 54) (Av.one (Sv.cel (Cv.raw (Value.bool (decide (Dy.e y0 > (200 : Int))))))) (Av.one (Sv.cel (Cv.raw (Value.bool false)))),
    Tr.norm (nat_lit 58) (Av.one (Sv.cel (Cv.raw (Value.bool (decide (Dy.e y0 < (-200 : Int))))))) (Av.one (Sv.cel (Cv.raw (Value.bool false)))),
    Tr.call 75 [Sv.agg [Cv.raw (Value.bool (decide (Dy.m x0 < (0 : Int)))), Cv.ent (nat (Int.natAbs (Dy.m x0))), Cv.raw (Value.int IntKind.i64 (Dy.e x0)), Cv.raw (Value.bool (decide (Dy.m y0 < (0 : Int)))), Cv.ent (nat (Int.natAbs (Dy.m y0))), Cv.raw (Value.int IntKind.i64 (Dy.e y0))]] [] (Av.one (Sv.cel (Cv.raw (Value.int IntKind.i64 (Int.ofNat (nat_lit 0)))))),
    Tr.norm (nat_lit 89) (Av.one (Sv.cel (Cv.raw (Value.bool (decide ((↑(List.length xs) : Int) > (10 : Int))))))) (Av.one (Sv.cel (Cv.raw (Value.bool false)))),
    Tr.norm (nat_lit 94) (Av.one (Sv.cel (Cv.raw (Value.bool (decide (e > (200 : Int))))))) (Av.one (Sv.cel (Cv.raw (Value.bool false)))),
    Tr.norm (nat_lit 98) (Av.one (Sv.cel (Cv.raw (Value.bool (decide (e < (-200 : Int))))))) (Av.one (Sv.cel (Cv.raw (Value.bool false)))),
    Tr.norm (nat_lit 111) (Av.one (Sv.cel (Cv.raw (Value.bool (decide ((↑(List.length ys) : Int) > (10 : Int))))))) (Av.one (Sv.cel (Cv.raw (Value.bool true))))] := ⟨
    norm_bool (q0.a.len),
    norm_bool (decide_eq_false (show ¬ x0.e > 200 by have := q0.a.hi; omega)),
    norm_bool (decide_eq_false (show ¬ x0.e < -200 by have := q0.a.lo; omega)),
    norm_bool (q0.b.len),
    norm_bool (decide_eq_false (show ¬ y0.e > 200 by have := q0.b.hi; omega)),
    norm_bool (decide_eq_false (show ¬ y0.e < -200 by have := q0.b.lo; omega)),
    checkS_f q0.a.bd q0.b.bd (by omega) q0.no,
    norm_bool (gt_false hx),
    norm_bool (decide_eq_false (show ¬ e > 200 by omega)),
    norm_bool (decide_eq_false (show ¬ e < -200 by omega)),
    norm_bool (gt_true hu), trivial⟩
  exact fits_of_trace (n := 300) (k0 := 1) hT Tryz.func15 (by kernel_rfl) (by kernel_rfl) (by kernel_rfl)

set_option maxRecDepth 100000 in
theorem sfit3_1_5 {x0 y0 : Dy} (q0 : FitS x0 y0) {m : Bool} {xs : List Nat} {e : Int} {m' : Bool} {ys : List Nat} {e' : Int} (m2 : Bool) (a2 : List Nat) (e2 : Int) (n2 : Bool) (b2 : List Nat) (f2 : Int) (hx : xs.length ≤ 10) (h1 : e ≤ 200) (h2 : -200 ≤ e) (hy : ys.length ≤ 10) (hu : 200 < e') : FitsP 15 [Sv.cel (Cv.row 0 0 3 3)] [(0, ⟨29, [.raw (.bool (decide (x0.m < 0))), .ent (nat x0.m.natAbs), .raw (.int .i64 x0.e), .raw (.bool (decide (y0.m < 0))), .ent (nat y0.m.natAbs), .raw (.int .i64 y0.e), .raw (.bool m), .ent (argE xs), .raw (.int .i64 e), .raw (.bool m'), .ent (argE ys), .raw (.int .i64 e'), .raw (.bool m2), .ent (argE a2), .raw (.int .i64 e2), .raw (.bool n2), .ent (argE b2), .raw (.int .i64 f2)], true⟩)] (.one (boolS false)) := by
  have hT : AllOk Tryz.prog Glob [
    Tr.norm (nat_lit 27) (Av.one (Sv.cel (Cv.raw (Value.bool (decide ((↑(lenN (Int.natAbs (Dy.m x0))) : Int) > (10 : Int))))))) (Av.one (Sv.cel (Cv.raw (Value.bool false)))),
    Tr.norm (nat_lit 32) (Av.one (Sv.cel (Cv.raw (Value.bool (decide (Dy.e x0 > (200 : Int))))))) (Av.one (Sv.cel (Cv.raw (Value.bool false)))),
    Tr.norm (nat_lit 36) (Av.one (Sv.cel (Cv.raw (Value.bool (decide (Dy.e x0 < (-200 : Int))))))) (Av.one (Sv.cel (Cv.raw (Value.bool false)))),
    Tr.norm (nat_lit 49) (Av.one (Sv.cel (Cv.raw (Value.bool (decide ((↑(lenN (Int.natAbs (Dy.m y0))) : Int) > (10 : Int))))))) (Av.one (Sv.cel (Cv.raw (Value.bool false)))),
    Tr.norm (nat_lit 54) (Av.one (Sv.cel (Cv.raw (Value.bool (decide (Dy.e y0 > (200 : Int))))))) (Av.one (Sv.cel (Cv.raw (Value.bool false)))),
    Tr.norm (nat_lit 58) (Av.one (Sv.cel (Cv.raw (Value.bool (decide (Dy.e y0 < (-200 : Int))))))) (Av.one (Sv.cel (Cv.raw (Value.bool false)))),
    Tr.call 75 [Sv.agg [Cv.raw (Value.bool (decide (Dy.m x0 < (0 : Int)))), Cv.ent (nat (Int.natAbs (Dy.m x0))), Cv.raw (Value.int IntKind.i64 (Dy.e x0)), Cv.raw (Value.bool (decide (Dy.m y0 < (0 : Int)))), Cv.ent (nat (Int.natAbs (Dy.m y0))), Cv.raw (Value.int IntKind.i64 (Dy.e y0))]] [] (Av.one (Sv.cel (Cv.raw (Value.int IntKind.i64 (Int.ofNat (nat_lit 0)))))),
    Tr.norm (nat_lit 89) (Av.one (Sv.cel (Cv.raw (Value.bool (decide ((↑(List.length xs) : Int) > (10 : Int))))))) (Av.one (Sv.cel (Cv.raw (Value.bool false)))),
    Tr.norm (nat_lit 94) (Av.one (Sv.cel (Cv.raw (Value.bool (decide (e > (200 : Int))))))) (Av.one (Sv.cel (Cv.raw (Value.bool false)))),
    Tr.norm (nat_lit 98) (Av.one (Sv.cel (Cv.raw (Value.bool (decide (e < (-200 : Int))))))) (Av.one (Sv.cel (Cv.raw (Value.bool false)))),
    Tr.norm (nat_lit 111) (Av.one (Sv.cel (Cv.raw (Value.bool (decide ((↑(List.length ys) : Int) > (10 : Int))))))) (Av.one (Sv.cel (Cv.raw (Value.bool false)))),
    Tr.norm (nat_lit 116) (Av.one (Sv.cel (Cv.raw (Value.bool (decide (e' > (200 : Int))))))) (Av.one (Sv.cel (Cv.raw (Value.bool true))))] := ⟨
    norm_bool (q0.a.len),
    norm_bool (decide_eq_false (show ¬ x0.e > 200 by have := q0.a.hi; omega)),
    norm_bool (decide_eq_false (show ¬ x0.e < -200 by have := q0.a.lo; omega)),
    norm_bool (q0.b.len),
    norm_bool (decide_eq_false (show ¬ y0.e > 200 by have := q0.b.hi; omega)),
    norm_bool (decide_eq_false (show ¬ y0.e < -200 by have := q0.b.lo; omega)),
    checkS_f q0.a.bd q0.b.bd (by omega) q0.no,
    norm_bool (gt_false hx),
    norm_bool (decide_eq_false (show ¬ e > 200 by omega)),
    norm_bool (decide_eq_false (show ¬ e < -200 by omega)),
    norm_bool (gt_false hy),
    norm_bool (decide_eq_true (show e' > 200 from hu)), trivial⟩
  exact fits_of_trace (n := 300) (k0 := 1) hT Tryz.func15 (by kernel_rfl) (by kernel_rfl) (by kernel_rfl)

set_option maxRecDepth 100000 in
theorem sfit3_1_6 {x0 y0 : Dy} (q0 : FitS x0 y0) {m : Bool} {xs : List Nat} {e : Int} {m' : Bool} {ys : List Nat} {e' : Int} (m2 : Bool) (a2 : List Nat) (e2 : Int) (n2 : Bool) (b2 : List Nat) (f2 : Int) (hx : xs.length ≤ 10) (h1 : e ≤ 200) (h2 : -200 ≤ e) (hy : ys.length ≤ 10) (hu : e' < -200) : FitsP 15 [Sv.cel (Cv.row 0 0 3 3)] [(0, ⟨29, [.raw (.bool (decide (x0.m < 0))), .ent (nat x0.m.natAbs), .raw (.int .i64 x0.e), .raw (.bool (decide (y0.m < 0))), .ent (nat y0.m.natAbs), .raw (.int .i64 y0.e), .raw (.bool m), .ent (argE xs), .raw (.int .i64 e), .raw (.bool m'), .ent (argE ys), .raw (.int .i64 e'), .raw (.bool m2), .ent (argE a2), .raw (.int .i64 e2), .raw (.bool n2), .ent (argE b2), .raw (.int .i64 f2)], true⟩)] (.one (boolS false)) := by
  have hT : AllOk Tryz.prog Glob [
    Tr.norm (nat_lit 27) (Av.one (Sv.cel (Cv.raw (Value.bool (decide ((↑(lenN (Int.natAbs (Dy.m x0))) : Int) > (10 : Int))))))) (Av.one (Sv.cel (Cv.raw (Value.bool false)))),
    Tr.norm (nat_lit 32) (Av.one (Sv.cel (Cv.raw (Value.bool (decide (Dy.e x0 > (200 : Int))))))) (Av.one (Sv.cel (Cv.raw (Value.bool false)))),
    Tr.norm (nat_lit 36) (Av.one (Sv.cel (Cv.raw (Value.bool (decide (Dy.e x0 < (-200 : Int))))))) (Av.one (Sv.cel (Cv.raw (Value.bool false)))),
    Tr.norm (nat_lit 49) (Av.one (Sv.cel (Cv.raw (Value.bool (decide ((↑(lenN (Int.natAbs (Dy.m y0))) : Int) > (10 : Int))))))) (Av.one (Sv.cel (Cv.raw (Value.bool false)))),
    Tr.norm (nat_lit 54) (Av.one (Sv.cel (Cv.raw (Value.bool (decide (Dy.e y0 > (200 : Int))))))) (Av.one (Sv.cel (Cv.raw (Value.bool false)))),
    Tr.norm (nat_lit 58) (Av.one (Sv.cel (Cv.raw (Value.bool (decide (Dy.e y0 < (-200 : Int))))))) (Av.one (Sv.cel (Cv.raw (Value.bool false)))),
    Tr.call 75 [Sv.agg [Cv.raw (Value.bool (decide (Dy.m x0 < (0 : Int)))), Cv.ent (nat (Int.natAbs (Dy.m x0))), Cv.raw (Value.int IntKind.i64 (Dy.e x0)), Cv.raw (Value.bool (decide (Dy.m y0 < (0 : Int)))), Cv.ent (nat (Int.natAbs (Dy.m y0))), Cv.raw (Value.int IntKind.i64 (Dy.e y0))]] [] (Av.one (Sv.cel (Cv.raw (Value.int IntKind.i64 (Int.ofNat (nat_lit 0)))))),
    Tr.norm (nat_lit 89) (Av.one (Sv.cel (Cv.raw (Value.bool (decide ((↑(List.length xs) : Int) > (10 : Int))))))) (Av.one (Sv.cel (Cv.raw (Value.bool false)))),
    Tr.norm (nat_lit 94) (Av.one (Sv.cel (Cv.raw (Value.bool (decide (e > (200 : Int))))))) (Av.one (Sv.cel (Cv.raw (Value.bool false)))),
    Tr.norm (nat_lit 98) (Av.one (Sv.cel (Cv.raw (Value.bool (decide (e < (-200 : Int))))))) (Av.one (Sv.cel (Cv.raw (Value.bool false)))),
    Tr.norm (nat_lit 111) (Av.one (Sv.cel (Cv.raw (Value.bool (decide ((↑(List.length ys) : Int) > (10 : Int))))))) (Av.one (Sv.cel (Cv.raw (Value.bool false)))),
    Tr.norm (nat_lit 116) (Av.one (Sv.cel (Cv.raw (Value.bool (decide (e' > (200 : Int))))))) (Av.one (Sv.cel (Cv.raw (Value.bool false)))),
    Tr.norm (nat_lit 120) (Av.one (Sv.cel (Cv.raw (Value.bool (decide (e' < (-200 : Int))))))) (Av.one (Sv.cel (Cv.raw (Value.bool true))))] := ⟨
    norm_bool (q0.a.len),
    norm_bool (decide_eq_false (show ¬ x0.e > 200 by have := q0.a.hi; omega)),
    norm_bool (decide_eq_false (show ¬ x0.e < -200 by have := q0.a.lo; omega)),
    norm_bool (q0.b.len),
    norm_bool (decide_eq_false (show ¬ y0.e > 200 by have := q0.b.hi; omega)),
    norm_bool (decide_eq_false (show ¬ y0.e < -200 by have := q0.b.lo; omega)),
    checkS_f q0.a.bd q0.b.bd (by omega) q0.no,
    norm_bool (gt_false hx),
    norm_bool (decide_eq_false (show ¬ e > 200 by omega)),
    norm_bool (decide_eq_false (show ¬ e < -200 by omega)),
    norm_bool (gt_false hy),
    norm_bool (decide_eq_false (show ¬ e' > 200 by omega)),
    norm_bool (decide_eq_true hu), trivial⟩
  exact fits_of_trace (n := 300) (k0 := 1) hT Tryz.func15 (by kernel_rfl) (by kernel_rfl) (by kernel_rfl)

set_option maxRecDepth 100000 in
theorem sfit3_1_7 {x0 y0 : Dy} (q0 : FitS x0 y0) {m : Bool} {xs : List Nat} {e : Int} {m' : Bool} {ys : List Nat} {e' : Int} (m2 : Bool) (a2 : List Nat) (e2 : Int) (n2 : Bool) (b2 : List Nat) (f2 : Int) (hx : xs.length ≤ 10) (h1 : e ≤ 200) (h2 : -200 ≤ e) (hy : ys.length ≤ 10) (g1 : e' ≤ 200) (g2 : -200 ≤ e') {c : Int} (hc : c ≠ 0) (hu : FitsP 75 [spA m xs e m' ys e'] [] (.one (intS c))) : FitsP 15 [Sv.cel (Cv.row 0 0 3 3)] [(0, ⟨29, [.raw (.bool (decide (x0.m < 0))), .ent (nat x0.m.natAbs), .raw (.int .i64 x0.e), .raw (.bool (decide (y0.m < 0))), .ent (nat y0.m.natAbs), .raw (.int .i64 y0.e), .raw (.bool m), .ent (argE xs), .raw (.int .i64 e), .raw (.bool m'), .ent (argE ys), .raw (.int .i64 e'), .raw (.bool m2), .ent (argE a2), .raw (.int .i64 e2), .raw (.bool n2), .ent (argE b2), .raw (.int .i64 f2)], true⟩)] (.one (boolS false)) := by
  have hT : AllOk Tryz.prog Glob [
    Tr.norm (nat_lit 27) (Av.one (Sv.cel (Cv.raw (Value.bool (decide ((↑(lenN (Int.natAbs (Dy.m x0))) : Int) > (10 : Int))))))) (Av.one (Sv.cel (Cv.raw (Value.bool false)))),
    Tr.norm (nat_lit 32) (Av.one (Sv.cel (Cv.raw (Value.bool (decide (Dy.e x0 > (200 : Int))))))) (Av.one (Sv.cel (Cv.raw (Value.bool false)))),
    Tr.norm (nat_lit 36) (Av.one (Sv.cel (Cv.raw (Value.bool (decide (Dy.e x0 < (-200 : Int))))))) (Av.one (Sv.cel (Cv.raw (Value.bool false)))),
    Tr.norm (nat_lit 49) (Av.one (Sv.cel (Cv.raw (Value.bool (decide ((↑(lenN (Int.natAbs (Dy.m y0))) : Int) > (10 : Int))))))) (Av.one (Sv.cel (Cv.raw (Value.bool false)))),
    Tr.norm (nat_lit 54) (Av.one (Sv.cel (Cv.raw (Value.bool (decide (Dy.e y0 > (200 : Int))))))) (Av.one (Sv.cel (Cv.raw (Value.bool false)))),
    Tr.norm (nat_lit 58) (Av.one (Sv.cel (Cv.raw (Value.bool (decide (Dy.e y0 < (-200 : Int))))))) (Av.one (Sv.cel (Cv.raw (Value.bool false)))),
    Tr.call 75 [Sv.agg [Cv.raw (Value.bool (decide (Dy.m x0 < (0 : Int)))), Cv.ent (nat (Int.natAbs (Dy.m x0))), Cv.raw (Value.int IntKind.i64 (Dy.e x0)), Cv.raw (Value.bool (decide (Dy.m y0 < (0 : Int)))), Cv.ent (nat (Int.natAbs (Dy.m y0))), Cv.raw (Value.int IntKind.i64 (Dy.e y0))]] [] (Av.one (Sv.cel (Cv.raw (Value.int IntKind.i64 (Int.ofNat (nat_lit 0)))))),
    Tr.norm (nat_lit 89) (Av.one (Sv.cel (Cv.raw (Value.bool (decide ((↑(List.length xs) : Int) > (10 : Int))))))) (Av.one (Sv.cel (Cv.raw (Value.bool false)))),
    Tr.norm (nat_lit 94) (Av.one (Sv.cel (Cv.raw (Value.bool (decide (e > (200 : Int))))))) (Av.one (Sv.cel (Cv.raw (Value.bool false)))),
    Tr.norm (nat_lit 98) (Av.one (Sv.cel (Cv.raw (Value.bool (decide (e < (-200 : Int))))))) (Av.one (Sv.cel (Cv.raw (Value.bool false)))),
    Tr.norm (nat_lit 111) (Av.one (Sv.cel (Cv.raw (Value.bool (decide ((↑(List.length ys) : Int) > (10 : Int))))))) (Av.one (Sv.cel (Cv.raw (Value.bool false)))),
    Tr.norm (nat_lit 116) (Av.one (Sv.cel (Cv.raw (Value.bool (decide (e' > (200 : Int))))))) (Av.one (Sv.cel (Cv.raw (Value.bool false)))),
    Tr.norm (nat_lit 120) (Av.one (Sv.cel (Cv.raw (Value.bool (decide (e' < (-200 : Int))))))) (Av.one (Sv.cel (Cv.raw (Value.bool false)))),
    Tr.call 75 [Sv.agg [Cv.raw (Value.bool m), Cv.ent (argE xs), Cv.raw (Value.int IntKind.i64 e), Cv.raw (Value.bool m'), Cv.ent (argE ys), Cv.raw (Value.int IntKind.i64 e')]] [] (Av.one (Sv.cel (Cv.raw (Value.int IntKind.i64 c)))),
    Tr.norm (nat_lit 126) (Av.one (Sv.cel (Cv.raw (Value.bool (c != (0 : Int)))))) (Av.one (Sv.cel (Cv.raw (Value.bool true))))] := ⟨
    norm_bool (q0.a.len),
    norm_bool (decide_eq_false (show ¬ x0.e > 200 by have := q0.a.hi; omega)),
    norm_bool (decide_eq_false (show ¬ x0.e < -200 by have := q0.a.lo; omega)),
    norm_bool (q0.b.len),
    norm_bool (decide_eq_false (show ¬ y0.e > 200 by have := q0.b.hi; omega)),
    norm_bool (decide_eq_false (show ¬ y0.e < -200 by have := q0.b.lo; omega)),
    checkS_f q0.a.bd q0.b.bd (by omega) q0.no,
    norm_bool (gt_false hx),
    norm_bool (decide_eq_false (show ¬ e > 200 by omega)),
    norm_bool (decide_eq_false (show ¬ e < -200 by omega)),
    norm_bool (gt_false hy),
    norm_bool (decide_eq_false (show ¬ e' > 200 by omega)),
    norm_bool (decide_eq_false (show ¬ e' < -200 by omega)),
    hu,
    norm_bool (ne_true hc), trivial⟩
  exact fits_of_trace (n := 300) (k0 := 1) hT Tryz.func15 (by kernel_rfl) (by kernel_rfl) (by kernel_rfl)

set_option maxRecDepth 100000 in
theorem sfit3_2_1 {x0 y0 : Dy} (q0 : FitS x0 y0) {x1 y1 : Dy} (q1 : FitS x1 y1) {m : Bool} {xs : List Nat} {e : Int} {m' : Bool} {ys : List Nat} {e' : Int} (hu : 10 < xs.length) : FitsP 15 [Sv.cel (Cv.row 0 0 3 3)] [(0, ⟨29, [.raw (.bool (decide (x0.m < 0))), .ent (nat x0.m.natAbs), .raw (.int .i64 x0.e), .raw (.bool (decide (y0.m < 0))), .ent (nat y0.m.natAbs), .raw (.int .i64 y0.e), .raw (.bool (decide (x1.m < 0))), .ent (nat x1.m.natAbs), .raw (.int .i64 x1.e), .raw (.bool (decide (y1.m < 0))), .ent (nat y1.m.natAbs), .raw (.int .i64 y1.e), .raw (.bool m), .ent (argE xs), .raw (.int .i64 e), .raw (.bool m'), .ent (argE ys), .raw (.int .i64 e')], true⟩)] (.one (boolS false)) := by
  have hT : AllOk Tryz.prog Glob [
    Tr.norm (nat_lit 27) (Av.one (Sv.cel (Cv.raw (Value.bool (decide ((↑(lenN (Int.natAbs (Dy.m x0))) : Int) > (10 : Int))))))) (Av.one (Sv.cel (Cv.raw (Value.bool false)))),
    Tr.norm (nat_lit 32) (Av.one (Sv.cel (Cv.raw (Value.bool (decide (Dy.e x0 > (200 : Int))))))) (Av.one (Sv.cel (Cv.raw (Value.bool false)))),
    Tr.norm (nat_lit 36) (Av.one (Sv.cel (Cv.raw (Value.bool (decide (Dy.e x0 < (-200 : Int))))))) (Av.one (Sv.cel (Cv.raw (Value.bool false)))),
    Tr.norm (nat_lit 49) (Av.one (Sv.cel (Cv.raw (Value.bool (decide ((↑(lenN (Int.natAbs (Dy.m y0))) : Int) > (10 : Int))))))) (Av.one (Sv.cel (Cv.raw (Value.bool false)))),
    Tr.norm (nat_lit 54) (Av.one (Sv.cel (Cv.raw (Value.bool (decide (Dy.e y0 > (200 : Int))))))) (Av.one (Sv.cel (Cv.raw (Value.bool false)))),
    Tr.norm (nat_lit 58) (Av.one (Sv.cel (Cv.raw (Value.bool (decide (Dy.e y0 < (-200 : Int))))))) (Av.one (Sv.cel (Cv.raw (Value.bool false)))),
    Tr.call 75 [Sv.agg [Cv.raw (Value.bool (decide (Dy.m x0 < (0 : Int)))), Cv.ent (nat (Int.natAbs (Dy.m x0))), Cv.raw (Value.int IntKind.i64 (Dy.e x0)), Cv.raw (Value.bool (decide (Dy.m y0 < (0 : Int)))), Cv.ent (nat (Int.natAbs (Dy.m y0))), Cv.raw (Value.int IntKind.i64 (Dy.e y0))]] [] (Av.one (Sv.cel (Cv.raw (Value.int IntKind.i64 (Int.ofNat (nat_lit 0)))))),
    Tr.norm (nat_lit 89) (Av.one (Sv.cel (Cv.raw (Value.bool (decide ((↑(lenN (Int.natAbs (Dy.m x1))) : Int) > (10 : Int))))))) (Av.one (Sv.cel (Cv.raw (Value.bool false)))),
    Tr.norm (nat_lit 94) (Av.one (Sv.cel (Cv.raw (Value.bool (decide (Dy.e x1 > (200 : Int))))))) (Av.one (Sv.cel (Cv.raw (Value.bool false)))),
    Tr.norm (nat_lit 98) (Av.one (Sv.cel (Cv.raw (Value.bool (decide (Dy.e x1 < (-200 : Int))))))) (Av.one (Sv.cel (Cv.raw (Value.bool false)))),
    Tr.norm (nat_lit 111) (Av.one (Sv.cel (Cv.raw (Value.bool (decide ((↑(lenN (Int.natAbs (Dy.m y1))) : Int) > (10 : Int))))))) (Av.one (Sv.cel (Cv.raw (Value.bool false)))),
    Tr.norm (nat_lit 116) (Av.one (Sv.cel (Cv.raw (Value.bool (decide (Dy.e y1 > (200 : Int))))))) (Av.one (Sv.cel (Cv.raw (Value.bool false)))),
    Tr.norm (nat_lit 120) (Av.one (Sv.cel (Cv.raw (Value.bool (decide (Dy.e y1 < (-200 : Int))))))) (Av.one (Sv.cel (Cv.raw (Value.bool false)))),
    Tr.call 75 [Sv.agg [Cv.raw (Value.bool (decide (Dy.m x1 < (0 : Int)))), Cv.ent (nat (Int.natAbs (Dy.m x1))), Cv.raw (Value.int IntKind.i64 (Dy.e x1)), Cv.raw (Value.bool (decide (Dy.m y1 < (0 : Int)))), Cv.ent (nat (Int.natAbs (Dy.m y1))), Cv.raw (Value.int IntKind.i64 (Dy.e y1))]] [] (Av.one (Sv.cel (Cv.raw (Value.int IntKind.i64 (Int.ofNat (nat_lit 0)))))),
    Tr.norm (nat_lit 151) (Av.one (Sv.cel (Cv.raw (Value.bool (decide ((↑(List.length xs) : Int) > (10 : Int))))))) (Av.one (Sv.cel (Cv.raw (Value.bool true))))] := ⟨
    norm_bool (q0.a.len),
    norm_bool (decide_eq_false (show ¬ x0.e > 200 by have := q0.a.hi; omega)),
    norm_bool (decide_eq_false (show ¬ x0.e < -200 by have := q0.a.lo; omega)),
    norm_bool (q0.b.len),
    norm_bool (decide_eq_false (show ¬ y0.e > 200 by have := q0.b.hi; omega)),
    norm_bool (decide_eq_false (show ¬ y0.e < -200 by have := q0.b.lo; omega)),
    checkS_f q0.a.bd q0.b.bd (by omega) q0.no,
    norm_bool (q1.a.len),
    norm_bool (decide_eq_false (show ¬ x1.e > 200 by have := q1.a.hi; omega)),
    norm_bool (decide_eq_false (show ¬ x1.e < -200 by have := q1.a.lo; omega)),
    norm_bool (q1.b.len),
    norm_bool (decide_eq_false (show ¬ y1.e > 200 by have := q1.b.hi; omega)),
    norm_bool (decide_eq_false (show ¬ y1.e < -200 by have := q1.b.lo; omega)),
    checkS_f q1.a.bd q1.b.bd (by omega) q1.no,
    norm_bool (gt_true hu), trivial⟩
  exact fits_of_trace (n := 300) (k0 := 1) hT Tryz.func15 (by kernel_rfl) (by kernel_rfl) (by kernel_rfl)

set_option maxRecDepth 100000 in
theorem sfit3_2_2 {x0 y0 : Dy} (q0 : FitS x0 y0) {x1 y1 : Dy} (q1 : FitS x1 y1) {m : Bool} {xs : List Nat} {e : Int} {m' : Bool} {ys : List Nat} {e' : Int} (hx : xs.length ≤ 10) (hu : 200 < e) : FitsP 15 [Sv.cel (Cv.row 0 0 3 3)] [(0, ⟨29, [.raw (.bool (decide (x0.m < 0))), .ent (nat x0.m.natAbs), .raw (.int .i64 x0.e), .raw (.bool (decide (y0.m < 0))), .ent (nat y0.m.natAbs), .raw (.int .i64 y0.e), .raw (.bool (decide (x1.m < 0))), .ent (nat x1.m.natAbs), .raw (.int .i64 x1.e), .raw (.bool (decide (y1.m < 0))), .ent (nat y1.m.natAbs), .raw (.int .i64 y1.e), .raw (.bool m), .ent (argE xs), .raw (.int .i64 e), .raw (.bool m'), .ent (argE ys), .raw (.int .i64 e')], true⟩)] (.one (boolS false)) := by
  have hT : AllOk Tryz.prog Glob [
    Tr.norm (nat_lit 27) (Av.one (Sv.cel (Cv.raw (Value.bool (decide ((↑(lenN (Int.natAbs (Dy.m x0))) : Int) > (10 : Int))))))) (Av.one (Sv.cel (Cv.raw (Value.bool false)))),
    Tr.norm (nat_lit 32) (Av.one (Sv.cel (Cv.raw (Value.bool (decide (Dy.e x0 > (200 : Int))))))) (Av.one (Sv.cel (Cv.raw (Value.bool false)))),
    Tr.norm (nat_lit 36) (Av.one (Sv.cel (Cv.raw (Value.bool (decide (Dy.e x0 < (-200 : Int))))))) (Av.one (Sv.cel (Cv.raw (Value.bool false)))),
    Tr.norm (nat_lit 49) (Av.one (Sv.cel (Cv.raw (Value.bool (decide ((↑(lenN (Int.natAbs (Dy.m y0))) : Int) > (10 : Int))))))) (Av.one (Sv.cel (Cv.raw (Value.bool false)))),
    Tr.norm (nat_lit 54) (Av.one (Sv.cel (Cv.raw (Value.bool (decide (Dy.e y0 > (200 : Int))))))) (Av.one (Sv.cel (Cv.raw (Value.bool false)))),
    Tr.norm (nat_lit 58) (Av.one (Sv.cel (Cv.raw (Value.bool (decide (Dy.e y0 < (-200 : Int))))))) (Av.one (Sv.cel (Cv.raw (Value.bool false)))),
    Tr.call 75 [Sv.agg [Cv.raw (Value.bool (decide (Dy.m x0 < (0 : Int)))), Cv.ent (nat (Int.natAbs (Dy.m x0))), Cv.raw (Value.int IntKind.i64 (Dy.e x0)), Cv.raw (Value.bool (decide (Dy.m y0 < (0 : Int)))), Cv.ent (nat (Int.natAbs (Dy.m y0))), Cv.raw (Value.int IntKind.i64 (Dy.e y0))]] [] (Av.one (Sv.cel (Cv.raw (Value.int IntKind.i64 (Int.ofNat (nat_lit 0)))))),
    Tr.norm (nat_lit 89) (Av.one (Sv.cel (Cv.raw (Value.bool (decide ((↑(lenN (Int.natAbs (Dy.m x1))) : Int) > (10 : Int))))))) (Av.one (Sv.cel (Cv.raw (Value.bool false)))),
    Tr.norm (nat_lit 94) (Av.one (Sv.cel (Cv.raw (Value.bool (decide (Dy.e x1 > (200 : Int))))))) (Av.one (Sv.cel (Cv.raw (Value.bool false)))),
    Tr.norm (nat_lit 98) (Av.one (Sv.cel (Cv.raw (Value.bool (decide (Dy.e x1 < (-200 : Int))))))) (Av.one (Sv.cel (Cv.raw (Value.bool false)))),
    Tr.norm (nat_lit 111) (Av.one (Sv.cel (Cv.raw (Value.bool (decide ((↑(lenN (Int.natAbs (Dy.m y1))) : Int) > (10 : Int))))))) (Av.one (Sv.cel (Cv.raw (Value.bool false)))),
    Tr.norm (nat_lit 116) (Av.one (Sv.cel (Cv.raw (Value.bool (decide (Dy.e y1 > (200 : Int))))))) (Av.one (Sv.cel (Cv.raw (Value.bool false)))),
    Tr.norm (nat_lit 120) (Av.one (Sv.cel (Cv.raw (Value.bool (decide (Dy.e y1 < (-200 : Int))))))) (Av.one (Sv.cel (Cv.raw (Value.bool false)))),
    Tr.call 75 [Sv.agg [Cv.raw (Value.bool (decide (Dy.m x1 < (0 : Int)))), Cv.ent (nat (Int.natAbs (Dy.m x1))), Cv.raw (Value.int IntKind.i64 (Dy.e x1)), Cv.raw (Value.bool (decide (Dy.m y1 < (0 : Int)))), Cv.ent (nat (Int.natAbs (Dy.m y1))), Cv.raw (Value.int IntKind.i64 (Dy.e y1))]] [] (Av.one (Sv.cel (Cv.raw (Value.int IntKind.i64 (Int.ofNat (nat_lit 0)))))),
    Tr.norm (nat_lit 151) (Av.one (Sv.cel (Cv.raw (Value.bool (decide ((↑(List.length xs) : Int) > (10 : Int))))))) (Av.one (Sv.cel (Cv.raw (Value.bool false)))),
    Tr.norm (nat_lit 156) (Av.one (Sv.cel (Cv.raw (Value.bool (decide (e > (200 : Int))))))) (Av.one (Sv.cel (Cv.raw (Value.bool true))))] := ⟨
    norm_bool (q0.a.len),
    norm_bool (decide_eq_false (show ¬ x0.e > 200 by have := q0.a.hi; omega)),
    norm_bool (decide_eq_false (show ¬ x0.e < -200 by have := q0.a.lo; omega)),
    norm_bool (q0.b.len),
    norm_bool (decide_eq_false (show ¬ y0.e > 200 by have := q0.b.hi; omega)),
    norm_bool (decide_eq_false (show ¬ y0.e < -200 by have := q0.b.lo; omega)),
    checkS_f q0.a.bd q0.b.bd (by omega) q0.no,
    norm_bool (q1.a.len),
    norm_bool (decide_eq_false (show ¬ x1.e > 200 by have := q1.a.hi; omega)),
    norm_bool (decide_eq_false (show ¬ x1.e < -200 by have := q1.a.lo; omega)),
    norm_bool (q1.b.len),
    norm_bool (decide_eq_false (show ¬ y1.e > 200 by have := q1.b.hi; omega)),
    norm_bool (decide_eq_false (show ¬ y1.e < -200 by have := q1.b.lo; omega)),
    checkS_f q1.a.bd q1.b.bd (by omega) q1.no,
    norm_bool (gt_false hx),
    norm_bool (decide_eq_true (show e > 200 from hu)), trivial⟩
  exact fits_of_trace (n := 300) (k0 := 1) hT Tryz.func15 (by kernel_rfl) (by kernel_rfl) (by kernel_rfl)

set_option maxRecDepth 100000 in
theorem sfit3_2_3 {x0 y0 : Dy} (q0 : FitS x0 y0) {x1 y1 : Dy} (q1 : FitS x1 y1) {m : Bool} {xs : List Nat} {e : Int} {m' : Bool} {ys : List Nat} {e' : Int} (hx : xs.length ≤ 10) (hu : e < -200) : FitsP 15 [Sv.cel (Cv.row 0 0 3 3)] [(0, ⟨29, [.raw (.bool (decide (x0.m < 0))), .ent (nat x0.m.natAbs), .raw (.int .i64 x0.e), .raw (.bool (decide (y0.m < 0))), .ent (nat y0.m.natAbs), .raw (.int .i64 y0.e), .raw (.bool (decide (x1.m < 0))), .ent (nat x1.m.natAbs), .raw (.int .i64 x1.e), .raw (.bool (decide (y1.m < 0))), .ent (nat y1.m.natAbs), .raw (.int .i64 y1.e), .raw (.bool m), .ent (argE xs), .raw (.int .i64 e), .raw (.bool m'), .ent (argE ys), .raw (.int .i64 e')], true⟩)] (.one (boolS false)) := by
  have hT : AllOk Tryz.prog Glob [
    Tr.norm (nat_lit 27) (Av.one (Sv.cel (Cv.raw (Value.bool (decide ((↑(lenN (Int.natAbs (Dy.m x0))) : Int) > (10 : Int))))))) (Av.one (Sv.cel (Cv.raw (Value.bool false)))),
    Tr.norm (nat_lit 32) (Av.one (Sv.cel (Cv.raw (Value.bool (decide (Dy.e x0 > (200 : Int))))))) (Av.one (Sv.cel (Cv.raw (Value.bool false)))),
    Tr.norm (nat_lit 36) (Av.one (Sv.cel (Cv.raw (Value.bool (decide (Dy.e x0 < (-200 : Int))))))) (Av.one (Sv.cel (Cv.raw (Value.bool false)))),
    Tr.norm (nat_lit 49) (Av.one (Sv.cel (Cv.raw (Value.bool (decide ((↑(lenN (Int.natAbs (Dy.m y0))) : Int) > (10 : Int))))))) (Av.one (Sv.cel (Cv.raw (Value.bool false)))),
    Tr.norm (nat_lit 54) (Av.one (Sv.cel (Cv.raw (Value.bool (decide (Dy.e y0 > (200 : Int))))))) (Av.one (Sv.cel (Cv.raw (Value.bool false)))),
    Tr.norm (nat_lit 58) (Av.one (Sv.cel (Cv.raw (Value.bool (decide (Dy.e y0 < (-200 : Int))))))) (Av.one (Sv.cel (Cv.raw (Value.bool false)))),
    Tr.call 75 [Sv.agg [Cv.raw (Value.bool (decide (Dy.m x0 < (0 : Int)))), Cv.ent (nat (Int.natAbs (Dy.m x0))), Cv.raw (Value.int IntKind.i64 (Dy.e x0)), Cv.raw (Value.bool (decide (Dy.m y0 < (0 : Int)))), Cv.ent (nat (Int.natAbs (Dy.m y0))), Cv.raw (Value.int IntKind.i64 (Dy.e y0))]] [] (Av.one (Sv.cel (Cv.raw (Value.int IntKind.i64 (Int.ofNat (nat_lit 0)))))),
    Tr.norm (nat_lit 89) (Av.one (Sv.cel (Cv.raw (Value.bool (decide ((↑(lenN (Int.natAbs (Dy.m x1))) : Int) > (10 : Int))))))) (Av.one (Sv.cel (Cv.raw (Value.bool false)))),
    Tr.norm (nat_lit 94) (Av.one (Sv.cel (Cv.raw (Value.bool (decide (Dy.e x1 > (200 : Int))))))) (Av.one (Sv.cel (Cv.raw (Value.bool false)))),
    Tr.norm (nat_lit 98) (Av.one (Sv.cel (Cv.raw (Value.bool (decide (Dy.e x1 < (-200 : Int))))))) (Av.one (Sv.cel (Cv.raw (Value.bool false)))),
    Tr.norm (nat_lit 111) (Av.one (Sv.cel (Cv.raw (Value.bool (decide ((↑(lenN (Int.natAbs (Dy.m y1))) : Int) > (10 : Int))))))) (Av.one (Sv.cel (Cv.raw (Value.bool false)))),
    Tr.norm (nat_lit 116) (Av.one (Sv.cel (Cv.raw (Value.bool (decide (Dy.e y1 > (200 : Int))))))) (Av.one (Sv.cel (Cv.raw (Value.bool false)))),
    Tr.norm (nat_lit 120) (Av.one (Sv.cel (Cv.raw (Value.bool (decide (Dy.e y1 < (-200 : Int))))))) (Av.one (Sv.cel (Cv.raw (Value.bool false)))),
    Tr.call 75 [Sv.agg [Cv.raw (Value.bool (decide (Dy.m x1 < (0 : Int)))), Cv.ent (nat (Int.natAbs (Dy.m x1))), Cv.raw (Value.int IntKind.i64 (Dy.e x1)), Cv.raw (Value.bool (decide (Dy.m y1 < (0 : Int)))), Cv.ent (nat (Int.natAbs (Dy.m y1))), Cv.raw (Value.int IntKind.i64 (Dy.e y1))]] [] (Av.one (Sv.cel (Cv.raw (Value.int IntKind.i64 (Int.ofNat (nat_lit 0)))))),
    Tr.norm (nat_lit 151) (Av.one (Sv.cel (Cv.raw (Value.bool (decide ((↑(List.length xs) : Int) > (10 : Int))))))) (Av.one (Sv.cel (Cv.raw (Value.bool false)))),
    Tr.norm (nat_lit 156) (Av.one (Sv.cel (Cv.raw (Value.bool (decide (e > (200 : Int))))))) (Av.one (Sv.cel (Cv.raw (Value.bool false)))),
    Tr.norm (nat_lit 160) (Av.one (Sv.cel (Cv.raw (Value.bool (decide (e < (-200 : Int))))))) (Av.one (Sv.cel (Cv.raw (Value.bool true))))] := ⟨
    norm_bool (q0.a.len),
    norm_bool (decide_eq_false (show ¬ x0.e > 200 by have := q0.a.hi; omega)),
    norm_bool (decide_eq_false (show ¬ x0.e < -200 by have := q0.a.lo; omega)),
    norm_bool (q0.b.len),
    norm_bool (decide_eq_false (show ¬ y0.e > 200 by have := q0.b.hi; omega)),
    norm_bool (decide_eq_false (show ¬ y0.e < -200 by have := q0.b.lo; omega)),
    checkS_f q0.a.bd q0.b.bd (by omega) q0.no,
    norm_bool (q1.a.len),
    norm_bool (decide_eq_false (show ¬ x1.e > 200 by have := q1.a.hi; omega)),
    norm_bool (decide_eq_false (show ¬ x1.e < -200 by have := q1.a.lo; omega)),
    norm_bool (q1.b.len),
    norm_bool (decide_eq_false (show ¬ y1.e > 200 by have := q1.b.hi; omega)),
    norm_bool (decide_eq_false (show ¬ y1.e < -200 by have := q1.b.lo; omega)),
    checkS_f q1.a.bd q1.b.bd (by omega) q1.no,
    norm_bool (gt_false hx),
    norm_bool (decide_eq_false (show ¬ e > 200 by omega)),
    norm_bool (decide_eq_true hu), trivial⟩
  exact fits_of_trace (n := 300) (k0 := 1) hT Tryz.func15 (by kernel_rfl) (by kernel_rfl) (by kernel_rfl)

set_option maxRecDepth 100000 in
theorem sfit3_2_4 {x0 y0 : Dy} (q0 : FitS x0 y0) {x1 y1 : Dy} (q1 : FitS x1 y1) {m : Bool} {xs : List Nat} {e : Int} {m' : Bool} {ys : List Nat} {e' : Int} (hx : xs.length ≤ 10) (h1 : e ≤ 200) (h2 : -200 ≤ e) (hu : 10 < ys.length) : FitsP 15 [Sv.cel (Cv.row 0 0 3 3)] [(0, ⟨29, [.raw (.bool (decide (x0.m < 0))), .ent (nat x0.m.natAbs), .raw (.int .i64 x0.e), .raw (.bool (decide (y0.m < 0))), .ent (nat y0.m.natAbs), .raw (.int .i64 y0.e), .raw (.bool (decide (x1.m < 0))), .ent (nat x1.m.natAbs), .raw (.int .i64 x1.e), .raw (.bool (decide (y1.m < 0))), .ent (nat y1.m.natAbs), .raw (.int .i64 y1.e), .raw (.bool m), .ent (argE xs), .raw (.int .i64 e), .raw (.bool m'), .ent (argE ys), .raw (.int .i64 e')], true⟩)] (.one (boolS false)) := by
  have hT : AllOk Tryz.prog Glob [
    Tr.norm (nat_lit 27) (Av.one (Sv.cel (Cv.raw (Value.bool (decide ((↑(lenN (Int.natAbs (Dy.m x0))) : Int) > (10 : Int))))))) (Av.one (Sv.cel (Cv.raw (Value.bool false)))),
    Tr.norm (nat_lit 32) (Av.one (Sv.cel (Cv.raw (Value.bool (decide (Dy.e x0 > (200 : Int))))))) (Av.one (Sv.cel (Cv.raw (Value.bool false)))),
    Tr.norm (nat_lit 36) (Av.one (Sv.cel (Cv.raw (Value.bool (decide (Dy.e x0 < (-200 : Int))))))) (Av.one (Sv.cel (Cv.raw (Value.bool false)))),
    Tr.norm (nat_lit 49) (Av.one (Sv.cel (Cv.raw (Value.bool (decide ((↑(lenN (Int.natAbs (Dy.m y0))) : Int) > (10 : Int))))))) (Av.one (Sv.cel (Cv.raw (Value.bool false)))),
    Tr.norm (nat_lit 54) (Av.one (Sv.cel (Cv.raw (Value.bool (decide (Dy.e y0 > (200 : Int))))))) (Av.one (Sv.cel (Cv.raw (Value.bool false)))),
    Tr.norm (nat_lit 58) (Av.one (Sv.cel (Cv.raw (Value.bool (decide (Dy.e y0 < (-200 : Int))))))) (Av.one (Sv.cel (Cv.raw (Value.bool false)))),
    Tr.call 75 [Sv.agg [Cv.raw (Value.bool (decide (Dy.m x0 < (0 : Int)))), Cv.ent (nat (Int.natAbs (Dy.m x0))), Cv.raw (Value.int IntKind.i64 (Dy.e x0)), Cv.raw (Value.bool (decide (Dy.m y0 < (0 : Int)))), Cv.ent (nat (Int.natAbs (Dy.m y0))), Cv.raw (Value.int IntKind.i64 (Dy.e y0))]] [] (Av.one (Sv.cel (Cv.raw (Value.int IntKind.i64 (Int.ofNat (nat_lit 0)))))),
    Tr.norm (nat_lit 89) (Av.one (Sv.cel (Cv.raw (Value.bool (decide ((↑(lenN (Int.natAbs (Dy.m x1))) : Int) > (10 : Int))))))) (Av.one (Sv.cel (Cv.raw (Value.bool false)))),
    Tr.norm (nat_lit 94) (Av.one (Sv.cel (Cv.raw (Value.bool (decide (Dy.e x1 > (200 : Int))))))) (Av.one (Sv.cel (Cv.raw (Value.bool false)))),
    Tr.norm (nat_lit 98) (Av.one (Sv.cel (Cv.raw (Value.bool (decide (Dy.e x1 < (-200 : Int))))))) (Av.one (Sv.cel (Cv.raw (Value.bool false)))),
    Tr.norm (nat_lit 111) (Av.one (Sv.cel (Cv.raw (Value.bool (decide ((↑(lenN (Int.natAbs (Dy.m y1))) : Int) > (10 : Int))))))) (Av.one (Sv.cel (Cv.raw (Value.bool false)))),
    Tr.norm (nat_lit 116) (Av.one (Sv.cel (Cv.raw (Value.bool (decide (Dy.e y1 > (200 : Int))))))) (Av.one (Sv.cel (Cv.raw (Value.bool false)))),
    Tr.norm (nat_lit 120) (Av.one (Sv.cel (Cv.raw (Value.bool (decide (Dy.e y1 < (-200 : Int))))))) (Av.one (Sv.cel (Cv.raw (Value.bool false)))),
    Tr.call 75 [Sv.agg [Cv.raw (Value.bool (decide (Dy.m x1 < (0 : Int)))), Cv.ent (nat (Int.natAbs (Dy.m x1))), Cv.raw (Value.int IntKind.i64 (Dy.e x1)), Cv.raw (Value.bool (decide (Dy.m y1 < (0 : Int)))), Cv.ent (nat (Int.natAbs (Dy.m y1))), Cv.raw (Value.int IntKind.i64 (Dy.e y1))]] [] (Av.one (Sv.cel (Cv.raw (Value.int IntKind.i64 (Int.ofNat (nat_lit 0)))))),
    Tr.norm (nat_lit 151) (Av.one (Sv.cel (Cv.raw (Value.bool (decide ((↑(List.length xs) : Int) > (10 : Int))))))) (Av.one (Sv.cel (Cv.raw (Value.bool false)))),
    Tr.norm (nat_lit 156) (Av.one (Sv.cel (Cv.raw (Value.bool (decide (e > (200 : Int))))))) (Av.one (Sv.cel (Cv.raw (Value.bool false)))),
    Tr.norm (nat_lit 160) (Av.one (Sv.cel (Cv.raw (Value.bool (decide (e < (-200 : Int))))))) (Av.one (Sv.cel (Cv.raw (Value.bool false)))),
    Tr.norm (nat_lit 173) (Av.one (Sv.cel (Cv.raw (Value.bool (decide ((↑(List.length ys) : Int) > (10 : Int))))))) (Av.one (Sv.cel (Cv.raw (Value.bool true))))] := ⟨
    norm_bool (q0.a.len),
    norm_bool (decide_eq_false (show ¬ x0.e > 200 by have := q0.a.hi; omega)),
    norm_bool (decide_eq_false (show ¬ x0.e < -200 by have := q0.a.lo; omega)),
    norm_bool (q0.b.len),
    norm_bool (decide_eq_false (show ¬ y0.e > 200 by have := q0.b.hi; omega)),
    norm_bool (decide_eq_false (show ¬ y0.e < -200 by have := q0.b.lo; omega)),
    checkS_f q0.a.bd q0.b.bd (by omega) q0.no,
    norm_bool (q1.a.len),
    norm_bool (decide_eq_false (show ¬ x1.e > 200 by have := q1.a.hi; omega)),
    norm_bool (decide_eq_false (show ¬ x1.e < -200 by have := q1.a.lo; omega)),
    norm_bool (q1.b.len),
    norm_bool (decide_eq_false (show ¬ y1.e > 200 by have := q1.b.hi; omega)),
    norm_bool (decide_eq_false (show ¬ y1.e < -200 by have := q1.b.lo; omega)),
    checkS_f q1.a.bd q1.b.bd (by omega) q1.no,
    norm_bool (gt_false hx),
    norm_bool (decide_eq_false (show ¬ e > 200 by omega)),
    norm_bool (decide_eq_false (show ¬ e < -200 by omega)),
    norm_bool (gt_true hu), trivial⟩
  exact fits_of_trace (n := 300) (k0 := 1) hT Tryz.func15 (by kernel_rfl) (by kernel_rfl) (by kernel_rfl)

set_option maxRecDepth 100000 in
theorem sfit3_2_5 {x0 y0 : Dy} (q0 : FitS x0 y0) {x1 y1 : Dy} (q1 : FitS x1 y1) {m : Bool} {xs : List Nat} {e : Int} {m' : Bool} {ys : List Nat} {e' : Int} (hx : xs.length ≤ 10) (h1 : e ≤ 200) (h2 : -200 ≤ e) (hy : ys.length ≤ 10) (hu : 200 < e') : FitsP 15 [Sv.cel (Cv.row 0 0 3 3)] [(0, ⟨29, [.raw (.bool (decide (x0.m < 0))), .ent (nat x0.m.natAbs), .raw (.int .i64 x0.e), .raw (.bool (decide (y0.m < 0))), .ent (nat y0.m.natAbs), .raw (.int .i64 y0.e), .raw (.bool (decide (x1.m < 0))), .ent (nat x1.m.natAbs), .raw (.int .i64 x1.e), .raw (.bool (decide (y1.m < 0))), .ent (nat y1.m.natAbs), .raw (.int .i64 y1.e), .raw (.bool m), .ent (argE xs), .raw (.int .i64 e), .raw (.bool m'), .ent (argE ys), .raw (.int .i64 e')], true⟩)] (.one (boolS false)) := by
  have hT : AllOk Tryz.prog Glob [
    Tr.norm (nat_lit 27) (Av.one (Sv.cel (Cv.raw (Value.bool (decide ((↑(lenN (Int.natAbs (Dy.m x0))) : Int) > (10 : Int))))))) (Av.one (Sv.cel (Cv.raw (Value.bool false)))),
    Tr.norm (nat_lit 32) (Av.one (Sv.cel (Cv.raw (Value.bool (decide (Dy.e x0 > (200 : Int))))))) (Av.one (Sv.cel (Cv.raw (Value.bool false)))),
    Tr.norm (nat_lit 36) (Av.one (Sv.cel (Cv.raw (Value.bool (decide (Dy.e x0 < (-200 : Int))))))) (Av.one (Sv.cel (Cv.raw (Value.bool false)))),
    Tr.norm (nat_lit 49) (Av.one (Sv.cel (Cv.raw (Value.bool (decide ((↑(lenN (Int.natAbs (Dy.m y0))) : Int) > (10 : Int))))))) (Av.one (Sv.cel (Cv.raw (Value.bool false)))),
    Tr.norm (nat_lit 54) (Av.one (Sv.cel (Cv.raw (Value.bool (decide (Dy.e y0 > (200 : Int))))))) (Av.one (Sv.cel (Cv.raw (Value.bool false)))),
    Tr.norm (nat_lit 58) (Av.one (Sv.cel (Cv.raw (Value.bool (decide (Dy.e y0 < (-200 : Int))))))) (Av.one (Sv.cel (Cv.raw (Value.bool false)))),
    Tr.call 75 [Sv.agg [Cv.raw (Value.bool (decide (Dy.m x0 < (0 : Int)))), Cv.ent (nat (Int.natAbs (Dy.m x0))), Cv.raw (Value.int IntKind.i64 (Dy.e x0)), Cv.raw (Value.bool (decide (Dy.m y0 < (0 : Int)))), Cv.ent (nat (Int.natAbs (Dy.m y0))), Cv.raw (Value.int IntKind.i64 (Dy.e y0))]] [] (Av.one (Sv.cel (Cv.raw (Value.int IntKind.i64 (Int.ofNat (nat_lit 0)))))),
    Tr.norm (nat_lit 89) (Av.one (Sv.cel (Cv.raw (Value.bool (decide ((↑(lenN (Int.natAbs (Dy.m x1))) : Int) > (10 : Int))))))) (Av.one (Sv.cel (Cv.raw (Value.bool false)))),
    Tr.norm (nat_lit 94) (Av.one (Sv.cel (Cv.raw (Value.bool (decide (Dy.e x1 > (200 : Int))))))) (Av.one (Sv.cel (Cv.raw (Value.bool false)))),
    Tr.norm (nat_lit 98) (Av.one (Sv.cel (Cv.raw (Value.bool (decide (Dy.e x1 < (-200 : Int))))))) (Av.one (Sv.cel (Cv.raw (Value.bool false)))),
    Tr.norm (nat_lit 111) (Av.one (Sv.cel (Cv.raw (Value.bool (decide ((↑(lenN (Int.natAbs (Dy.m y1))) : Int) > (10 : Int))))))) (Av.one (Sv.cel (Cv.raw (Value.bool false)))),
    Tr.norm (nat_lit 116) (Av.one (Sv.cel (Cv.raw (Value.bool (decide (Dy.e y1 > (200 : Int))))))) (Av.one (Sv.cel (Cv.raw (Value.bool false)))),
    Tr.norm (nat_lit 120) (Av.one (Sv.cel (Cv.raw (Value.bool (decide (Dy.e y1 < (-200 : Int))))))) (Av.one (Sv.cel (Cv.raw (Value.bool false)))),
    Tr.call 75 [Sv.agg [Cv.raw (Value.bool (decide (Dy.m x1 < (0 : Int)))), Cv.ent (nat (Int.natAbs (Dy.m x1))), Cv.raw (Value.int IntKind.i64 (Dy.e x1)), Cv.raw (Value.bool (decide (Dy.m y1 < (0 : Int)))), Cv.ent (nat (Int.natAbs (Dy.m y1))), Cv.raw (Value.int IntKind.i64 (Dy.e y1))]] [] (Av.one (Sv.cel (Cv.raw (Value.int IntKind.i64 (Int.ofNat (nat_lit 0)))))),
    Tr.norm (nat_lit 151) (Av.one (Sv.cel (Cv.raw (Value.bool (decide ((↑(List.length xs) : Int) > (10 : Int))))))) (Av.one (Sv.cel (Cv.raw (Value.bool false)))),
    Tr.norm (nat_lit 156) (Av.one (Sv.cel (Cv.raw (Value.bool (decide (e > (200 : Int))))))) (Av.one (Sv.cel (Cv.raw (Value.bool false)))),
    Tr.norm (nat_lit 160) (Av.one (Sv.cel (Cv.raw (Value.bool (decide (e < (-200 : Int))))))) (Av.one (Sv.cel (Cv.raw (Value.bool false)))),
    Tr.norm (nat_lit 173) (Av.one (Sv.cel (Cv.raw (Value.bool (decide ((↑(List.length ys) : Int) > (10 : Int))))))) (Av.one (Sv.cel (Cv.raw (Value.bool false)))),
    Tr.norm (nat_lit 178) (Av.one (Sv.cel (Cv.raw (Value.bool (decide (e' > (200 : Int))))))) (Av.one (Sv.cel (Cv.raw (Value.bool true))))] := ⟨
    norm_bool (q0.a.len),
    norm_bool (decide_eq_false (show ¬ x0.e > 200 by have := q0.a.hi; omega)),
    norm_bool (decide_eq_false (show ¬ x0.e < -200 by have := q0.a.lo; omega)),
    norm_bool (q0.b.len),
    norm_bool (decide_eq_false (show ¬ y0.e > 200 by have := q0.b.hi; omega)),
    norm_bool (decide_eq_false (show ¬ y0.e < -200 by have := q0.b.lo; omega)),
    checkS_f q0.a.bd q0.b.bd (by omega) q0.no,
    norm_bool (q1.a.len),
    norm_bool (decide_eq_false (show ¬ x1.e > 200 by have := q1.a.hi; omega)),
    norm_bool (decide_eq_false (show ¬ x1.e < -200 by have := q1.a.lo; omega)),
    norm_bool (q1.b.len),
    norm_bool (decide_eq_false (show ¬ y1.e > 200 by have := q1.b.hi; omega)),
    norm_bool (decide_eq_false (show ¬ y1.e < -200 by have := q1.b.lo; omega)),
    checkS_f q1.a.bd q1.b.bd (by omega) q1.no,
    norm_bool (gt_false hx),
    norm_bool (decide_eq_false (show ¬ e > 200 by omega)),
    norm_bool (decide_eq_false (show ¬ e < -200 by omega)),
    norm_bool (gt_false hy),
    norm_bool (decide_eq_true (show e' > 200 from hu)), trivial⟩
  exact fits_of_trace (n := 300) (k0 := 1) hT Tryz.func15 (by kernel_rfl) (by kernel_rfl) (by kernel_rfl)

set_option maxRecDepth 100000 in
theorem sfit3_2_6 {x0 y0 : Dy} (q0 : FitS x0 y0) {x1 y1 : Dy} (q1 : FitS x1 y1) {m : Bool} {xs : List Nat} {e : Int} {m' : Bool} {ys : List Nat} {e' : Int} (hx : xs.length ≤ 10) (h1 : e ≤ 200) (h2 : -200 ≤ e) (hy : ys.length ≤ 10) (hu : e' < -200) : FitsP 15 [Sv.cel (Cv.row 0 0 3 3)] [(0, ⟨29, [.raw (.bool (decide (x0.m < 0))), .ent (nat x0.m.natAbs), .raw (.int .i64 x0.e), .raw (.bool (decide (y0.m < 0))), .ent (nat y0.m.natAbs), .raw (.int .i64 y0.e), .raw (.bool (decide (x1.m < 0))), .ent (nat x1.m.natAbs), .raw (.int .i64 x1.e), .raw (.bool (decide (y1.m < 0))), .ent (nat y1.m.natAbs), .raw (.int .i64 y1.e), .raw (.bool m), .ent (argE xs), .raw (.int .i64 e), .raw (.bool m'), .ent (argE ys), .raw (.int .i64 e')], true⟩)] (.one (boolS false)) := by
  have hT : AllOk Tryz.prog Glob [
    Tr.norm (nat_lit 27) (Av.one (Sv.cel (Cv.raw (Value.bool (decide ((↑(lenN (Int.natAbs (Dy.m x0))) : Int) > (10 : Int))))))) (Av.one (Sv.cel (Cv.raw (Value.bool false)))),
    Tr.norm (nat_lit 32) (Av.one (Sv.cel (Cv.raw (Value.bool (decide (Dy.e x0 > (200 : Int))))))) (Av.one (Sv.cel (Cv.raw (Value.bool false)))),
    Tr.norm (nat_lit 36) (Av.one (Sv.cel (Cv.raw (Value.bool (decide (Dy.e x0 < (-200 : Int))))))) (Av.one (Sv.cel (Cv.raw (Value.bool false)))),
    Tr.norm (nat_lit 49) (Av.one (Sv.cel (Cv.raw (Value.bool (decide ((↑(lenN (Int.natAbs (Dy.m y0))) : Int) > (10 : Int))))))) (Av.one (Sv.cel (Cv.raw (Value.bool false)))),
    Tr.norm (nat_lit 54) (Av.one (Sv.cel (Cv.raw (Value.bool (decide (Dy.e y0 > (200 : Int))))))) (Av.one (Sv.cel (Cv.raw (Value.bool false)))),
    Tr.norm (nat_lit 58) (Av.one (Sv.cel (Cv.raw (Value.bool (decide (Dy.e y0 < (-200 : Int))))))) (Av.one (Sv.cel (Cv.raw (Value.bool false)))),
    Tr.call 75 [Sv.agg [Cv.raw (Value.bool (decide (Dy.m x0 < (0 : Int)))), Cv.ent (nat (Int.natAbs (Dy.m x0))), Cv.raw (Value.int IntKind.i64 (Dy.e x0)), Cv.raw (Value.bool (decide (Dy.m y0 < (0 : Int)))), Cv.ent (nat (Int.natAbs (Dy.m y0))), Cv.raw (Value.int IntKind.i64 (Dy.e y0))]] [] (Av.one (Sv.cel (Cv.raw (Value.int IntKind.i64 (Int.ofNat (nat_lit 0)))))),
    Tr.norm (nat_lit 89) (Av.one (Sv.cel (Cv.raw (Value.bool (decide ((↑(lenN (Int.natAbs (Dy.m x1))) : Int) > (10 : Int))))))) (Av.one (Sv.cel (Cv.raw (Value.bool false)))),
    Tr.norm (nat_lit 94) (Av.one (Sv.cel (Cv.raw (Value.bool (decide (Dy.e x1 > (200 : Int))))))) (Av.one (Sv.cel (Cv.raw (Value.bool false)))),
    Tr.norm (nat_lit 98) (Av.one (Sv.cel (Cv.raw (Value.bool (decide (Dy.e x1 < (-200 : Int))))))) (Av.one (Sv.cel (Cv.raw (Value.bool false)))),
    Tr.norm (nat_lit 111) (Av.one (Sv.cel (Cv.raw (Value.bool (decide ((↑(lenN (Int.natAbs (Dy.m y1))) : Int) > (10 : Int))))))) (Av.one (Sv.cel (Cv.raw (Value.bool false)))),
    Tr.norm (nat_lit 116) (Av.one (Sv.cel (Cv.raw (Value.bool (decide (Dy.e y1 > (200 : Int))))))) (Av.one (Sv.cel (Cv.raw (Value.bool false)))),
    Tr.norm (nat_lit 120) (Av.one (Sv.cel (Cv.raw (Value.bool (decide (Dy.e y1 < (-200 : Int))))))) (Av.one (Sv.cel (Cv.raw (Value.bool false)))),
    Tr.call 75 [Sv.agg [Cv.raw (Value.bool (decide (Dy.m x1 < (0 : Int)))), Cv.ent (nat (Int.natAbs (Dy.m x1))), Cv.raw (Value.int IntKind.i64 (Dy.e x1)), Cv.raw (Value.bool (decide (Dy.m y1 < (0 : Int)))), Cv.ent (nat (Int.natAbs (Dy.m y1))), Cv.raw (Value.int IntKind.i64 (Dy.e y1))]] [] (Av.one (Sv.cel (Cv.raw (Value.int IntKind.i64 (Int.ofNat (nat_lit 0)))))),
    Tr.norm (nat_lit 151) (Av.one (Sv.cel (Cv.raw (Value.bool (decide ((↑(List.length xs) : Int) > (10 : Int))))))) (Av.one (Sv.cel (Cv.raw (Value.bool false)))),
    Tr.norm (nat_lit 156) (Av.one (Sv.cel (Cv.raw (Value.bool (decide (e > (200 : Int))))))) (Av.one (Sv.cel (Cv.raw (Value.bool false)))),
    Tr.norm (nat_lit 160) (Av.one (Sv.cel (Cv.raw (Value.bool (decide (e < (-200 : Int))))))) (Av.one (Sv.cel (Cv.raw (Value.bool false)))),
    Tr.norm (nat_lit 173) (Av.one (Sv.cel (Cv.raw (Value.bool (decide ((↑(List.length ys) : Int) > (10 : Int))))))) (Av.one (Sv.cel (Cv.raw (Value.bool false)))),
    Tr.norm (nat_lit 178) (Av.one (Sv.cel (Cv.raw (Value.bool (decide (e' > (200 : Int))))))) (Av.one (Sv.cel (Cv.raw (Value.bool false)))),
    Tr.norm (nat_lit 182) (Av.one (Sv.cel (Cv.raw (Value.bool (decide (e' < (-200 : Int))))))) (Av.one (Sv.cel (Cv.raw (Value.bool true))))] := ⟨
    norm_bool (q0.a.len),
    norm_bool (decide_eq_false (show ¬ x0.e > 200 by have := q0.a.hi; omega)),
    norm_bool (decide_eq_false (show ¬ x0.e < -200 by have := q0.a.lo; omega)),
    norm_bool (q0.b.len),
    norm_bool (decide_eq_false (show ¬ y0.e > 200 by have := q0.b.hi; omega)),
    norm_bool (decide_eq_false (show ¬ y0.e < -200 by have := q0.b.lo; omega)),
    checkS_f q0.a.bd q0.b.bd (by omega) q0.no,
    norm_bool (q1.a.len),
    norm_bool (decide_eq_false (show ¬ x1.e > 200 by have := q1.a.hi; omega)),
    norm_bool (decide_eq_false (show ¬ x1.e < -200 by have := q1.a.lo; omega)),
    norm_bool (q1.b.len),
    norm_bool (decide_eq_false (show ¬ y1.e > 200 by have := q1.b.hi; omega)),
    norm_bool (decide_eq_false (show ¬ y1.e < -200 by have := q1.b.lo; omega)),
    checkS_f q1.a.bd q1.b.bd (by omega) q1.no,
    norm_bool (gt_false hx),
    norm_bool (decide_eq_false (show ¬ e > 200 by omega)),
    norm_bool (decide_eq_false (show ¬ e < -200 by omega)),
    norm_bool (gt_false hy),
    norm_bool (decide_eq_false (show ¬ e' > 200 by omega)),
    norm_bool (decide_eq_true hu), trivial⟩
  exact fits_of_trace (n := 300) (k0 := 1) hT Tryz.func15 (by kernel_rfl) (by kernel_rfl) (by kernel_rfl)

set_option maxRecDepth 100000 in
theorem sfit3_2_7 {x0 y0 : Dy} (q0 : FitS x0 y0) {x1 y1 : Dy} (q1 : FitS x1 y1) {m : Bool} {xs : List Nat} {e : Int} {m' : Bool} {ys : List Nat} {e' : Int} (hx : xs.length ≤ 10) (h1 : e ≤ 200) (h2 : -200 ≤ e) (hy : ys.length ≤ 10) (g1 : e' ≤ 200) (g2 : -200 ≤ e') {c : Int} (hc : c ≠ 0) (hu : FitsP 75 [spA m xs e m' ys e'] [] (.one (intS c))) : FitsP 15 [Sv.cel (Cv.row 0 0 3 3)] [(0, ⟨29, [.raw (.bool (decide (x0.m < 0))), .ent (nat x0.m.natAbs), .raw (.int .i64 x0.e), .raw (.bool (decide (y0.m < 0))), .ent (nat y0.m.natAbs), .raw (.int .i64 y0.e), .raw (.bool (decide (x1.m < 0))), .ent (nat x1.m.natAbs), .raw (.int .i64 x1.e), .raw (.bool (decide (y1.m < 0))), .ent (nat y1.m.natAbs), .raw (.int .i64 y1.e), .raw (.bool m), .ent (argE xs), .raw (.int .i64 e), .raw (.bool m'), .ent (argE ys), .raw (.int .i64 e')], true⟩)] (.one (boolS false)) := by
  have hT : AllOk Tryz.prog Glob [
    Tr.norm (nat_lit 27) (Av.one (Sv.cel (Cv.raw (Value.bool (decide ((↑(lenN (Int.natAbs (Dy.m x0))) : Int) > (10 : Int))))))) (Av.one (Sv.cel (Cv.raw (Value.bool false)))),
    Tr.norm (nat_lit 32) (Av.one (Sv.cel (Cv.raw (Value.bool (decide (Dy.e x0 > (200 : Int))))))) (Av.one (Sv.cel (Cv.raw (Value.bool false)))),
    Tr.norm (nat_lit 36) (Av.one (Sv.cel (Cv.raw (Value.bool (decide (Dy.e x0 < (-200 : Int))))))) (Av.one (Sv.cel (Cv.raw (Value.bool false)))),
    Tr.norm (nat_lit 49) (Av.one (Sv.cel (Cv.raw (Value.bool (decide ((↑(lenN (Int.natAbs (Dy.m y0))) : Int) > (10 : Int))))))) (Av.one (Sv.cel (Cv.raw (Value.bool false)))),
    Tr.norm (nat_lit 54) (Av.one (Sv.cel (Cv.raw (Value.bool (decide (Dy.e y0 > (200 : Int))))))) (Av.one (Sv.cel (Cv.raw (Value.bool false)))),
    Tr.norm (nat_lit 58) (Av.one (Sv.cel (Cv.raw (Value.bool (decide (Dy.e y0 < (-200 : Int))))))) (Av.one (Sv.cel (Cv.raw (Value.bool false)))),
    Tr.call 75 [Sv.agg [Cv.raw (Value.bool (decide (Dy.m x0 < (0 : Int)))), Cv.ent (nat (Int.natAbs (Dy.m x0))), Cv.raw (Value.int IntKind.i64 (Dy.e x0)), Cv.raw (Value.bool (decide (Dy.m y0 < (0 : Int)))), Cv.ent (nat (Int.natAbs (Dy.m y0))), Cv.raw (Value.int IntKind.i64 (Dy.e y0))]] [] (Av.one (Sv.cel (Cv.raw (Value.int IntKind.i64 (Int.ofNat (nat_lit 0)))))),
    Tr.norm (nat_lit 89) (Av.one (Sv.cel (Cv.raw (Value.bool (decide ((↑(lenN (Int.natAbs (Dy.m x1))) : Int) > (10 : Int))))))) (Av.one (Sv.cel (Cv.raw (Value.bool false)))),
    Tr.norm (nat_lit 94) (Av.one (Sv.cel (Cv.raw (Value.bool (decide (Dy.e x1 > (200 : Int))))))) (Av.one (Sv.cel (Cv.raw (Value.bool false)))),
    Tr.norm (nat_lit 98) (Av.one (Sv.cel (Cv.raw (Value.bool (decide (Dy.e x1 < (-200 : Int))))))) (Av.one (Sv.cel (Cv.raw (Value.bool false)))),
    Tr.norm (nat_lit 111) (Av.one (Sv.cel (Cv.raw (Value.bool (decide ((↑(lenN (Int.natAbs (Dy.m y1))) : Int) > (10 : Int))))))) (Av.one (Sv.cel (Cv.raw (Value.bool false)))),
    Tr.norm (nat_lit 116) (Av.one (Sv.cel (Cv.raw (Value.bool (decide (Dy.e y1 > (200 : Int))))))) (Av.one (Sv.cel (Cv.raw (Value.bool false)))),
    Tr.norm (nat_lit 120) (Av.one (Sv.cel (Cv.raw (Value.bool (decide (Dy.e y1 < (-200 : Int))))))) (Av.one (Sv.cel (Cv.raw (Value.bool false)))),
    Tr.call 75 [Sv.agg [Cv.raw (Value.bool (decide (Dy.m x1 < (0 : Int)))), Cv.ent (nat (Int.natAbs (Dy.m x1))), Cv.raw (Value.int IntKind.i64 (Dy.e x1)), Cv.raw (Value.bool (decide (Dy.m y1 < (0 : Int)))), Cv.ent (nat (Int.natAbs (Dy.m y1))), Cv.raw (Value.int IntKind.i64 (Dy.e y1))]] [] (Av.one (Sv.cel (Cv.raw (Value.int IntKind.i64 (Int.ofNat (nat_lit 0)))))),
    Tr.norm (nat_lit 151) (Av.one (Sv.cel (Cv.raw (Value.bool (decide ((↑(List.length xs) : Int) > (10 : Int))))))) (Av.one (Sv.cel (Cv.raw (Value.bool false)))),
    Tr.norm (nat_lit 156) (Av.one (Sv.cel (Cv.raw (Value.bool (decide (e > (200 : Int))))))) (Av.one (Sv.cel (Cv.raw (Value.bool false)))),
    Tr.norm (nat_lit 160) (Av.one (Sv.cel (Cv.raw (Value.bool (decide (e < (-200 : Int))))))) (Av.one (Sv.cel (Cv.raw (Value.bool false)))),
    Tr.norm (nat_lit 173) (Av.one (Sv.cel (Cv.raw (Value.bool (decide ((↑(List.length ys) : Int) > (10 : Int))))))) (Av.one (Sv.cel (Cv.raw (Value.bool false)))),
    Tr.norm (nat_lit 178) (Av.one (Sv.cel (Cv.raw (Value.bool (decide (e' > (200 : Int))))))) (Av.one (Sv.cel (Cv.raw (Value.bool false)))),
    Tr.norm (nat_lit 182) (Av.one (Sv.cel (Cv.raw (Value.bool (decide (e' < (-200 : Int))))))) (Av.one (Sv.cel (Cv.raw (Value.bool false)))),
    Tr.call 75 [Sv.agg [Cv.raw (Value.bool m), Cv.ent (argE xs), Cv.raw (Value.int IntKind.i64 e), Cv.raw (Value.bool m'), Cv.ent (argE ys), Cv.raw (Value.int IntKind.i64 e')]] [] (Av.one (Sv.cel (Cv.raw (Value.int IntKind.i64 c)))),
    Tr.norm (nat_lit 188) (Av.one (Sv.cel (Cv.raw (Value.bool (c != (0 : Int)))))) (Av.one (Sv.cel (Cv.raw (Value.bool true))))] := ⟨
    norm_bool (q0.a.len),
    norm_bool (decide_eq_false (show ¬ x0.e > 200 by have := q0.a.hi; omega)),
    norm_bool (decide_eq_false (show ¬ x0.e < -200 by have := q0.a.lo; omega)),
    norm_bool (q0.b.len),
    norm_bool (decide_eq_false (show ¬ y0.e > 200 by have := q0.b.hi; omega)),
    norm_bool (decide_eq_false (show ¬ y0.e < -200 by have := q0.b.lo; omega)),
    checkS_f q0.a.bd q0.b.bd (by omega) q0.no,
    norm_bool (q1.a.len),
    norm_bool (decide_eq_false (show ¬ x1.e > 200 by have := q1.a.hi; omega)),
    norm_bool (decide_eq_false (show ¬ x1.e < -200 by have := q1.a.lo; omega)),
    norm_bool (q1.b.len),
    norm_bool (decide_eq_false (show ¬ y1.e > 200 by have := q1.b.hi; omega)),
    norm_bool (decide_eq_false (show ¬ y1.e < -200 by have := q1.b.lo; omega)),
    checkS_f q1.a.bd q1.b.bd (by omega) q1.no,
    norm_bool (gt_false hx),
    norm_bool (decide_eq_false (show ¬ e > 200 by omega)),
    norm_bool (decide_eq_false (show ¬ e < -200 by omega)),
    norm_bool (gt_false hy),
    norm_bool (decide_eq_false (show ¬ e' > 200 by omega)),
    norm_bool (decide_eq_false (show ¬ e' < -200 by omega)),
    hu,
    norm_bool (ne_true hc), trivial⟩
  exact fits_of_trace (n := 300) (k0 := 1) hT Tryz.func15 (by kernel_rfl) (by kernel_rfl) (by kernel_rfl)

set_option maxRecDepth 100000 in
theorem sfit3_3_0 {x0 y0 : Dy} (q0 : FitS x0 y0) {x1 y1 : Dy} (q1 : FitS x1 y1) {x2 y2 : Dy} (q2 : FitS x2 y2) : FitsP 15 [Sv.cel (Cv.row 0 0 3 3)] [(0, ⟨29, [.raw (.bool (decide (x0.m < 0))), .ent (nat x0.m.natAbs), .raw (.int .i64 x0.e), .raw (.bool (decide (y0.m < 0))), .ent (nat y0.m.natAbs), .raw (.int .i64 y0.e), .raw (.bool (decide (x1.m < 0))), .ent (nat x1.m.natAbs), .raw (.int .i64 x1.e), .raw (.bool (decide (y1.m < 0))), .ent (nat y1.m.natAbs), .raw (.int .i64 y1.e), .raw (.bool (decide (x2.m < 0))), .ent (nat x2.m.natAbs), .raw (.int .i64 x2.e), .raw (.bool (decide (y2.m < 0))), .ent (nat y2.m.natAbs), .raw (.int .i64 y2.e)], true⟩)] (.one (boolS true)) := by
  have hT : AllOk Tryz.prog Glob [
    Tr.norm (nat_lit 27) (Av.one (Sv.cel (Cv.raw (Value.bool (decide ((↑(lenN (Int.natAbs (Dy.m x0))) : Int) > (10 : Int))))))) (Av.one (Sv.cel (Cv.raw (Value.bool false)))),
    Tr.norm (nat_lit 32) (Av.one (Sv.cel (Cv.raw (Value.bool (decide (Dy.e x0 > (200 : Int))))))) (Av.one (Sv.cel (Cv.raw (Value.bool false)))),
    Tr.norm (nat_lit 36) (Av.one (Sv.cel (Cv.raw (Value.bool (decide (Dy.e x0 < (-200 : Int))))))) (Av.one (Sv.cel (Cv.raw (Value.bool false)))),
    Tr.norm (nat_lit 49) (Av.one (Sv.cel (Cv.raw (Value.bool (decide ((↑(lenN (Int.natAbs (Dy.m y0))) : Int) > (10 : Int))))))) (Av.one (Sv.cel (Cv.raw (Value.bool false)))),
    Tr.norm (nat_lit 54) (Av.one (Sv.cel (Cv.raw (Value.bool (decide (Dy.e y0 > (200 : Int))))))) (Av.one (Sv.cel (Cv.raw (Value.bool false)))),
    Tr.norm (nat_lit 58) (Av.one (Sv.cel (Cv.raw (Value.bool (decide (Dy.e y0 < (-200 : Int))))))) (Av.one (Sv.cel (Cv.raw (Value.bool false)))),
    Tr.call 75 [Sv.agg [Cv.raw (Value.bool (decide (Dy.m x0 < (0 : Int)))), Cv.ent (nat (Int.natAbs (Dy.m x0))), Cv.raw (Value.int IntKind.i64 (Dy.e x0)), Cv.raw (Value.bool (decide (Dy.m y0 < (0 : Int)))), Cv.ent (nat (Int.natAbs (Dy.m y0))), Cv.raw (Value.int IntKind.i64 (Dy.e y0))]] [] (Av.one (Sv.cel (Cv.raw (Value.int IntKind.i64 (Int.ofNat (nat_lit 0)))))),
    Tr.norm (nat_lit 89) (Av.one (Sv.cel (Cv.raw (Value.bool (decide ((↑(lenN (Int.natAbs (Dy.m x1))) : Int) > (10 : Int))))))) (Av.one (Sv.cel (Cv.raw (Value.bool false)))),
    Tr.norm (nat_lit 94) (Av.one (Sv.cel (Cv.raw (Value.bool (decide (Dy.e x1 > (200 : Int))))))) (Av.one (Sv.cel (Cv.raw (Value.bool false)))),
    Tr.norm (nat_lit 98) (Av.one (Sv.cel (Cv.raw (Value.bool (decide (Dy.e x1 < (-200 : Int))))))) (Av.one (Sv.cel (Cv.raw (Value.bool false)))),
    Tr.norm (nat_lit 111) (Av.one (Sv.cel (Cv.raw (Value.bool (decide ((↑(lenN (Int.natAbs (Dy.m y1))) : Int) > (10 : Int))))))) (Av.one (Sv.cel (Cv.raw (Value.bool false)))),
    Tr.norm (nat_lit 116) (Av.one (Sv.cel (Cv.raw (Value.bool (decide (Dy.e y1 > (200 : Int))))))) (Av.one (Sv.cel (Cv.raw (Value.bool false)))),
    Tr.norm (nat_lit 120) (Av.one (Sv.cel (Cv.raw (Value.bool (decide (Dy.e y1 < (-200 : Int))))))) (Av.one (Sv.cel (Cv.raw (Value.bool false)))),
    Tr.call 75 [Sv.agg [Cv.raw (Value.bool (decide (Dy.m x1 < (0 : Int)))), Cv.ent (nat (Int.natAbs (Dy.m x1))), Cv.raw (Value.int IntKind.i64 (Dy.e x1)), Cv.raw (Value.bool (decide (Dy.m y1 < (0 : Int)))), Cv.ent (nat (Int.natAbs (Dy.m y1))), Cv.raw (Value.int IntKind.i64 (Dy.e y1))]] [] (Av.one (Sv.cel (Cv.raw (Value.int IntKind.i64 (Int.ofNat (nat_lit 0)))))),
    Tr.norm (nat_lit 151) (Av.one (Sv.cel (Cv.raw (Value.bool (decide ((↑(lenN (Int.natAbs (Dy.m x2))) : Int) > (10 : Int))))))) (Av.one (Sv.cel (Cv.raw (Value.bool false)))),
    Tr.norm (nat_lit 156) (Av.one (Sv.cel (Cv.raw (Value.bool (decide (Dy.e x2 > (200 : Int))))))) (Av.one (Sv.cel (Cv.raw (Value.bool false)))),
    Tr.norm (nat_lit 160) (Av.one (Sv.cel (Cv.raw (Value.bool (decide (Dy.e x2 < (-200 : Int))))))) (Av.one (Sv.cel (Cv.raw (Value.bool false)))),
    Tr.norm (nat_lit 173) (Av.one (Sv.cel (Cv.raw (Value.bool (decide ((↑(lenN (Int.natAbs (Dy.m y2))) : Int) > (10 : Int))))))) (Av.one (Sv.cel (Cv.raw (Value.bool false)))),
    Tr.norm (nat_lit 178) (Av.one (Sv.cel (Cv.raw (Value.bool (decide (Dy.e y2 > (200 : Int))))))) (Av.one (Sv.cel (Cv.raw (Value.bool false)))),
    Tr.norm (nat_lit 182) (Av.one (Sv.cel (Cv.raw (Value.bool (decide (Dy.e y2 < (-200 : Int))))))) (Av.one (Sv.cel (Cv.raw (Value.bool false)))),
    Tr.call 75 [Sv.agg [Cv.raw (Value.bool (decide (Dy.m x2 < (0 : Int)))), Cv.ent (nat (Int.natAbs (Dy.m x2))), Cv.raw (Value.int IntKind.i64 (Dy.e x2)), Cv.raw (Value.bool (decide (Dy.m y2 < (0 : Int)))), Cv.ent (nat (Int.natAbs (Dy.m y2))), Cv.raw (Value.int IntKind.i64 (Dy.e y2))]] [] (Av.one (Sv.cel (Cv.raw (Value.int IntKind.i64 (Int.ofNat (nat_lit 0))))))] := ⟨
    norm_bool (q0.a.len),
    norm_bool (decide_eq_false (show ¬ x0.e > 200 by have := q0.a.hi; omega)),
    norm_bool (decide_eq_false (show ¬ x0.e < -200 by have := q0.a.lo; omega)),
    norm_bool (q0.b.len),
    norm_bool (decide_eq_false (show ¬ y0.e > 200 by have := q0.b.hi; omega)),
    norm_bool (decide_eq_false (show ¬ y0.e < -200 by have := q0.b.lo; omega)),
    checkS_f q0.a.bd q0.b.bd (by omega) q0.no,
    norm_bool (q1.a.len),
    norm_bool (decide_eq_false (show ¬ x1.e > 200 by have := q1.a.hi; omega)),
    norm_bool (decide_eq_false (show ¬ x1.e < -200 by have := q1.a.lo; omega)),
    norm_bool (q1.b.len),
    norm_bool (decide_eq_false (show ¬ y1.e > 200 by have := q1.b.hi; omega)),
    norm_bool (decide_eq_false (show ¬ y1.e < -200 by have := q1.b.lo; omega)),
    checkS_f q1.a.bd q1.b.bd (by omega) q1.no,
    norm_bool (q2.a.len),
    norm_bool (decide_eq_false (show ¬ x2.e > 200 by have := q2.a.hi; omega)),
    norm_bool (decide_eq_false (show ¬ x2.e < -200 by have := q2.a.lo; omega)),
    norm_bool (q2.b.len),
    norm_bool (decide_eq_false (show ¬ y2.e > 200 by have := q2.b.hi; omega)),
    norm_bool (decide_eq_false (show ¬ y2.e < -200 by have := q2.b.lo; omega)),
    checkS_f q2.a.bd q2.b.bd (by omega) q2.no, trivial⟩
  exact fits_of_trace (n := 300) (k0 := 1) hT Tryz.func15 (by kernel_rfl) (by kernel_rfl) (by kernel_rfl)

theorem sfitThree_f {x0 y0 : Dy} (q0 : FitS x0 y0) {x1 y1 : Dy} (q1 : FitS x1 y1) {x2 y2 : Dy} (q2 : FitS x2 y2) (z : Nat) (o : Bool) : FitsP 15 [Sv.cel (Cv.row z 0 3 3)] [(z, ⟨29, [.raw (.bool (decide (x0.m < 0))), .ent (nat x0.m.natAbs), .raw (.int .i64 x0.e), .raw (.bool (decide (y0.m < 0))), .ent (nat y0.m.natAbs), .raw (.int .i64 y0.e), .raw (.bool (decide (x1.m < 0))), .ent (nat x1.m.natAbs), .raw (.int .i64 x1.e), .raw (.bool (decide (y1.m < 0))), .ent (nat y1.m.natAbs), .raw (.int .i64 y1.e), .raw (.bool (decide (x2.m < 0))), .ent (nat x2.m.natAbs), .raw (.int .i64 x2.e), .raw (.bool (decide (y2.m < 0))), .ent (nat y2.m.natAbs), .raw (.int .i64 y2.e)], o⟩)] (.one (boolS true)) := Fits.row (pre := []) (sfit3_3_0 q0 q1 q2) rfl rfl rfl z o

theorem sunfit3_0 {m : Bool} {xs : List Nat} {e : Int} {m' : Bool} {ys : List Nat} {e' : Int} (hu : UnfitS m xs e m' ys e') (m1 : Bool) (a1 : List Nat) (e1 : Int) (n1 : Bool) (b1 : List Nat) (f1 : Int) (m2 : Bool) (a2 : List Nat) (e2 : Int) (n2 : Bool) (b2 : List Nat) (f2 : Int) (z : Nat) (o : Bool) : FitsP 15 [Sv.cel (Cv.row z 0 3 3)] [(z, ⟨29, [.raw (.bool m), .ent (argE xs), .raw (.int .i64 e), .raw (.bool m'), .ent (argE ys), .raw (.int .i64 e'), .raw (.bool m1), .ent (argE a1), .raw (.int .i64 e1), .raw (.bool n1), .ent (argE b1), .raw (.int .i64 f1), .raw (.bool m2), .ent (argE a2), .raw (.int .i64 e2), .raw (.bool n2), .ent (argE b2), .raw (.int .i64 f2)], o⟩)] (.one (boolS false)) := by
  refine Fits.row (pre := []) (f := 15) (n := 3) (c := 3) (t := 29) (o := true) ?_ rfl rfl rfl z o
  rcases hu with hu | ⟨hx, hu⟩ | ⟨hx, hu⟩ | ⟨⟨hx, h1, h2⟩, hu | ⟨hy, hu⟩ | ⟨hy, hu⟩ | ⟨⟨hy, g1, g2⟩, c, hc, hu⟩⟩
  · exact sfit3_0_1 m1 a1 e1 n1 b1 f1 m2 a2 e2 n2 b2 f2 hu
  · exact sfit3_0_2 m1 a1 e1 n1 b1 f1 m2 a2 e2 n2 b2 f2 hx hu
  · exact sfit3_0_3 m1 a1 e1 n1 b1 f1 m2 a2 e2 n2 b2 f2 hx hu
  · exact sfit3_0_4 m1 a1 e1 n1 b1 f1 m2 a2 e2 n2 b2 f2 hx h1 h2 hu
  · exact sfit3_0_5 m1 a1 e1 n1 b1 f1 m2 a2 e2 n2 b2 f2 hx h1 h2 hy hu
  · exact sfit3_0_6 m1 a1 e1 n1 b1 f1 m2 a2 e2 n2 b2 f2 hx h1 h2 hy hu
  · exact sfit3_0_7 m1 a1 e1 n1 b1 f1 m2 a2 e2 n2 b2 f2 hx h1 h2 hy g1 g2 hc hu

theorem sunfit3_1 {x0 y0 : Dy} (q0 : FitS x0 y0) {m : Bool} {xs : List Nat} {e : Int} {m' : Bool} {ys : List Nat} {e' : Int} (hu : UnfitS m xs e m' ys e') (m2 : Bool) (a2 : List Nat) (e2 : Int) (n2 : Bool) (b2 : List Nat) (f2 : Int) (z : Nat) (o : Bool) : FitsP 15 [Sv.cel (Cv.row z 0 3 3)] [(z, ⟨29, [.raw (.bool (decide (x0.m < 0))), .ent (nat x0.m.natAbs), .raw (.int .i64 x0.e), .raw (.bool (decide (y0.m < 0))), .ent (nat y0.m.natAbs), .raw (.int .i64 y0.e), .raw (.bool m), .ent (argE xs), .raw (.int .i64 e), .raw (.bool m'), .ent (argE ys), .raw (.int .i64 e'), .raw (.bool m2), .ent (argE a2), .raw (.int .i64 e2), .raw (.bool n2), .ent (argE b2), .raw (.int .i64 f2)], o⟩)] (.one (boolS false)) := by
  refine Fits.row (pre := []) (f := 15) (n := 3) (c := 3) (t := 29) (o := true) ?_ rfl rfl rfl z o
  rcases hu with hu | ⟨hx, hu⟩ | ⟨hx, hu⟩ | ⟨⟨hx, h1, h2⟩, hu | ⟨hy, hu⟩ | ⟨hy, hu⟩ | ⟨⟨hy, g1, g2⟩, c, hc, hu⟩⟩
  · exact sfit3_1_1 q0 m2 a2 e2 n2 b2 f2 hu
  · exact sfit3_1_2 q0 m2 a2 e2 n2 b2 f2 hx hu
  · exact sfit3_1_3 q0 m2 a2 e2 n2 b2 f2 hx hu
  · exact sfit3_1_4 q0 m2 a2 e2 n2 b2 f2 hx h1 h2 hu
  · exact sfit3_1_5 q0 m2 a2 e2 n2 b2 f2 hx h1 h2 hy hu
  · exact sfit3_1_6 q0 m2 a2 e2 n2 b2 f2 hx h1 h2 hy hu
  · exact sfit3_1_7 q0 m2 a2 e2 n2 b2 f2 hx h1 h2 hy g1 g2 hc hu

theorem sunfit3_2 {x0 y0 : Dy} (q0 : FitS x0 y0) {x1 y1 : Dy} (q1 : FitS x1 y1) {m : Bool} {xs : List Nat} {e : Int} {m' : Bool} {ys : List Nat} {e' : Int} (hu : UnfitS m xs e m' ys e') (z : Nat) (o : Bool) : FitsP 15 [Sv.cel (Cv.row z 0 3 3)] [(z, ⟨29, [.raw (.bool (decide (x0.m < 0))), .ent (nat x0.m.natAbs), .raw (.int .i64 x0.e), .raw (.bool (decide (y0.m < 0))), .ent (nat y0.m.natAbs), .raw (.int .i64 y0.e), .raw (.bool (decide (x1.m < 0))), .ent (nat x1.m.natAbs), .raw (.int .i64 x1.e), .raw (.bool (decide (y1.m < 0))), .ent (nat y1.m.natAbs), .raw (.int .i64 y1.e), .raw (.bool m), .ent (argE xs), .raw (.int .i64 e), .raw (.bool m'), .ent (argE ys), .raw (.int .i64 e')], o⟩)] (.one (boolS false)) := by
  refine Fits.row (pre := []) (f := 15) (n := 3) (c := 3) (t := 29) (o := true) ?_ rfl rfl rfl z o
  rcases hu with hu | ⟨hx, hu⟩ | ⟨hx, hu⟩ | ⟨⟨hx, h1, h2⟩, hu | ⟨hy, hu⟩ | ⟨hy, hu⟩ | ⟨⟨hy, g1, g2⟩, c, hc, hu⟩⟩
  · exact sfit3_2_1 q0 q1 hu
  · exact sfit3_2_2 q0 q1 hx hu
  · exact sfit3_2_3 q0 q1 hx hu
  · exact sfit3_2_4 q0 q1 hx h1 h2 hu
  · exact sfit3_2_5 q0 q1 hx h1 h2 hy hu
  · exact sfit3_2_6 q0 q1 hx h1 h2 hy hu
  · exact sfit3_2_7 q0 q1 hx h1 h2 hy g1 g2 hc hu
end Go.Proofs.YtnnnmhjcnkipbaaGreatDoor
