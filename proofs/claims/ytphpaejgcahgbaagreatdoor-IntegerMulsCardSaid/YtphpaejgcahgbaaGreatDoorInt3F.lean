/- Layer 3: three whole numbers. -/
import Derived.Test.YtphpaejgcahgbaaGreatDoorDig
namespace Go.Proofs.YtphpaejgcahgbaaGreatDoor
open Go Go.RowKit Go.Shelf AM
set_option maxRecDepth 100000 in
theorem tfit_0_1 {m : Bool} {xs : List Nat} (m1 : Bool) (a1 : List Nat) (m2 : Bool) (a2 : List Nat) (hu : 30 < xs.length) : FitsP 15 [Sv.cel (Cv.row 0 0 3 3)] [(0, ⟨25, [.raw (.bool m), .ent (argE xs), .raw (.bool m1), .ent (argE a1), .raw (.bool m2), .ent (argE a2)], true⟩)] (.one (boolS false)) := by
  have hT : AllOk Tryz.prog Glob [
    Tr.norm (nat_lit 14) (Av.one (Sv.cel (Cv.raw (Value.bool (decide ((↑(List.length xs) : Int) > (30 : Int))))))) (Av.one (Sv.cel (Cv.raw (Value.bool true))))] := ⟨
    norm_bool (gt_true hu), trivial⟩
  exact fits_of_trace (n := 300) (k0 := 1) hT Tryz.func15 (by kernel_rfl) (by kernel_rfl) (by kernel_rfl)

set_option maxRecDepth 100000 in
theorem tfit_0_2 {m : Bool} {xs : List Nat} (m1 : Bool) (a1 : List Nat) (m2 : Bool) (a2 : List Nat) {c : Int} (hx : xs.length ≤ 30) (hc : checkI m xs = c) (hn : c ≠ 0) : FitsP 15 [Sv.cel (Cv.row 0 0 3 3)] [(0, ⟨25, [.raw (.bool m), .ent (argE xs), .raw (.bool m1), .ent (argE a1), .raw (.bool m2), .ent (argE a2)], true⟩)] (.one (boolS false)) := by
  have hT : AllOk Tryz.prog Glob [
    Tr.norm (nat_lit 14) (Av.one (Sv.cel (Cv.raw (Value.bool (decide ((↑(List.length xs) : Int) > (30 : Int))))))) (Av.one (Sv.cel (Cv.raw (Value.bool false)))),
    Tr.call 26 [Sv.agg [Cv.raw (Value.bool m), Cv.ent (argE xs)]] [] (Av.one (Sv.cel (Cv.raw (Value.int IntKind.i64 c)))),
    Tr.norm (nat_lit 18) (Av.one (Sv.cel (Cv.raw (Value.bool (c != (0 : Int)))))) (Av.one (Sv.cel (Cv.raw (Value.bool true))))] := ⟨
    norm_bool (gt_false hx),
    checkA_is (by omega) hc,
    norm_bool (ne_true hn), trivial⟩
  exact fits_of_trace (n := 300) (k0 := 1) hT Tryz.func15 (by kernel_rfl) (by kernel_rfl) (by kernel_rfl)

set_option maxRecDepth 100000 in
theorem tfit_1_1 {z0 : Int} (h0 : z0.natAbs < 4294967296 ^ 30) {m : Bool} {xs : List Nat} (m2 : Bool) (a2 : List Nat) (hu : 30 < xs.length) : FitsP 15 [Sv.cel (Cv.row 0 0 3 3)] [(0, ⟨25, [.raw (.bool (decide (z0 < 0))), .ent (nat z0.natAbs), .raw (.bool m), .ent (argE xs), .raw (.bool m2), .ent (argE a2)], true⟩)] (.one (boolS false)) := by
  have hT : AllOk Tryz.prog Glob [
    Tr.norm (nat_lit 14) (Av.one (Sv.cel (Cv.raw (Value.bool (decide ((↑(lenN (Int.natAbs z0)) : Int) > (30 : Int))))))) (Av.one (Sv.cel (Cv.raw (Value.bool false)))),
    Tr.call 26 [Sv.agg [Cv.raw (Value.bool (decide (z0 < (0 : Int)))), Cv.ent (nat (Int.natAbs z0))]] [] (Av.one (Sv.cel (Cv.raw (Value.int IntKind.i64 (Int.ofNat (nat_lit 0)))))),
    Tr.norm (nat_lit 30) (Av.one (Sv.cel (Cv.raw (Value.bool (decide ((↑(List.length xs) : Int) > (30 : Int))))))) (Av.one (Sv.cel (Cv.raw (Value.bool true))))] := ⟨
    norm_bool (len30 h0),
    checkI_f (limI30 h0),
    norm_bool (gt_true hu), trivial⟩
  exact fits_of_trace (n := 300) (k0 := 1) hT Tryz.func15 (by kernel_rfl) (by kernel_rfl) (by kernel_rfl)

set_option maxRecDepth 100000 in
theorem tfit_1_2 {z0 : Int} (h0 : z0.natAbs < 4294967296 ^ 30) {m : Bool} {xs : List Nat} (m2 : Bool) (a2 : List Nat) {c : Int} (hx : xs.length ≤ 30) (hc : checkI m xs = c) (hn : c ≠ 0) : FitsP 15 [Sv.cel (Cv.row 0 0 3 3)] [(0, ⟨25, [.raw (.bool (decide (z0 < 0))), .ent (nat z0.natAbs), .raw (.bool m), .ent (argE xs), .raw (.bool m2), .ent (argE a2)], true⟩)] (.one (boolS false)) := by
  have hT : AllOk Tryz.prog Glob [
    Tr.norm (nat_lit 14) (Av.one (Sv.cel (Cv.raw (Value.bool (decide ((↑(lenN (Int.natAbs z0)) : Int) > (30 : Int))))))) (Av.one (Sv.cel (Cv.raw (Value.bool false)))),
    Tr.call 26 [Sv.agg [Cv.raw (Value.bool (decide (z0 < (0 : Int)))), Cv.ent (nat (Int.natAbs z0))]] [] (Av.one (Sv.cel (Cv.raw (Value.int IntKind.i64 (Int.ofNat (nat_lit 0)))))),
    Tr.norm (nat_lit 30) (Av.one (Sv.cel (Cv.raw (Value.bool (decide ((↑(List.length xs) : Int) > (30 : Int))))))) (Av.one (Sv.cel (Cv.raw (Value.bool false)))),
    Tr.call 26 [Sv.agg [Cv.raw (Value.bool m), Cv.ent (argE xs)]] [] (Av.one (Sv.cel (Cv.raw (Value.int IntKind.i64 c)))),
    Tr.norm (nat_lit 34) (Av.one (Sv.cel (Cv.raw (Value.bool (c != (0 : Int)))))) (Av.one (Sv.cel (Cv.raw (Value.bool true))))] := ⟨
    norm_bool (len30 h0),
    checkI_f (limI30 h0),
    norm_bool (gt_false hx),
    checkA_is (by omega) hc,
    norm_bool (ne_true hn), trivial⟩
  exact fits_of_trace (n := 300) (k0 := 1) hT Tryz.func15 (by kernel_rfl) (by kernel_rfl) (by kernel_rfl)

set_option maxRecDepth 100000 in
theorem tfit_2_1 {z0 : Int} (h0 : z0.natAbs < 4294967296 ^ 30) {z1 : Int} (h1 : z1.natAbs < 4294967296 ^ 30) {m : Bool} {xs : List Nat} (hu : 30 < xs.length) : FitsP 15 [Sv.cel (Cv.row 0 0 3 3)] [(0, ⟨25, [.raw (.bool (decide (z0 < 0))), .ent (nat z0.natAbs), .raw (.bool (decide (z1 < 0))), .ent (nat z1.natAbs), .raw (.bool m), .ent (argE xs)], true⟩)] (.one (boolS false)) := by
  have hT : AllOk Tryz.prog Glob [
    Tr.norm (nat_lit 14) (Av.one (Sv.cel (Cv.raw (Value.bool (decide ((↑(lenN (Int.natAbs z0)) : Int) > (30 : Int))))))) (Av.one (Sv.cel (Cv.raw (Value.bool false)))),
    Tr.call 26 [Sv.agg [Cv.raw (Value.bool (decide (z0 < (0 : Int)))), Cv.ent (nat (Int.natAbs z0))]] [] (Av.one (Sv.cel (Cv.raw (Value.int IntKind.i64 (Int.ofNat (nat_lit 0)))))),
    Tr.norm (nat_lit 30) (Av.one (Sv.cel (Cv.raw (Value.bool (decide ((↑(lenN (Int.natAbs z1)) : Int) > (30 : Int))))))) (Av.one (Sv.cel (Cv.raw (Value.bool false)))),
    Tr.call 26 [Sv.agg [Cv.raw (Value.bool (decide (z1 < (0 : Int)))), Cv.ent (nat (Int.natAbs z1))]] [] (Av.one (Sv.cel (Cv.raw (Value.int IntKind.i64 (Int.ofNat (nat_lit 0)))))),
    Tr.norm (nat_lit 46) (Av.one (Sv.cel (Cv.raw (Value.bool (decide ((↑(List.length xs) : Int) > (30 : Int))))))) (Av.one (Sv.cel (Cv.raw (Value.bool true))))] := ⟨
    norm_bool (len30 h0),
    checkI_f (limI30 h0),
    norm_bool (len30 h1),
    checkI_f (limI30 h1),
    norm_bool (gt_true hu), trivial⟩
  exact fits_of_trace (n := 300) (k0 := 1) hT Tryz.func15 (by kernel_rfl) (by kernel_rfl) (by kernel_rfl)

set_option maxRecDepth 100000 in
theorem tfit_2_2 {z0 : Int} (h0 : z0.natAbs < 4294967296 ^ 30) {z1 : Int} (h1 : z1.natAbs < 4294967296 ^ 30) {m : Bool} {xs : List Nat} {c : Int} (hx : xs.length ≤ 30) (hc : checkI m xs = c) (hn : c ≠ 0) : FitsP 15 [Sv.cel (Cv.row 0 0 3 3)] [(0, ⟨25, [.raw (.bool (decide (z0 < 0))), .ent (nat z0.natAbs), .raw (.bool (decide (z1 < 0))), .ent (nat z1.natAbs), .raw (.bool m), .ent (argE xs)], true⟩)] (.one (boolS false)) := by
  have hT : AllOk Tryz.prog Glob [
    Tr.norm (nat_lit 14) (Av.one (Sv.cel (Cv.raw (Value.bool (decide ((↑(lenN (Int.natAbs z0)) : Int) > (30 : Int))))))) (Av.one (Sv.cel (Cv.raw (Value.bool false)))),
    Tr.call 26 [Sv.agg [Cv.raw (Value.bool (decide (z0 < (0 : Int)))), Cv.ent (nat (Int.natAbs z0))]] [] (Av.one (Sv.cel (Cv.raw (Value.int IntKind.i64 (Int.ofNat (nat_lit 0)))))),
    Tr.norm (nat_lit 30) (Av.one (Sv.cel (Cv.raw (Value.bool (decide ((↑(lenN (Int.natAbs z1)) : Int) > (30 : Int))))))) (Av.one (Sv.cel (Cv.raw (Value.bool false)))),
    Tr.call 26 [Sv.agg [Cv.raw (Value.bool (decide (z1 < (0 : Int)))), Cv.ent (nat (Int.natAbs z1))]] [] (Av.one (Sv.cel (Cv.raw (Value.int IntKind.i64 (Int.ofNat (nat_lit 0)))))),
    Tr.norm (nat_lit 46) (Av.one (Sv.cel (Cv.raw (Value.bool (decide ((↑(List.length xs) : Int) > (30 : Int))))))) (Av.one (Sv.cel (Cv.raw (Value.bool false)))),
    Tr.call 26 [Sv.agg [Cv.raw (Value.bool m), Cv.ent (argE xs)]] [] (Av.one (Sv.cel (Cv.raw (Value.int IntKind.i64 c)))),
    Tr.norm (nat_lit 50) (Av.one (Sv.cel (Cv.raw (Value.bool (c != (0 : Int)))))) (Av.one (Sv.cel (Cv.raw (Value.bool true))))] := ⟨
    norm_bool (len30 h0),
    checkI_f (limI30 h0),
    norm_bool (len30 h1),
    checkI_f (limI30 h1),
    norm_bool (gt_false hx),
    checkA_is (by omega) hc,
    norm_bool (ne_true hn), trivial⟩
  exact fits_of_trace (n := 300) (k0 := 1) hT Tryz.func15 (by kernel_rfl) (by kernel_rfl) (by kernel_rfl)

set_option maxRecDepth 100000 in
theorem tfit_3_0 {z0 : Int} (h0 : z0.natAbs < 4294967296 ^ 30) {z1 : Int} (h1 : z1.natAbs < 4294967296 ^ 30) {z2 : Int} (h2 : z2.natAbs < 4294967296 ^ 30) : FitsP 15 [Sv.cel (Cv.row 0 0 3 3)] [(0, ⟨25, [.raw (.bool (decide (z0 < 0))), .ent (nat z0.natAbs), .raw (.bool (decide (z1 < 0))), .ent (nat z1.natAbs), .raw (.bool (decide (z2 < 0))), .ent (nat z2.natAbs)], true⟩)] (.one (boolS true)) := by
  have hT : AllOk Tryz.prog Glob [
    Tr.norm (nat_lit 14) (Av.one (Sv.cel (Cv.raw (Value.bool (decide ((↑(lenN (Int.natAbs z0)) : Int) > (30 : Int))))))) (Av.one (Sv.cel (Cv.raw (Value.bool false)))),
    Tr.call 26 [Sv.agg [Cv.raw (Value.bool (decide (z0 < (0 : Int)))), Cv.ent (nat (Int.natAbs z0))]] [] (Av.one (Sv.cel (Cv.raw (Value.int IntKind.i64 (Int.ofNat (nat_lit 0)))))),
    Tr.norm (nat_lit 30) (Av.one (Sv.cel (Cv.raw (Value.bool (decide ((↑(lenN (Int.natAbs z1)) : Int) > (30 : Int))))))) (Av.one (Sv.cel (Cv.raw (Value.bool false)))),
    Tr.call 26 [Sv.agg [Cv.raw (Value.bool (decide (z1 < (0 : Int)))), Cv.ent (nat (Int.natAbs z1))]] [] (Av.one (Sv.cel (Cv.raw (Value.int IntKind.i64 (Int.ofNat (nat_lit 0)))))),
    Tr.norm (nat_lit 46) (Av.one (Sv.cel (Cv.raw (Value.bool (decide ((↑(lenN (Int.natAbs z2)) : Int) > (30 : Int))))))) (Av.one (Sv.cel (Cv.raw (Value.bool false)))),
    Tr.call 26 [Sv.agg [Cv.raw (Value.bool (decide (z2 < (0 : Int)))), Cv.ent (nat (Int.natAbs z2))]] [] (Av.one (Sv.cel (Cv.raw (Value.int IntKind.i64 (Int.ofNat (nat_lit 0))))))] := ⟨
    norm_bool (len30 h0),
    checkI_f (limI30 h0),
    norm_bool (len30 h1),
    checkI_f (limI30 h1),
    norm_bool (len30 h2),
    checkI_f (limI30 h2), trivial⟩
  exact fits_of_trace (n := 300) (k0 := 1) hT Tryz.func15 (by kernel_rfl) (by kernel_rfl) (by kernel_rfl)

theorem tfit_f {z0 z1 z2 : Int} (h0 : z0.natAbs < 4294967296 ^ 30) (h1 : z1.natAbs < 4294967296 ^ 30) (h2 : z2.natAbs < 4294967296 ^ 30) (x : Nat) (o : Bool) : FitsP 15 [Sv.cel (Cv.row x 0 3 3)] [(x, ⟨25, [.raw (.bool (decide (z0 < 0))), .ent (nat z0.natAbs), .raw (.bool (decide (z1 < 0))), .ent (nat z1.natAbs), .raw (.bool (decide (z2 < 0))), .ent (nat z2.natAbs)], o⟩)] (.one (boolS true)) := Fits.row (pre := []) (tfit_3_0 h0 h1 h2) rfl rfl rfl x o

theorem tunfit_0 {m : Bool} {xs : List Nat} (hu : UnfitI m xs) (m1 : Bool) (a1 : List Nat) (m2 : Bool) (a2 : List Nat) (x : Nat) (o : Bool) : FitsP 15 [Sv.cel (Cv.row x 0 3 3)] [(x, ⟨25, [.raw (.bool m), .ent (argE xs), .raw (.bool m1), .ent (argE a1), .raw (.bool m2), .ent (argE a2)], o⟩)] (.one (boolS false)) := by
  refine Fits.row (pre := []) (f := 15) (n := 3) (c := 3) (t := 25) (o := true) ?_ rfl rfl rfl x o
  rcases hu with h | ⟨hx, h⟩
  · exact tfit_0_1 m1 a1 m2 a2 h
  · exact tfit_0_2 m1 a1 m2 a2 hx rfl h

theorem tunfit_1 {z0 : Int} (h0 : z0.natAbs < 4294967296 ^ 30) {m : Bool} {xs : List Nat} (hu : UnfitI m xs) (m2 : Bool) (a2 : List Nat) (x : Nat) (o : Bool) : FitsP 15 [Sv.cel (Cv.row x 0 3 3)] [(x, ⟨25, [.raw (.bool (decide (z0 < 0))), .ent (nat z0.natAbs), .raw (.bool m), .ent (argE xs), .raw (.bool m2), .ent (argE a2)], o⟩)] (.one (boolS false)) := by
  refine Fits.row (pre := []) (f := 15) (n := 3) (c := 3) (t := 25) (o := true) ?_ rfl rfl rfl x o
  rcases hu with h | ⟨hx, h⟩
  · exact tfit_1_1 h0 m2 a2 h
  · exact tfit_1_2 h0 m2 a2 hx rfl h

theorem tunfit_2 {z0 : Int} (h0 : z0.natAbs < 4294967296 ^ 30) {z1 : Int} (h1 : z1.natAbs < 4294967296 ^ 30) {m : Bool} {xs : List Nat} (hu : UnfitI m xs) (x : Nat) (o : Bool) : FitsP 15 [Sv.cel (Cv.row x 0 3 3)] [(x, ⟨25, [.raw (.bool (decide (z0 < 0))), .ent (nat z0.natAbs), .raw (.bool (decide (z1 < 0))), .ent (nat z1.natAbs), .raw (.bool m), .ent (argE xs)], o⟩)] (.one (boolS false)) := by
  refine Fits.row (pre := []) (f := 15) (n := 3) (c := 3) (t := 25) (o := true) ?_ rfl rfl rfl x o
  rcases hu with h | ⟨hx, h⟩
  · exact tfit_2_1 h0 h1 h
  · exact tfit_2_2 h0 h1 hx rfl h

theorem addN_f {z : Int} (h : LimI z) : FitsP 17 [.agg [.raw (.bool false), .raw (.slice none 0 0)], im z] [] (.tup [im z, ok0]) := by
  have := addI_f (z1 := 0) (z2 := z) (small_lim (by decide)) h (by rw [Int.zero_add]; exact h)
  rw [Int.zero_add] at this
  refine Fits.args this fun β W vals hh => ?_
  obtain ⟨u, v, rfl, h1, h2⟩ := all2_2 hh
  exact ⟨norm_im0 β W u h1, h2, trivial⟩
theorem sumLim {a b : Int} {n : Nat} (ha : a.natAbs < 4294967296 ^ n) (hb : b.natAbs < 4294967296 ^ n) : (a + b).natAbs < 4294967296 ^ (n + 1) := add_abs ha hb

set_option maxRecDepth 100000 in
theorem sum3I0_f {p q r : Int} (hp : p.natAbs < 4294967296 ^ 30) (hq : q.natAbs < 4294967296 ^ 30) (hr : r.natAbs < 4294967296 ^ 30) : FitsP 19 [Sv.cel (Cv.row 0 0 3 3)] [(0, ⟨25, [.raw (.bool (decide (p < 0))), .ent (nat p.natAbs), .raw (.bool (decide (q < 0))), .ent (nat q.natAbs), .raw (.bool (decide (r < 0))), .ent (nat r.natAbs)], true⟩)] (.tup [im (p + q + r), ok0]) := by
  have hT : AllOk Tryz.prog Glob [
    Tr.call 17 [Sv.agg [Cv.raw (Value.bool false), Cv.raw (Value.slice none (nat_lit 0) (nat_lit 0))], Sv.agg [Cv.raw (Value.bool (decide (p < (0 : Int)))), Cv.ent (nat (Int.natAbs p))]] [] (Av.tup [Sv.agg [Cv.raw (Value.bool (decide (p < (0 : Int)))), Cv.ent (nat (Int.natAbs p))], Sv.cel (Cv.raw (Value.int IntKind.i64 (Int.ofNat (nat_lit 0))))]),
    Tr.call 17 [Sv.agg [Cv.raw (Value.bool (decide (p < (0 : Int)))), Cv.ent (nat (Int.natAbs p))], Sv.agg [Cv.raw (Value.bool (decide (q < (0 : Int)))), Cv.ent (nat (Int.natAbs q))]] [] (Av.tup [Sv.agg [Cv.raw (Value.bool (decide (p + q < (0 : Int)))), Cv.ent (nat (Int.natAbs (p + q)))], Sv.cel (Cv.raw (Value.int IntKind.i64 (Int.ofNat (nat_lit 0))))]),
    Tr.call 17 [Sv.agg [Cv.raw (Value.bool (decide (p + q < (0 : Int)))), Cv.ent (nat (Int.natAbs (p + q)))], Sv.agg [Cv.raw (Value.bool (decide (r < (0 : Int)))), Cv.ent (nat (Int.natAbs r))]] [] (Av.tup [Sv.agg [Cv.raw (Value.bool (decide (p + q + r < (0 : Int)))), Cv.ent (nat (Int.natAbs (p + q + r)))], Sv.cel (Cv.raw (Value.int IntKind.i64 (Int.ofNat (nat_lit 0))))])] := ⟨
    addN_f (limI30 hp),
    addI_f (limI30 hp) (limI30 hq) (lim_of (sumLim hp hq) (by omega)),
    addI_f (lim_of (sumLim hp hq) (by omega)) (limI30 hr) (lim_of (sumLim (n := 31) (sumLim hp hq) (Nat.lt_of_lt_of_le hr (Nat.pow_le_pow_right (by omega) (by omega)))) (by omega)), trivial⟩
  exact fits_of_trace (n := 300) (k0 := 1) hT Tryz.func19 (by kernel_rfl) (by kernel_rfl) (by kernel_rfl)

theorem sum3I_f {p q r : Int} (hp : p.natAbs < 4294967296 ^ 30) (hq : q.natAbs < 4294967296 ^ 30) (hr : r.natAbs < 4294967296 ^ 30) (x : Nat) (o : Bool) : FitsP 19 [Sv.cel (Cv.row x 0 3 3)] [(x, ⟨25, [.raw (.bool (decide (p < 0))), .ent (nat p.natAbs), .raw (.bool (decide (q < 0))), .ent (nat q.natAbs), .raw (.bool (decide (r < 0))), .ent (nat r.natAbs)], o⟩)] (.tup [im (p + q + r), ok0]) := Fits.row (pre := []) (sum3I0_f hp hq hr) rfl rfl rfl x o
theorem sameI3 {z1 z2 : Int} (h : z1 = z2) : FitsP 22 [im z1, im z2] [] (.one (boolS true)) := by
  have := sameI_f (z1 := z1) (z2 := z2)
  rw [decide_eq_true h] at this; exact this
theorem sgv_self (z : Int) : sgv (decide (z < 0)) z.natAbs = z := by
  unfold sgv
  by_cases h : z < 0
  · rw [decide_eq_true h]; simp; omega
  · rw [decide_eq_false h]; simp; omega
theorem sgv_neg (z : Int) : sgv (!decide (z < 0)) z.natAbs = -z := by
  unfold sgv
  by_cases h : z < 0
  · rw [decide_eq_true h]; simp; omega
  · rw [decide_eq_false h]; simp; omega
theorem sgv_mul (a b : Int) : sgv (decide (a < 0) != decide (b < 0)) (a.natAbs * b.natAbs) = a * b := by
  unfold sgv
  by_cases h : a < 0 <;> by_cases k : b < 0 <;> simp [h, k]
  · obtain ⟨x, rfl⟩ : ∃ x : Nat, a = -(x : Int) := ⟨a.natAbs, by omega⟩
    obtain ⟨y, rfl⟩ : ∃ y : Nat, b = -(y : Int) := ⟨b.natAbs, by omega⟩
    rw [Int.neg_mul_neg]; simp
  · obtain ⟨x, rfl⟩ : ∃ x : Nat, a = -(x : Int) := ⟨a.natAbs, by omega⟩
    obtain ⟨y, rfl⟩ : ∃ y : Nat, b = (y : Int) := ⟨b.natAbs, by omega⟩
    rw [Int.neg_mul]; simp
  · obtain ⟨x, rfl⟩ : ∃ x : Nat, a = (x : Int) := ⟨a.natAbs, by omega⟩
    obtain ⟨y, rfl⟩ : ∃ y : Nat, b = -(y : Int) := ⟨b.natAbs, by omega⟩
    rw [Int.mul_neg]; simp
  · obtain ⟨x, rfl⟩ : ∃ x : Nat, a = (x : Int) := ⟨a.natAbs, by omega⟩
    obtain ⟨y, rfl⟩ : ∃ y : Nat, b = (y : Int) := ⟨b.natAbs, by omega⟩
    simp
end Go.Proofs.YtphpaejgcahgbaaGreatDoor
