
/- Spans: what their functions do. -/
import Derived.Test.YtnncfbmddpijcaaGreatDoorDyR
namespace Go.Proofs.YtnncfbmddpijcaaGreatDoor
open Go Go.RowKit Go.Shelf AM
/-- A span, in memory. -/
def spS (a b : Dy) : Sv := .agg [.raw (.bool (decide (a.m < 0))), .ent (nat a.m.natAbs), .raw (.int .i64 a.e), .raw (.bool (decide (b.m < 0))), .ent (nat b.m.natAbs), .raw (.int .i64 b.e)]
/-- Two numbers, four numbers. -/
def arr4 (a b c d : Dy) : Sv := .agg [.raw (.bool (decide (a.m < 0))), .ent (nat a.m.natAbs), .raw (.int .i64 a.e), .raw (.bool (decide (b.m < 0))), .ent (nat b.m.natAbs), .raw (.int .i64 b.e), .raw (.bool (decide (c.m < 0))), .ent (nat c.m.natAbs), .raw (.int .i64 c.e), .raw (.bool (decide (d.m < 0))), .ent (nat d.m.natAbs), .raw (.int .i64 d.e)]
def spN : Sv := .agg [.raw (.bool false), .raw (.slice none 0 0), .raw (.int .i64 0), .raw (.bool false), .raw (.slice none 0 0), .raw (.int .i64 0)]

theorem norm_spN {β : Nat → Option Nat} {W : World} {v : Value} (h : RelS β W v spN) : RelS β W v (spS ⟨0, 0⟩ ⟨0, 0⟩) := by
  obtain ⟨vs, rfl, hh⟩ := h
  match vs, hh with
  | [c, d, e, f, g, i], ⟨k1, k2, k3, k4, k5, k6, _⟩ => exact ⟨[c, d, e, f, g, i], rfl, k1, norm_nil k2, k3, k4, norm_nil k5, k6, trivial⟩
theorem norm_sp2 {s : Sv} : Norm (.tup [spN, s]) (.tup [spS ⟨0, 0⟩ ⟨0, 0⟩, s]) := fun β W v h => by
  obtain ⟨vs, rfl, hh⟩ := h
  match vs, hh with
  | [a, b], ⟨h1, h2, _⟩ => exact ⟨[a, b], rfl, norm_spN h1, h2, trivial⟩

set_option maxRecDepth 100000 in
theorem nearS_f {q : Rat} {b n : Nat} (hq : BQ n q) (hn : n ≤ 64) (hb : 2 ≤ b) (hb2 : b ≤ 4096) : FitsP 4 [rq q, intS (b : Int)] [] (.tup [spS (nrD b q) (nuD b q), ok0]) := by
  have hT : AllOk Tryz.prog Glob [
    Tr.call 22 [rq q, intS (↑b : Int), boolS false] [] (Av.tup [dS (nrD b q), ok0]),
    Tr.call 22 [rq q, intS (↑b : Int), boolS true] [] (Av.tup [dS (nuD b q), ok0])] := ⟨
    nearDown_f hq hn hb hb2,
    nearUp_f hq hn hb hb2, trivial⟩
  exact fits_of_trace (n := 300) (k0 := 0) hT Tryz.func4 (by kernel_rfl) (by kernel_rfl) (by kernel_rfl)

set_option maxRecDepth 100000 in
theorem roundS_f {x y : Dy} {b n k : Nat} (hx : BD n k x) (hy : BD n k y) (hk : n + k + 1 ≤ 512) (hb : 2 ≤ b) (hb2 : b ≤ 4096) : FitsP 35 [spS x y, intS (b : Int)] [] (.tup [spS (rdD b x) (ruD b y), ok0]) := by
  have hT : AllOk Tryz.prog Glob [
    Tr.call 57 [dS x, intS (↑b : Int), boolS false] [] (Av.tup [dS (rdD b x), ok0]),
    Tr.call 57 [dS y, intS (↑b : Int), boolS true] [] (Av.tup [dS (ruD b y), ok0])] := ⟨
    roundDown_f hx hk hb hb2,
    roundUp_f hy hk hb hb2, trivial⟩
  exact fits_of_trace (n := 300) (k0 := 0) hT Tryz.func35 (by kernel_rfl) (by kernel_rfl) (by kernel_rfl)

set_option maxRecDepth 100000 in
theorem addS_f {x y u v : Dy} {b n k : Nat} (hx : BD n k x) (hy : BD n k y) (hu : BD n k u) (hv : BD n k v) (hk : n + k + 2 ≤ 512) (hb : 2 ≤ b) (hb2 : b ≤ 4096) : FitsP 12 [spS x y, spS u v, intS (b : Int)] [] (.tup [spS (rdD b (addD x u)) (ruD b (addD y v)), ok0]) := by
  have hT : AllOk Tryz.prog Glob [
    Tr.call 37 [dS x, dS u] [] (Av.tup [dS (addD x u), ok0]),
    Tr.call 37 [dS y, dS v] [] (Av.tup [dS (addD y v), ok0]),
    Tr.call 35 [spS (addD x u) (addD y v), intS (↑b : Int)] [] (Av.tup [spS (rdD b (addD x u)) (ruD b (addD y v)), ok0])] := ⟨
    addD_f hx hu (by omega),
    addD_f hy hv (by omega),
    roundS_f (hx.add hu) (hy.add hv) (by omega) hb hb2, trivial⟩
  exact fits_of_trace (n := 300) (k0 := 0) hT Tryz.func12 (by kernel_rfl) (by kernel_rfl) (by kernel_rfl)

set_option maxRecDepth 100000 in
theorem endsS_f {x y : Dy} : FitsP 34 [spS x y] [] (.one (spS x y)) := by
  have hT : AllOk Tryz.prog Glob [] := trivial
  exact fits_of_trace (n := 300) (k0 := 0) hT Tryz.func34 (by kernel_rfl) (by kernel_rfl) (by kernel_rfl)

theorem BD.maxS {n k : Nat} {a b : Dy} (ha : BD n k a) (hb : BD n k b) : BD n k (maxD a b) := by unfold maxD; split <;> assumption
theorem BD.minS {n k : Nat} {a b : Dy} (ha : BD n k a) (hb : BD n k b) : BD n k (minD a b) := by unfold minD; split <;> assumption

set_option maxRecDepth 100000 in
theorem hasNo1_f {x y d : Dy} {n k : Nat} (hx : BD n k x) (_hy : BD n k y) (hd : BD n k d) (hk : n + k ≤ 512) (h : dv d < dv x) : FitsP 6 [spS x y, dS d] [] (.one (boolS false)) := by
  have hT : AllOk Tryz.prog Glob [
    Tr.call 25 [dS d, dS x] [] (Av.one (boolS true))] := ⟨
    lessD_is hd hx hk (decide_eq_true h), trivial⟩
  exact fits_of_trace (n := 300) (k0 := 0) hT Tryz.func6 (by kernel_rfl) (by kernel_rfl) (by kernel_rfl)

set_option maxRecDepth 100000 in
theorem hasNo2_f {x y d : Dy} {n k : Nat} (hx : BD n k x) (hy : BD n k y) (hd : BD n k d) (hk : n + k ≤ 512) (h : ¬ dv d < dv x) (h2 : dv y < dv d) : FitsP 6 [spS x y, dS d] [] (.one (boolS false)) := by
  have hT : AllOk Tryz.prog Glob [
    Tr.call 25 [dS d, dS x] [] (Av.one (boolS false)),
    Tr.call 25 [dS y, dS d] [] (Av.one (boolS true))] := ⟨
    lessD_is hd hx hk (decide_eq_false h),
    lessD_is hy hd hk (decide_eq_true h2), trivial⟩
  exact fits_of_trace (n := 300) (k0 := 0) hT Tryz.func6 (by kernel_rfl) (by kernel_rfl) (by kernel_rfl)

set_option maxRecDepth 100000 in
theorem hasYes_f {x y d : Dy} {n k : Nat} (hx : BD n k x) (hy : BD n k y) (hd : BD n k d) (hk : n + k ≤ 512) (h : ¬ dv d < dv x) (h2 : ¬ dv y < dv d) : FitsP 6 [spS x y, dS d] [] (.one (boolS true)) := by
  have hT : AllOk Tryz.prog Glob [
    Tr.call 25 [dS d, dS x] [] (Av.one (boolS false)),
    Tr.call 25 [dS y, dS d] [] (Av.one (boolS false))] := ⟨
    lessD_is hd hx hk (decide_eq_false h),
    lessD_is hy hd hk (decide_eq_false h2), trivial⟩
  exact fits_of_trace (n := 300) (k0 := 0) hT Tryz.func6 (by kernel_rfl) (by kernel_rfl) (by kernel_rfl)

theorem hasS_f {x y d : Dy} {n k : Nat} (hx : BD n k x) (hy : BD n k y) (hd : BD n k d) (hk : n + k ≤ 512) : FitsP 6 [spS x y, dS d] [] (.one (boolS (decide (dv x ≤ dv d ∧ dv d ≤ dv y)))) := by
  by_cases h : dv d < dv x
  · rw [decide_eq_false (by grind)]; exact hasNo1_f hx hy hd hk h
  · by_cases h2 : dv y < dv d
    · rw [decide_eq_false (by grind)]; exact hasNo2_f hx hy hd hk h h2
    · rw [decide_eq_true (by grind)]; exact hasYes_f hx hy hd hk h h2
theorem hasS_is {x y d : Dy} {n k : Nat} (hx : BD n k x) (hy : BD n k y) (hd : BD n k d) (hk : n + k ≤ 512) {c : Bool} (hc : decide (dv x ≤ dv d ∧ dv d ≤ dv y) = c) : FitsP 6 [spS x y, dS d] [] (.one (boolS c)) := by subst hc; exact hasS_f hx hy hd hk

theorem ordLe {p r : Rat} {k : Int} (h : ordQ p r = k) : decide (k ≤ 0) = decide (p ≤ r) := by
  rw [← h, decide_eq_decide]
  rcases rat_tri p r with h1 | h1 | h1
  · rw [ordQ_ltI h1]; exact ⟨fun _ => by grind, fun _ => by decide⟩
  · rw [ordQ_eqI h1]; exact ⟨fun _ => by grind, fun _ => by decide⟩
  · rw [ordQ_gtI h1]; exact ⟨fun h => absurd h (by decide), fun _ => by grind⟩
theorem ordGe {p r : Rat} {k : Int} (h : ordQ p r = k) : decide (k ≥ 0) = decide (r ≤ p) := by
  rw [← h, decide_eq_decide]
  rcases rat_tri p r with h1 | h1 | h1
  · rw [ordQ_ltI h1]; exact ⟨fun h => absurd h (by decide), fun _ => by grind⟩
  · rw [ordQ_eqI h1]; exact ⟨fun _ => by grind, fun _ => by decide⟩
  · rw [ordQ_gtI h1]; exact ⟨fun _ => by grind, fun _ => by decide⟩

set_option maxRecDepth 100000 in
theorem hasQ_f {x y : Dy} {q : Rat} {n k m : Nat} {c d : Int} (hx : BD n k x) (hy : BD n k y) (hq : BQ m q) (hk : n + k + 1 + m ≤ 512) (hc : ordQ (dv x) q = c) (hd : ordQ (dv y) q = d) (h : dv x ≤ q) (h2 : q ≤ dv y) : FitsP 15 [spS x y, rq q] [] (.tup [boolS true, ok0]) := by
  have hT : AllOk Tryz.prog Glob [
    Tr.call 20 [dS x, rq q] [] (Av.tup [intS c, ok0]),
    Tr.call 20 [dS y, rq q] [] (Av.tup [intS d, ok0]),
    Tr.norm 28 (Av.one (Sv.cel (Cv.raw (Value.bool (decide (c ≤ (0 : Int))))))) (Av.one (boolS true))] := ⟨
    cmpDQ_f hx hq hk hc,
    cmpDQ_f hy hq hk hd,
    norm_bool (by rw [ordLe hc]; exact decide_eq_true h), trivial⟩
  exact Fits.res (r := (.tup [Sv.cel (Cv.raw (Value.bool (decide (d ≥ (0 : Int))))), ok0])) (fits_of_trace (n := 300) (k0 := 0) hT Tryz.func15 (by kernel_rfl) (by kernel_rfl) (by kernel_rfl)) (Norm.of_eq (by rw [ordGe hd, decide_eq_true h2]; rfl))

set_option maxRecDepth 100000 in
theorem widthS_f {x y : Dy} {n k : Nat} (hx : BD n k x) (hy : BD n k y) (hk : n + k + 1 ≤ 512) : FitsP 17 [spS x y] [] (.tup [dS (subD y x), ok0]) := by
  have hT : AllOk Tryz.prog Glob [
    Tr.call 43 [dS y, dS x] [] (Av.tup [dS (subD y x), ok0])] := ⟨
    subD_f hy hx hk, trivial⟩
  exact fits_of_trace (n := 300) (k0 := 0) hT Tryz.func17 (by kernel_rfl) (by kernel_rfl) (by kernel_rfl)

def hlfD : Dy := ⟨1, -1⟩
theorem hlf_dv : dv hlfD = 1 / 2 := by decide +kernel
theorem hlf_ok : hlfD.Ok := .inr (by decide)
theorem hlf_bd : BD 1 1 hlfD := ⟨hlf_ok, by decide, by decide +kernel⟩
theorem ofHalf_f : FitsP 7 [intS 1, intS (-1)] [] (.one (dS hlfD)) := by
  have e : mkD 1 (-1) = hlfD := mk_is hlf_ok (by decide +kernel)
  have := ofD0_f (n := 1) (x := -1) (inI_small (by decide) (by decide)) (by decide) (by decide) (by rw [e]; decide)
  rw [e] at this; exact this
def mdD (x y : Dy) : Dy := mulD (addD x y) hlfD
theorem mdD_dv (x y : Dy) : dv (mdD x y) = (dv x + dv y) / 2 := by unfold mdD; rw [mulD_dv, addD_dv, hlf_dv]; grind
theorem BD.md {n k : Nat} {x y : Dy} (hx : BD n k x) (hy : BD n k y) : BD (n + 2) (k + 1) (mdD x y) := (hx.add hy).mul hlf_bd

set_option maxRecDepth 100000 in
theorem middleS_f {x y : Dy} {n k : Nat} (hx : BD n k x) (hy : BD n k y) (hk : n + k + 3 ≤ 512) : FitsP 16 [spS x y] [] (.tup [dS (mdD x y), ok0]) := by
  have hT : AllOk Tryz.prog Glob [
    Tr.call 37 [dS x, dS y] [] (Av.tup [dS (addD x y), ok0]),
    Tr.call 7 [intS (Int.ofNat (nat_lit 1)), intS (Int.negSucc (nat_lit 0))] [] (Av.one (Sv.agg [Cv.raw (Value.bool (decide (Dy.m hlfD < (0 : Int)))), Cv.ent (nat (Int.natAbs (Dy.m hlfD))), Cv.raw (Value.int IntKind.i64 (Int.negSucc (nat_lit 0)))])),
    Tr.call 42 [dS (addD x y), Sv.agg [Cv.raw (Value.bool (decide (Dy.m hlfD < (0 : Int)))), Cv.ent (nat (Int.natAbs (Dy.m hlfD))), Cv.raw (Value.int IntKind.i64 (Int.negSucc (nat_lit 0)))]] [] (Av.tup [dS (mdD x y), ok0])] := ⟨
    addD_f hx hy (by omega),
    ofHalf_f,
    mulD_f (hx.add hy) hlf_bd (by omega), trivial⟩
  exact fits_of_trace (n := 300) (k0 := 0) hT Tryz.func16 (by kernel_rfl) (by kernel_rfl) (by kernel_rfl)
end Go.Proofs.YtnncfbmddpijcaaGreatDoor
