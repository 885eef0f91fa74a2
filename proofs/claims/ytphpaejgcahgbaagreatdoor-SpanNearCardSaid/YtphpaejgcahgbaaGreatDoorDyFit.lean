/- Which dyads may be. -/
import Derived.Test.YtphpaejgcahgbaaGreatDoorDyF
namespace Go.Proofs.YtphpaejgcahgbaaGreatDoor
open Go Go.RowKit Go.Shelf AM
def adS (m : Bool) (xs : List Nat) (e : Int) : Sv := .agg [.raw (.bool m), .ent (argE xs), .raw (.int .i64 e)]

set_option maxRecDepth 100000 in
theorem checkDA_f1 {m : Bool} {xs : List Nat} {e c : Int} (h : xs.length ≤ 40) (hc : checkI m xs = c) (h0 : c ≠ 0) : FitsP 57 [adS m xs e] [] (.one (intS c)) := by
  have hT : AllOk Tryz.prog Glob [
    Tr.call 26 [Sv.agg [Cv.raw (Value.bool m), Cv.ent (argE xs)]] [] (Av.one (Sv.cel (Cv.raw (Value.int IntKind.i64 c)))),
    Tr.norm (nat_lit 7) (Av.one (Sv.cel (Cv.raw (Value.bool (c != (0 : Int)))))) (Av.one (Sv.cel (Cv.raw (Value.bool true))))] := ⟨
    checkA_is h hc,
    norm_bool (ne_true h0), trivial⟩
  exact fits_of_trace (n := 300) (k0 := 0) hT Tryz.func57 (by kernel_rfl) (by kernel_rfl) (by kernel_rfl)

set_option maxRecDepth 100000 in
theorem checkDZ_f {x : Int} (h1 : -65536 ≤ x) (h2 : x ≤ 65536) (h0 : x ≠ 0) : FitsP 57 [dSz 0 x] [] (.one (intS 2)) := by
  have hT : AllOk Tryz.prog Glob [
    Tr.call 26 [Sv.agg [Cv.raw (Value.bool (decide ((0 : Int) < (0 : Int)))), Cv.ent (nat (Int.natAbs (0 : Int)))]] [] (Av.one (Sv.cel (Cv.raw (Value.int IntKind.i64 (Int.ofNat (nat_lit 0)))))),
    Tr.call 124 [Sv.cel (Cv.raw (Value.int IntKind.i64 x))] [] (Av.one (Sv.cel (Cv.raw (Value.bool true)))),
    Tr.call 53 [Sv.agg [Cv.raw (Value.bool (decide ((0 : Int) < (0 : Int)))), Cv.ent (nat (Int.natAbs (0 : Int)))]] [] (Av.one (Sv.cel (Cv.raw (Value.int IntKind.i64 (Int.ofNat (nat_lit 0)))))),
    Tr.norm (nat_lit 23) (Av.one (Sv.cel (Cv.raw (Value.bool (x != (0 : Int)))))) (Av.one (Sv.cel (Cv.raw (Value.bool true))))] := ⟨
    checkI_f (small_lim (by decide)),
    mayExp_yes h1 h2,
    sign_lit rfl,
    norm_bool (ne_true h0), trivial⟩
  exact fits_of_trace (n := 300) (k0 := 0) hT Tryz.func57 (by kernel_rfl) (by kernel_rfl) (by kernel_rfl)

set_option maxRecDepth 100000 in
theorem checkDE_f0 {z x s : Int} {t : Nat} (hl : LimI z) (h1 : -65536 ≤ x) (h2 : x ≤ 65536) (hs : sign3 z = s) (h0 : s ≠ 0) (ht : IsTail t z.natAbs) (ht0 : 0 < t) : FitsP 57 [dSz z x] [] (.one (intS 2)) := by
  have hT : AllOk Tryz.prog Glob [
    Tr.call 26 [Sv.agg [Cv.raw (Value.bool (decide (z < (0 : Int)))), Cv.ent (nat (Int.natAbs z))]] [] (Av.one (Sv.cel (Cv.raw (Value.int IntKind.i64 (Int.ofNat (nat_lit 0)))))),
    Tr.call 124 [Sv.cel (Cv.raw (Value.int IntKind.i64 x))] [] (Av.one (Sv.cel (Cv.raw (Value.bool true)))),
    Tr.call 53 [Sv.agg [Cv.raw (Value.bool (decide (z < (0 : Int)))), Cv.ent (nat (Int.natAbs z))]] [] (Av.one (Sv.cel (Cv.raw (Value.int IntKind.i64 s)))),
    Tr.norm (nat_lit 18) (Av.one (Sv.cel (Cv.raw (Value.bool (s == (0 : Int)))))) (Av.one (Sv.cel (Cv.raw (Value.bool false)))),
    Tr.call 55 [Sv.cel (Cv.ent (nat (Int.natAbs z)))] [] (Av.one (Sv.cel (Cv.raw (Value.int IntKind.i64 (↑t : Int))))),
    Tr.norm (nat_lit 29) (Av.one (Sv.cel (Cv.raw (Value.bool (decide ((↑t : Int) > (0 : Int))))))) (Av.one (Sv.cel (Cv.raw (Value.bool true))))] := ⟨
    checkI_f hl,
    mayExp_yes h1 h2,
    sign_lit hs,
    norm_bool (eq_false h0),
    tail_f ht,
    norm_bool (decide_eq_true (show (t : Int) > 0 by omega)), trivial⟩
  exact fits_of_trace (n := 300) (k0 := 0) hT Tryz.func57 (by kernel_rfl) (by kernel_rfl) (by kernel_rfl)

/-- A number of a size with which this is tried. -/
structure FitD (d : Dy) : Prop where
  ok : d.Ok
  man : d.m.natAbs < 4294967296 ^ 15
  lo : -300 ≤ d.e
  hi : d.e ≤ 300
theorem FitD.bd {d : Dy} (h : FitD d) : BD 25 10 d := bd_of (m := 15) (n := 10) h.ok h.man (by have := h.lo; omega) (by have := h.hi; omega)
def UnfitD (m : Bool) (xs : List Nat) (e : Int) : Prop := 15 < xs.length ∨ (xs.length ≤ 15 ∧ 300 < e) ∨ (xs.length ≤ 15 ∧ e ≤ 300 ∧ e < -300) ∨ (xs.length ≤ 15 ∧ e ≤ 300 ∧ -300 ≤ e ∧ ∃ c : Int, c ≠ 0 ∧ FitsP 57 [adS m xs e] [] (.one (intS c)))
theorem ad_dz {m : Bool} {xs : List Nat} {e : Int} (hb : ∀ x ∈ xs, x < 4294967296) (hl : xs.length ≤ 40) (hf : checkI m xs = 0) (β : Nat → Option Nat) (W : World) (v : Value) (h : RelS β W v (adS m xs e)) : RelS β W v (dSz (sg m (val 4294967296 xs)) e) := by
  obtain ⟨vs, rfl, hh⟩ := h
  match vs, hh with
  | [a, b, c], ⟨k1, k2, k3, _⟩ =>
    obtain rfl : a = .bool m := k1
    have k2 : Arg W b xs := k2
    obtain ⟨⟨A, cap, rfl⟩, _⟩ := id k2
    obtain ⟨e1, hn⟩ := ai_im k2 hb hl hf
    refine ⟨[_, _, _], rfl, ?_, hn, k3, trivial⟩
    show Value.bool m = Value.bool _
    rw [e1]
theorem ad_cases {m : Bool} {xs : List Nat} {e : Int} (hb : ∀ x ∈ xs, x < 4294967296) : (∃ d : Dy, FitD d ∧ ∀ (β : Nat → Option Nat) (W : World) (v : Value), RelS β W v (adS m xs e) → RelS β W v (dS d)) ∨ UnfitD m xs e := by
  by_cases hx : 15 < xs.length
  · exact .inr (.inl hx)
  have hx : xs.length ≤ 15 := by omega
  by_cases h1 : 300 < e
  · exact .inr (.inr (.inl ⟨hx, h1⟩))
  by_cases h2 : e < -300
  · exact .inr (.inr (.inr (.inl ⟨hx, by omega, h2⟩)))
  by_cases hc : checkI m xs = 0
  · have hk := ad_dz (e := e) hb (by omega) hc
    have l1 : (sg m (val 4294967296 xs)).natAbs < 4294967296 ^ 15 := by rw [sg_natAbs]; exact Nat.lt_of_lt_of_le (val_lt hb) (Nat.pow_le_pow_right (by omega) hx)
    generalize sg m (val 4294967296 xs) = z at *
    by_cases hz : z = 0
    · subst hz
      by_cases he : e = 0
      · subst he
        exact .inl ⟨⟨0, 0⟩, ⟨.inl ⟨rfl, rfl⟩, l1, by decide, by decide⟩, hk⟩
      · refine .inr (.inr (.inr (.inr ⟨hx, by omega, by omega, 2, by decide, Fits.args (checkDZ_f (x := e) (by omega) (by omega) he) fun β W vals h => ?_⟩)))
        obtain ⟨v, rfl, h'⟩ := all2_1 h
        exact ⟨hk β W v h', trivial⟩
    · by_cases ho : z % 2 = 1
      · exact .inl ⟨⟨z, e⟩, ⟨.inr ho, l1, by show -300 ≤ e; omega, by show e ≤ 300; omega⟩, hk⟩
      · have ht : 0 < tl z.natAbs := by
          rcases Nat.eq_zero_or_pos (tl z.natAbs) with h0 | h0
          · have := tail_int (tl_is z.natAbs) hz
            rw [h0] at this
            obtain ⟨k, hk1, hk2⟩ := this
            exact absurd (by rw [hk1]; simpa using hk2) ho
          · exact h0
        refine .inr (.inr (.inr (.inr ⟨hx, by omega, by omega, 2, by decide, Fits.args (checkDE_f0 (x := e) (lim_of l1 (by omega)) (by omega) (by omega) rfl (sign3_ne hz) (tl_is _) ht) fun β W vals h => ?_⟩)))
        obtain ⟨v, rfl, h'⟩ := all2_1 h
        exact ⟨hk β W v h', trivial⟩
  · exact .inr (.inr (.inr (.inr ⟨hx, by omega, by omega, _, hc, checkDA_f1 (by omega) rfl hc⟩)))
theorem FitD.len {d : Dy} (h : FitD d) : decide (((lenN d.m.natAbs : Nat) : Int) > 15) = false := gt_false (lenN_le.2 h.man)

set_option maxRecDepth 100000 in
theorem dfit1_0_1 {m : Bool} {xs : List Nat} {e : Int} (hu : 15 < xs.length) : FitsP 45 [Sv.cel (Cv.row 0 0 1 1)] [(0, ⟨66, [.raw (.bool m), .ent (argE xs), .raw (.int .i64 e)], true⟩)] (.one (boolS false)) := by
  have hT : AllOk Tryz.prog Glob [
    Tr.norm (nat_lit 15) (Av.one (Sv.cel (Cv.raw (Value.bool (decide ((↑(List.length xs) : Int) > (15 : Int))))))) (Av.one (Sv.cel (Cv.raw (Value.bool true))))] := ⟨
    norm_bool (gt_true hu), trivial⟩
  exact fits_of_trace (n := 300) (k0 := 1) hT Tryz.func45 (by kernel_rfl) (by kernel_rfl) (by kernel_rfl)

set_option maxRecDepth 100000 in
theorem dfit1_0_2 {m : Bool} {xs : List Nat} {e : Int} (hx : xs.length ≤ 15) (hu : 300 < e) : FitsP 45 [Sv.cel (Cv.row 0 0 1 1)] [(0, ⟨66, [.raw (.bool m), .ent (argE xs), .raw (.int .i64 e)], true⟩)] (.one (boolS false)) := by
  have hT : AllOk Tryz.prog Glob [
    Tr.norm (nat_lit 15) (Av.one (Sv.cel (Cv.raw (Value.bool (decide ((↑(List.length xs) : Int) > (15 : Int))))))) (Av.one (Sv.cel (Cv.raw (Value.bool false)))),
    Tr.norm (nat_lit 20) (Av.one (Sv.cel (Cv.raw (Value.bool (decide (e > (300 : Int))))))) (Av.one (Sv.cel (Cv.raw (Value.bool true))))] := ⟨
    norm_bool (gt_false hx),
    norm_bool (decide_eq_true (show e > 300 from hu)), trivial⟩
  exact fits_of_trace (n := 300) (k0 := 1) hT Tryz.func45 (by kernel_rfl) (by kernel_rfl) (by kernel_rfl)

set_option maxRecDepth 100000 in
theorem dfit1_0_3 {m : Bool} {xs : List Nat} {e : Int} (hx : xs.length ≤ 15) (_h1 : e ≤ 300) (hu : e < -300) : FitsP 45 [Sv.cel (Cv.row 0 0 1 1)] [(0, ⟨66, [.raw (.bool m), .ent (argE xs), .raw (.int .i64 e)], true⟩)] (.one (boolS false)) := by
  have hT : AllOk Tryz.prog Glob [
    Tr.norm (nat_lit 15) (Av.one (Sv.cel (Cv.raw (Value.bool (decide ((↑(List.length xs) : Int) > (15 : Int))))))) (Av.one (Sv.cel (Cv.raw (Value.bool false)))),
    Tr.norm (nat_lit 20) (Av.one (Sv.cel (Cv.raw (Value.bool (decide (e > (300 : Int))))))) (Av.one (Sv.cel (Cv.raw (Value.bool false)))),
    Tr.norm (nat_lit 25) (Av.one (Sv.cel (Cv.raw (Value.bool (decide (e < (-300 : Int))))))) (Av.one (Sv.cel (Cv.raw (Value.bool true))))] := ⟨
    norm_bool (gt_false hx),
    norm_bool (decide_eq_false (show ¬ e > 300 by omega)),
    norm_bool (decide_eq_true hu), trivial⟩
  exact fits_of_trace (n := 300) (k0 := 1) hT Tryz.func45 (by kernel_rfl) (by kernel_rfl) (by kernel_rfl)

set_option maxRecDepth 100000 in
theorem dfit1_0_4 {m : Bool} {xs : List Nat} {e : Int} (hx : xs.length ≤ 15) (h1 : e ≤ 300) (h2 : -300 ≤ e) {c : Int} (hc : c ≠ 0) (hu : FitsP 57 [adS m xs e] [] (.one (intS c))) : FitsP 45 [Sv.cel (Cv.row 0 0 1 1)] [(0, ⟨66, [.raw (.bool m), .ent (argE xs), .raw (.int .i64 e)], true⟩)] (.one (boolS false)) := by
  have hT : AllOk Tryz.prog Glob [
    Tr.norm (nat_lit 15) (Av.one (Sv.cel (Cv.raw (Value.bool (decide ((↑(List.length xs) : Int) > (15 : Int))))))) (Av.one (Sv.cel (Cv.raw (Value.bool false)))),
    Tr.norm (nat_lit 20) (Av.one (Sv.cel (Cv.raw (Value.bool (decide (e > (300 : Int))))))) (Av.one (Sv.cel (Cv.raw (Value.bool false)))),
    Tr.norm (nat_lit 25) (Av.one (Sv.cel (Cv.raw (Value.bool (decide (e < (-300 : Int))))))) (Av.one (Sv.cel (Cv.raw (Value.bool false)))),
    Tr.call 57 [Sv.agg [Cv.raw (Value.bool m), Cv.ent (argE xs), Cv.raw (Value.int IntKind.i64 e)]] [] (Av.one (Sv.cel (Cv.raw (Value.int IntKind.i64 c)))),
    Tr.norm (nat_lit 29) (Av.one (Sv.cel (Cv.raw (Value.bool (c != (0 : Int)))))) (Av.one (Sv.cel (Cv.raw (Value.bool true))))] := ⟨
    norm_bool (gt_false hx),
    norm_bool (decide_eq_false (show ¬ e > 300 by omega)),
    norm_bool (decide_eq_false (show ¬ e < -300 by omega)),
    hu,
    norm_bool (ne_true hc), trivial⟩
  exact fits_of_trace (n := 300) (k0 := 1) hT Tryz.func45 (by kernel_rfl) (by kernel_rfl) (by kernel_rfl)

set_option maxRecDepth 100000 in
theorem dfit1_1_0 {d0 : Dy} (h0 : FitD d0) : FitsP 45 [Sv.cel (Cv.row 0 0 1 1)] [(0, ⟨66, [.raw (.bool (decide (d0.m < 0))), .ent (nat d0.m.natAbs), .raw (.int .i64 d0.e)], true⟩)] (.one (boolS true)) := by
  have hT : AllOk Tryz.prog Glob [
    Tr.norm (nat_lit 15) (Av.one (Sv.cel (Cv.raw (Value.bool (decide ((↑(lenN (Int.natAbs (Dy.m d0))) : Int) > (15 : Int))))))) (Av.one (Sv.cel (Cv.raw (Value.bool false)))),
    Tr.norm (nat_lit 20) (Av.one (Sv.cel (Cv.raw (Value.bool (decide (Dy.e d0 > (300 : Int))))))) (Av.one (Sv.cel (Cv.raw (Value.bool false)))),
    Tr.norm (nat_lit 25) (Av.one (Sv.cel (Cv.raw (Value.bool (decide (Dy.e d0 < (-300 : Int))))))) (Av.one (Sv.cel (Cv.raw (Value.bool false)))),
    Tr.call 57 [Sv.agg [Cv.raw (Value.bool (decide (Dy.m d0 < (0 : Int)))), Cv.ent (nat (Int.natAbs (Dy.m d0))), Cv.raw (Value.int IntKind.i64 (Dy.e d0))]] [] (Av.one (Sv.cel (Cv.raw (Value.int IntKind.i64 (Int.ofNat (nat_lit 0))))))] := ⟨
    norm_bool (h0.len),
    norm_bool (decide_eq_false (show ¬ d0.e > 300 by have := h0.hi; omega)),
    norm_bool (decide_eq_false (show ¬ d0.e < -300 by have := h0.lo; omega)),
    checkD_f h0.bd (by omega), trivial⟩
  exact fits_of_trace (n := 300) (k0 := 1) hT Tryz.func45 (by kernel_rfl) (by kernel_rfl) (by kernel_rfl)

set_option maxRecDepth 100000 in
theorem dfit2_0_1 {m : Bool} {xs : List Nat} {e : Int} (m1 : Bool) (a1 : List Nat) (e1 : Int) (hu : 15 < xs.length) : FitsP 45 [Sv.cel (Cv.row 0 0 2 2)] [(0, ⟨66, [.raw (.bool m), .ent (argE xs), .raw (.int .i64 e), .raw (.bool m1), .ent (argE a1), .raw (.int .i64 e1)], true⟩)] (.one (boolS false)) := by
  have hT : AllOk Tryz.prog Glob [
    Tr.norm (nat_lit 15) (Av.one (Sv.cel (Cv.raw (Value.bool (decide ((↑(List.length xs) : Int) > (15 : Int))))))) (Av.one (Sv.cel (Cv.raw (Value.bool true))))] := ⟨
    norm_bool (gt_true hu), trivial⟩
  exact fits_of_trace (n := 300) (k0 := 1) hT Tryz.func45 (by kernel_rfl) (by kernel_rfl) (by kernel_rfl)

set_option maxRecDepth 100000 in
theorem dfit2_0_2 {m : Bool} {xs : List Nat} {e : Int} (m1 : Bool) (a1 : List Nat) (e1 : Int) (hx : xs.length ≤ 15) (hu : 300 < e) : FitsP 45 [Sv.cel (Cv.row 0 0 2 2)] [(0, ⟨66, [.raw (.bool m), .ent (argE xs), .raw (.int .i64 e), .raw (.bool m1), .ent (argE a1), .raw (.int .i64 e1)], true⟩)] (.one (boolS false)) := by
  have hT : AllOk Tryz.prog Glob [
    Tr.norm (nat_lit 15) (Av.one (Sv.cel (Cv.raw (Value.bool (decide ((↑(List.length xs) : Int) > (15 : Int))))))) (Av.one (Sv.cel (Cv.raw (Value.bool false)))),
    Tr.norm (nat_lit 20) (Av.one (Sv.cel (Cv.raw (Value.bool (decide (e > (300 : Int))))))) (Av.one (Sv.cel (Cv.raw (Value.bool true))))] := ⟨
    norm_bool (gt_false hx),
    norm_bool (decide_eq_true (show e > 300 from hu)), trivial⟩
  exact fits_of_trace (n := 300) (k0 := 1) hT Tryz.func45 (by kernel_rfl) (by kernel_rfl) (by kernel_rfl)

set_option maxRecDepth 100000 in
theorem dfit2_0_3 {m : Bool} {xs : List Nat} {e : Int} (m1 : Bool) (a1 : List Nat) (e1 : Int) (hx : xs.length ≤ 15) (_h1 : e ≤ 300) (hu : e < -300) : FitsP 45 [Sv.cel (Cv.row 0 0 2 2)] [(0, ⟨66, [.raw (.bool m), .ent (argE xs), .raw (.int .i64 e), .raw (.bool m1), .ent (argE a1), .raw (.int .i64 e1)], true⟩)] (.one (boolS false)) := by
  have hT : AllOk Tryz.prog Glob [
    Tr.norm (nat_lit 15) (Av.one (Sv.cel (Cv.raw (Value.bool (decide ((↑(List.length xs) : Int) > (15 : Int))))))) (Av.one (Sv.cel (Cv.raw (Value.bool false)))),
    Tr.norm (nat_lit 20) (Av.one (Sv.cel (Cv.raw (Value.bool (decide (e > (300 : Int))))))) (Av.one (Sv.cel (Cv.raw (Value.bool false)))),
    Tr.norm (nat_lit 25) (Av.one (Sv.cel (Cv.raw (Value.bool (decide (e < (-300 : Int))))))) (Av.one (Sv.cel (Cv.raw (Value.bool true))))] := ⟨
    norm_bool (gt_false hx),
    norm_bool (decide_eq_false (show ¬ e > 300 by omega)),
    norm_bool (decide_eq_true hu), trivial⟩
  exact fits_of_trace (n := 300) (k0 := 1) hT Tryz.func45 (by kernel_rfl) (by kernel_rfl) (by kernel_rfl)

set_option maxRecDepth 100000 in
theorem dfit2_0_4 {m : Bool} {xs : List Nat} {e : Int} (m1 : Bool) (a1 : List Nat) (e1 : Int) (hx : xs.length ≤ 15) (h1 : e ≤ 300) (h2 : -300 ≤ e) {c : Int} (hc : c ≠ 0) (hu : FitsP 57 [adS m xs e] [] (.one (intS c))) : FitsP 45 [Sv.cel (Cv.row 0 0 2 2)] [(0, ⟨66, [.raw (.bool m), .ent (argE xs), .raw (.int .i64 e), .raw (.bool m1), .ent (argE a1), .raw (.int .i64 e1)], true⟩)] (.one (boolS false)) := by
  have hT : AllOk Tryz.prog Glob [
    Tr.norm (nat_lit 15) (Av.one (Sv.cel (Cv.raw (Value.bool (decide ((↑(List.length xs) : Int) > (15 : Int))))))) (Av.one (Sv.cel (Cv.raw (Value.bool false)))),
    Tr.norm (nat_lit 20) (Av.one (Sv.cel (Cv.raw (Value.bool (decide (e > (300 : Int))))))) (Av.one (Sv.cel (Cv.raw (Value.bool false)))),
    Tr.norm (nat_lit 25) (Av.one (Sv.cel (Cv.raw (Value.bool (decide (e < (-300 : Int))))))) (Av.one (Sv.cel (Cv.raw (Value.bool false)))),
    Tr.call 57 [Sv.agg [Cv.raw (Value.bool m), Cv.ent (argE xs), Cv.raw (Value.int IntKind.i64 e)]] [] (Av.one (Sv.cel (Cv.raw (Value.int IntKind.i64 c)))),
    Tr.norm (nat_lit 29) (Av.one (Sv.cel (Cv.raw (Value.bool (c != (0 : Int)))))) (Av.one (Sv.cel (Cv.raw (Value.bool true))))] := ⟨
    norm_bool (gt_false hx),
    norm_bool (decide_eq_false (show ¬ e > 300 by omega)),
    norm_bool (decide_eq_false (show ¬ e < -300 by omega)),
    hu,
    norm_bool (ne_true hc), trivial⟩
  exact fits_of_trace (n := 300) (k0 := 1) hT Tryz.func45 (by kernel_rfl) (by kernel_rfl) (by kernel_rfl)

set_option maxRecDepth 100000 in
theorem dfit2_1_1 {d0 : Dy} (h0 : FitD d0) {m : Bool} {xs : List Nat} {e : Int} (hu : 15 < xs.length) : FitsP 45 [Sv.cel (Cv.row 0 0 2 2)] [(0, ⟨66, [.raw (.bool (decide (d0.m < 0))), .ent (nat d0.m.natAbs), .raw (.int .i64 d0.e), .raw (.bool m), .ent (argE xs), .raw (.int .i64 e)], true⟩)] (.one (boolS false)) := by
  have hT : AllOk Tryz.prog Glob [
    Tr.norm (nat_lit 15) (Av.one (Sv.cel (Cv.raw (Value.bool (decide ((↑(lenN (Int.natAbs (Dy.m d0))) : Int) > (15 : Int))))))) (Av.one (Sv.cel (Cv.raw (Value.bool false)))),
    Tr.norm (nat_lit 20) (Av.one (Sv.cel (Cv.raw (Value.bool (decide (Dy.e d0 > (300 : Int))))))) (Av.one (Sv.cel (Cv.raw (Value.bool false)))),
    Tr.norm (nat_lit 25) (Av.one (Sv.cel (Cv.raw (Value.bool (decide (Dy.e d0 < (-300 : Int))))))) (Av.one (Sv.cel (Cv.raw (Value.bool false)))),
    Tr.call 57 [Sv.agg [Cv.raw (Value.bool (decide (Dy.m d0 < (0 : Int)))), Cv.ent (nat (Int.natAbs (Dy.m d0))), Cv.raw (Value.int IntKind.i64 (Dy.e d0))]] [] (Av.one (Sv.cel (Cv.raw (Value.int IntKind.i64 (Int.ofNat (nat_lit 0)))))),
    Tr.norm (nat_lit 42) (Av.one (Sv.cel (Cv.raw (Value.bool (decide ((↑(List.length xs) : Int) > (15 : Int))))))) (Av.one (Sv.cel (Cv.raw (Value.bool true))))] := ⟨
    norm_bool (h0.len),
    norm_bool (decide_eq_false (show ¬ d0.e > 300 by have := h0.hi; omega)),
    norm_bool (decide_eq_false (show ¬ d0.e < -300 by have := h0.lo; omega)),
    checkD_f h0.bd (by omega),
    norm_bool (gt_true hu), trivial⟩
  exact fits_of_trace (n := 300) (k0 := 1) hT Tryz.func45 (by kernel_rfl) (by kernel_rfl) (by kernel_rfl)

set_option maxRecDepth 100000 in
theorem dfit2_1_2 {d0 : Dy} (h0 : FitD d0) {m : Bool} {xs : List Nat} {e : Int} (hx : xs.length ≤ 15) (hu : 300 < e) : FitsP 45 [Sv.cel (Cv.row 0 0 2 2)] [(0, ⟨66, [.raw (.bool (decide (d0.m < 0))), .ent (nat d0.m.natAbs), .raw (.int .i64 d0.e), .raw (.bool m), .ent (argE xs), .raw (.int .i64 e)], true⟩)] (.one (boolS false)) := by
  have hT : AllOk Tryz.prog Glob [
    Tr.norm (nat_lit 15) (Av.one (Sv.cel (Cv.raw (Value.bool (decide ((↑(lenN (Int.natAbs (Dy.m d0))) : Int) > (15 : Int))))))) (Av.one (Sv.cel (Cv.raw (Value.bool false)))),
    Tr.norm (nat_lit 20) (Av.one (Sv.cel (Cv.raw (Value.bool (decide (Dy.e d0 > (300 : Int))))))) (Av.one (Sv.cel (Cv.raw (Value.bool false)))),
    Tr.norm (nat_lit 25) (Av.one (Sv.cel (Cv.raw (Value.bool (decide (Dy.e d0 < (-300 : Int))))))) (Av.one (Sv.cel (Cv.raw (Value.bool false)))),
    Tr.call 57 [Sv.agg [Cv.raw (Value.bool (decide (Dy.m d0 < (0 : Int)))), Cv.ent (nat (Int.natAbs (Dy.m d0))), Cv.raw (Value.int IntKind.i64 (Dy.e d0))]] [] (Av.one (Sv.cel (Cv.raw (Value.int IntKind.i64 (Int.ofNat (nat_lit 0)))))),
    Tr.norm (nat_lit 42) (Av.one (Sv.cel (Cv.raw (Value.bool (decide ((↑(List.length xs) : Int) > (15 : Int))))))) (Av.one (Sv.cel (Cv.raw (Value.bool false)))),
    Tr.norm (nat_lit 47) (Av.one (Sv.cel (Cv.raw (Value.bool (decide (e > (300 : Int))))))) (Av.one (Sv.cel (Cv.raw (Value.bool true))))] := ⟨
    norm_bool (h0.len),
    norm_bool (decide_eq_false (show ¬ d0.e > 300 by have := h0.hi; omega)),
    norm_bool (decide_eq_false (show ¬ d0.e < -300 by have := h0.lo; omega)),
    checkD_f h0.bd (by omega),
    norm_bool (gt_false hx),
    norm_bool (decide_eq_true (show e > 300 from hu)), trivial⟩
  exact fits_of_trace (n := 300) (k0 := 1) hT Tryz.func45 (by kernel_rfl) (by kernel_rfl) (by kernel_rfl)

set_option maxRecDepth 100000 in
theorem dfit2_1_3 {d0 : Dy} (h0 : FitD d0) {m : Bool} {xs : List Nat} {e : Int} (hx : xs.length ≤ 15) (_h1 : e ≤ 300) (hu : e < -300) : FitsP 45 [Sv.cel (Cv.row 0 0 2 2)] [(0, ⟨66, [.raw (.bool (decide (d0.m < 0))), .ent (nat d0.m.natAbs), .raw (.int .i64 d0.e), .raw (.bool m), .ent (argE xs), .raw (.int .i64 e)], true⟩)] (.one (boolS false)) := by
  have hT : AllOk Tryz.prog Glob [
    Tr.norm (nat_lit 15) (Av.one (Sv.cel (Cv.raw (Value.bool (decide ((↑(lenN (Int.natAbs (Dy.m d0))) : Int) > (15 : Int))))))) (Av.one (Sv.cel (Cv.raw (Value.bool false)))),
    Tr.norm (nat_lit 20) (Av.one (Sv.cel (Cv.raw (Value.bool (decide (Dy.e d0 > (300 : Int))))))) (Av.one (Sv.cel (Cv.raw (Value.bool false)))),
    Tr.norm (nat_lit 25) (Av.one (Sv.cel (Cv.raw (Value.bool (decide (Dy.e d0 < (-300 : Int))))))) (Av.one (Sv.cel (Cv.raw (Value.bool false)))),
    Tr.call 57 [Sv.agg [Cv.raw (Value.bool (decide (Dy.m d0 < (0 : Int)))), Cv.ent (nat (Int.natAbs (Dy.m d0))), Cv.raw (Value.int IntKind.i64 (Dy.e d0))]] [] (Av.one (Sv.cel (Cv.raw (Value.int IntKind.i64 (Int.ofNat (nat_lit 0)))))),
    Tr.norm (nat_lit 42) (Av.one (Sv.cel (Cv.raw (Value.bool (decide ((↑(List.length xs) : Int) > (15 : Int))))))) (Av.one (Sv.cel (Cv.raw (Value.bool false)))),
    Tr.norm (nat_lit 47) (Av.one (Sv.cel (Cv.raw (Value.bool (decide (e > (300 : Int))))))) (Av.one (Sv.cel (Cv.raw (Value.bool false)))),
    Tr.norm (nat_lit 52) (Av.one (Sv.cel (Cv.raw (Value.bool (decide (e < (-300 : Int))))))) (Av.one (Sv.cel (Cv.raw (Value.bool true))))] := ⟨
    norm_bool (h0.len),
    norm_bool (decide_eq_false (show ¬ d0.e > 300 by have := h0.hi; omega)),
    norm_bool (decide_eq_false (show ¬ d0.e < -300 by have := h0.lo; omega)),
    checkD_f h0.bd (by omega),
    norm_bool (gt_false hx),
    norm_bool (decide_eq_false (show ¬ e > 300 by omega)),
    norm_bool (decide_eq_true hu), trivial⟩
  exact fits_of_trace (n := 300) (k0 := 1) hT Tryz.func45 (by kernel_rfl) (by kernel_rfl) (by kernel_rfl)

set_option maxRecDepth 100000 in
theorem dfit2_1_4 {d0 : Dy} (h0 : FitD d0) {m : Bool} {xs : List Nat} {e : Int} (hx : xs.length ≤ 15) (h1 : e ≤ 300) (h2 : -300 ≤ e) {c : Int} (hc : c ≠ 0) (hu : FitsP 57 [adS m xs e] [] (.one (intS c))) : FitsP 45 [Sv.cel (Cv.row 0 0 2 2)] [(0, ⟨66, [.raw (.bool (decide (d0.m < 0))), .ent (nat d0.m.natAbs), .raw (.int .i64 d0.e), .raw (.bool m), .ent (argE xs), .raw (.int .i64 e)], true⟩)] (.one (boolS false)) := by
  have hT : AllOk Tryz.prog Glob [
    Tr.norm (nat_lit 15) (Av.one (Sv.cel (Cv.raw (Value.bool (decide ((↑(lenN (Int.natAbs (Dy.m d0))) : Int) > (15 : Int))))))) (Av.one (Sv.cel (Cv.raw (Value.bool false)))),
    Tr.norm (nat_lit 20) (Av.one (Sv.cel (Cv.raw (Value.bool (decide (Dy.e d0 > (300 : Int))))))) (Av.one (Sv.cel (Cv.raw (Value.bool false)))),
    Tr.norm (nat_lit 25) (Av.one (Sv.cel (Cv.raw (Value.bool (decide (Dy.e d0 < (-300 : Int))))))) (Av.one (Sv.cel (Cv.raw (Value.bool false)))),
    Tr.call 57 [Sv.agg [Cv.raw (Value.bool (decide (Dy.m d0 < (0 : Int)))), Cv.ent (nat (Int.natAbs (Dy.m d0))), Cv.raw (Value.int IntKind.i64 (Dy.e d0))]] [] (Av.one (Sv.cel (Cv.raw (Value.int IntKind.i64 (Int.ofNat (nat_lit 0)))))),
    Tr.norm (nat_lit 42) (Av.one (Sv.cel (Cv.raw (Value.bool (decide ((↑(List.length xs) : Int) > (15 : Int))))))) (Av.one (Sv.cel (Cv.raw (Value.bool false)))),
    Tr.norm (nat_lit 47) (Av.one (Sv.cel (Cv.raw (Value.bool (decide (e > (300 : Int))))))) (Av.one (Sv.cel (Cv.raw (Value.bool false)))),
    Tr.norm (nat_lit 52) (Av.one (Sv.cel (Cv.raw (Value.bool (decide (e < (-300 : Int))))))) (Av.one (Sv.cel (Cv.raw (Value.bool false)))),
    Tr.call 57 [Sv.agg [Cv.raw (Value.bool m), Cv.ent (argE xs), Cv.raw (Value.int IntKind.i64 e)]] [] (Av.one (Sv.cel (Cv.raw (Value.int IntKind.i64 c)))),
    Tr.norm (nat_lit 56) (Av.one (Sv.cel (Cv.raw (Value.bool (c != (0 : Int)))))) (Av.one (Sv.cel (Cv.raw (Value.bool true))))] := ⟨
    norm_bool (h0.len),
    norm_bool (decide_eq_false (show ¬ d0.e > 300 by have := h0.hi; omega)),
    norm_bool (decide_eq_false (show ¬ d0.e < -300 by have := h0.lo; omega)),
    checkD_f h0.bd (by omega),
    norm_bool (gt_false hx),
    norm_bool (decide_eq_false (show ¬ e > 300 by omega)),
    norm_bool (decide_eq_false (show ¬ e < -300 by omega)),
    hu,
    norm_bool (ne_true hc), trivial⟩
  exact fits_of_trace (n := 300) (k0 := 1) hT Tryz.func45 (by kernel_rfl) (by kernel_rfl) (by kernel_rfl)

set_option maxRecDepth 100000 in
theorem dfit2_2_0 {d0 : Dy} (h0 : FitD d0) {d1 : Dy} (h1 : FitD d1) : FitsP 45 [Sv.cel (Cv.row 0 0 2 2)] [(0, ⟨66, [.raw (.bool (decide (d0.m < 0))), .ent (nat d0.m.natAbs), .raw (.int .i64 d0.e), .raw (.bool (decide (d1.m < 0))), .ent (nat d1.m.natAbs), .raw (.int .i64 d1.e)], true⟩)] (.one (boolS true)) := by
  have hT : AllOk Tryz.prog Glob [
    Tr.norm (nat_lit 15) (Av.one (Sv.cel (Cv.raw (Value.bool (decide ((↑(lenN (Int.natAbs (Dy.m d0))) : Int) > (15 : Int))))))) (Av.one (Sv.cel (Cv.raw (Value.bool false)))),
    Tr.norm (nat_lit 20) (Av.one (Sv.cel (Cv.raw (Value.bool (decide (Dy.e d0 > (300 : Int))))))) (Av.one (Sv.cel (Cv.raw (Value.bool false)))),
    Tr.norm (nat_lit 25) (Av.one (Sv.cel (Cv.raw (Value.bool (decide (Dy.e d0 < (-300 : Int))))))) (Av.one (Sv.cel (Cv.raw (Value.bool false)))),
    Tr.call 57 [Sv.agg [Cv.raw (Value.bool (decide (Dy.m d0 < (0 : Int)))), Cv.ent (nat (Int.natAbs (Dy.m d0))), Cv.raw (Value.int IntKind.i64 (Dy.e d0))]] [] (Av.one (Sv.cel (Cv.raw (Value.int IntKind.i64 (Int.ofNat (nat_lit 0)))))),
    Tr.norm (nat_lit 42) (Av.one (Sv.cel (Cv.raw (Value.bool (decide ((↑(lenN (Int.natAbs (Dy.m d1))) : Int) > (15 : Int))))))) (Av.one (Sv.cel (Cv.raw (Value.bool false)))),
    Tr.norm (nat_lit 47) (Av.one (Sv.cel (Cv.raw (Value.bool (decide (Dy.e d1 > (300 : Int))))))) (Av.one (Sv.cel (Cv.raw (Value.bool false)))),
    Tr.norm (nat_lit 52) (Av.one (Sv.cel (Cv.raw (Value.bool (decide (Dy.e d1 < (-300 : Int))))))) (Av.one (Sv.cel (Cv.raw (Value.bool false)))),
    Tr.call 57 [Sv.agg [Cv.raw (Value.bool (decide (Dy.m d1 < (0 : Int)))), Cv.ent (nat (Int.natAbs (Dy.m d1))), Cv.raw (Value.int IntKind.i64 (Dy.e d1))]] [] (Av.one (Sv.cel (Cv.raw (Value.int IntKind.i64 (Int.ofNat (nat_lit 0))))))] := ⟨
    norm_bool (h0.len),
    norm_bool (decide_eq_false (show ¬ d0.e > 300 by have := h0.hi; omega)),
    norm_bool (decide_eq_false (show ¬ d0.e < -300 by have := h0.lo; omega)),
    checkD_f h0.bd (by omega),
    norm_bool (h1.len),
    norm_bool (decide_eq_false (show ¬ d1.e > 300 by have := h1.hi; omega)),
    norm_bool (decide_eq_false (show ¬ d1.e < -300 by have := h1.lo; omega)),
    checkD_f h1.bd (by omega), trivial⟩
  exact fits_of_trace (n := 300) (k0 := 1) hT Tryz.func45 (by kernel_rfl) (by kernel_rfl) (by kernel_rfl)

theorem dfitOne_f {a : Dy} (ha : FitD a) (x : Nat) (o : Bool) : FitsP 45 [Sv.cel (Cv.row x 0 1 1)] [(x, ⟨66, [.raw (.bool (decide (a.m < 0))), .ent (nat a.m.natAbs), .raw (.int .i64 a.e)], o⟩)] (.one (boolS true)) := Fits.row (pre := []) (dfit1_1_0 ha) rfl rfl rfl x o
theorem dfitTwo_f {a b : Dy} (ha : FitD a) (hb : FitD b) (x : Nat) (o : Bool) : FitsP 45 [Sv.cel (Cv.row x 0 2 2)] [(x, ⟨66, [.raw (.bool (decide (a.m < 0))), .ent (nat a.m.natAbs), .raw (.int .i64 a.e), .raw (.bool (decide (b.m < 0))), .ent (nat b.m.natAbs), .raw (.int .i64 b.e)], o⟩)] (.one (boolS true)) := Fits.row (pre := []) (dfit2_2_0 ha hb) rfl rfl rfl x o

theorem dunfit1_0 {m : Bool} {xs : List Nat} {e : Int} (hu : UnfitD m xs e) (x : Nat) (o : Bool) : FitsP 45 [Sv.cel (Cv.row x 0 1 1)] [(x, ⟨66, [.raw (.bool m), .ent (argE xs), .raw (.int .i64 e)], o⟩)] (.one (boolS false)) := by
  refine Fits.row (pre := []) (f := 45) (n := 1) (c := 1) (t := 66) (o := true) ?_ rfl rfl rfl x o
  rcases hu with hu | ⟨hx, hu⟩ | ⟨hx, h1, hu⟩ | ⟨hx, h1, h2, c, hc, hu⟩
  · exact dfit1_0_1 hu
  · exact dfit1_0_2 hx hu
  · exact dfit1_0_3 hx h1 hu
  · exact dfit1_0_4 hx h1 h2 hc hu

theorem dunfit2_0 {m : Bool} {xs : List Nat} {e : Int} (hu : UnfitD m xs e) (m1 : Bool) (a1 : List Nat) (e1 : Int) (x : Nat) (o : Bool) : FitsP 45 [Sv.cel (Cv.row x 0 2 2)] [(x, ⟨66, [.raw (.bool m), .ent (argE xs), .raw (.int .i64 e), .raw (.bool m1), .ent (argE a1), .raw (.int .i64 e1)], o⟩)] (.one (boolS false)) := by
  refine Fits.row (pre := []) (f := 45) (n := 2) (c := 2) (t := 66) (o := true) ?_ rfl rfl rfl x o
  rcases hu with hu | ⟨hx, hu⟩ | ⟨hx, h1, hu⟩ | ⟨hx, h1, h2, c, hc, hu⟩
  · exact dfit2_0_1 m1 a1 e1 hu
  · exact dfit2_0_2 m1 a1 e1 hx hu
  · exact dfit2_0_3 m1 a1 e1 hx h1 hu
  · exact dfit2_0_4 m1 a1 e1 hx h1 h2 hc hu

theorem dunfit2_1 {d0 : Dy} (h0 : FitD d0) {m : Bool} {xs : List Nat} {e : Int} (hu : UnfitD m xs e) (x : Nat) (o : Bool) : FitsP 45 [Sv.cel (Cv.row x 0 2 2)] [(x, ⟨66, [.raw (.bool (decide (d0.m < 0))), .ent (nat d0.m.natAbs), .raw (.int .i64 d0.e), .raw (.bool m), .ent (argE xs), .raw (.int .i64 e)], o⟩)] (.one (boolS false)) := by
  refine Fits.row (pre := []) (f := 45) (n := 2) (c := 2) (t := 66) (o := true) ?_ rfl rfl rfl x o
  rcases hu with hu | ⟨hx, hu⟩ | ⟨hx, h1, hu⟩ | ⟨hx, h1, h2, c, hc, hu⟩
  · exact dfit2_1_1 h0 hu
  · exact dfit2_1_2 h0 hx hu
  · exact dfit2_1_3 h0 hx h1 hu
  · exact dfit2_1_4 h0 hx h1 h2 hc hu
end Go.Proofs.YtphpaejgcahgbaaGreatDoor
