/- Which dyads may be. -/
import Derived.Test.YtnnnmhjcnkipbaaGreatDoorDyF
namespace Go.Proofs.YtnnnmhjcnkipbaaGreatDoor
open Go Go.RowKit Go.Shelf AM
def adS (m : Bool) (xs : List Nat) (e : Int) : Sv := .agg [.raw (.bool m), .ent (argE xs), .raw (.int .i64 e)]

set_option maxRecDepth 100000 in
theorem checkDA_f1 {m : Bool} {xs : List Nat} {e c : Int} (h : xs.length ≤ 40) (hc : checkI m xs = c) (h0 : c ≠ 0) : FitsP 126 [adS m xs e] [] (.one (intS c)) := by
  have hT : AllOk Tryz.prog Glob [
    Tr.call 100 [Sv.agg [Cv.raw (Value.bool m), Cv.ent (argE xs)]] [] (Av.one (Sv.cel (Cv.raw (Value.int IntKind.i64 c)))),
    Tr.norm (nat_lit 7) (Av.one (Sv.cel (Cv.raw (Value.bool (c != (0 : Int)))))) (Av.one (Sv.cel (Cv.raw (Value.bool true))))] := ⟨
    checkA_is h hc,
    norm_bool (ne_true h0), trivial⟩
  exact fits_of_trace (n := 300) (k0 := 0) hT Tryz.func126 (by kernel_rfl) (by kernel_rfl) (by kernel_rfl)

set_option maxRecDepth 100000 in
theorem checkDZ_f {x : Int} (h1 : -65536 ≤ x) (h2 : x ≤ 65536) (h0 : x ≠ 0) : FitsP 126 [dSz 0 x] [] (.one (intS 2)) := by
  have hT : AllOk Tryz.prog Glob [
    Tr.call 100 [Sv.agg [Cv.raw (Value.bool (decide ((0 : Int) < (0 : Int)))), Cv.ent (nat (Int.natAbs (0 : Int)))]] [] (Av.one (Sv.cel (Cv.raw (Value.int IntKind.i64 (Int.ofNat (nat_lit 0)))))),
    Tr.call 146 [Sv.cel (Cv.raw (Value.int IntKind.i64 x))] [] (Av.one (Sv.cel (Cv.raw (Value.bool true)))),
    Tr.call 97 [Sv.agg [Cv.raw (Value.bool (decide ((0 : Int) < (0 : Int)))), Cv.ent (nat (Int.natAbs (0 : Int)))]] [] (Av.one (Sv.cel (Cv.raw (Value.int IntKind.i64 (Int.ofNat (nat_lit 0)))))),
    Tr.norm (nat_lit 23) (Av.one (Sv.cel (Cv.raw (Value.bool (x != (0 : Int)))))) (Av.one (Sv.cel (Cv.raw (Value.bool true))))] := ⟨
    checkI_f (small_lim (by decide)),
    mayExp_yes h1 h2,
    sign_lit rfl,
    norm_bool (ne_true h0), trivial⟩
  exact fits_of_trace (n := 300) (k0 := 0) hT Tryz.func126 (by kernel_rfl) (by kernel_rfl) (by kernel_rfl)

set_option maxRecDepth 100000 in
theorem checkDE_f0 {z x s : Int} {t : Nat} (hl : LimI z) (h1 : -65536 ≤ x) (h2 : x ≤ 65536) (hs : sign3 z = s) (h0 : s ≠ 0) (ht : IsTail t z.natAbs) (ht0 : 0 < t) : FitsP 126 [dSz z x] [] (.one (intS 2)) := by
  have hT : AllOk Tryz.prog Glob [
    Tr.call 100 [Sv.agg [Cv.raw (Value.bool (decide (z < (0 : Int)))), Cv.ent (nat (Int.natAbs z))]] [] (Av.one (Sv.cel (Cv.raw (Value.int IntKind.i64 (Int.ofNat (nat_lit 0)))))),
    Tr.call 146 [Sv.cel (Cv.raw (Value.int IntKind.i64 x))] [] (Av.one (Sv.cel (Cv.raw (Value.bool true)))),
    Tr.call 97 [Sv.agg [Cv.raw (Value.bool (decide (z < (0 : Int)))), Cv.ent (nat (Int.natAbs z))]] [] (Av.one (Sv.cel (Cv.raw (Value.int IntKind.i64 s)))),
    Tr.norm (nat_lit 18) (Av.one (Sv.cel (Cv.raw (Value.bool (s == (0 : Int)))))) (Av.one (Sv.cel (Cv.raw (Value.bool false)))),
    Tr.call 145 [Sv.cel (Cv.ent (nat (Int.natAbs z)))] [] (Av.one (Sv.cel (Cv.raw (Value.int IntKind.i64 (↑t : Int))))),
    Tr.norm (nat_lit 29) (Av.one (Sv.cel (Cv.raw (Value.bool (decide ((↑t : Int) > (0 : Int))))))) (Av.one (Sv.cel (Cv.raw (Value.bool true))))] := ⟨
    checkI_f hl,
    mayExp_yes h1 h2,
    sign_lit hs,
    norm_bool (eq_false h0),
    tail_f ht,
    norm_bool (decide_eq_true (show (t : Int) > 0 by omega)), trivial⟩
  exact fits_of_trace (n := 300) (k0 := 0) hT Tryz.func126 (by kernel_rfl) (by kernel_rfl) (by kernel_rfl)

/-- A number of a size with which this is tried. -/
structure FitD (d : Dy) : Prop where
  ok : d.Ok
  man : d.m.natAbs < 4294967296 ^ 15
  lo : -300 ≤ d.e
  hi : d.e ≤ 300
theorem FitD.bd {d : Dy} (h : FitD d) : BD 25 10 d := bd_of (m := 15) (n := 10) h.ok h.man (by have := h.lo; omega) (by have := h.hi; omega)
def UnfitD (m : Bool) (xs : List Nat) (e : Int) : Prop := 15 < xs.length ∨ (xs.length ≤ 15 ∧ 300 < e) ∨ (xs.length ≤ 15 ∧ e ≤ 300 ∧ e < -300) ∨ (xs.length ≤ 15 ∧ e ≤ 300 ∧ -300 ≤ e ∧ ∃ c : Int, c ≠ 0 ∧ FitsP 126 [adS m xs e] [] (.one (intS c)))
theorem ad_dz {m : Bool} {xs : List Nat} {e : Int} (hb : ∀ x ∈ xs, x < 4294967296) (hl : xs.length ≤ 40) (hf : checkI m xs = 0) (β : Nat → Option Nat) (W : World) (v : Value) (h : RelS β W v (adS m xs e)) : RelS β W v (dSz (sg m (val 4294967296 xs)) e) := by
  obtain ⟨vs, rfl, hh⟩ := h
  match vs, hh with
  | [a, b, c], ⟨k1, k2, k3, _⟩ =>
    obtain rfl : a = .bool m := k1
    have k2 : Arg W b xs := k2
    obtain ⟨⟨A, cap, rfl⟩, _⟩ := id k2
    obtain ⟨e1, hn⟩ := ai_im k2 hb hl hf
    refine ⟨[_, _, _], rfl, ?_, hn, k3, trivial⟩
    show Value.bool m = Value.bool _
    rw [e1]
theorem ad_cases {m : Bool} {xs : List Nat} {e : Int} (hb : ∀ x ∈ xs, x < 4294967296) : (∃ d : Dy, FitD d ∧ ∀ (β : Nat → Option Nat) (W : World) (v : Value), RelS β W v (adS m xs e) → RelS β W v (dS d)) ∨ UnfitD m xs e := by
  by_cases hx : 15 < xs.length
  · exact .inr (.inl hx)
  have hx : xs.length ≤ 15 := by omega
  by_cases h1 : 300 < e
  · exact .inr (.inr (.inl ⟨hx, h1⟩))
  by_cases h2 : e < -300
  · exact .inr (.inr (.inr (.inl ⟨hx, by omega, h2⟩)))
  by_cases hc : checkI m xs = 0
  · have hk := ad_dz (e := e) hb (by omega) hc
    have l1 : (sg m (val 4294967296 xs)).natAbs < 4294967296 ^ 15 := by rw [sg_natAbs]; exact Nat.lt_of_lt_of_le (val_lt hb) (Nat.pow_le_pow_right (by omega) hx)
    generalize sg m (val 4294967296 xs) = z at *
    by_cases hz : z = 0
    · subst hz
      by_cases he : e = 0
      · subst he
        exact .inl ⟨⟨0, 0⟩, ⟨.inl ⟨rfl, rfl⟩, l1, by decide, by decide⟩, hk⟩
      · refine .inr (.inr (.inr (.inr ⟨hx, by omega, by omega, 2, by decide, Fits.args (checkDZ_f (x := e) (by omega) (by omega) he) fun β W vals h => ?_⟩)))
        obtain ⟨v, rfl, h'⟩ := all2_1 h
        exact ⟨hk β W v h', trivial⟩
    · by_cases ho : z % 2 = 1
      · exact .inl ⟨⟨z, e⟩, ⟨.inr ho, l1, by show -300 ≤ e; omega, by show e ≤ 300; omega⟩, hk⟩
      · have ht : 0 < tl z.natAbs := by
          rcases Nat.eq_zero_or_pos (tl z.natAbs) with h0 | h0
          · have := tail_int (tl_is z.natAbs) hz
            rw [h0] at this
            obtain ⟨k, hk1, hk2⟩ := this
            exact absurd (by rw [hk1]; simpa using hk2) ho
          · exact h0
        refine .inr (.inr (.inr (.inr ⟨hx, by omega, by omega, 2, by decide, Fits.args (checkDE_f0 (x := e) (lim_of l1 (by omega)) (by omega) (by omega) rfl (sign3_ne hz) (tl_is _) ht) fun β W vals h => ?_⟩)))
        obtain ⟨v, rfl, h'⟩ := all2_1 h
        exact ⟨hk β W v h', trivial⟩
  · exact .inr (.inr (.inr (.inr ⟨hx, by omega, by omega, _, hc, checkDA_f1 (by omega) rfl hc⟩)))
theorem FitD.len {d : Dy} (h : FitD d) : decide (((lenN d.m.natAbs : Nat) : Int) > 15) = false := gt_false (lenN_le.2 h.man)

end Go.Proofs.YtnnnmhjcnkipbaaGreatDoor
