/- Which spans may be. -/
import Derived.Test.YtnnnmhjcnkipbaaGreatDoorSpL
import Derived.Test.YtnnnmhjcnkipbaaGreatDoorDyFit
namespace Go.Proofs.YtnnnmhjcnkipbaaGreatDoor
open Go Go.RowKit Go.Shelf AM
def spA (m : Bool) (xs : List Nat) (e : Int) (m' : Bool) (ys : List Nat) (e' : Int) : Sv := .agg [.raw (.bool m), .ent (argE xs), .raw (.int .i64 e), .raw (.bool m'), .ent (argE ys), .raw (.int .i64 e')]

set_option maxRecDepth 100000 in
theorem endsE_f {m m' : Bool} {a b : Ent} {e e' : Int} : FitsP 77 [.agg [.raw (.bool m), .ent a, .raw (.int .i64 e), .raw (.bool m'), .ent b, .raw (.int .i64 e')]] [] (.one (.agg [.raw (.bool m), .ent a, .raw (.int .i64 e), .raw (.bool m'), .ent b, .raw (.int .i64 e')])) := by
  have hT : AllOk Tryz.prog Glob [] := trivial
  exact fits_of_trace (n := 300) (k0 := 0) hT Tryz.func77 (by kernel_rfl) (by kernel_rfl) (by kernel_rfl)

set_option maxRecDepth 100000 in
theorem checkSA1_f {m m' : Bool} {xs ys : List Nat} {e e' c : Int} (hu : FitsP 126 [adS m xs e] [] (.one (intS c))) (hc : c ≠ 0) : FitsP 75 [spA m xs e m' ys e'] [] (.one (intS c)) := by
  have hT : AllOk Tryz.prog Glob [
    Tr.call 77 [Sv.agg [Cv.raw (Value.bool m), Cv.ent (argE xs), Cv.raw (Value.int IntKind.i64 e), Cv.raw (Value.bool m'), Cv.ent (argE ys), Cv.raw (Value.int IntKind.i64 e')]] [] (Av.one (Sv.agg [Cv.raw (Value.bool m), Cv.ent (argE xs), Cv.raw (Value.int IntKind.i64 e), Cv.raw (Value.bool m'), Cv.ent (argE ys), Cv.raw (Value.int IntKind.i64 e')])),
    Tr.call 126 [Sv.agg [Cv.raw (Value.bool m), Cv.ent (argE xs), Cv.raw (Value.int IntKind.i64 e)]] [] (Av.one (Sv.cel (Cv.raw (Value.int IntKind.i64 c)))),
    Tr.norm (nat_lit 13) (Av.one (Sv.cel (Cv.raw (Value.bool (c != (0 : Int)))))) (Av.one (Sv.cel (Cv.raw (Value.bool true))))] := ⟨
    endsE_f,
    hu,
    norm_bool (ne_true hc), trivial⟩
  exact fits_of_trace (n := 300) (k0 := 0) hT Tryz.func75 (by kernel_rfl) (by kernel_rfl) (by kernel_rfl)

set_option maxRecDepth 100000 in
theorem checkSA2_f {x : Dy} {n k : Nat} {m' : Bool} {ys : List Nat} {e' c : Int} (hx : BD n k x) (hk : n + k ≤ 512) (hu : FitsP 126 [adS m' ys e'] [] (.one (intS c))) (hc : c ≠ 0) : FitsP 75 [.agg [.raw (.bool (decide (x.m < 0))), .ent (nat x.m.natAbs), .raw (.int .i64 x.e), .raw (.bool m'), .ent (argE ys), .raw (.int .i64 e')]] [] (.one (intS c)) := by
  have hT : AllOk Tryz.prog Glob [
    Tr.call 77 [Sv.agg [Cv.raw (Value.bool (decide (Dy.m x < (0 : Int)))), Cv.ent (nat (Int.natAbs (Dy.m x))), Cv.raw (Value.int IntKind.i64 (Dy.e x)), Cv.raw (Value.bool m'), Cv.ent (argE ys), Cv.raw (Value.int IntKind.i64 e')]] [] (Av.one (Sv.agg [Cv.raw (Value.bool (decide (Dy.m x < (0 : Int)))), Cv.ent (nat (Int.natAbs (Dy.m x))), Cv.raw (Value.int IntKind.i64 (Dy.e x)), Cv.raw (Value.bool m'), Cv.ent (argE ys), Cv.raw (Value.int IntKind.i64 e')])),
    Tr.call 126 [Sv.agg [Cv.raw (Value.bool (decide (Dy.m x < (0 : Int)))), Cv.ent (nat (Int.natAbs (Dy.m x))), Cv.raw (Value.int IntKind.i64 (Dy.e x))]] [] (Av.one (Sv.cel (Cv.raw (Value.int IntKind.i64 (Int.ofNat (nat_lit 0)))))),
    Tr.call 126 [Sv.agg [Cv.raw (Value.bool m'), Cv.ent (argE ys), Cv.raw (Value.int IntKind.i64 e')]] [] (Av.one (Sv.cel (Cv.raw (Value.int IntKind.i64 c)))),
    Tr.norm (nat_lit 24) (Av.one (Sv.cel (Cv.raw (Value.bool (c != (0 : Int)))))) (Av.one (Sv.cel (Cv.raw (Value.bool true))))] := ⟨
    endsE_f,
    checkD_f hx hk,
    hu,
    norm_bool (ne_true hc), trivial⟩
  exact fits_of_trace (n := 300) (k0 := 0) hT Tryz.func75 (by kernel_rfl) (by kernel_rfl) (by kernel_rfl)

/-- A number that may be an end. -/
structure FitE (d : Dy) : Prop where
  ok : d.Ok
  man : d.m.natAbs < 4294967296 ^ 10
  lo : -200 ≤ d.e
  hi : d.e ≤ 200
theorem FitE.bd {d : Dy} (h : FitE d) : BD 17 7 d := bd_of (m := 10) (n := 7) h.ok h.man (by have := h.lo; omega) (by have := h.hi; omega)
theorem FitE.len {d : Dy} (h : FitE d) : decide (((lenN d.m.natAbs : Nat) : Int) > 10) = false := gt_false (lenN_le.2 h.man)
theorem ad_end {m : Bool} {xs : List Nat} {e : Int} (hb : ∀ x ∈ xs, x < 4294967296) (hx : xs.length ≤ 10) (h1 : e ≤ 200) (h2 : -200 ≤ e) : (∃ d : Dy, FitE d ∧ ∀ (β : Nat → Option Nat) (W : World) (v : Value), RelS β W v (adS m xs e) → RelS β W v (dS d)) ∨ (∃ c : Int, c ≠ 0 ∧ FitsP 126 [adS m xs e] [] (.one (intS c))) := by
  by_cases hc : checkI m xs = 0
  · have hk := ad_dz (e := e) hb (by omega) hc
    have l1 : (sg m (val 4294967296 xs)).natAbs < 4294967296 ^ 10 := by rw [sg_natAbs]; exact Nat.lt_of_lt_of_le (val_lt hb) (Nat.pow_le_pow_right (by omega) hx)
    generalize sg m (val 4294967296 xs) = z at *
    by_cases hz : z = 0
    · subst hz
      by_cases he : e = 0
      · subst he
        exact .inl ⟨⟨0, 0⟩, ⟨.inl ⟨rfl, rfl⟩, l1, by decide, by decide⟩, hk⟩
      · refine .inr ⟨2, by decide, Fits.args (checkDZ_f (x := e) (by omega) (by omega) he) fun β W vals h => ?_⟩
        obtain ⟨v, rfl, h'⟩ := all2_1 h
        exact ⟨hk β W v h', trivial⟩
    · by_cases ho : z % 2 = 1
      · exact .inl ⟨⟨z, e⟩, ⟨.inr ho, l1, by show -200 ≤ e; omega, by show e ≤ 200; omega⟩, hk⟩
      · have ht : 0 < tl z.natAbs := by
          rcases Nat.eq_zero_or_pos (tl z.natAbs) with h0 | h0
          · have := tail_int (tl_is z.natAbs) hz
            rw [h0] at this
            obtain ⟨k, hk1, hk2⟩ := this
            exact absurd (by rw [hk1]; simpa using hk2) ho
          · exact h0
        refine .inr ⟨2, by decide, Fits.args (checkDE_f0 (x := e) (lim_of l1 (by omega)) (by omega) (by omega) rfl (sign3_ne hz) (tl_is _) ht) fun β W vals h => ?_⟩
        obtain ⟨v, rfl, h'⟩ := all2_1 h
        exact ⟨hk β W v h', trivial⟩
  · exact .inr ⟨_, hc, checkDA_f1 (by omega) rfl hc⟩
/-- A span of a size with which this is tried. -/
structure FitS (x y : Dy) : Prop where
  a : FitE x
  b : FitE y
  le : dv x ≤ dv y
theorem FitS.no {x y : Dy} (h : FitS x y) : ¬ dv y < dv x := by have := h.le; grind
def BadS (m : Bool) (xs : List Nat) (e : Int) (m' : Bool) (ys : List Nat) (e' : Int) : Prop := ∃ c : Int, c ≠ 0 ∧ FitsP 75 [spA m xs e m' ys e'] [] (.one (intS c))
def UnfitS (m : Bool) (xs : List Nat) (e : Int) (m' : Bool) (ys : List Nat) (e' : Int) : Prop :=
  10 < xs.length ∨ (xs.length ≤ 10 ∧ 200 < e) ∨ (xs.length ≤ 10 ∧ e < -200) ∨
  ((xs.length ≤ 10 ∧ e ≤ 200 ∧ -200 ≤ e) ∧ (10 < ys.length ∨ (ys.length ≤ 10 ∧ 200 < e') ∨ (ys.length ≤ 10 ∧ e' < -200) ∨ ((ys.length ≤ 10 ∧ e' ≤ 200 ∧ -200 ≤ e') ∧ BadS m xs e m' ys e')))
theorem agg3 {β : Nat → Option Nat} {W : World} {a b c : Value} {d : Dy} (h : RelS β W (.agg #[a, b, c]) (dS d)) : RelC β W a (.raw (.bool (decide (d.m < 0)))) ∧ RelC β W b (.ent (nat d.m.natAbs)) ∧ RelC β W c (.raw (.int .i64 d.e)) := by
  obtain ⟨vs, e, hh⟩ := h
  match vs, hh with
  | [a', b', c'], ⟨k1, k2, k3, _⟩ =>
    injection e with e
    have e : #[a, b, c] = #[a', b', c'] := e
    simp at e
    obtain ⟨rfl, rfl, rfl⟩ := e
    exact ⟨k1, k2, k3⟩
theorem sa_cases {m : Bool} {xs : List Nat} {e : Int} {m' : Bool} {ys : List Nat} {e' : Int} (hb : ∀ x ∈ xs, x < 4294967296) (hb' : ∀ x ∈ ys, x < 4294967296) : (∃ x y : Dy, FitS x y ∧ ∀ (β : Nat → Option Nat) (W : World) (v : Value), RelS β W v (spA m xs e m' ys e') → RelS β W v (spS x y)) ∨ UnfitS m xs e m' ys e' := by
  by_cases h1 : 10 < xs.length
  · exact .inr (.inl h1)
  by_cases h2 : 200 < e
  · exact .inr (.inr (.inl ⟨by omega, h2⟩))
  by_cases h3 : e < -200
  · exact .inr (.inr (.inr (.inl ⟨by omega, h3⟩)))
  by_cases g1 : 10 < ys.length
  · exact .inr (.inr (.inr (.inr ⟨⟨by omega, by omega, by omega⟩, .inl g1⟩)))
  by_cases g2 : 200 < e'
  · exact .inr (.inr (.inr (.inr ⟨⟨by omega, by omega, by omega⟩, .inr (.inl ⟨by omega, g2⟩)⟩)))
  by_cases g3 : e' < -200
  · exact .inr (.inr (.inr (.inr ⟨⟨by omega, by omega, by omega⟩, .inr (.inr (.inl ⟨by omega, g3⟩))⟩)))
  have bad : BadS m xs e m' ys e' → UnfitS m xs e m' ys e' := fun hB => .inr (.inr (.inr ⟨⟨by omega, by omega, by omega⟩, .inr (.inr (.inr ⟨⟨by omega, by omega, by omega⟩, hB⟩))⟩))
  rcases ad_end (m := m) (e := e) hb (by omega) (by omega) (by omega) with ⟨x, hx, rx⟩ | ⟨c, hc, hu⟩
  · rcases ad_end (m := m') (e := e') hb' (by omega) (by omega) (by omega) with ⟨y, hy, ry⟩ | ⟨c, hc, hu⟩
    · have hrel : ∀ (β : Nat → Option Nat) (W : World) (v : Value), RelS β W v (spA m xs e m' ys e') → RelS β W v (spS x y) := fun β W v h => by
        obtain ⟨vs, rfl, hh⟩ := h
        match vs, hh with
        | [a, b, c, d, f, i], ⟨k1, k2, k3, k4, k5, k6, _⟩ =>
          obtain ⟨r1, r2, r3⟩ := agg3 (rx β W (.agg #[a, b, c]) ⟨[a, b, c], rfl, k1, k2, k3, trivial⟩)
          obtain ⟨r4, r5, r6⟩ := agg3 (ry β W (.agg #[d, f, i]) ⟨[d, f, i], rfl, k4, k5, k6, trivial⟩)
          exact ⟨_, rfl, r1, r2, r3, r4, r5, r6, trivial⟩
      by_cases hl : dv y < dv x
      · refine .inr (bad ⟨1, by decide, Fits.args (checkSr_f hx.bd hy.bd (by omega) hl) fun β W vals h => ?_⟩)
        obtain ⟨v, rfl, h'⟩ := all2_1 h
        exact ⟨hrel β W v h', trivial⟩
      · exact .inl ⟨x, y, ⟨hx, hy, by grind⟩, hrel⟩
    · refine .inr (bad ⟨c, hc, Fits.args (checkSA2_f hx.bd (by omega) hu hc) fun β W vals h => ?_⟩)
      obtain ⟨v, rfl, h'⟩ := all2_1 h
      obtain ⟨vs, rfl, hh⟩ := h'
      match vs, hh with
      | [a, b, c, d, f, i], ⟨k1, k2, k3, k4, k5, k6, _⟩ =>
        obtain ⟨r1, r2, r3⟩ := agg3 (rx β W (.agg #[a, b, c]) ⟨[a, b, c], rfl, k1, k2, k3, trivial⟩)
        exact ⟨⟨_, rfl, r1, r2, r3, k4, k5, k6, trivial⟩, trivial⟩
  · exact .inr (bad ⟨c, hc, checkSA1_f hu hc⟩)

set_option maxRecDepth 100000 in
theorem sfit1_0_1 {m : Bool} {xs : List Nat} {e : Int} {m' : Bool} {ys : List Nat} {e' : Int} (hu : 10 < xs.length) : FitsP 15 [Sv.cel (Cv.row 0 0 1 1)] [(0, ⟨29, [.raw (.bool m), .ent (argE xs), .raw (.int .i64 e), .raw (.bool m'), .ent (argE ys), .raw (.int .i64 e')], true⟩)] (.one (boolS false)) := by
  have hT : AllOk Tryz.prog Glob [
    Tr.norm (nat_lit 27) (Av.one (Sv.cel (Cv.raw (Value.bool (decide ((↑(List.length xs) : Int) > (10 : Int))))))) (Av.one (Sv.cel (Cv.raw (Value.bool true))))] := ⟨
    norm_bool (gt_true hu), trivial⟩
  exact fits_of_trace (n := 300) (k0 := 1) hT Tryz.func15 (by kernel_rfl) (by kernel_rfl) (by kernel_rfl)

set_option maxRecDepth 100000 in
theorem sfit1_0_2 {m : Bool} {xs : List Nat} {e : Int} {m' : Bool} {ys : List Nat} {e' : Int} (hx : xs.length ≤ 10) (hu : 200 < e) : FitsP 15 [Sv.cel (Cv.row 0 0 1 1)] [(0, ⟨29, [.raw (.bool m), .ent (argE xs), .raw (.int .i64 e), .raw (.bool m'), .ent (argE ys), .raw (.int .i64 e')], true⟩)] (.one (boolS false)) := by
  have hT : AllOk Tryz.prog Glob [
    Tr.norm (nat_lit 27) (Av.one (Sv.cel (Cv.raw (Value.bool (decide ((↑(List.length xs) : Int) > (10 : Int))))))) (Av.one (Sv.cel (Cv.raw (Value.bool false)))),
    Tr.norm (nat_lit 32) (Av.one (Sv.cel (Cv.raw (Value.bool (decide (e > (200 : Int))))))) (Av.one (Sv.cel (Cv.raw (Value.bool true))))] := ⟨
    norm_bool (gt_false hx),
    norm_bool (decide_eq_true (show e > 200 from hu)), trivial⟩
  exact fits_of_trace (n := 300) (k0 := 1) hT Tryz.func15 (by kernel_rfl) (by kernel_rfl) (by kernel_rfl)

set_option maxRecDepth 100000 in
theorem sfit1_0_3 {m : Bool} {xs : List Nat} {e : Int} {m' : Bool} {ys : List Nat} {e' : Int} (hx : xs.length ≤ 10) (hu : e < -200) : FitsP 15 [Sv.cel (Cv.row 0 0 1 1)] [(0, ⟨29, [.raw (.bool m), .ent (argE xs), .raw (.int .i64 e), .raw (.bool m'), .ent (argE ys), .raw (.int .i64 e')], true⟩)] (.one (boolS false)) := by
  have hT : AllOk Tryz.prog Glob [
    Tr.norm (nat_lit 27) (Av.one (Sv.cel (Cv.raw (Value.bool (decide ((↑(List.length xs) : Int) > (10 : Int))))))) (Av.one (Sv.cel (Cv.raw (Value.bool false)))),
    Tr.norm (nat_lit 32) (Av.one (Sv.cel (Cv.raw (Value.bool (decide (e > (200 : Int))))))) (Av.one (Sv.cel (Cv.raw (Value.bool false)))),
    Tr.norm (nat_lit 36) (Av.one (Sv.cel (Cv.raw (Value.bool (decide (e < (-200 : Int))))))) (Av.one (Sv.cel (Cv.raw (Value.bool true))))] := ⟨
    norm_bool (gt_false hx),
    norm_bool (decide_eq_false (show ¬ e > 200 by omega)),
    norm_bool (decide_eq_true hu), trivial⟩
  exact fits_of_trace (n := 300) (k0 := 1) hT Tryz.func15 (by kernel_rfl) (by kernel_rfl) (by kernel_rfl)

set_option maxRecDepth 100000 in
theorem sfit1_0_4 {m : Bool} {xs : List Nat} {e : Int} {m' : Bool} {ys : List Nat} {e' : Int} (hx : xs.length ≤ 10) (h1 : e ≤ 200) (h2 : -200 ≤ e) (hu : 10 < ys.length) : FitsP 15 [Sv.cel (Cv.row 0 0 1 1)] [(0, ⟨29, [.raw (.bool m), .ent (argE xs), .raw (.int .i64 e), .raw (.bool m'), .ent (argE ys), .raw (.int .i64 e')], true⟩)] (.one (boolS false)) := by
  have hT : AllOk Tryz.prog Glob [
    Tr.norm (nat_lit 27) (Av.one (Sv.cel (Cv.raw (Value.bool (decide ((↑(List.length xs) : Int) > (10 : Int))))))) (Av.one (Sv.cel (Cv.raw (Value.bool false)))),
    Tr.norm (nat_lit 32) (Av.one (Sv.cel (Cv.raw (Value.bool (decide (e > (200 : Int))))))) (Av.one (Sv.cel (Cv.raw (Value.bool false)))),
    Tr.norm (nat_lit 36) (Av.one (Sv.cel (Cv.raw (Value.bool (decide (e < (-200 : Int))))))) (Av.one (Sv.cel (Cv.raw (Value.bool false)))),
    Tr.norm (nat_lit 49) (Av.one (Sv.cel (Cv.raw (Value.bool (decide ((↑(List.length ys) : Int) > (10 : Int))))))) (Av.one (Sv.cel (Cv.raw (Value.bool true))))] := ⟨
    norm_bool (gt_false hx),
    norm_bool (decide_eq_false (show ¬ e > 200 by omega)),
    norm_bool (decide_eq_false (show ¬ e < -200 by omega)),
    norm_bool (gt_true hu), trivial⟩
  exact fits_of_trace (n := 300) (k0 := 1) hT Tryz.func15 (by kernel_rfl) (by kernel_rfl) (by kernel_rfl)

set_option maxRecDepth 100000 in
theorem sfit1_0_5 {m : Bool} {xs : List Nat} {e : Int} {m' : Bool} {ys : List Nat} {e' : Int} (hx : xs.length ≤ 10) (h1 : e ≤ 200) (h2 : -200 ≤ e) (hy : ys.length ≤ 10) (hu : 200 < e') : FitsP 15 [Sv.cel (Cv.row 0 0 1 1)] [(0, ⟨29, [.raw (.bool m), .ent (argE xs), .raw (.int .i64 e), .raw (.bool m'), .ent (argE ys), .raw (.int .i64 e')], true⟩)] (.one (boolS false)) := by
  have hT : AllOk Tryz.prog Glob [
    Tr.norm (nat_lit 27) (Av.one (Sv.cel (Cv.raw (Value.bool (decide ((↑(List.length xs) : Int) > (10 : Int))))))) (Av.one (Sv.cel (Cv.raw (Value.bool false)))),
    Tr.norm (nat_lit 32) (Av.one (Sv.cel (Cv.raw (Value.bool (decide (e > (200 : Int))))))) (Av.one (Sv.cel (Cv.raw (Value.bool false)))),
    Tr.norm (nat_lit 36) (Av.one (Sv.cel (Cv.raw (Value.bool (decide (e < (-200 : Int))))))) (Av.one (Sv.cel (Cv.raw (Value.bool false)))),
    Tr.norm (nat_lit 49) (Av.one (Sv.cel (Cv.raw (Value.bool (decide ((↑(List.length ys) : Int) > (10 : Int))))))) (Av.one (Sv.cel (Cv.raw (Value.bool false)))),
    Tr.norm (nat_lit 54) (Av.one (Sv.cel (Cv.raw (Value.bool (decide (e' > (200 : Int))))))) (Av.one (Sv.cel (Cv.raw (Value.bool true))))] := ⟨
    norm_bool (gt_false hx),
    norm_bool (decide_eq_false (show ¬ e > 200 by omega)),
    norm_bool (decide_eq_false (show ¬ e < -200 by omega)),
    norm_bool (gt_false hy),
    norm_bool (decide_eq_true (show e' > 200 from hu)), trivial⟩
  exact fits_of_trace (n := 300) (k0 := 1) hT Tryz.func15 (by kernel_rfl) (by kernel_rfl) (by kernel_rfl)

set_option maxRecDepth 100000 in
theorem sfit1_0_6 {m : Bool} {xs : List Nat} {e : Int} {m' : Bool} {ys : List Nat} {e' : Int} (hx : xs.length ≤ 10) (h1 : e ≤ 200) (h2 : -200 ≤ e) (hy : ys.length ≤ 10) (hu : e' < -200) : FitsP 15 [Sv.cel (Cv.row 0 0 1 1)] [(0, ⟨29, [.raw (.bool m), .ent (argE xs), .raw (.int .i64 e), .raw (.bool m'), .ent (argE ys), .raw (.int .i64 e')], true⟩)] (.one (boolS false)) := by
  have hT : AllOk Tryz.prog Glob [
    Tr.norm (nat_lit 27) (Av.one (Sv.cel (Cv.raw (Value.bool (decide ((↑(List.length xs) : Int) > (10 : Int))))))) (Av.one (Sv.cel (Cv.raw (Value.bool false)))),
    Tr.norm (nat_lit 32) (Av.one (Sv.cel (Cv.raw (Value.bool (decide (e > (200 : Int))))))) (Av.one (Sv.cel (Cv.raw (Value.bool false)))),
    Tr.norm (nat_lit 36) (Av.one (Sv.cel (Cv.raw (Value.bool (decide (e < (-200 : Int))))))) (Av.one (Sv.cel (Cv.raw (Value.bool false)))),
    Tr.norm (nat_lit 49) (Av.one (Sv.cel (Cv.raw (Value.bool (decide ((↑(List.length ys) : Int) > (10 : Int))))))) (Av.one (Sv.cel (Cv.raw (Value.bool false)))),
    Tr.norm (nat_lit 54) (Av.one (Sv.cel (Cv.raw (Value.bool (decide (e' > (200 : Int))))))) (Av.one (Sv.cel (Cv.raw (Value.bool false)))),
    Tr.norm (nat_lit 58) (Av.one (Sv.cel (Cv.raw (Value.bool (decide (e' < (-200 : Int))))))) (Av.one (Sv.cel (Cv.raw (Value.bool true))))] := ⟨
    norm_bool (gt_false hx),
    norm_bool (decide_eq_false (show ¬ e > 200 by omega)),
    norm_bool (decide_eq_false (show ¬ e < -200 by omega)),
    norm_bool (gt_false hy),
    norm_bool (decide_eq_false (show ¬ e' > 200 by omega)),
    norm_bool (decide_eq_true hu), trivial⟩
  exact fits_of_trace (n := 300) (k0 := 1) hT Tryz.func15 (by kernel_rfl) (by kernel_rfl) (by kernel_rfl)

set_option maxRecDepth 100000 in
theorem sfit1_0_7 {m : Bool} {xs : List Nat} {e : Int} {m' : Bool} {ys : List Nat} {e' : Int} (hx : xs.length ≤ 10) (h1 : e ≤ 200) (h2 : -200 ≤ e) (hy : ys.length ≤ 10) (g1 : e' ≤ 200) (g2 : -200 ≤ e') {c : Int} (hc : c ≠ 0) (hu : FitsP 75 [spA m xs e m' ys e'] [] (.one (intS c))) : FitsP 15 [Sv.cel (Cv.row 0 0 1 1)] [(0, ⟨29, [.raw (.bool m), .ent (argE xs), .raw (.int .i64 e), .raw (.bool m'), .ent (argE ys), .raw (.int .i64 e')], true⟩)] (.one (boolS false)) := by
  have hT : AllOk Tryz.prog Glob [
    Tr.norm (nat_lit 27) (Av.one (Sv.cel (Cv.raw (Value.bool (decide ((↑(List.length xs) : Int) > (10 : Int))))))) (Av.one (Sv.cel (Cv.raw (Value.bool false)))),
    Tr.norm (nat_lit 32) (Av.one (Sv.cel (Cv.raw (Value.bool (decide (e > (200 : Int))))))) (Av.one (Sv.cel (Cv.raw (Value.bool false)))),
    Tr.norm (nat_lit 36) (Av.one (Sv.cel (Cv.raw (Value.bool (decide (e < (-200 : Int))))))) (Av.one (Sv.cel (Cv.raw (Value.bool false)))),
    Tr.norm (nat_lit 49) (Av.one (Sv.cel (Cv.raw (Value.bool (decide ((↑(List.length ys) : Int) > (10 : Int))))))) (Av.one (Sv.cel (Cv.raw (Value.bool false)))),
    Tr.norm (nat_lit 54) (Av.one (Sv.cel (Cv.raw (Value.bool (decide (e' > (200 : Int))))))) (Av.one (Sv.cel (Cv.raw (Value.bool false)))),
    Tr.norm (nat_lit 58) (Av.one (Sv.cel (Cv.raw (Value.bool (decide (e' < (-200 : Int))))))) (Av.one (Sv.cel (Cv.raw (Value.bool false)))),
    Tr.call 75 [Sv.agg [Cv.raw (Value.bool m), Cv.ent (argE xs), Cv.raw (Value.int IntKind.i64 e), Cv.raw (Value.bool m'), Cv.ent (argE ys), Cv.raw (Value.int IntKind.i64 e')]] [] (Av.one (Sv.cel (Cv.raw (Value.int IntKind.i64 c)))),
    Tr.norm (nat_lit 64) (Av.one (Sv.cel (Cv.raw (Value.bool (c != (0 : Int)))))) (Av.one (Sv.cel (Cv.raw (Value.bool true))))] := ⟨
    norm_bool (gt_false hx),
    norm_bool (decide_eq_false (show ¬ e > 200 by omega)),
    norm_bool (decide_eq_false (show ¬ e < -200 by omega)),
    norm_bool (gt_false hy),
    norm_bool (decide_eq_false (show ¬ e' > 200 by omega)),
    norm_bool (decide_eq_false (show ¬ e' < -200 by omega)),
    hu,
    norm_bool (ne_true hc), trivial⟩
  exact fits_of_trace (n := 300) (k0 := 1) hT Tryz.func15 (by kernel_rfl) (by kernel_rfl) (by kernel_rfl)

set_option maxRecDepth 100000 in
theorem sfit1_1_0 {x0 y0 : Dy} (h0 : FitS x0 y0) : FitsP 15 [Sv.cel (Cv.row 0 0 1 1)] [(0, ⟨29, [.raw (.bool (decide (x0.m < 0))), .ent (nat x0.m.natAbs), .raw (.int .i64 x0.e), .raw (.bool (decide (y0.m < 0))), .ent (nat y0.m.natAbs), .raw (.int .i64 y0.e)], true⟩)] (.one (boolS true)) := by
  have hT : AllOk Tryz.prog Glob [
    Tr.norm (nat_lit 27) (Av.one (Sv.cel (Cv.raw (Value.bool (decide ((↑(lenN (Int.natAbs (Dy.m x0))) : Int) > (10 : Int))))))) (Av.one (Sv.cel (Cv.raw (Value.bool false)))),
    Tr.norm (nat_lit 32) (Av.one (Sv.cel (Cv.raw (Value.bool (decide (Dy.e x0 > (200 : Int))))))) (Av.one (Sv.cel (Cv.raw (Value.bool false)))),
    Tr.norm (nat_lit 36) (Av.one (Sv.cel (Cv.raw (Value.bool (decide (Dy.e x0 < (-200 : Int))))))) (Av.one (Sv.cel (Cv.raw (Value.bool false)))),
    Tr.norm (nat_lit 49) (Av.one (Sv.cel (Cv.raw (Value.bool (decide ((↑(lenN (Int.natAbs (Dy.m y0))) : Int) > (10 : Int))))))) (Av.one (Sv.cel (Cv.raw (Value.bool false)))),
    Tr.norm (nat_lit 54) (Av.one (Sv.cel (Cv.raw (Value.bool (decide (Dy.e y0 > (200 : Int))))))) (Av.one (Sv.cel (Cv.raw (Value.bool false)))),
    Tr.norm (nat_lit 58) (Av.one (Sv.cel (Cv.raw (Value.bool (decide (Dy.e y0 < (-200 : Int))))))) (Av.one (Sv.cel (Cv.raw (Value.bool false)))),
    Tr.call 75 [Sv.agg [Cv.raw (Value.bool (decide (Dy.m x0 < (0 : Int)))), Cv.ent (nat (Int.natAbs (Dy.m x0))), Cv.raw (Value.int IntKind.i64 (Dy.e x0)), Cv.raw (Value.bool (decide (Dy.m y0 < (0 : Int)))), Cv.ent (nat (Int.natAbs (Dy.m y0))), Cv.raw (Value.int IntKind.i64 (Dy.e y0))]] [] (Av.one (Sv.cel (Cv.raw (Value.int IntKind.i64 (Int.ofNat (nat_lit 0))))))] := ⟨
    norm_bool (h0.a.len),
    norm_bool (decide_eq_false (show ¬ x0.e > 200 by have := h0.a.hi; omega)),
    norm_bool (decide_eq_false (show ¬ x0.e < -200 by have := h0.a.lo; omega)),
    norm_bool (h0.b.len),
    norm_bool (decide_eq_false (show ¬ y0.e > 200 by have := h0.b.hi; omega)),
    norm_bool (decide_eq_false (show ¬ y0.e < -200 by have := h0.b.lo; omega)),
    checkS_f h0.a.bd h0.b.bd (by omega) h0.no, trivial⟩
  exact fits_of_trace (n := 300) (k0 := 1) hT Tryz.func15 (by kernel_rfl) (by kernel_rfl) (by kernel_rfl)

set_option maxRecDepth 100000 in
theorem sfit2_0_1 {m : Bool} {xs : List Nat} {e : Int} {m' : Bool} {ys : List Nat} {e' : Int} (m1 : Bool) (a1 : List Nat) (e1 : Int) (n1 : Bool) (b1 : List Nat) (f1 : Int) (hu : 10 < xs.length) : FitsP 15 [Sv.cel (Cv.row 0 0 2 2)] [(0, ⟨29, [.raw (.bool m), .ent (argE xs), .raw (.int .i64 e), .raw (.bool m'), .ent (argE ys), .raw (.int .i64 e'), .raw (.bool m1), .ent (argE a1), .raw (.int .i64 e1), .raw (.bool n1), .ent (argE b1), .raw (.int .i64 f1)], true⟩)] (.one (boolS false)) := by
  have hT : AllOk Tryz.prog Glob [
    Tr.norm (nat_lit 27) (Av.one (Sv.cel (Cv.raw (Value.bool (decide ((↑(List.length xs) : Int) > (10 : Int))))))) (Av.one (Sv.cel (Cv.raw (Value.bool true))))] := ⟨
    norm_bool (gt_true hu), trivial⟩
  exact fits_of_trace (n := 300) (k0 := 1) hT Tryz.func15 (by kernel_rfl) (by kernel_rfl) (by kernel_rfl)

set_option maxRecDepth 100000 in
theorem sfit2_0_2 {m : Bool} {xs : List Nat} {e : Int} {m' : Bool} {ys : List Nat} {e' : Int} (m1 : Bool) (a1 : List Nat) (e1 : Int) (n1 : Bool) (b1 : List Nat) (f1 : Int) (hx : xs.length ≤ 10) (hu : 200 < e) : FitsP 15 [Sv.cel (Cv.row 0 0 2 2)] [(0, ⟨29, [.raw (.bool m), .ent (argE xs), .raw (.int .i64 e), .raw (.bool m'), .ent (argE ys), .raw (.int .i64 e'), .raw (.bool m1), .ent (argE a1), .raw (.int .i64 e1), .raw (.bool n1), .ent (argE b1), .raw (.int .i64 f1)], true⟩)] (.one (boolS false)) := by
  have hT : AllOk Tryz.prog Glob [
    Tr.norm (nat_lit 27) (Av.one (Sv.cel (Cv.raw (Value.bool (decide ((↑(List.length xs) : Int) > (10 : Int))))))) (Av.one (Sv.cel (Cv.raw (Value.bool false)))),
    Tr.norm (nat_lit 32) (Av.one (Sv.cel (Cv.raw (Value.bool (decide (e > (200 : Int))))))) (Av.one (Sv.cel (Cv.raw (Value.bool true))))] := ⟨
    norm_bool (gt_false hx),
    norm_bool (decide_eq_true (show e > 200 from hu)), trivial⟩
  exact fits_of_trace (n := 300) (k0 := 1) hT Tryz.func15 (by kernel_rfl) (by kernel_rfl) (by kernel_rfl)

set_option maxRecDepth 100000 in
theorem sfit2_0_3 {m : Bool} {xs : List Nat} {e : Int} {m' : Bool} {ys : List Nat} {e' : Int} (m1 : Bool) (a1 : List Nat) (e1 : Int) (n1 : Bool) (b1 : List Nat) (f1 : Int) (hx : xs.length ≤ 10) (hu : e < -200) : FitsP 15 [Sv.cel (Cv.row 0 0 2 2)] [(0, ⟨29, [.raw (.bool m), .ent (argE xs), .raw (.int .i64 e), .raw (.bool m'), .ent (argE ys), .raw (.int .i64 e'), .raw (.bool m1), .ent (argE a1), .raw (.int .i64 e1), .raw (.bool n1), .ent (argE b1), .raw (.int .i64 f1)], true⟩)] (.one (boolS false)) := by
  have hT : AllOk Tryz.prog Glob [
    Tr.norm (nat_lit 27) (Av.one (Sv.cel (Cv.raw (Value.bool (decide ((↑(List.length xs) : Int) > (10 : Int))))))) (Av.one (Sv.cel (Cv.raw (Value.bool false)))),
    Tr.norm (nat_lit 32) (Av.one (Sv.cel (Cv.raw (Value.bool (decide (e > (200 : Int))))))) (Av.one (Sv.cel (Cv.raw (Value.bool false)))),
    Tr.norm (nat_lit 36) (Av.one (Sv.cel (Cv.raw (Value.bool (decide (e < (-200 : Int))))))) (Av.one (Sv.cel (Cv.raw (Value.bool true))))] := ⟨
    norm_bool (gt_false hx),
    norm_bool (decide_eq_false (show ¬ e > 200 by omega)),
    norm_bool (decide_eq_true hu), trivial⟩
  exact fits_of_trace (n := 300) (k0 := 1) hT Tryz.func15 (by kernel_rfl) (by kernel_rfl) (by kernel_rfl)

set_option maxRecDepth 100000 in
theorem sfit2_0_4 {m : Bool} {xs : List Nat} {e : Int} {m' : Bool} {ys : List Nat} {e' : Int} (m1 : Bool) (a1 : List Nat) (e1 : Int) (n1 : Bool) (b1 : List Nat) (f1 : Int) (hx : xs.length ≤ 10) (h1 : e ≤ 200) (h2 : -200 ≤ e) (hu : 10 < ys.length) : FitsP 15 [Sv.cel (Cv.row 0 0 2 2)] [(0, ⟨29, [.raw (.bool m), .ent (argE xs), .raw (.int .i64 e), .raw (.bool m'), .ent (argE ys), .raw (.int .i64 e'), .raw (.bool m1), .ent (argE a1), .raw (.int .i64 e1), .raw (.bool n1), .ent (argE b1), .raw (.int .i64 f1)], true⟩)] (.one (boolS false)) := by
  have hT : AllOk Tryz.prog Glob [
    Tr.norm (nat_lit 27) (Av.one (Sv.cel (Cv.raw (Value.bool (decide ((↑(List.length xs) : Int) > (10 : Int))))))) (Av.one (Sv.cel (Cv.raw (Value.bool false)))),
    Tr.norm (nat_lit 32) (Av.one (Sv.cel (Cv.raw (Value.bool (decide (e > (200 : Int))))))) (Av.one (Sv.cel (Cv.raw (Value.bool false)))),
    Tr.norm (nat_lit 36) (Av.one (Sv.cel (Cv.raw (Value.bool (decide (e < (-200 : Int))))))) (Av.one (Sv.cel (Cv.raw (Value.bool false)))),
    Tr.norm (nat_lit 49) (Av.one (Sv.cel (Cv.raw (Value.bool (decide ((↑(List.length ys) : Int) > (10 : Int))))))) (Av.one (Sv.cel (Cv.raw (Value.bool true))))] := ⟨
    norm_bool (gt_false hx),
    norm_bool (decide_eq_false (show ¬ e > 200 by omega)),
    norm_bool (decide_eq_false (show ¬ e < -200 by omega)),
    norm_bool (gt_true hu), trivial⟩
  exact fits_of_trace (n := 300) (k0 := 1) hT Tryz.func15 (by kernel_rfl) (by kernel_rfl) (by kernel_rfl)

set_option maxRecDepth 100000 in
theorem sfit2_0_5 {m : Bool} {xs : List Nat} {e : Int} {m' : Bool} {ys : List Nat} {e' : Int} (m1 : Bool) (a1 : List Nat) (e1 : Int) (n1 : Bool) (b1 : List Nat) (f1 : Int) (hx : xs.length ≤ 10) (h1 : e ≤ 200) (h2 : -200 ≤ e) (hy : ys.length ≤ 10) (hu : 200 < e') : FitsP 15 [Sv.cel (Cv.row 0 0 2 2)] [(0, ⟨29, [.raw (.bool m), .ent (argE xs), .raw (.int .i64 e), .raw (.bool m'), .ent (argE ys), .raw (.int .i64 e'), .raw (.bool m1), .ent (argE a1), .raw (.int .i64 e1), .raw (.bool n1), .ent (argE b1), .raw (.int .i64 f1)], true⟩)] (.one (boolS false)) := by
  have hT : AllOk Tryz.prog Glob [
    Tr.norm (nat_lit 27) (Av.one (Sv.cel (Cv.raw (Value.bool (decide ((↑(List.length xs) : Int) > (10 : Int))))))) (Av.one (Sv.cel (Cv.raw (Value.bool false)))),
    Tr.norm (nat_lit 32) (Av.one (Sv.cel (Cv.raw (Value.bool (decide (e > (200 : Int))))))) (Av.one (Sv.cel (Cv.raw (Value.bool false)))),
    Tr.norm (nat_lit 36) (Av.one (Sv.cel (Cv.raw (Value.bool (decide (e < (-200 : Int))))))) (Av.one (Sv.cel (Cv.raw (Value.bool false)))),
    Tr.norm (nat_lit 49) (Av.one (Sv.cel (Cv.raw (Value.bool (decide ((↑(List.length ys) : Int) > (10 : Int))))))) (Av.one (Sv.cel (Cv.raw (Value.bool false)))),
    Tr.norm (nat_lit 54) (Av.one (Sv.cel (Cv.raw (Value.bool (decide (e' > (200 : Int))))))) (Av.one (Sv.cel (Cv.raw (Value.bool true))))] := ⟨
    norm_bool (gt_false hx),
    norm_bool (decide_eq_false (show ¬ e > 200 by omega)),
    norm_bool (decide_eq_false (show ¬ e < -200 by omega)),
    norm_bool (gt_false hy),
    norm_bool (decide_eq_true (show e' > 200 from hu)), trivial⟩
  exact fits_of_trace (n := 300) (k0 := 1) hT Tryz.func15 (by kernel_rfl) (by kernel_rfl) (by kernel_rfl)

set_option maxRecDepth 100000 in
theorem sfit2_0_6 {m : Bool} {xs : List Nat} {e : Int} {m' : Bool} {ys : List Nat} {e' : Int} (m1 : Bool) (a1 : List Nat) (e1 : Int) (n1 : Bool) (b1 : List Nat) (f1 : Int) (hx : xs.length ≤ 10) (h1 : e ≤ 200) (h2 : -200 ≤ e) (hy : ys.length ≤ 10) (hu : e' < -200) : FitsP 15 [Sv.cel (Cv.row 0 0 2 2)] [(0, ⟨29, [.raw (.bool m), .ent (argE xs), .raw (.int .i64 e), .raw (.bool m'), .ent (argE ys), .raw (.int .i64 e'), .raw (.bool m1), .ent (argE a1), .raw (.int .i64 e1), .raw (.bool n1), .ent (argE b1), .raw (.int .i64 f1)], true⟩)] (.one (boolS false)) := by
  have hT : AllOk Tryz.prog Glob [
    Tr.norm (nat_lit 27) (Av.one (Sv.cel (Cv.raw (Value.bool (decide ((↑(List.length xs) : Int) > (10 : Int))))))) (Av.one (Sv.cel (Cv.raw (Value.bool false)))),
    Tr.norm (nat_lit 32) (Av.one (Sv.cel (Cv.raw (Value.bool (decide (e > (200 : Int))))))) (Av.one (Sv.cel (Cv.raw (Value.bool false)))),
    Tr.norm (nat_lit 36) (Av.one (Sv.cel (Cv.raw (Value.bool (decide (e < (-200 : Int))))))) (Av.one (Sv.cel (Cv.raw (Value.bool false)))),
    Tr.norm (nat_lit 49) (Av.one (Sv.cel (Cv.raw (Value.bool (decide ((↑(List.length ys) : Int) > (10 : Int))))))) (Av.one (Sv.cel (Cv.raw (Value.bool false)))),
    Tr.norm (nat_lit 54) (Av.one (Sv.cel (Cv.raw (Value.bool (decide (e' > (200 : Int))))))) (Av.one (Sv.cel (Cv.raw (Value.bool false)))),
    Tr.norm (nat_lit 58) (Av.one (Sv.cel (Cv.raw (Value.bool (decide (e' < (-200 : Int))))))) (Av.one (Sv.cel (Cv.raw (Value.bool true))))] := ⟨
    norm_bool (gt_false hx),
    norm_bool (decide_eq_false (show ¬ e > 200 by omega)),
    norm_bool (decide_eq_false (show ¬ e < -200 by omega)),
    norm_bool (gt_false hy),
    norm_bool (decide_eq_false (show ¬ e' > 200 by omega)),
    norm_bool (decide_eq_true hu), trivial⟩
  exact fits_of_trace (n := 300) (k0 := 1) hT Tryz.func15 (by kernel_rfl) (by kernel_rfl) (by kernel_rfl)

set_option maxRecDepth 100000 in
theorem sfit2_0_7 {m : Bool} {xs : List Nat} {e : Int} {m' : Bool} {ys : List Nat} {e' : Int} (m1 : Bool) (a1 : List Nat) (e1 : Int) (n1 : Bool) (b1 : List Nat) (f1 : Int) (hx : xs.length ≤ 10) (h1 : e ≤ 200) (h2 : -200 ≤ e) (hy : ys.length ≤ 10) (g1 : e' ≤ 200) (g2 : -200 ≤ e') {c : Int} (hc : c ≠ 0) (hu : FitsP 75 [spA m xs e m' ys e'] [] (.one (intS c))) : FitsP 15 [Sv.cel (Cv.row 0 0 2 2)] [(0, ⟨29, [.raw (.bool m), .ent (argE xs), .raw (.int .i64 e), .raw (.bool m'), .ent (argE ys), .raw (.int .i64 e'), .raw (.bool m1), .ent (argE a1), .raw (.int .i64 e1), .raw (.bool n1), .ent (argE b1), .raw (.int .i64 f1)], true⟩)] (.one (boolS false)) := by
  have hT : AllOk Tryz.prog Glob [
    Tr.norm (nat_lit 27) (Av.one (Sv.cel (Cv.raw (Value.bool (decide ((↑(List.length xs) : Int) > (10 : Int))))))) (Av.one (Sv.cel (Cv.raw (Value.bool false)))),
    Tr.norm (nat_lit 32) (Av.one (Sv.cel (Cv.raw (Value.bool (decide (e > (200 : Int))))))) (Av.one (Sv.cel (Cv.raw (Value.bool false)))),
    Tr.norm (nat_lit 36) (Av.one (Sv.cel (Cv.raw (Value.bool (decide (e < (-200 : Int))))))) (Av.one (Sv.cel (Cv.raw (Value.bool false)))),
    Tr.norm (nat_lit 49) (Av.one (Sv.cel (Cv.raw (Value.bool (decide ((↑(List.length ys) : Int) > (10 : Int))))))) (Av.one (Sv.cel (Cv.raw (Value.bool false)))),
    Tr.norm (nat_lit 54) (Av.one (Sv.cel (Cv.raw (Value.bool (decide (e' > (200 : Int))))))) (Av.one (Sv.cel (Cv.raw (Value.bool false)))),
    Tr.norm (nat_lit 58) (Av.one (Sv.cel (Cv.raw (Value.bool (decide (e' < (-200 : Int))))))) (Av.one (Sv.cel (Cv.raw (Value.bool false)))),
    Tr.call 75 [Sv.agg [Cv.raw (Value.bool m), Cv.ent (argE xs), Cv.raw (Value.int IntKind.i64 e), Cv.raw (Value.bool m'), Cv.ent (argE ys), Cv.raw (Value.int IntKind.i64 e')]] [] (Av.one (Sv.cel (Cv.raw (Value.int IntKind.i64 c)))),
    Tr.norm (nat_lit 64) (Av.one (Sv.cel (Cv.raw (Value.bool (c != (0 : Int)))))) (Av.one (Sv.cel (Cv.raw (Value.bool true))))] := ⟨
    norm_bool (gt_false hx),
    norm_bool (decide_eq_false (show ¬ e > 200 by omega)),
    norm_bool (decide_eq_false (show ¬ e < -200 by omega)),
    norm_bool (gt_false hy),
    norm_bool (decide_eq_false (show ¬ e' > 200 by omega)),
    norm_bool (decide_eq_false (show ¬ e' < -200 by omega)),
    hu,
    norm_bool (ne_true hc), trivial⟩
  exact fits_of_trace (n := 300) (k0 := 1) hT Tryz.func15 (by kernel_rfl) (by kernel_rfl) (by kernel_rfl)

set_option maxRecDepth 100000 in
theorem sfit2_1_1 {x0 y0 : Dy} (h0 : FitS x0 y0) {m : Bool} {xs : List Nat} {e : Int} {m' : Bool} {ys : List Nat} {e' : Int} (hu : 10 < xs.length) : FitsP 15 [Sv.cel (Cv.row 0 0 2 2)] [(0, ⟨29, [.raw (.bool (decide (x0.m < 0))), .ent (nat x0.m.natAbs), .raw (.int .i64 x0.e), .raw (.bool (decide (y0.m < 0))), .ent (nat y0.m.natAbs), .raw (.int .i64 y0.e), .raw (.bool m), .ent (argE xs), .raw (.int .i64 e), .raw (.bool m'), .ent (argE ys), .raw (.int .i64 e')], true⟩)] (.one (boolS false)) := by
  have hT : AllOk Tryz.prog Glob [
    Tr.norm (nat_lit 27) (Av.one (Sv.cel (Cv.raw (Value.bool (decide ((↑(lenN (Int.natAbs (Dy.m x0))) : Int) > (10 : Int))))))) (Av.one (Sv.cel (Cv.raw (Value.bool false)))),
    Tr.norm (nat_lit 32) (Av.one (Sv.cel (Cv.raw (Value.bool (decide (Dy.e x0 > (200 : Int))))))) (Av.one (Sv.cel (Cv.raw (Value.bool false)))),
    Tr.norm (nat_lit 36) (Av.one (Sv.cel (Cv.raw (Value.bool (decide (Dy.e x0 < (-200 : Int))))))) (Av.one (Sv.cel (Cv.raw (Value.bool false)))),
    Tr.norm (nat_lit 49) (Av.one (Sv.cel (Cv.raw (Value.bool (decide ((↑(lenN (Int.natAbs (Dy.m y0))) : Int) > (10 : Int))))))) (Av.one (Sv.cel (Cv.raw (Value.bool false)))),
    Tr.norm (nat_lit 54) (Av.one (Sv.cel (Cv.raw (Value.bool (decide (Dy.e y0 > (200 : Int))))))) (Av.one (Sv.cel (Cv.raw (Value.bool false)))),
    Tr.norm (nat_lit 58) (Av.one (Sv.cel (Cv.raw (Value.bool (decide (Dy.e y0 < (-200 : Int))))))) (Av.one (Sv.cel (Cv.raw (Value.bool false)))),
    Tr.call 75 [Sv.agg [Cv.raw (Value.bool (decide (Dy.m x0 < (0 : Int)))), Cv.ent (nat (Int.natAbs (Dy.m x0))), Cv.raw (Value.int IntKind.i64 (Dy.e x0)), Cv.raw (Value.bool (decide (Dy.m y0 < (0 : Int)))), Cv.ent (nat (Int.natAbs (Dy.m y0))), Cv.raw (Value.int IntKind.i64 (Dy.e y0))]] [] (Av.one (Sv.cel (Cv.raw (Value.int IntKind.i64 (Int.ofNat (nat_lit 0)))))),
    Tr.norm (nat_lit 89) (Av.one (Sv.cel (Cv.raw (Value.bool (decide ((↑(List.length xs) : Int) > (10 : Int))))))) (Av.one (Sv.cel (Cv.raw (Value.bool true))))] := ⟨
    norm_bool (h0.a.len),
    norm_bool (decide_eq_false (show ¬ x0.e > 200 by have := h0.a.hi; omega)),
    norm_bool (decide_eq_false (show ¬ x0.e < -200 by have := h0.a.lo; omega)),
    norm_bool (h0.b.len),
    norm_bool (decide_eq_false (show ¬ y0.e > 200 by have := h0.b.hi; omega)),
    norm_bool (decide_eq_false (show ¬ y0.e < -200 by have := h0.b.lo; omega)),
    checkS_f h0.a.bd h0.b.bd (by omega) h0.no,
    norm_bool (gt_true hu), trivial⟩
  exact fits_of_trace (n := 300) (k0 := 1) hT Tryz.func15 (by kernel_rfl) (by kernel_rfl) (by kernel_rfl)

set_option maxRecDepth 100000 in
theorem sfit2_1_2 {x0 y0 : Dy} (h0 : FitS x0 y0) {m : Bool} {xs : List Nat} {e : Int} {m' : Bool} {ys : List Nat} {e' : Int} (hx : xs.length ≤ 10) (hu : 200 < e) : FitsP 15 [Sv.cel (Cv.row 0 0 2 2)] [(0, ⟨29, [.raw (.bool (decide (x0.m < 0))), .ent (nat x0.m.natAbs), .raw (.int .i64 x0.e), .raw (.bool (decide (y0.m < 0))), .ent (nat y0.m.natAbs), .raw (.int .i64 y0.e), .raw (.bool m), .ent (argE xs), .raw (.int .i64 e), .raw (.bool m'), .ent (argE ys), .raw (.int .i64 e')], true⟩)] (.one (boolS false)) := by
  have hT : AllOk Tryz.prog Glob [
    Tr.norm (nat_lit 27) (Av.one (Sv.cel (Cv.raw (Value.bool (decide ((↑(lenN (Int.natAbs (Dy.m x0))) : Int) > (10 : Int))))))) (Av.one (Sv.cel (Cv.raw (Value.bool false)))),
    Tr.norm (nat_lit 32) (Av.one (Sv.cel (Cv.raw (Value.bool (decide (Dy.e x0 > (200 : Int))))))) (Av.one (Sv.cel (Cv.raw (Value.bool false)))),
    Tr.norm (nat_lit 36) (Av.one (Sv.cel (Cv.raw (Value.bool (decide (Dy.e x0 < (-200 : Int))))))) (Av.one (Sv.cel (Cv.raw (Value.bool false)))),
    Tr.norm (nat_lit 49) (Av.one (Sv.cel (Cv.raw (Value.bool (decide ((↑(lenN (Int.natAbs (Dy.m y0))) : Int) > (10 : Int))))))) (Av.one (Sv.cel (Cv.raw (Value.bool false)))),
    Tr.norm (nat_lit 54) (Av.one (Sv.cel (Cv.raw (Value.bool (decide (Dy.e y0 > (200 : Int))))))) (Av.one (Sv.cel (Cv.raw (Value.bool false)))),
    Tr.norm (nat_lit 58) (Av.one (Sv.cel (Cv.raw (Value.bool (decide (Dy.e y0 < (-200 : Int))))))) (Av.one (Sv.cel (Cv.raw (Value.bool false)))),
    Tr.call 75 [Sv.agg [Cv.raw (Value.bool (decide (Dy.m x0 < (0 : Int)))), Cv.ent (nat (Int.natAbs (Dy.m x0))), Cv.raw (Value.int IntKind.i64 (Dy.e x0)), Cv.raw (Value.bool (decide (Dy.m y0 < (0 : Int)))), Cv.ent (nat (Int.natAbs (Dy.m y0))), Cv.raw (Value.int IntKind.i64 (Dy.e y0))]] [] (Av.one (Sv.cel (Cv.raw (Value.int IntKind.i64 (Int.ofNat (nat_lit 0)))))),
    Tr.norm (nat_lit 89) (Av.one (Sv.cel (Cv.raw (Value.bool (decide ((↑(List.length xs) : Int) > (10 : Int))))))) (Av.one (Sv.cel (Cv.raw (Value.bool false)))),
    Tr.norm (nat_lit 94) (Av.one (Sv.cel (Cv.raw (Value.bool (decide (e > (200 : Int))))))) (Av.one (Sv.cel (Cv.raw (Value.bool true))))] := ⟨
    norm_bool (h0.a.len),
    norm_bool (decide_eq_false (show ¬ x0.e > 200 by have := h0.a.hi; omega)),
    norm_bool (decide_eq_false (show ¬ x0.e < -200 by have := h0.a.lo; omega)),
    norm_bool (h0.b.len),
    norm_bool (decide_eq_false (show ¬ y0.e > 200 by have := h0.b.hi; omega)),
    norm_bool (decide_eq_false (show ¬ y0.e < -200 by have := h0.b.lo; omega)),
    checkS_f h0.a.bd h0.b.bd (by omega) h0.no,
    norm_bool (gt_false hx),
    norm_bool (decide_eq_true (show e > 200 from hu)), trivial⟩
  exact fits_of_trace (n := 300) (k0 := 1) hT Tryz.func15 (by kernel_rfl) (by kernel_rfl) (by kernel_rfl)

set_option maxRecDepth 100000 in
theorem sfit2_1_3 {x0 y0 : Dy} (h0 : FitS x0 y0) {m : Bool} {xs : List Nat} {e : Int} {m' : Bool} {ys : List Nat} {e' : Int} (hx : xs.length ≤ 10) (hu : e < -200) : FitsP 15 [Sv.cel (Cv.row 0 0 2 2)] [(0, ⟨29, [.raw (.bool (decide (x0.m < 0))), .ent (nat x0.m.natAbs), .raw (.int .i64 x0.e), .raw (.bool (decide (y0.m < 0))), .ent (nat y0.m.natAbs), .raw (.int .i64 y0.e), .raw (.bool m), .ent (argE xs), .raw (.int .i64 e), .raw (.bool m'), .ent (argE ys), .raw (.int .i64 e')], true⟩)] (.one (boolS false)) := by
  have hT : AllOk Tryz.prog Glob [
    Tr.norm (nat_lit 27) (Av.one (Sv.cel (Cv.raw (Value.bool (decide ((↑(lenN (Int.natAbs (Dy.m x0))) : Int) > (10 : Int))))))) (Av.one (Sv.cel (Cv.raw (Value.bool false)))),
    Tr.norm (nat_lit 32) (Av.one (Sv.cel (Cv.raw (Value.bool (decide (Dy.e x0 > (200 : Int))))))) (Av.one (Sv.cel (Cv.raw (Value.bool false)))),
    Tr.norm (nat_lit 36) (Av.one (Sv.cel (Cv.raw (Value.bool (decide (Dy.e x0 < (-200 : Int))))))) (Av.one (Sv.cel (Cv.raw (Value.bool false)))),
    Tr.norm (nat_lit 49) (Av.one (Sv.cel (Cv.raw (Value.bool (decide ((↑(lenN (Int.natAbs (Dy.m y0))) : Int) > (10 : Int))))))) (Av.one (Sv.cel (Cv.raw (Value.bool false)))),
    Tr.norm (nat_lit 54) (Av.one (Sv.cel (Cv.raw (Value.bool (decide (Dy.e y0 > (200 : Int))))))) (Av.one (Sv.cel (Cv.raw (Value.bool false)))),
    Tr.norm (nat_lit 58) (Av.one (Sv.cel (Cv.raw (Value.bool (decide (Dy.e y0 < (-200 : Int))))))) (Av.one (Sv.cel (Cv.raw (Value.bool false)))),
    Tr.call 75 [Sv.agg [Cv.raw (Value.bool (decide (Dy.m x0 < (0 : Int)))), Cv.ent (nat (Int.natAbs (Dy.m x0))), Cv.raw (Value.int IntKind.i64 (Dy.e x0)), Cv.raw (Value.bool (decide (Dy.m y0 < (0 : Int)))), Cv.ent (nat (Int.natAbs (Dy.m y0))), Cv.raw (Value.int IntKind.i64 (Dy.e y0))]] [] (Av.one (Sv.cel (Cv.raw (Value.int IntKind.i64 (Int.ofNat (nat_lit 0)))))),
    Tr.norm (nat_lit 89) (Av.one (Sv.cel (Cv.raw (Value.bool (decide ((↑(List.length xs) : Int) > (10 : Int))))))) (Av.one (Sv.cel (Cv.raw (Value.bool false)))),
    Tr.norm (nat_lit 94) (Av.one (Sv.cel (Cv.raw (Value.bool (decide (e > (200 : Int))))))) (Av.one (Sv.cel (Cv.raw (Value.bool false)))),
    Tr.norm (nat_lit 98) (Av.one (Sv.cel (Cv.raw (Value.bool (decide (e < (-200 : Int))))))) (Av.one (Sv.cel (Cv.raw (Value.bool true))))] := ⟨
    norm_bool (h0.a.len),
    norm_bool (decide_eq_false (show ¬ x0.e > 200 by have := h0.a.hi; omega)),
    norm_bool (decide_eq_false (show ¬ x0.e < -200 by have := h0.a.lo; omega)),
    norm_bool (h0.b.len),
    norm_bool (decide_eq_false (show ¬ y0.e > 200 by have := h0.b.hi; omega)),
    norm_bool (decide_eq_false (show ¬ y0.e < -200 by have := h0.b.lo; omega)),
    checkS_f h0.a.bd h0.b.bd (by omega) h0.no,
    norm_bool (gt_false hx),
    norm_bool (decide_eq_false (show ¬ e > 200 by omega)),
    norm_bool (decide_eq_true hu), trivial⟩
  exact fits_of_trace (n := 300) (k0 := 1) hT Tryz.func15 (by kernel_rfl) (by kernel_rfl) (by kernel_rfl)

set_option maxRecDepth 100000 in
theorem sfit2_1_4 {x0 y0 : Dy} (h0 : FitS x0 y0) {m : Bool} {xs : List Nat} {e : Int} {m' : Bool} {ys : List Nat} {e' : Int} (hx : xs.length ≤ 10) (h1 : e ≤ 200) (h2 : -200 ≤ e) (hu : 10 < ys.length) : FitsP 15 [Sv.cel (Cv.row 0 0 2 2)] [(0, ⟨29, [.raw (.bool (decide (x0.m < 0))), .ent (nat x0.m.natAbs), .raw (.int .i64 x0.e), .raw (.bool (decide (y0.m < 0))), .ent (nat y0.m.natAbs), .raw (.int .i64 y0.e), .raw (.bool m), .ent (argE xs), .raw (.int .i64 e), .raw (.bool m'), .ent (argE ys), .raw (.int .i64 e')], true⟩)] (.one (boolS false)) := by
  have hT : AllOk Tryz.prog Glob [
    Tr.norm (nat_lit 27) (Av.one (Sv.cel (Cv.raw (Value.bool (decide ((↑(lenN (Int.natAbs (Dy.m x0))) : Int) > (10 : Int))))))) (Av.one (Sv.cel (Cv.raw (Value.bool false)))),
    Tr.norm (nat_lit 32) (Av.one (Sv.cel (Cv.raw (Value.bool (decide (Dy.e x0 > (200 : Int))))))) (Av.one (Sv.cel (Cv.raw (Value.bool false)))),
    Tr.norm (nat_lit 36) (Av.one (Sv.cel (Cv.raw (Value.bool (decide (Dy.e x0 < (-200 : Int))))))) (Av.one (Sv.cel (Cv.raw (Value.bool false)))),
    Tr.norm (nat_lit 49) (Av.one (Sv.cel (Cv.raw (Value.bool (decide ((↑(lenN (Int.natAbs (Dy.m y0))) : Int) > (10 : Int))))))) (Av.one (Sv.cel (Cv.raw (Value.bool false)))),
    Tr.norm (nat_lit 54) (Av.one (Sv.cel (Cv.raw (Value.bool (decide (Dy.e y0 > (200 : Int))))))) (Av.one (Sv.cel (Cv.raw (Value.bool false)))),
    Tr.norm (nat_lit 58) (Av.one (Sv.cel (Cv.raw (Value.bool (decide (Dy.e y0 < (-200 : Int))))))) (Av.one (Sv.cel (Cv.raw (Value.bool false)))),
    Tr.call 75 [Sv.agg [Cv.raw (Value.bool (decide (Dy.m x0 < (0 : Int)))), Cv.ent (nat (Int.natAbs (Dy.m x0))), Cv.raw (Value.int IntKind.i64 (Dy.e x0)), Cv.raw (Value.bool (decide (Dy.m y0 < (0 : Int)))), Cv.ent (nat (Int.natAbs (Dy.m y0))), Cv.raw (Value.int IntKind.i64 (Dy.e y0))]] [] (Av.one (Sv.cel (Cv.raw (Value.int IntKind.i64 (Int.ofNat (nat_lit 0)))))),
    Tr.norm (nat_lit 89) (Av.one (Sv.cel (Cv.raw (Value.bool (decide ((↑(List.length xs) : Int) > (10 : Int))))))) (Av.one (Sv.cel (Cv.raw (Value.bool false)))),
    Tr.norm (nat_lit 94) (Av.one (Sv.cel (Cv.raw (Value.bool (decide (e > (200 : Int))))))) (Av.one (Sv.cel (Cv.raw (Value.bool false)))),
    Tr.norm (nat_lit 98) (Av.one (Sv.cel (Cv.raw (Value.bool (decide (e < (-200 : Int))))))) (Av.one (Sv.cel (Cv.raw (Value.bool false)))),
    Tr.norm (nat_lit 111) (Av.one (Sv.cel (Cv.raw (Value.bool (decide ((↑(List.length ys) : Int) > (10 : Int))))))) (Av.one (Sv.cel (Cv.raw (Value.bool true))))] := ⟨
    norm_bool (h0.a.len),
    norm_bool (decide_eq_false (show ¬ x0.e > 200 by have := h0.a.hi; omega)),
    norm_bool (decide_eq_false (show ¬ x0.e < -200 by have := h0.a.lo; omega)),
    norm_bool (h0.b.len),
    norm_bool (decide_eq_false (show ¬ y0.e > 200 by have := h0.b.hi; omega)),
    norm_bool (decide_eq_false (show ¬ y0.e < -200 by have := h0.b.lo; omega)),
    checkS_f h0.a.bd h0.b.bd (by omega) h0.no,
    norm_bool (gt_false hx),
    norm_bool (decide_eq_false (show ¬ e > 200 by omega)),
    norm_bool (decide_eq_false (show ¬ e < -200 by omega)),
    norm_bool (gt_true hu), trivial⟩
  exact fits_of_trace (n := 300) (k0 := 1) hT Tryz.func15 (by kernel_rfl) (by kernel_rfl) (by kernel_rfl)

set_option maxRecDepth 100000 in
theorem sfit2_1_5 {x0 y0 : Dy} (h0 : FitS x0 y0) {m : Bool} {xs : List Nat} {e : Int} {m' : Bool} {ys : List Nat} {e' : Int} (hx : xs.length ≤ 10) (h1 : e ≤ 200) (h2 : -200 ≤ e) (hy : ys.length ≤ 10) (hu : 200 < e') : FitsP 15 [Sv.cel (Cv.row 0 0 2 2)] [(0, ⟨29, [.raw (.bool (decide (x0.m < 0))), .ent (nat x0.m.natAbs), .raw (.int .i64 x0.e), .raw (.bool (decide (y0.m < 0))), .ent (nat y0.m.natAbs), .raw (.int .i64 y0.e), .raw (.bool m), .ent (argE xs), .raw (.int .i64 e), .raw (.bool m'), .ent (argE ys), .raw (.int .i64 e')], true⟩)] (.one (boolS false)) := by
  have hT : AllOk Tryz.prog Glob [
    Tr.norm (nat_lit 27) (Av.one (Sv.cel (Cv.raw (Value.bool (decide ((↑(lenN (Int.natAbs (Dy.m x0))) : Int) > (10 : Int))))))) (Av.one (Sv.cel (Cv.raw (Value.bool false)))),
    Tr.norm (nat_lit 32) (Av.one (Sv.cel (Cv.raw (Value.bool (decide (Dy.e x0 > (200 : Int))))))) (Av.one (Sv.cel (Cv.raw (Value.bool false)))),
    Tr.norm (nat_lit 36) (Av.one (Sv.cel (Cv.raw (Value.bool (decide (Dy.e x0 < (-200 : Int))))))) (Av.one (Sv.cel (Cv.raw (Value.bool false)))),
    Tr.norm (nat_lit 49) (Av.one (Sv.cel (Cv.raw (Value.bool (decide ((↑(lenN (Int.natAbs (Dy.m y0))) : Int) > (10 : Int))))))) (Av.one (Sv.cel (Cv.raw (Value.bool false)))),
    Tr.norm (nat_lit 54) (Av.one (Sv.cel (Cv.raw (Value.bool (decide (Dy.e y0 > (200 : Int))))))) (Av.one (Sv.cel (Cv.raw (Value.bool false)))),
    Tr.norm (nat_lit 58) (Av.one (Sv.cel (Cv.raw (Value.bool (decide (Dy.e y0 < (-200 : Int))))))) (Av.one (Sv.cel (Cv.raw (Value.bool false)))),
    Tr.call 75 [Sv.agg [Cv.raw (Value.bool (decide (Dy.m x0 < (0 : Int)))), Cv.ent (nat (Int.natAbs (Dy.m x0))), Cv.raw (Value.int IntKind.i64 (Dy.e x0)), Cv.raw (Value.bool (decide (Dy.m y0 < (0 : Int)))), Cv.ent (nat (Int.natAbs (Dy.m y0))), Cv.raw (Value.int IntKind.i64 (Dy.e y0))]] [] (Av.one (Sv.cel (Cv.raw (Value.int IntKind.i64 (Int.ofNat (nat_lit 0)))))),
    Tr.norm (nat_lit 89) (Av.one (Sv.cel (Cv.raw (Value.bool (decide ((↑(List.length xs) : Int) > (10 : Int))))))) (Av.one (Sv.cel (Cv.raw (Value.bool false)))),
    Tr.norm (nat_lit 94) (Av.one (Sv.cel (Cv.raw (Value.bool (decide (e > (200 : Int))))))) (Av.one (Sv.cel (Cv.raw (Value.bool false)))),
    Tr.norm (nat_lit 98) (Av.one (Sv.cel (Cv.raw (Value.bool (decide (e < (-200 : Int))))))) (Av.one (Sv.cel (Cv.raw (Value.bool false)))),
    Tr.norm (nat_lit 111) (Av.one (Sv.cel (Cv.raw (Value.bool (decide ((↑(List.length ys) : Int) > (10 : Int))))))) (Av.one (Sv.cel (Cv.raw (Value.bool false)))),
    Tr.norm (nat_lit 116) (Av.one (Sv.cel (Cv.raw (Value.bool (decide (e' > (200 : Int))))))) (Av.one (Sv.cel (Cv.raw (Value.bool true))))] := ⟨
    norm_bool (h0.a.len),
    norm_bool (decide_eq_false (show ¬ x0.e > 200 by have := h0.a.hi; omega)),
    norm_bool (decide_eq_false (show ¬ x0.e < -200 by have := h0.a.lo; omega)),
    norm_bool (h0.b.len),
    norm_bool (decide_eq_false (show ¬ y0.e > 200 by have := h0.b.hi; omega)),
    norm_bool (decide_eq_false (show ¬ y0.e < -200 by have := h0.b.lo; omega)),
    checkS_f h0.a.bd h0.b.bd (by omega) h0.no,
    norm_bool (gt_false hx),
    norm_bool (decide_eq_false (show ¬ e > 200 by omega)),
    norm_bool (decide_eq_false (show ¬ e < -200 by omega)),
    norm_bool (gt_false hy),
    norm_bool (decide_eq_true (show e' > 200 from hu)), trivial⟩
  exact fits_of_trace (n := 300) (k0 := 1) hT Tryz.func15 (by kernel_rfl) (by kernel_rfl) (by kernel_rfl)

set_option maxRecDepth 100000 in
theorem sfit2_1_6 {x0 y0 : Dy} (h0 : FitS x0 y0) {m : Bool} {xs : List Nat} {e : Int} {m' : Bool} {ys : List Nat} {e' : Int} (hx : xs.length ≤ 10) (h1 : e ≤ 200) (h2 : -200 ≤ e) (hy : ys.length ≤ 10) (hu : e' < -200) : FitsP 15 [Sv.cel (Cv.row 0 0 2 2)] [(0, ⟨29, [.raw (.bool (decide (x0.m < 0))), .ent (nat x0.m.natAbs), .raw (.int .i64 x0.e), .raw (.bool (decide (y0.m < 0))), .ent (nat y0.m.natAbs), .raw (.int .i64 y0.e), .raw (.bool m), .ent (argE xs), .raw (.int .i64 e), .raw (.bool m'), .ent (argE ys), .raw (.int .i64 e')], true⟩)] (.one (boolS false)) := by
  have hT : AllOk Tryz.prog Glob [
    Tr.norm (nat_lit 27) (Av.one (Sv.cel (Cv.raw (Value.bool (decide ((↑(lenN (Int.natAbs (Dy.m x0))) : Int) > (10 : Int))))))) (Av.one (Sv.cel (Cv.raw (Value.bool false)))),
    Tr.norm (nat_lit 32) (Av.one (Sv.cel (Cv.raw (Value.bool (decide (Dy.e x0 > (200 : Int))))))) (Av.one (Sv.cel (Cv.raw (Value.bool false)))),
    Tr.norm (nat_lit 36) (Av.one (Sv.cel (Cv.raw (Value.bool (decide (Dy.e x0 < (-200 : Int))))))) (Av.one (Sv.cel (Cv.raw (Value.bool false)))),
    Tr.norm (nat_lit 49) (Av.one (Sv.cel (Cv.raw (Value.bool (decide ((↑(lenN (Int.natAbs (Dy.m y0))) : Int) > (10 : Int))))))) (Av.one (Sv.cel (Cv.raw (Value.bool false)))),
    Tr.norm (nat_lit 54) (Av.one (Sv.cel (Cv.raw (Value.bool (decide (Dy.e y0 > (200 : Int))))))) (Av.one (Sv.cel (Cv.raw (Value.bool false)))),
    Tr.norm (nat_lit 58) (Av.one (Sv.cel (Cv.raw (Value.bool (decide (Dy.e y0 < (-200 : Int))))))) (Av.one (Sv.cel (Cv.raw (Value.bool false)))),
    Tr.call 75 [Sv.agg [Cv.raw (Value.bool (decide (Dy.m x0 < (0 : Int)))), Cv.ent (nat (Int.natAbs (Dy.m x0))), Cv.raw (Value.int IntKind.i64 (Dy.e x0)), Cv.raw (Value.bool (decide (Dy.m y0 < (0 : Int)))), Cv.ent (nat (Int.natAbs (Dy.m y0))), Cv.raw (Value.int IntKind.i64 (Dy.e y0))]] [] (Av.one (Sv.cel (Cv.raw (Value.int IntKind.i64 (Int.ofNat (nat_lit 0)))))),
    Tr.norm (nat_lit 89) (Av.one (Sv.cel (Cv.raw (Value.bool (decide ((↑(List.length xs) : Int) > (10 : Int))))))) (Av.one (Sv.cel (Cv.raw (Value.bool false)))),
    Tr.norm (nat_lit 94) (Av.one (Sv.cel (Cv.raw (Value.bool (decide (e > (200 : Int))))))) (Av.one (Sv.cel (Cv.raw (Value.bool false)))),
    Tr.norm (nat_lit 98) (Av.one (Sv.cel (Cv.raw (Value.bool (decide (e < (-200 : Int))))))) (Av.one (Sv.cel (Cv.raw (Value.bool false)))),
    Tr.norm (nat_lit 111) (Av.one (Sv.cel (Cv.raw (Value.bool (decide ((↑(List.length ys) : Int) > (10 : Int))))))) (Av.one (Sv.cel (Cv.raw (Value.bool false)))),
    Tr.norm (nat_lit 116) (Av.one (Sv.cel (Cv.raw (Value.bool (decide (e' > (200 : Int))))))) (Av.one (Sv.cel (Cv.raw (Value.bool false)))),
    Tr.norm (nat_lit 120) (Av.one (Sv.cel (Cv.raw (Value.bool (decide (e' < (-200 : Int))))))) (Av.one (Sv.cel (Cv.raw (Value.bool true))))] := ⟨
    norm_bool (h0.a.len),
    norm_bool (decide_eq_false (show ¬ x0.e > 200 by have := h0.a.hi; omega)),
    norm_bool (decide_eq_false (show ¬ x0.e < -200 by have := h0.a.lo; omega)),
    norm_bool (h0.b.len),
    norm_bool (decide_eq_false (show ¬ y0.e > 200 by have := h0.b.hi; omega)),
    norm_bool (decide_eq_false (show ¬ y0.e < -200 by have := h0.b.lo; omega)),
    checkS_f h0.a.bd h0.b.bd (by omega) h0.no,
    norm_bool (gt_false hx),
    norm_bool (decide_eq_false (show ¬ e > 200 by omega)),
    norm_bool (decide_eq_false (show ¬ e < -200 by omega)),
    norm_bool (gt_false hy),
    norm_bool (decide_eq_false (show ¬ e' > 200 by omega)),
    norm_bool (decide_eq_true hu), trivial⟩
  exact fits_of_trace (n := 300) (k0 := 1) hT Tryz.func15 (by kernel_rfl) (by kernel_rfl) (by kernel_rfl)

set_option maxRecDepth 100000 in
theorem sfit2_1_7 {x0 y0 : Dy} (h0 : FitS x0 y0) {m : Bool} {xs : List Nat} {e : Int} {m' : Bool} {ys : List Nat} {e' : Int} (hx : xs.length ≤ 10) (h1 : e ≤ 200) (h2 : -200 ≤ e) (hy : ys.length ≤ 10) (g1 : e' ≤ 200) (g2 : -200 ≤ e') {c : Int} (hc : c ≠ 0) (hu : FitsP 75 [spA m xs e m' ys e'] [] (.one (intS c))) : FitsP 15 [Sv.cel (Cv.row 0 0 2 2)] [(0, ⟨29, [.raw (.bool (decide (x0.m < 0))), .ent (nat x0.m.natAbs), .raw (.int .i64 x0.e), .raw (.bool (decide (y0.m < 0))), .ent (nat y0.m.natAbs), .raw (.int .i64 y0.e), .raw (.bool m), .ent (argE xs), .raw (.int .i64 e), .raw (.bool m'), .ent (argE ys), .raw (.int .i64 e')], true⟩)] (.one (boolS false)) := by
  have hT : AllOk Tryz.prog Glob [
    Tr.norm (nat_lit 27) (Av.one (Sv.cel (Cv.raw (Value.bool (decide ((↑(lenN (Int.natAbs (Dy.m x0))) : Int) > (10 : Int))))))) (Av.one (Sv.cel (Cv.raw (Value.bool false)))),
    Tr.norm (nat_lit 32) (Av.one (Sv.cel (Cv.raw (Value.bool (decide (Dy.e x0 > (200 : Int))))))) (Av.one (Sv.cel (Cv.raw (Value.bool false)))),
    Tr.norm (nat_lit 36) (Av.one (Sv.cel (Cv.raw (Value.bool (decide (Dy.e x0 < (-200 : Int))))))) (Av.one (Sv.cel (Cv.raw (Value.bool false)))),
    Tr.norm (nat_lit 49) (Av.one (Sv.cel (Cv.raw (Value.bool (decide ((↑(lenN (Int.natAbs (Dy.m y0))) : Int) > (10 : Int))))))) (Av.one (Sv.cel (Cv.raw (Value.bool false)))),
    Tr.norm (nat_lit 54) (Av.one (Sv.cel (Cv.raw (Value.bool (decide (Dy.e y0 > (200 : Int))))))) (Av.one (Sv.cel (Cv.raw (Value.bool false)))),
    Tr.norm (nat_lit 58) (Av.one (Sv.cel (Cv.raw (Value.bool (decide (Dy.e y0 < (-200 : Int))))))) (Av.one (Sv.cel (Cv.raw (Value.bool false)))),
    Tr.call 75 [Sv.agg [Cv.raw (Value.bool (decide (Dy.m x0 < (0 : Int)))), Cv.ent (nat (Int.natAbs (Dy.m x0))), Cv.raw (Value.int IntKind.i64 (Dy.e x0)), Cv.raw (Value.bool (decide (Dy.m y0 < (0 : Int)))), Cv.ent (nat (Int.natAbs (Dy.m y0))), Cv.raw (Value.int IntKind.i64 (Dy.e y0))]] [] (Av.one (Sv.cel (Cv.raw (Value.int IntKind.i64 (Int.ofNat (nat_lit 0)))))),
    Tr.norm (nat_lit 89) (Av.one (Sv.cel (Cv.raw (Value.bool (decide ((↑(List.length xs) : Int) > (10 : Int))))))) (Av.one (Sv.cel (Cv.raw (Value.bool false)))),
    Tr.norm (nat_lit 94) (Av.one (Sv.cel (Cv.raw (Value.bool (decide (e > (200 : Int))))))) (Av.one (Sv.cel (Cv.raw (Value.bool false)))),
    Tr.norm (nat_lit 98) (Av.one (Sv.cel (Cv.raw (Value.bool (decide (e < (-200 : Int))))))) (Av.one (Sv.cel (Cv.raw (Value.bool false)))),
    Tr.norm (nat_lit 111) (Av.one (Sv.cel (Cv.raw (Value.bool (decide ((↑(List.length ys) : Int) > (10 : Int))))))) (Av.one (Sv.cel (Cv.raw (Value.bool false)))),
    Tr.norm (nat_lit 116) (Av.one (Sv.cel (Cv.raw (Value.bool (decide (e' > (200 : Int))))))) (Av.one (Sv.cel (Cv.raw (Value.bool false)))),
    Tr.norm (nat_lit 120) (Av.one (Sv.cel (Cv.raw (Value.bool (decide (e' < (-200 : Int))))))) (Av.one (Sv.cel (Cv.raw (Value.bool false)))),
    Tr.call 75 [Sv.agg [Cv.raw (Value.bool m), Cv.ent (argE xs), Cv.raw (Value.int IntKind.i64 e), Cv.raw (Value.bool m'), Cv.ent (argE ys), Cv.raw (Value.int IntKind.i64 e')]] [] (Av.one (Sv.cel (Cv.raw (Value.int IntKind.i64 c)))),
    Tr.norm (nat_lit 126) (Av.one (Sv.cel (Cv.raw (Value.bool (c != (0 : Int)))))) (Av.one (Sv.cel (Cv.raw (Value.bool true))))] := ⟨
    norm_bool (h0.a.len),
    norm_bool (decide_eq_false (show ¬ x0.e > 200 by have := h0.a.hi; omega)),
    norm_bool (decide_eq_false (show ¬ x0.e < -200 by have := h0.a.lo; omega)),
    norm_bool (h0.b.len),
    norm_bool (decide_eq_false (show ¬ y0.e > 200 by have := h0.b.hi; omega)),
    norm_bool (decide_eq_false (show ¬ y0.e < -200 by have := h0.b.lo; omega)),
    checkS_f h0.a.bd h0.b.bd (by omega) h0.no,
    norm_bool (gt_false hx),
    norm_bool (decide_eq_false (show ¬ e > 200 by omega)),
    norm_bool (decide_eq_false (show ¬ e < -200 by omega)),
    norm_bool (gt_false hy),
    norm_bool (decide_eq_false (show ¬ e' > 200 by omega)),
    norm_bool (decide_eq_false (show ¬ e' < -200 by omega)),
    hu,
    norm_bool (ne_true hc), trivial⟩
  exact fits_of_trace (n := 300) (k0 := 1) hT Tryz.func15 (by kernel_rfl) (by kernel_rfl) (by kernel_rfl)

set_option maxRecDepth 100000 in
theorem sfit2_2_0 {x0 y0 : Dy} (h0 : FitS x0 y0) {x1 y1 : Dy} (h1 : FitS x1 y1) : FitsP 15 [Sv.cel (Cv.row 0 0 2 2)] [(0, ⟨29, [.raw (.bool (decide (x0.m < 0))), .ent (nat x0.m.natAbs), .raw (.int .i64 x0.e), .raw (.bool (decide (y0.m < 0))), .ent (nat y0.m.natAbs), .raw (.int .i64 y0.e), .raw (.bool (decide (x1.m < 0))), .ent (nat x1.m.natAbs), .raw (.int .i64 x1.e), .raw (.bool (decide (y1.m < 0))), .ent (nat y1.m.natAbs), .raw (.int .i64 y1.e)], true⟩)] (.one (boolS true)) := by
  have hT : AllOk Tryz.prog Glob [
    Tr.norm (nat_lit 27) (Av.one (Sv.cel (Cv.raw (Value.bool (decide ((↑(lenN (Int.natAbs (Dy.m x0))) : Int) > (10 : Int))))))) (Av.one (Sv.cel (Cv.raw (Value.bool false)))),
    Tr.norm (nat_lit 32) (Av.one (Sv.cel (Cv.raw (Value.bool (decide (Dy.e x0 > (200 : Int))))))) (Av.one (Sv.cel (Cv.raw (Value.bool false)))),
    Tr.norm (nat_lit 36) (Av.one (Sv.cel (Cv.raw (Value.bool (decide (Dy.e x0 < (-200 : Int))))))) (Av.one (Sv.cel (Cv.raw (Value.bool false)))),
    Tr.norm (nat_lit 49) (Av.one (Sv.cel (Cv.raw (Value.bool (decide ((↑(lenN (Int.natAbs (Dy.m y0))) : Int) > (10 : Int))))))) (Av.one (Sv.cel (Cv.raw (Value.bool false)))),
    Tr.norm (nat_lit 54) (Av.one (Sv.cel (Cv.raw (Value.bool (decide (Dy.e y0 > (200 : Int))))))) (Av.one (Sv.cel (Cv.raw (Value.bool false)))),
    Tr.norm (nat_lit 58) (Av.one (Sv.cel (Cv.raw (Value.bool (decide (Dy.e y0 < (-200 : Int))))))) (Av.one (Sv.cel (Cv.raw (Value.bool false)))),
    Tr.call 75 [Sv.agg [Cv.raw (Value.bool (decide (Dy.m x0 < (0 : Int)))), Cv.ent (nat (Int.natAbs (Dy.m x0))), Cv.raw (Value.int IntKind.i64 (Dy.e x0)), Cv.raw (Value.bool (decide (Dy.m y0 < (0 : Int)))), Cv.ent (nat (Int.natAbs (Dy.m y0))), Cv.raw (Value.int IntKind.i64 (Dy.e y0))]] [] (Av.one (Sv.cel (Cv.raw (Value.int IntKind.i64 (Int.ofNat (nat_lit 0)))))),
    Tr.norm (nat_lit 89) (Av.one (Sv.cel (Cv.raw (Value.bool (decide ((↑(lenN (Int.natAbs (Dy.m x1))) : Int) > (10 : Int))))))) (Av.one (Sv.cel (Cv.raw (Value.bool false)))),
    Tr.norm (nat_lit 94) (Av.one (Sv.cel (Cv.raw (Value.bool (decide (Dy.e x1 > (200 : Int))))))) (Av.one (Sv.cel (Cv.raw (Value.bool false)))),
    Tr.norm (nat_lit 98) (Av.one (Sv.cel (Cv.raw (Value.bool (decide (Dy.e x1 < (-200 : Int))))))) (Av.one (Sv.cel (Cv.raw (Value.bool false)))),
    Tr.norm (nat_lit 111) (Av.one (Sv.cel (Cv.raw (Value.bool (decide ((↑(lenN (Int.natAbs (Dy.m y1))) : Int) > (10 : Int))))))) (Av.one (Sv.cel (Cv.raw (Value.bool false)))),
    Tr.norm (nat_lit 116) (Av.one (Sv.cel (Cv.raw (Value.bool (decide (Dy.e y1 > (200 : Int))))))) (Av.one (Sv.cel (Cv.raw (Value.bool false)))),
    Tr.norm (nat_lit 120) (Av.one (Sv.cel (Cv.raw (Value.bool (decide (Dy.e y1 < (-200 : Int))))))) (Av.one (Sv.cel (Cv.raw (Value.bool false)))),
    Tr.call 75 [Sv.agg [Cv.raw (Value.bool (decide (Dy.m x1 < (0 : Int)))), Cv.ent (nat (Int.natAbs (Dy.m x1))), Cv.raw (Value.int IntKind.i64 (Dy.e x1)), Cv.raw (Value.bool (decide (Dy.m y1 < (0 : Int)))), Cv.ent (nat (Int.natAbs (Dy.m y1))), Cv.raw (Value.int IntKind.i64 (Dy.e y1))]] [] (Av.one (Sv.cel (Cv.raw (Value.int IntKind.i64 (Int.ofNat (nat_lit 0))))))] := ⟨
    norm_bool (h0.a.len),
    norm_bool (decide_eq_false (show ¬ x0.e > 200 by have := h0.a.hi; omega)),
    norm_bool (decide_eq_false (show ¬ x0.e < -200 by have := h0.a.lo; omega)),
    norm_bool (h0.b.len),
    norm_bool (decide_eq_false (show ¬ y0.e > 200 by have := h0.b.hi; omega)),
    norm_bool (decide_eq_false (show ¬ y0.e < -200 by have := h0.b.lo; omega)),
    checkS_f h0.a.bd h0.b.bd (by omega) h0.no,
    norm_bool (h1.a.len),
    norm_bool (decide_eq_false (show ¬ x1.e > 200 by have := h1.a.hi; omega)),
    norm_bool (decide_eq_false (show ¬ x1.e < -200 by have := h1.a.lo; omega)),
    norm_bool (h1.b.len),
    norm_bool (decide_eq_false (show ¬ y1.e > 200 by have := h1.b.hi; omega)),
    norm_bool (decide_eq_false (show ¬ y1.e < -200 by have := h1.b.lo; omega)),
    checkS_f h1.a.bd h1.b.bd (by omega) h1.no, trivial⟩
  exact fits_of_trace (n := 300) (k0 := 1) hT Tryz.func15 (by kernel_rfl) (by kernel_rfl) (by kernel_rfl)

theorem sfitOne_f {x y : Dy} (h : FitS x y) (z : Nat) (o : Bool) : FitsP 15 [Sv.cel (Cv.row z 0 1 1)] [(z, ⟨29, [.raw (.bool (decide (x.m < 0))), .ent (nat x.m.natAbs), .raw (.int .i64 x.e), .raw (.bool (decide (y.m < 0))), .ent (nat y.m.natAbs), .raw (.int .i64 y.e)], o⟩)] (.one (boolS true)) := Fits.row (pre := []) (sfit1_1_0 h) rfl rfl rfl z o
theorem sfitTwo_f {x y u v : Dy} (h : FitS x y) (k : FitS u v) (z : Nat) (o : Bool) : FitsP 15 [Sv.cel (Cv.row z 0 2 2)] [(z, ⟨29, [.raw (.bool (decide (x.m < 0))), .ent (nat x.m.natAbs), .raw (.int .i64 x.e), .raw (.bool (decide (y.m < 0))), .ent (nat y.m.natAbs), .raw (.int .i64 y.e), .raw (.bool (decide (u.m < 0))), .ent (nat u.m.natAbs), .raw (.int .i64 u.e), .raw (.bool (decide (v.m < 0))), .ent (nat v.m.natAbs), .raw (.int .i64 v.e)], o⟩)] (.one (boolS true)) := Fits.row (pre := []) (sfit2_2_0 h k) rfl rfl rfl z o

theorem sunfit1_0 {m : Bool} {xs : List Nat} {e : Int} {m' : Bool} {ys : List Nat} {e' : Int} (hu : UnfitS m xs e m' ys e') (z : Nat) (o : Bool) : FitsP 15 [Sv.cel (Cv.row z 0 1 1)] [(z, ⟨29, [.raw (.bool m), .ent (argE xs), .raw (.int .i64 e), .raw (.bool m'), .ent (argE ys), .raw (.int .i64 e')], o⟩)] (.one (boolS false)) := by
  refine Fits.row (pre := []) (f := 15) (n := 1) (c := 1) (t := 29) (o := true) ?_ rfl rfl rfl z o
  rcases hu with hu | ⟨hx, hu⟩ | ⟨hx, hu⟩ | ⟨⟨hx, h1, h2⟩, hu | ⟨hy, hu⟩ | ⟨hy, hu⟩ | ⟨⟨hy, g1, g2⟩, c, hc, hu⟩⟩
  · exact sfit1_0_1 hu
  · exact sfit1_0_2 hx hu
  · exact sfit1_0_3 hx hu
  · exact sfit1_0_4 hx h1 h2 hu
  · exact sfit1_0_5 hx h1 h2 hy hu
  · exact sfit1_0_6 hx h1 h2 hy hu
  · exact sfit1_0_7 hx h1 h2 hy g1 g2 hc hu

theorem sunfit2_0 {m : Bool} {xs : List Nat} {e : Int} {m' : Bool} {ys : List Nat} {e' : Int} (hu : UnfitS m xs e m' ys e') (m1 : Bool) (a1 : List Nat) (e1 : Int) (n1 : Bool) (b1 : List Nat) (f1 : Int) (z : Nat) (o : Bool) : FitsP 15 [Sv.cel (Cv.row z 0 2 2)] [(z, ⟨29, [.raw (.bool m), .ent (argE xs), .raw (.int .i64 e), .raw (.bool m'), .ent (argE ys), .raw (.int .i64 e'), .raw (.bool m1), .ent (argE a1), .raw (.int .i64 e1), .raw (.bool n1), .ent (argE b1), .raw (.int .i64 f1)], o⟩)] (.one (boolS false)) := by
  refine Fits.row (pre := []) (f := 15) (n := 2) (c := 2) (t := 29) (o := true) ?_ rfl rfl rfl z o
  rcases hu with hu | ⟨hx, hu⟩ | ⟨hx, hu⟩ | ⟨⟨hx, h1, h2⟩, hu | ⟨hy, hu⟩ | ⟨hy, hu⟩ | ⟨⟨hy, g1, g2⟩, c, hc, hu⟩⟩
  · exact sfit2_0_1 m1 a1 e1 n1 b1 f1 hu
  · exact sfit2_0_2 m1 a1 e1 n1 b1 f1 hx hu
  · exact sfit2_0_3 m1 a1 e1 n1 b1 f1 hx hu
  · exact sfit2_0_4 m1 a1 e1 n1 b1 f1 hx h1 h2 hu
  · exact sfit2_0_5 m1 a1 e1 n1 b1 f1 hx h1 h2 hy hu
  · exact sfit2_0_6 m1 a1 e1 n1 b1 f1 hx h1 h2 hy hu
  · exact sfit2_0_7 m1 a1 e1 n1 b1 f1 hx h1 h2 hy g1 g2 hc hu

theorem sunfit2_1 {x0 y0 : Dy} (h0 : FitS x0 y0) {m : Bool} {xs : List Nat} {e : Int} {m' : Bool} {ys : List Nat} {e' : Int} (hu : UnfitS m xs e m' ys e') (z : Nat) (o : Bool) : FitsP 15 [Sv.cel (Cv.row z 0 2 2)] [(z, ⟨29, [.raw (.bool (decide (x0.m < 0))), .ent (nat x0.m.natAbs), .raw (.int .i64 x0.e), .raw (.bool (decide (y0.m < 0))), .ent (nat y0.m.natAbs), .raw (.int .i64 y0.e), .raw (.bool m), .ent (argE xs), .raw (.int .i64 e), .raw (.bool m'), .ent (argE ys), .raw (.int .i64 e')], o⟩)] (.one (boolS false)) := by
  refine Fits.row (pre := []) (f := 15) (n := 2) (c := 2) (t := 29) (o := true) ?_ rfl rfl rfl z o
  rcases hu with hu | ⟨hx, hu⟩ | ⟨hx, hu⟩ | ⟨⟨hx, h1, h2⟩, hu | ⟨hy, hu⟩ | ⟨hy, hu⟩ | ⟨⟨hy, g1, g2⟩, c, hc, hu⟩⟩
  · exact sfit2_1_1 h0 hu
  · exact sfit2_1_2 h0 hx hu
  · exact sfit2_1_3 h0 hx hu
  · exact sfit2_1_4 h0 hx h1 h2 hu
  · exact sfit2_1_5 h0 hx h1 h2 hy hu
  · exact sfit2_1_6 h0 hx h1 h2 hy hu
  · exact sfit2_1_7 h0 hx h1 h2 hy g1 g2 hc hu
end Go.Proofs.YtnnnmhjcnkipbaaGreatDoor
