/- Layer 5: its own small numbers. -/
import Derived.Test.YtphpaejgcahgbaaGreatDoorDyR
import Derived.Test.YtphpaejgcahgbaaGreatDoorRatL
namespace Go.Proofs.YtphpaejgcahgbaaGreatDoor
open Go Go.RowKit Go.Shelf AM
/-! Numbers that are told. -/
instance (d : Dy) : Decidable d.Ok := by unfold Dy.Ok; exact inferInstance
theorem bd_iff {n k : Nat} {d : Dy} : (d.Ok ∧ -(32 * (k : Int)) ≤ d.e ∧ (sc k d).natAbs < 4294967296 ^ (n + k)) ↔ BD n k d := ⟨fun h => ⟨h.1, h.2.1, h.2.2⟩, fun h => ⟨h.ok, h.low, h.top⟩⟩
instance (n k : Nat) (d : Dy) : Decidable (BD n k d) := decidable_of_iff _ bd_iff
section
variable {a b c : Dy} {q : Rat}
theorem addL (c : Dy) (ha : BD 4 4 a) (hb : BD 4 4 b) (hc : c.Ok) (h : dv c = dv a + dv b) : FitsP 47 [dS a, dS b] [] (.tup [dS c, ok0]) := by
  have := addD_f ha hb (by omega)
  rw [dv_inj (show (addD a b).Ok from mk_ok _ _) hc (by rw [addD_dv, h])] at this; exact this
theorem subL (c : Dy) (ha : BD 4 4 a) (hb : BD 4 4 b) (hc : c.Ok) (h : dv c = dv a - dv b) : FitsP 48 [dS a, dS b] [] (.tup [dS c, ok0]) := by
  have := subD_f ha hb (by omega)
  rw [dv_inj (show (subD a b).Ok from mk_ok _ _) hc (by rw [subD_dv, h])] at this; exact this
theorem mulL (c : Dy) (ha : BD 4 4 a) (hb : BD 4 4 b) (hc : c.Ok) (h : dv c = dv a * dv b) : FitsP 49 [dS a, dS b] [] (.tup [dS c, ok0]) := by
  have := mulD_f ha hb (by omega)
  rw [dv_inj (show (mulD a b).Ok from mk_ok _ _) hc (by rw [mulD_dv, h])] at this; exact this
theorem ofL {n x : Int} (c : Dy) (h : inI64 n) (h1 : -100 ≤ x) (h2 : x ≤ 100) (hc : c.Ok) (hv : dv c = (n : Rat) * p2 x) (h3 : c.e ≤ 65536) : FitsP 70 [intS n, intS x] [] (.one (dS c)) := by
  have e := mk_is hc hv
  have := ofD0_f h h1 h2 (by rw [e]; exact h3)
  rw [e] at this; exact this
theorem makeL {n x : Int} (c : Dy) (h : LimI n) (h1 : -65536 ≤ x) (hc : c.Ok) (hv : dv c = (n : Rat) * p2 x) (h3 : c.e ≤ 65536) : FitsP 52 [im n, intS x] [] (.tup [dS c, ok0]) := by
  have e := mk_is hc hv
  have := makeD_f (z := n) (x := x) h1 (by rw [e]; exact h3) h
  rw [e] at this; exact this
theorem rdL_is {b : Nat} (ha : a.Ok) (hc : c.Ok) (h : dv c = ((a.m / 2 ^ (bt a.m.natAbs - b) * 2 ^ (bt a.m.natAbs - b) : Int) : Rat) * p2 a.e) : rdD b a = c := dv_inj (rd_ok ha) hc (by rw [rd_dv, h])
theorem roundL {b : Nat} {x : Int} (hx : x = (b : Int)) (c : Dy) (ha : BD 4 4 a) (hb : 2 ≤ b) (hb2 : b ≤ 4096) (hc : c.Ok) (h : dv c = ((a.m / 2 ^ (bt a.m.natAbs - b) * 2 ^ (bt a.m.natAbs - b) : Int) : Rat) * p2 a.e) : FitsP 63 [dS a, intS x, boolS false] [] (.tup [dS c, ok0]) := by
  subst hx
  have := roundDown_f ha (by omega) hb hb2
  rw [rdL_is ha.ok hc h] at this; exact this
theorem roundUL {b : Nat} {x : Int} (hx : x = (b : Int)) (c : Dy) (ha : BD 4 4 a) (hb : 2 ≤ b) (hb2 : b ≤ 4096) (hc : (negD c).Ok) (h : dv (negD c) = (((negD a).m / 2 ^ (bt (negD a).m.natAbs - b) * 2 ^ (bt (negD a).m.natAbs - b) : Int) : Rat) * p2 (negD a).e) : FitsP 63 [dS a, intS x, boolS true] [] (.tup [dS c, ok0]) := by
  subst hx
  have := roundUp_f ha (by omega) hb hb2
  rw [show ruD b a = c by unfold ruD; rw [rdL_is ha.ok.neg hc h, neg_neg]] at this; exact this
theorem nrL_is {b : Nat} (t : Nat) (h0 : q.num ≠ 0) (ht : IsTail t q.den) (hn : t ≠ bt q.den - 1) (hc : c.Ok) (h : dv c = ((offD b q / 2 ^ (bt (offD b q).natAbs - b) * 2 ^ (bt (offD b q).natAbs - b) : Int) : Rat) * p2 (-byD b q)) : nrD b q = c := by
  have h2 : ¬ TwoDen q := by unfold TwoDen; rw [(tl_is _).eq ht]; exact hn
  unfold nrD
  rw [if_neg h0, show ndD b q = mkD (offD b q) (-byD b q) from if_neg h2]
  exact dv_inj (rd_ok (mk_ok _ _)) hc (by rw [rd_mk, h])
theorem nearL {b : Nat} {x : Int} (hx : x = (b : Int)) (c : Dy) (hq : BQ 4 q) (hb : 2 ≤ b) (hb2 : b ≤ 4096) (hc : nrD b q = c) : FitsP 66 [rq q, intS x, boolS false] [] (.tup [dS c, ok0]) := by
  subst hx; subst hc; exact nearDown_f hq (by omega) hb hb2
theorem nearUL {b : Nat} {x : Int} (hx : x = (b : Int)) (c : Dy) (hq : BQ 4 q) (hb : 2 ≤ b) (hb2 : b ≤ 4096) (hc : nrD b (-q) = negD c) : FitsP 66 [rq q, intS x, boolS true] [] (.tup [dS c, ok0]) := by
  subst hx
  have := nearUp_f hq (by omega) hb hb2
  rw [show nuD b q = c by unfold nuD; rw [hc, neg_neg]] at this; exact this
theorem ratioL (q : Rat) (ha : BD 4 4 a) (h : dv a = q) : FitsP 46 [dS a] [] (.tup [rq q, ok0]) := by subst h; exact ratioD_f ha (by omega)
theorem isTail_lit {t x : Nat} (m : Nat) (h : x = 2 ^ t * (2 * m + 1)) : IsTail t x := .inr ⟨m, h⟩
end

set_option maxRecDepth 100000 in
theorem is_f {a : Dy} {q : Rat} {n : Int} {d : Nat} (ha : BD 20 20 a) (hr : BQ 4 q) (h1 : inI64 n) (h2 : inI64 (d : Int)) (h0 : d ≠ 0) (hq : Rat.normalize n d h0 = q) (h : dv a = q) : FitsP 119 [dS a, intS n, intS (d : Int)] [] (.one (boolS true)) := by
  have hT : AllOk Tryz.prog Glob [
    Tr.call 42 [Sv.cel (Cv.raw (Value.int IntKind.i64 n)), Sv.cel (Cv.raw (Value.int IntKind.i64 (↑d : Int)))] [] (Av.one (Sv.agg [Cv.raw (Value.bool (decide (Rat.num q < (0 : Int)))), Cv.ent (nat (Int.natAbs (Rat.num q))), Cv.ent (nat (Rat.den q))])),
    Tr.call 58 [Sv.agg [Cv.raw (Value.bool (decide (Dy.m a < (0 : Int)))), Cv.ent (nat (Int.natAbs (Dy.m a))), Cv.raw (Value.int IntKind.i64 (Dy.e a))], Sv.agg [Cv.raw (Value.bool (decide (Rat.num q < (0 : Int)))), Cv.ent (nat (Int.natAbs (Rat.num q))), Cv.ent (nat (Rat.den q))]] [] (Av.tup [Sv.cel (Cv.raw (Value.int IntKind.i64 (Int.ofNat (nat_lit 0)))), Sv.cel (Cv.raw (Value.int IntKind.i64 (Int.ofNat (nat_lit 0))))]),
    Tr.call 57 [Sv.agg [Cv.raw (Value.bool (decide (Dy.m a < (0 : Int)))), Cv.ent (nat (Int.natAbs (Dy.m a))), Cv.raw (Value.int IntKind.i64 (Dy.e a))]] [] (Av.one (Sv.cel (Cv.raw (Value.int IntKind.i64 (Int.ofNat (nat_lit 0))))))] := ⟨
    ofQ_lit q h1 h2 h0 hq,
    cmpDQ_f ha hr (by omega) (ordQ_eqI h),
    checkD_f ha (by omega), trivial⟩
  exact fits_of_trace (n := 300) (k0 := 0) hT Tryz.func119 (by kernel_rfl) (by kernel_rfl) (by kernel_rfl)

set_option maxRecDepth 100000 in
theorem checkDE_f  : FitsP 57 [dS ⟨0, 1⟩] [] (.one (intS 2)) := by
  have hT : AllOk Tryz.prog Glob [
    Tr.call 26 [Sv.agg [Cv.raw (Value.bool (decide (Dy.m { m := (0 : Int), e := (1 : Int) } < (0 : Int)))), Cv.ent (nat (Int.natAbs (Dy.m { m := (0 : Int), e := (1 : Int) })))]] [] (Av.one (Sv.cel (Cv.raw (Value.int IntKind.i64 (Int.ofNat (nat_lit 0)))))),
    Tr.call 124 [Sv.cel (Cv.raw (Value.int IntKind.i64 (Int.ofNat (nat_lit 1))))] [] (Av.one (Sv.cel (Cv.raw (Value.bool true)))),
    Tr.call 53 [Sv.agg [Cv.raw (Value.bool (decide (Dy.m { m := (0 : Int), e := (1 : Int) } < (0 : Int)))), Cv.ent (nat (Int.natAbs (Dy.m { m := (0 : Int), e := (1 : Int) })))]] [] (Av.one (Sv.cel (Cv.raw (Value.int IntKind.i64 (Int.ofNat (nat_lit 0))))))] := ⟨
    checkI_f (small_lim (by decide)),
    mayExp_yes (by decide) (by decide),
    sign_lit rfl, trivial⟩
  exact fits_of_trace (n := 300) (k0 := 0) hT Tryz.func57 (by kernel_rfl) (by kernel_rfl) (by kernel_rfl)

theorem checkDE1_f : FitsP 57 [.agg [.raw (.bool false), .raw (.slice none 0 0), .raw (.int .i64 1)]] [] (.one (intS 2)) := Fits.args checkDE_f fun β W vals h => by
  obtain ⟨v, rfl, vs, rfl, hh⟩ := all2_1 h
  match vs, hh with
  | [a, b, c], ⟨h1, h2, h3, _⟩ => exact ⟨⟨[a, b, c], rfl, h1, norm_nil h2, h3, trivial⟩, trivial⟩

theorem maxLit {a b c : Dy} (ha : BD 4 4 a) (hb : BD 4 4 b) (h : maxD a b = c) : FitsP 61 [dS a, dS b] [] (.one (dS c)) := by subst h; exact maxD_f ha hb (by omega)
theorem minLit {a b c : Dy} (ha : BD 4 4 a) (hb : BD 4 4 b) (h : minD a b = c) : FitsP 62 [dS a, dS b] [] (.one (dS c)) := by subst h; exact minD_f ha hb (by omega)
instance : DecidableEq Dy := fun a b => decidable_of_iff (a.m = b.m ∧ a.e = b.e) ⟨fun h => by obtain ⟨m, e⟩ := a; obtain ⟨m', e'⟩ := b; simp at h; rw [h.1, h.2], fun h => by rw [h]; exact ⟨rfl, rfl⟩⟩
instance (n : Nat) (q : Rat) : Decidable (BQ n q) := by unfold BQ; exact inferInstance

set_option maxRecDepth 100000 in
theorem halves_f  : FitsP 44 [] [] (.one (boolS true)) := by
  have hT : AllOk Tryz.prog Glob [
    Tr.call 70 [Sv.cel (Cv.raw (Value.int IntKind.i64 (Int.ofNat (nat_lit 3)))), Sv.cel (Cv.raw (Value.int IntKind.i64 (Int.negSucc (nat_lit 0))))] [] (Av.one (Sv.agg [Cv.raw (Value.bool (decide (Dy.m { m := (3 : Int), e := (-1 : Int) } < (0 : Int)))), Cv.ent (nat (Int.natAbs (Dy.m { m := (3 : Int), e := (-1 : Int) }))), Cv.raw (Value.int IntKind.i64 (Int.negSucc (nat_lit 0)))])),
    Tr.call 70 [Sv.cel (Cv.raw (Value.int IntKind.i64 (Int.negSucc (nat_lit 0)))), Sv.cel (Cv.raw (Value.int IntKind.i64 (Int.ofNat (nat_lit 2))))] [] (Av.one (Sv.agg [Cv.raw (Value.bool (decide (Dy.m { m := (-1 : Int), e := (2 : Int) } < (0 : Int)))), Cv.ent (nat (Int.natAbs (Dy.m { m := (-1 : Int), e := (2 : Int) }))), Cv.raw (Value.int IntKind.i64 (Int.ofNat (nat_lit 2)))])),
    Tr.call 47 [Sv.agg [Cv.raw (Value.bool (decide (Dy.m { m := (3 : Int), e := (-1 : Int) } < (0 : Int)))), Cv.ent (nat (Int.natAbs (Dy.m { m := (3 : Int), e := (-1 : Int) }))), Cv.raw (Value.int IntKind.i64 (Int.negSucc (nat_lit 0)))], Sv.agg [Cv.raw (Value.bool (decide (Dy.m { m := (-1 : Int), e := (2 : Int) } < (0 : Int)))), Cv.ent (nat (Int.natAbs (Dy.m { m := (-1 : Int), e := (2 : Int) }))), Cv.raw (Value.int IntKind.i64 (Int.ofNat (nat_lit 2)))]] [] (Av.tup [Sv.agg [Cv.raw (Value.bool (decide (Dy.m { m := (-5 : Int), e := (-1 : Int) } < (0 : Int)))), Cv.ent (nat (Int.natAbs (Dy.m { m := (-5 : Int), e := (-1 : Int) }))), Cv.raw (Value.int IntKind.i64 (Int.negSucc (nat_lit 0)))], Sv.cel (Cv.raw (Value.int IntKind.i64 (Int.ofNat (nat_lit 0))))]),
    Tr.call 48 [Sv.agg [Cv.raw (Value.bool (decide (Dy.m { m := (3 : Int), e := (-1 : Int) } < (0 : Int)))), Cv.ent (nat (Int.natAbs (Dy.m { m := (3 : Int), e := (-1 : Int) }))), Cv.raw (Value.int IntKind.i64 (Int.negSucc (nat_lit 0)))], Sv.agg [Cv.raw (Value.bool (decide (Dy.m { m := (-1 : Int), e := (2 : Int) } < (0 : Int)))), Cv.ent (nat (Int.natAbs (Dy.m { m := (-1 : Int), e := (2 : Int) }))), Cv.raw (Value.int IntKind.i64 (Int.ofNat (nat_lit 2)))]] [] (Av.tup [Sv.agg [Cv.raw (Value.bool (decide (Dy.m { m := (11 : Int), e := (-1 : Int) } < (0 : Int)))), Cv.ent (nat (Int.natAbs (Dy.m { m := (11 : Int), e := (-1 : Int) }))), Cv.raw (Value.int IntKind.i64 (Int.negSucc (nat_lit 0)))], Sv.cel (Cv.raw (Value.int IntKind.i64 (Int.ofNat (nat_lit 0))))]),
    Tr.call 49 [Sv.agg [Cv.raw (Value.bool (decide (Dy.m { m := (3 : Int), e := (-1 : Int) } < (0 : Int)))), Cv.ent (nat (Int.natAbs (Dy.m { m := (3 : Int), e := (-1 : Int) }))), Cv.raw (Value.int IntKind.i64 (Int.negSucc (nat_lit 0)))], Sv.agg [Cv.raw (Value.bool (decide (Dy.m { m := (-1 : Int), e := (2 : Int) } < (0 : Int)))), Cv.ent (nat (Int.natAbs (Dy.m { m := (-1 : Int), e := (2 : Int) }))), Cv.raw (Value.int IntKind.i64 (Int.ofNat (nat_lit 2)))]] [] (Av.tup [Sv.agg [Cv.raw (Value.bool (decide (Dy.m { m := (-3 : Int), e := (1 : Int) } < (0 : Int)))), Cv.ent (nat (Int.natAbs (Dy.m { m := (-3 : Int), e := (1 : Int) }))), Cv.raw (Value.int IntKind.i64 (Int.ofNat (nat_lit 1)))], Sv.cel (Cv.raw (Value.int IntKind.i64 (Int.ofNat (nat_lit 0))))]),
    Tr.call 70 [Sv.cel (Cv.raw (Value.int IntKind.i64 (Int.ofNat (nat_lit 21)))), Sv.cel (Cv.raw (Value.int IntKind.i64 (Int.ofNat (nat_lit 0))))] [] (Av.one (Sv.agg [Cv.raw (Value.bool (decide (Dy.m { m := (21 : Int), e := (0 : Int) } < (0 : Int)))), Cv.ent (nat (Int.natAbs (Dy.m { m := (21 : Int), e := (0 : Int) }))), Cv.raw (Value.int IntKind.i64 (Int.ofNat (nat_lit 0)))])),
    Tr.call 63 [Sv.agg [Cv.raw (Value.bool (decide (Dy.m { m := (21 : Int), e := (0 : Int) } < (0 : Int)))), Cv.ent (nat (Int.natAbs (Dy.m { m := (21 : Int), e := (0 : Int) }))), Cv.raw (Value.int IntKind.i64 (Int.ofNat (nat_lit 0)))], Sv.cel (Cv.raw (Value.int IntKind.i64 (Int.ofNat (nat_lit 3)))), Sv.cel (Cv.raw (Value.bool false))] [] (Av.tup [Sv.agg [Cv.raw (Value.bool (decide (Dy.m { m := (5 : Int), e := (2 : Int) } < (0 : Int)))), Cv.ent (nat (Int.natAbs (Dy.m { m := (5 : Int), e := (2 : Int) }))), Cv.raw (Value.int IntKind.i64 (Int.ofNat (nat_lit 2)))], Sv.cel (Cv.raw (Value.int IntKind.i64 (Int.ofNat (nat_lit 0))))]),
    Tr.call 70 [Sv.cel (Cv.raw (Value.int IntKind.i64 (Int.ofNat (nat_lit 21)))), Sv.cel (Cv.raw (Value.int IntKind.i64 (Int.ofNat (nat_lit 0))))] [] (Av.one (Sv.agg [Cv.raw (Value.bool (decide (Dy.m { m := (21 : Int), e := (0 : Int) } < (0 : Int)))), Cv.ent (nat (Int.natAbs (Dy.m { m := (21 : Int), e := (0 : Int) }))), Cv.raw (Value.int IntKind.i64 (Int.ofNat (nat_lit 0)))])),
    Tr.call 63 [Sv.agg [Cv.raw (Value.bool (decide (Dy.m { m := (21 : Int), e := (0 : Int) } < (0 : Int)))), Cv.ent (nat (Int.natAbs (Dy.m { m := (21 : Int), e := (0 : Int) }))), Cv.raw (Value.int IntKind.i64 (Int.ofNat (nat_lit 0)))], Sv.cel (Cv.raw (Value.int IntKind.i64 (Int.ofNat (nat_lit 3)))), Sv.cel (Cv.raw (Value.bool true))] [] (Av.tup [Sv.agg [Cv.raw (Value.bool (decide (Dy.m { m := (3 : Int), e := (3 : Int) } < (0 : Int)))), Cv.ent (nat (Int.natAbs (Dy.m { m := (3 : Int), e := (3 : Int) }))), Cv.raw (Value.int IntKind.i64 (Int.ofNat (nat_lit 3)))], Sv.cel (Cv.raw (Value.int IntKind.i64 (Int.ofNat (nat_lit 0))))]),
    Tr.call 42 [Sv.cel (Cv.raw (Value.int IntKind.i64 (Int.ofNat (nat_lit 1)))), Sv.cel (Cv.raw (Value.int IntKind.i64 (Int.ofNat (nat_lit 3))))] [] (Av.one (Sv.agg [Cv.raw (Value.bool (decide (Rat.num (1 / 3 : Rat) < (0 : Int)))), Cv.ent (nat (Int.natAbs (Rat.num (1 / 3 : Rat)))), Cv.ent (nat (Rat.den (1 / 3 : Rat)))])),
    Tr.call 66 [Sv.agg [Cv.raw (Value.bool (decide (Rat.num (1 / 3 : Rat) < (0 : Int)))), Cv.ent (nat (Int.natAbs (Rat.num (1 / 3 : Rat)))), Cv.ent (nat (Rat.den (1 / 3 : Rat)))], Sv.cel (Cv.raw (Value.int IntKind.i64 (Int.ofNat (nat_lit 4)))), Sv.cel (Cv.raw (Value.bool false))] [] (Av.tup [Sv.agg [Cv.raw (Value.bool (decide (Dy.m { m := (5 : Int), e := (-4 : Int) } < (0 : Int)))), Cv.ent (nat (Int.natAbs (Dy.m { m := (5 : Int), e := (-4 : Int) }))), Cv.raw (Value.int IntKind.i64 (Int.negSucc (nat_lit 3)))], Sv.cel (Cv.raw (Value.int IntKind.i64 (Int.ofNat (nat_lit 0))))]),
    Tr.call 42 [Sv.cel (Cv.raw (Value.int IntKind.i64 (Int.ofNat (nat_lit 1)))), Sv.cel (Cv.raw (Value.int IntKind.i64 (Int.ofNat (nat_lit 3))))] [] (Av.one (Sv.agg [Cv.raw (Value.bool (decide (Rat.num (1 / 3 : Rat) < (0 : Int)))), Cv.ent (nat (Int.natAbs (Rat.num (1 / 3 : Rat)))), Cv.ent (nat (Rat.den (1 / 3 : Rat)))])),
    Tr.call 66 [Sv.agg [Cv.raw (Value.bool (decide (Rat.num (1 / 3 : Rat) < (0 : Int)))), Cv.ent (nat (Int.natAbs (Rat.num (1 / 3 : Rat)))), Cv.ent (nat (Rat.den (1 / 3 : Rat)))], Sv.cel (Cv.raw (Value.int IntKind.i64 (Int.ofNat (nat_lit 4)))), Sv.cel (Cv.raw (Value.bool true))] [] (Av.tup [Sv.agg [Cv.raw (Value.bool (decide (Dy.m { m := (11 : Int), e := (-5 : Int) } < (0 : Int)))), Cv.ent (nat (Int.natAbs (Dy.m { m := (11 : Int), e := (-5 : Int) }))), Cv.raw (Value.int IntKind.i64 (Int.negSucc (nat_lit 4)))], Sv.cel (Cv.raw (Value.int IntKind.i64 (Int.ofNat (nat_lit 0))))]),
    Tr.call 46 [Sv.agg [Cv.raw (Value.bool (decide (Dy.m { m := (3 : Int), e := (-1 : Int) } < (0 : Int)))), Cv.ent (nat (Int.natAbs (Dy.m { m := (3 : Int), e := (-1 : Int) }))), Cv.raw (Value.int IntKind.i64 (Int.negSucc (nat_lit 0)))]] [] (Av.tup [Sv.agg [Cv.raw (Value.bool (decide (Rat.num (3 / 2 : Rat) < (0 : Int)))), Cv.ent (nat (Int.natAbs (Rat.num (3 / 2 : Rat)))), Cv.ent (nat (Rat.den (3 / 2 : Rat)))], Sv.cel (Cv.raw (Value.int IntKind.i64 (Int.ofNat (nat_lit 0))))]),
    Tr.call 42 [Sv.cel (Cv.raw (Value.int IntKind.i64 (Int.ofNat (nat_lit 1)))), Sv.cel (Cv.raw (Value.int IntKind.i64 (Int.ofNat (nat_lit 3))))] [] (Av.one (Sv.agg [Cv.raw (Value.bool (decide (Rat.num (1 / 3 : Rat) < (0 : Int)))), Cv.ent (nat (Int.natAbs (Rat.num (1 / 3 : Rat)))), Cv.ent (nat (Rat.den (1 / 3 : Rat)))])),
    Tr.call 58 [Sv.agg [Cv.raw (Value.bool (decide (Dy.m { m := (5 : Int), e := (-4 : Int) } < (0 : Int)))), Cv.ent (nat (Int.natAbs (Dy.m { m := (5 : Int), e := (-4 : Int) }))), Cv.raw (Value.int IntKind.i64 (Int.negSucc (nat_lit 3)))], Sv.agg [Cv.raw (Value.bool (decide (Rat.num (1 / 3 : Rat) < (0 : Int)))), Cv.ent (nat (Int.natAbs (Rat.num (1 / 3 : Rat)))), Cv.ent (nat (Rat.den (1 / 3 : Rat)))]] [] (Av.tup [Sv.cel (Cv.raw (Value.int IntKind.i64 (Int.negSucc (nat_lit 0)))), Sv.cel (Cv.raw (Value.int IntKind.i64 (Int.ofNat (nat_lit 0))))]),
    Tr.call 35 [Sv.cel (Cv.raw (Value.int IntKind.i64 (Int.ofNat (nat_lit 12))))] [] (Av.one (Sv.agg [Cv.raw (Value.bool (decide ((12 : Int) < (0 : Int)))), Cv.ent (nat (Int.natAbs (12 : Int)))])),
    Tr.call 52 [Sv.agg [Cv.raw (Value.bool (decide ((12 : Int) < (0 : Int)))), Cv.ent (nat (Int.natAbs (12 : Int)))], Sv.cel (Cv.raw (Value.int IntKind.i64 (Int.ofNat (nat_lit 1))))] [] (Av.tup [Sv.agg [Cv.raw (Value.bool (decide (Dy.m { m := (3 : Int), e := (3 : Int) } < (0 : Int)))), Cv.ent (nat (Int.natAbs (Dy.m { m := (3 : Int), e := (3 : Int) }))), Cv.raw (Value.int IntKind.i64 (Int.ofNat (nat_lit 3)))], Sv.cel (Cv.raw (Value.int IntKind.i64 (Int.ofNat (nat_lit 0))))]),
    Tr.call 63 [Sv.agg [Cv.raw (Value.bool (decide (Dy.m { m := (3 : Int), e := (-1 : Int) } < (0 : Int)))), Cv.ent (nat (Int.natAbs (Dy.m { m := (3 : Int), e := (-1 : Int) }))), Cv.raw (Value.int IntKind.i64 (Int.negSucc (nat_lit 0)))], Sv.cel (Cv.raw (Value.int IntKind.i64 (Int.ofNat (nat_lit 1)))), Sv.cel (Cv.raw (Value.bool true))] [] (Av.tup [Sv.agg [Cv.raw (Value.bool (decide (Dy.m { m := (0 : Int), e := (0 : Int) } < (0 : Int)))), Cv.ent (nat (Int.natAbs (Dy.m { m := (0 : Int), e := (0 : Int) }))), Cv.raw (Value.int IntKind.i64 (Int.ofNat (nat_lit 0)))], Sv.cel (Cv.raw (Value.int IntKind.i64 (Int.ofNat (nat_lit 1))))]),
    Tr.call 119 [Sv.agg [Cv.raw (Value.bool (decide (Dy.m { m := (-5 : Int), e := (-1 : Int) } < (0 : Int)))), Cv.ent (nat (Int.natAbs (Dy.m { m := (-5 : Int), e := (-1 : Int) }))), Cv.raw (Value.int IntKind.i64 (Int.negSucc (nat_lit 0)))], Sv.cel (Cv.raw (Value.int IntKind.i64 (Int.negSucc (nat_lit 4)))), Sv.cel (Cv.raw (Value.int IntKind.i64 (Int.ofNat (nat_lit 2))))] [] (Av.one (Sv.cel (Cv.raw (Value.bool true)))),
    Tr.call 119 [Sv.agg [Cv.raw (Value.bool (decide (Dy.m { m := (11 : Int), e := (-1 : Int) } < (0 : Int)))), Cv.ent (nat (Int.natAbs (Dy.m { m := (11 : Int), e := (-1 : Int) }))), Cv.raw (Value.int IntKind.i64 (Int.negSucc (nat_lit 0)))], Sv.cel (Cv.raw (Value.int IntKind.i64 (Int.ofNat (nat_lit 11)))), Sv.cel (Cv.raw (Value.int IntKind.i64 (Int.ofNat (nat_lit 2))))] [] (Av.one (Sv.cel (Cv.raw (Value.bool true)))),
    Tr.call 119 [Sv.agg [Cv.raw (Value.bool (decide (Dy.m { m := (-3 : Int), e := (1 : Int) } < (0 : Int)))), Cv.ent (nat (Int.natAbs (Dy.m { m := (-3 : Int), e := (1 : Int) }))), Cv.raw (Value.int IntKind.i64 (Int.ofNat (nat_lit 1)))], Sv.cel (Cv.raw (Value.int IntKind.i64 (Int.negSucc (nat_lit 5)))), Sv.cel (Cv.raw (Value.int IntKind.i64 (Int.ofNat (nat_lit 1))))] [] (Av.one (Sv.cel (Cv.raw (Value.bool true)))),
    Tr.call 119 [Sv.agg [Cv.raw (Value.bool (decide (Dy.m { m := (5 : Int), e := (2 : Int) } < (0 : Int)))), Cv.ent (nat (Int.natAbs (Dy.m { m := (5 : Int), e := (2 : Int) }))), Cv.raw (Value.int IntKind.i64 (Int.ofNat (nat_lit 2)))], Sv.cel (Cv.raw (Value.int IntKind.i64 (Int.ofNat (nat_lit 20)))), Sv.cel (Cv.raw (Value.int IntKind.i64 (Int.ofNat (nat_lit 1))))] [] (Av.one (Sv.cel (Cv.raw (Value.bool true)))),
    Tr.call 119 [Sv.agg [Cv.raw (Value.bool (decide (Dy.m { m := (3 : Int), e := (3 : Int) } < (0 : Int)))), Cv.ent (nat (Int.natAbs (Dy.m { m := (3 : Int), e := (3 : Int) }))), Cv.raw (Value.int IntKind.i64 (Int.ofNat (nat_lit 3)))], Sv.cel (Cv.raw (Value.int IntKind.i64 (Int.ofNat (nat_lit 24)))), Sv.cel (Cv.raw (Value.int IntKind.i64 (Int.ofNat (nat_lit 1))))] [] (Av.one (Sv.cel (Cv.raw (Value.bool true)))),
    Tr.call 119 [Sv.agg [Cv.raw (Value.bool (decide (Dy.m { m := (5 : Int), e := (-4 : Int) } < (0 : Int)))), Cv.ent (nat (Int.natAbs (Dy.m { m := (5 : Int), e := (-4 : Int) }))), Cv.raw (Value.int IntKind.i64 (Int.negSucc (nat_lit 3)))], Sv.cel (Cv.raw (Value.int IntKind.i64 (Int.ofNat (nat_lit 5)))), Sv.cel (Cv.raw (Value.int IntKind.i64 (Int.ofNat (nat_lit 16))))] [] (Av.one (Sv.cel (Cv.raw (Value.bool true)))),
    Tr.call 119 [Sv.agg [Cv.raw (Value.bool (decide (Dy.m { m := (11 : Int), e := (-5 : Int) } < (0 : Int)))), Cv.ent (nat (Int.natAbs (Dy.m { m := (11 : Int), e := (-5 : Int) }))), Cv.raw (Value.int IntKind.i64 (Int.negSucc (nat_lit 4)))], Sv.cel (Cv.raw (Value.int IntKind.i64 (Int.ofNat (nat_lit 11)))), Sv.cel (Cv.raw (Value.int IntKind.i64 (Int.ofNat (nat_lit 32))))] [] (Av.one (Sv.cel (Cv.raw (Value.bool true)))),
    Tr.call 33 [Sv.agg [Cv.raw (Value.bool (decide (Rat.num (3 / 2 : Rat) < (0 : Int)))), Cv.ent (nat (Int.natAbs (Rat.num (3 / 2 : Rat)))), Cv.ent (nat (Rat.den (3 / 2 : Rat)))]] [] (Av.one (Sv.cel (Cv.raw (Value.string { data := #[(51 : UInt8), (47 : UInt8), (50 : UInt8)] })))),
    Tr.call 54 [Sv.agg [Cv.raw (Value.bool (decide (Dy.m { m := (-1 : Int), e := (2 : Int) } < (0 : Int)))), Cv.ent (nat (Int.natAbs (Dy.m { m := (-1 : Int), e := (2 : Int) }))), Cv.raw (Value.int IntKind.i64 (Int.ofNat (nat_lit 2)))]] [] (Av.one (Sv.cel (Cv.raw (Value.int IntKind.i64 (Int.negSucc (nat_lit 0)))))),
    Tr.call 120 [Sv.agg [Cv.raw (Value.bool (decide (Dy.m { m := (-1 : Int), e := (2 : Int) } < (0 : Int)))), Cv.ent (nat (Int.natAbs (Dy.m { m := (-1 : Int), e := (2 : Int) }))), Cv.raw (Value.int IntKind.i64 (Int.ofNat (nat_lit 2)))]] [] (Av.one (Sv.agg [Cv.raw (Value.bool (decide (Dy.m { m := (1 : Int), e := (2 : Int) } < (0 : Int)))), Cv.ent (nat (Int.natAbs (Dy.m { m := (1 : Int), e := (2 : Int) }))), Cv.raw (Value.int IntKind.i64 (Int.ofNat (nat_lit 2)))])),
    Tr.call 119 [Sv.agg [Cv.raw (Value.bool (decide (Dy.m { m := (1 : Int), e := (2 : Int) } < (0 : Int)))), Cv.ent (nat (Int.natAbs (Dy.m { m := (1 : Int), e := (2 : Int) }))), Cv.raw (Value.int IntKind.i64 (Int.ofNat (nat_lit 2)))], Sv.cel (Cv.raw (Value.int IntKind.i64 (Int.ofNat (nat_lit 4)))), Sv.cel (Cv.raw (Value.int IntKind.i64 (Int.ofNat (nat_lit 1))))] [] (Av.one (Sv.cel (Cv.raw (Value.bool true)))),
    Tr.call 121 [Sv.agg [Cv.raw (Value.bool (decide (Dy.m { m := (-1 : Int), e := (2 : Int) } < (0 : Int)))), Cv.ent (nat (Int.natAbs (Dy.m { m := (-1 : Int), e := (2 : Int) }))), Cv.raw (Value.int IntKind.i64 (Int.ofNat (nat_lit 2)))]] [] (Av.one (Sv.agg [Cv.raw (Value.bool (decide (Dy.m { m := (1 : Int), e := (2 : Int) } < (0 : Int)))), Cv.ent (nat (Int.natAbs (Dy.m { m := (1 : Int), e := (2 : Int) }))), Cv.raw (Value.int IntKind.i64 (Int.ofNat (nat_lit 2)))])),
    Tr.call 119 [Sv.agg [Cv.raw (Value.bool (decide (Dy.m { m := (1 : Int), e := (2 : Int) } < (0 : Int)))), Cv.ent (nat (Int.natAbs (Dy.m { m := (1 : Int), e := (2 : Int) }))), Cv.raw (Value.int IntKind.i64 (Int.ofNat (nat_lit 2)))], Sv.cel (Cv.raw (Value.int IntKind.i64 (Int.ofNat (nat_lit 4)))), Sv.cel (Cv.raw (Value.int IntKind.i64 (Int.ofNat (nat_lit 1))))] [] (Av.one (Sv.cel (Cv.raw (Value.bool true)))),
    Tr.call 60 [Sv.agg [Cv.raw (Value.bool (decide (Dy.m { m := (-1 : Int), e := (2 : Int) } < (0 : Int)))), Cv.ent (nat (Int.natAbs (Dy.m { m := (-1 : Int), e := (2 : Int) }))), Cv.raw (Value.int IntKind.i64 (Int.ofNat (nat_lit 2)))], Sv.agg [Cv.raw (Value.bool (decide (Dy.m { m := (3 : Int), e := (-1 : Int) } < (0 : Int)))), Cv.ent (nat (Int.natAbs (Dy.m { m := (3 : Int), e := (-1 : Int) }))), Cv.raw (Value.int IntKind.i64 (Int.negSucc (nat_lit 0)))]] [] (Av.one (Sv.cel (Cv.raw (Value.bool true)))),
    Tr.call 61 [Sv.agg [Cv.raw (Value.bool (decide (Dy.m { m := (3 : Int), e := (-1 : Int) } < (0 : Int)))), Cv.ent (nat (Int.natAbs (Dy.m { m := (3 : Int), e := (-1 : Int) }))), Cv.raw (Value.int IntKind.i64 (Int.negSucc (nat_lit 0)))], Sv.agg [Cv.raw (Value.bool (decide (Dy.m { m := (-1 : Int), e := (2 : Int) } < (0 : Int)))), Cv.ent (nat (Int.natAbs (Dy.m { m := (-1 : Int), e := (2 : Int) }))), Cv.raw (Value.int IntKind.i64 (Int.ofNat (nat_lit 2)))]] [] (Av.one (Sv.agg [Cv.raw (Value.bool (decide (Dy.m { m := (3 : Int), e := (-1 : Int) } < (0 : Int)))), Cv.ent (nat (Int.natAbs (Dy.m { m := (3 : Int), e := (-1 : Int) }))), Cv.raw (Value.int IntKind.i64 (Int.negSucc (nat_lit 0)))])),
    Tr.call 119 [Sv.agg [Cv.raw (Value.bool (decide (Dy.m { m := (3 : Int), e := (-1 : Int) } < (0 : Int)))), Cv.ent (nat (Int.natAbs (Dy.m { m := (3 : Int), e := (-1 : Int) }))), Cv.raw (Value.int IntKind.i64 (Int.negSucc (nat_lit 0)))], Sv.cel (Cv.raw (Value.int IntKind.i64 (Int.ofNat (nat_lit 3)))), Sv.cel (Cv.raw (Value.int IntKind.i64 (Int.ofNat (nat_lit 2))))] [] (Av.one (Sv.cel (Cv.raw (Value.bool true)))),
    Tr.call 62 [Sv.agg [Cv.raw (Value.bool (decide (Dy.m { m := (3 : Int), e := (-1 : Int) } < (0 : Int)))), Cv.ent (nat (Int.natAbs (Dy.m { m := (3 : Int), e := (-1 : Int) }))), Cv.raw (Value.int IntKind.i64 (Int.negSucc (nat_lit 0)))], Sv.agg [Cv.raw (Value.bool (decide (Dy.m { m := (-1 : Int), e := (2 : Int) } < (0 : Int)))), Cv.ent (nat (Int.natAbs (Dy.m { m := (-1 : Int), e := (2 : Int) }))), Cv.raw (Value.int IntKind.i64 (Int.ofNat (nat_lit 2)))]] [] (Av.one (Sv.agg [Cv.raw (Value.bool (decide (Dy.m { m := (-1 : Int), e := (2 : Int) } < (0 : Int)))), Cv.ent (nat (Int.natAbs (Dy.m { m := (-1 : Int), e := (2 : Int) }))), Cv.raw (Value.int IntKind.i64 (Int.ofNat (nat_lit 2)))])),
    Tr.call 119 [Sv.agg [Cv.raw (Value.bool (decide (Dy.m { m := (-1 : Int), e := (2 : Int) } < (0 : Int)))), Cv.ent (nat (Int.natAbs (Dy.m { m := (-1 : Int), e := (2 : Int) }))), Cv.raw (Value.int IntKind.i64 (Int.ofNat (nat_lit 2)))], Sv.cel (Cv.raw (Value.int IntKind.i64 (Int.negSucc (nat_lit 3)))), Sv.cel (Cv.raw (Value.int IntKind.i64 (Int.ofNat (nat_lit 1))))] [] (Av.one (Sv.cel (Cv.raw (Value.bool true)))),
    Tr.call 59 [Sv.agg [Cv.raw (Value.bool (decide (Dy.m { m := (3 : Int), e := (-1 : Int) } < (0 : Int)))), Cv.ent (nat (Int.natAbs (Dy.m { m := (3 : Int), e := (-1 : Int) }))), Cv.raw (Value.int IntKind.i64 (Int.negSucc (nat_lit 0)))], Sv.agg [Cv.raw (Value.bool (decide (Dy.m { m := (3 : Int), e := (-1 : Int) } < (0 : Int)))), Cv.ent (nat (Int.natAbs (Dy.m { m := (3 : Int), e := (-1 : Int) }))), Cv.raw (Value.int IntKind.i64 (Int.negSucc (nat_lit 0)))]] [] (Av.one (Sv.cel (Cv.raw (Value.int IntKind.i64 (Int.ofNat (nat_lit 0)))))),
    Tr.call 57 [Sv.agg [Cv.raw (Value.bool (decide (Dy.m { m := (3 : Int), e := (-1 : Int) } < (0 : Int)))), Cv.ent (nat (Int.natAbs (Dy.m { m := (3 : Int), e := (-1 : Int) }))), Cv.raw (Value.int IntKind.i64 (Int.negSucc (nat_lit 0)))]] [] (Av.one (Sv.cel (Cv.raw (Value.int IntKind.i64 (Int.ofNat (nat_lit 0)))))),
    Tr.call 57 [Sv.agg [Cv.raw (Value.bool false), Cv.raw (Value.slice none (nat_lit 0) (nat_lit 0)), Cv.raw (Value.int IntKind.i64 (Int.ofNat (nat_lit 1)))]] [] (Av.one (Sv.cel (Cv.raw (Value.int IntKind.i64 (Int.ofNat (nat_lit 2))))))] := ⟨
    ofL ⟨3, -1⟩ (by decide +kernel) (by decide +kernel) (by decide +kernel) (by decide +kernel) (by decide +kernel) (by decide +kernel),
    ofL ⟨-1, 2⟩ (by decide +kernel) (by decide +kernel) (by decide +kernel) (by decide +kernel) (by decide +kernel) (by decide +kernel),
    addL _ (by decide +kernel) (by decide +kernel) (by decide +kernel) (by decide +kernel),
    subL _ (by decide +kernel) (by decide +kernel) (by decide +kernel) (by decide +kernel),
    mulL _ (by decide +kernel) (by decide +kernel) (by decide +kernel) (by decide +kernel),
    ofL ⟨21, 0⟩ (by decide +kernel) (by decide +kernel) (by decide +kernel) (by decide +kernel) (by decide +kernel) (by decide +kernel),
    roundL (b := 3) rfl _ (by decide +kernel) (by decide +kernel) (by decide +kernel) (by decide +kernel) (by decide +kernel),
    ofL ⟨21, 0⟩ (by decide +kernel) (by decide +kernel) (by decide +kernel) (by decide +kernel) (by decide +kernel) (by decide +kernel),
    roundUL (b := 3) rfl _ (by decide +kernel) (by decide +kernel) (by decide +kernel) (by decide +kernel) (by decide +kernel),
    ofQ_lit (a := 1) (d := 3) _ (by decide +kernel) (by decide +kernel) (by decide +kernel) (by decide +kernel),
    nearL (b := 4) rfl _ (by decide +kernel) (by decide +kernel) (by decide +kernel) (nrL_is (c := ⟨5, -4⟩) 0 (by decide +kernel) (isTail_lit 1 (by decide +kernel)) (by decide +kernel) (by decide +kernel) (by decide +kernel)),
    ofQ_lit (a := 1) (d := 3) _ (by decide +kernel) (by decide +kernel) (by decide +kernel) (by decide +kernel),
    nearUL (b := 4) rfl _ (by decide +kernel) (by decide +kernel) (by decide +kernel) (nrL_is (c := ⟨-11, -5⟩) 0 (by decide +kernel) (isTail_lit 1 (by decide +kernel)) (by decide +kernel) (by decide +kernel) (by decide +kernel)),
    ratioL _ (by decide +kernel) (by decide +kernel),
    ofQ_lit (a := 1) (d := 3) _ (by decide +kernel) (by decide +kernel) (by decide +kernel) (by decide +kernel),
    cmpDQ_f (n := 4) (k := 4) (m := 4) (by decide +kernel) (by decide +kernel) (by decide +kernel) (by decide +kernel),
    ofI_f (by decide),
    makeL _ (lim_small1 (by decide +kernel)) (by decide +kernel) (by decide +kernel) (by decide +kernel) (by decide +kernel),
    roundBad_f (by decide),
    is_f (a := ⟨-5, -1⟩) (q := (-5 / 2 : Rat)) (n := Int.negSucc 4) (d := 2) (by decide +kernel) (by decide +kernel) (by decide +kernel) (by decide +kernel) (by decide +kernel) (by decide +kernel) (by decide +kernel),
    is_f (a := ⟨11, -1⟩) (q := (11 / 2 : Rat)) (n := 11) (d := 2) (by decide +kernel) (by decide +kernel) (by decide +kernel) (by decide +kernel) (by decide +kernel) (by decide +kernel) (by decide +kernel),
    is_f (a := ⟨-3, 1⟩) (q := (-6 / 1 : Rat)) (n := Int.negSucc 5) (d := 1) (by decide +kernel) (by decide +kernel) (by decide +kernel) (by decide +kernel) (by decide +kernel) (by decide +kernel) (by decide +kernel),
    is_f (a := ⟨5, 2⟩) (q := (20 / 1 : Rat)) (n := 20) (d := 1) (by decide +kernel) (by decide +kernel) (by decide +kernel) (by decide +kernel) (by decide +kernel) (by decide +kernel) (by decide +kernel),
    is_f (a := ⟨3, 3⟩) (q := (24 / 1 : Rat)) (n := 24) (d := 1) (by decide +kernel) (by decide +kernel) (by decide +kernel) (by decide +kernel) (by decide +kernel) (by decide +kernel) (by decide +kernel),
    is_f (a := ⟨5, -4⟩) (q := (5 / 16 : Rat)) (n := 5) (d := 16) (by decide +kernel) (by decide +kernel) (by decide +kernel) (by decide +kernel) (by decide +kernel) (by decide +kernel) (by decide +kernel),
    is_f (a := ⟨11, -5⟩) (q := (11 / 32 : Rat)) (n := 11) (d := 32) (by decide +kernel) (by decide +kernel) (by decide +kernel) (by decide +kernel) (by decide +kernel) (by decide +kernel) (by decide +kernel),
    text2_lit (z := 3) (d := 2) (s := ⟨#[51]⟩) (t := ⟨#[50]⟩) (u := ⟨#[51, 47, 50]⟩) (3 / 2 : Rat) (by decide +kernel) (by decide +kernel) (by decide +kernel) ⟨[51], by decide +kernel, rfl⟩ (by decide +kernel) (lim_small1 (by decide +kernel)) (small_lim (by decide +kernel)) (by decide +kernel),
    signD_f rfl,
    negD_f (a := ⟨-1, 2⟩),
    is_f (a := ⟨1, 2⟩) (q := (4 / 1 : Rat)) (n := 4) (d := 1) (by decide +kernel) (by decide +kernel) (by decide +kernel) (by decide +kernel) (by decide +kernel) (by decide +kernel) (by decide +kernel),
    absD_f (a := ⟨-1, 2⟩),
    is_f (a := ⟨1, 2⟩) (q := (4 / 1 : Rat)) (n := 4) (d := 1) (by decide +kernel) (by decide +kernel) (by decide +kernel) (by decide +kernel) (by decide +kernel) (by decide +kernel) (by decide +kernel),
    lessD_is (n := 4) (k := 4) (by decide +kernel) (by decide +kernel) (by decide +kernel) (by decide +kernel),
    maxLit (by decide +kernel) (by decide +kernel) (by decide +kernel),
    is_f (a := ⟨3, -1⟩) (q := (3 / 2 : Rat)) (n := 3) (d := 2) (by decide +kernel) (by decide +kernel) (by decide +kernel) (by decide +kernel) (by decide +kernel) (by decide +kernel) (by decide +kernel),
    minLit (by decide +kernel) (by decide +kernel) (by decide +kernel),
    is_f (a := ⟨-1, 2⟩) (q := (-4 / 1 : Rat)) (n := Int.negSucc 3) (d := 1) (by decide +kernel) (by decide +kernel) (by decide +kernel) (by decide +kernel) (by decide +kernel) (by decide +kernel) (by decide +kernel),
    compareD_is (n := 4) (k := 4) (by decide +kernel) (by decide +kernel) (by decide +kernel) (by decide +kernel),
    checkD_f (n := 4) (k := 4) (by decide +kernel) (by decide +kernel),
    checkDE1_f, trivial⟩
  exact fits_of_trace (n := 500) (k0 := 0) hT Tryz.func44 (by kernel_rfl) (by kernel_rfl) (by kernel_rfl)
end Go.Proofs.YtphpaejgcahgbaaGreatDoor
