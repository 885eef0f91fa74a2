
/- Ratios: what their functions do. -/
import Derived.Test.YtnncfbmddpijcaaGreatDoorFits
namespace Go.Proofs.YtnncfbmddpijcaaGreatDoor
open Go Go.RowKit Go.Shelf AM
set_option maxRecDepth 100000 in
theorem below_f {z : Int} {d : Nat} : FitsP 96 [rz z d] [] (.one (im (d : Int))) := by
  have hT : AllOk Tryz.prog Glob [] := trivial
  exact Fits.res (r := (.one (Sv.agg [Cv.raw (Value.bool false), Cv.ent (nat d)]))) (fits_of_trace (n := 300) (k0 := 0) hT Tryz.func96 (by kernel_rfl) (by kernel_rfl) (by kernel_rfl)) (Norm.of_eq (by rw [imNat]))

set_option maxRecDepth 100000 in
theorem copied_f {z : Int} : FitsP 78 [im z] [] (.one (im z)) := by
  have hT : AllOk Tryz.prog Glob [
    Tr.call 51 [natS (Int.natAbs z)] [] (Av.one (natS (Int.natAbs z)))] := ⟨
    clone_f, trivial⟩
  exact fits_of_trace (n := 300) (k0 := 0) hT Tryz.func78 (by kernel_rfl) (by kernel_rfl) (by kernel_rfl)

set_option maxRecDepth 100000 in
theorem zeroQ_f  : FitsP 10 [] [] (.one (rz 0 1)) := by
  have hT : AllOk Tryz.prog Glob [
    Tr.call 32 [Sv.cel (Cv.raw (Value.int IntKind.u64 (Int.ofNat (nat_lit 1))))] [] (Av.one (natS (1 : Nat)))] := ⟨
    of_f (x := 1) (by omega), trivial⟩
  exact Fits.res (r := (.one (Sv.agg [Cv.raw (Value.bool false), Cv.raw (Value.slice none (nat_lit 0) (nat_lit 0)), Cv.ent (nat (1 : Nat))]))) (fits_of_trace (n := 300) (k0 := 0) hT Tryz.func10 (by kernel_rfl) (by kernel_rfl) (by kernel_rfl)) (norm_zero)

set_option maxRecDepth 100000 in
theorem cross_f {z1 z2 : Int} {d1 d2 : Nat} (h1 : LimI (z1 * d2)) (h2 : LimI (z2 * d1)) : FitsP 74 [rz z1 d1, rz z2 d2] [] (.tup [im (z1 * d2), im (z2 * d1), ok0]) := by
  have hT : AllOk Tryz.prog Glob [
    Tr.call 96 [Sv.agg [Cv.raw (Value.bool (decide (z2 < (0 : Int)))), Cv.ent (nat (Int.natAbs z2)), Cv.ent (nat d2)]] [] (Av.one (Sv.agg [Cv.raw (Value.bool false), Cv.ent (nat (Int.natAbs (↑d2 : Int)))])),
    Tr.call 38 [im z1, Sv.agg [Cv.raw (Value.bool false), Cv.ent (nat (Int.natAbs (↑d2 : Int)))]] [] (Av.tup [Sv.agg [Cv.raw (Value.bool (decide (z1 * (↑d2 : Int) < (0 : Int)))), Cv.ent (nat (Int.natAbs (z1 * (↑d2 : Int))))], ok0]),
    Tr.call 96 [Sv.agg [Cv.raw (Value.bool (decide (z1 < (0 : Int)))), Cv.ent (nat (Int.natAbs z1)), Cv.ent (nat d1)]] [] (Av.one (Sv.agg [Cv.raw (Value.bool false), Cv.ent (nat (Int.natAbs (↑d1 : Int)))])),
    Tr.call 38 [im z2, Sv.agg [Cv.raw (Value.bool false), Cv.ent (nat (Int.natAbs (↑d1 : Int)))]] [] (Av.tup [Sv.agg [Cv.raw (Value.bool (decide (z2 * (↑d1 : Int) < (0 : Int)))), Cv.ent (nat (Int.natAbs (z2 * (↑d1 : Int))))], ok0])] := ⟨
    below_f,
    mulI_f h1,
    below_f,
    mulI_f h2, trivial⟩
  exact fits_of_trace (n := 300) (k0 := 0) hT Tryz.func74 (by kernel_rfl) (by kernel_rfl) (by kernel_rfl)

set_option maxRecDepth 100000 in
theorem low1_f {z : Int} {d : Nat} (h1 : LimI z) (h2 : d < Lim) (hg : Nat.gcd z.natAbs d = 1) : FitsP 59 [im z, natS d] [] (.tup [rz z d, ok0]) := by
  have hT : AllOk Tryz.prog Glob [
    Tr.call 31 [natS (Int.natAbs z), natS d] [] (Av.one (natS (Nat.gcd (Int.natAbs z) d))),
    Tr.call 30 [natS (Nat.gcd (Int.natAbs z) d)] [] (Av.one (boolS true)),
    Tr.call 78 [im z] [] (Av.one (im z)),
    Tr.call 51 [natS d] [] (Av.one (natS d))] := ⟨
    gcd_f h1 h2,
    isOne_is hg,
    copied_f,
    clone_f, trivial⟩
  exact fits_of_trace (n := 300) (k0 := 0) hT Tryz.func59 (by kernel_rfl) (by kernel_rfl) (by kernel_rfl)

set_option maxRecDepth 100000 in
theorem low2_f {z : Int} {d : Nat} (h1 : LimI z) (h2 : d < Lim) (h0 : 0 < d) (hg : Nat.gcd z.natAbs d ≠ 1) : FitsP 59 [im z, natS d] [] (.tup [rz (z / ((Nat.gcd z.natAbs d : Nat) : Int)) (d / Nat.gcd z.natAbs d), ok0]) := by
  have hT : AllOk Tryz.prog Glob [
    Tr.call 31 [natS (Int.natAbs z), natS d] [] (Av.one (natS (Nat.gcd (Int.natAbs z) d))),
    Tr.call 30 [natS (Nat.gcd (Int.natAbs z) d)] [] (Av.one (boolS false)),
    Tr.call 82 [natS (Nat.gcd (Int.natAbs z) d)] [] (Av.one (Sv.agg [Cv.raw (Value.bool false), Cv.ent (nat (Int.natAbs (↑(Nat.gcd (Int.natAbs z) d) : Int)))])),
    Tr.call 86 [im z, Sv.agg [Cv.raw (Value.bool false), Cv.ent (nat (Int.natAbs (↑(Nat.gcd (Int.natAbs z) d) : Int)))]] [] (Av.tup [Sv.agg [Cv.raw (Value.bool (decide (z / (↑(Nat.gcd (Int.natAbs z) d) : Int) < (0 : Int)))), Cv.ent (nat (Int.natAbs (z / (↑(Nat.gcd (Int.natAbs z) d) : Int))))], Sv.agg [Cv.raw (Value.bool (decide (z % (↑(Nat.gcd (Int.natAbs z) d) : Int) < (0 : Int)))), Cv.ent (nat (Int.natAbs (z % (↑(Nat.gcd (Int.natAbs z) d) : Int))))], ok0]),
    Tr.call 66 [natS d, natS (Nat.gcd (Int.natAbs z) d)] [] (Av.tup [natS (d / Nat.gcd (Int.natAbs z) d), natS (d % Nat.gcd (Int.natAbs z) d), ok0])] := ⟨
    gcd_f h1 h2,
    isOne_not hg,
    nat_f,
    divI_f h1 (gcd_lim h0 h2) (gcd_ne h0),
    div_f (gcd_pos h0) h2, trivial⟩
  exact fits_of_trace (n := 300) (k0 := 0) hT Tryz.func59 (by kernel_rfl) (by kernel_rfl) (by kernel_rfl)

theorem lowest_f {z : Int} {d : Nat} (h1 : LimI z) (h2 : d < Lim) (h0 : d ≠ 0) : FitsP 59 [im z, natS d] [] (.tup [rq (Rat.normalize z d h0), ok0]) := by
  by_cases hg : Nat.gcd z.natAbs d = 1
  · rw [← rz_norm1 h0 hg]; exact low1_f h1 h2 hg
  · rw [← rz_norm2 h0]; exact low2_f h1 h2 (Nat.pos_of_ne_zero h0) hg
theorem sign_pn {d : Nat} (h : 0 < d) : FitsP 27 [pn d] [] (.one (intS 1)) := by rw [← im_pn]; exact sign_lit (sign3_pos (by omega))
theorem sign_mn {d : Nat} (h : 0 < d) : FitsP 27 [mn d] [] (.one (intS (-1))) := by rw [← im_mn h]; exact sign_lit (sign3_neg (by omega))
theorem sign_p0 : FitsP 27 [pn 0] [] (.one (intS 0)) := by rw [← im_pn]; exact sign_lit rfl

set_option maxRecDepth 100000 in
theorem make1_f {z : Int} {d : Nat} (h1 : LimI z) (h2 : d < Lim) (h0 : d ≠ 0) : FitsP 23 [im z, pn d] [] (.tup [rq (Rat.normalize z d h0), ok0]) := by
  have hT : AllOk Tryz.prog Glob [
    Tr.call 27 [Sv.agg [Cv.raw (Value.bool false), Cv.ent (nat d)]] [] (Av.one (intS (Int.ofNat (nat_lit 1)))),
    Tr.call 59 [im z, natS d] [] (Av.tup [rq (Rat.normalize z d h0), ok0])] := ⟨
    sign_pn (Nat.pos_of_ne_zero h0),
    lowest_f h1 h2 h0, trivial⟩
  exact fits_of_trace (n := 300) (k0 := 0) hT Tryz.func23 (by kernel_rfl) (by kernel_rfl) (by kernel_rfl)

set_option maxRecDepth 100000 in
theorem make2_f {z : Int} {d : Nat} (h1 : LimI z) (h2 : d < Lim) (h0 : d ≠ 0) : FitsP 23 [im z, mn d] [] (.tup [rq (Rat.normalize (-z) d h0), ok0]) := by
  have hT : AllOk Tryz.prog Glob [
    Tr.call 27 [Sv.agg [Cv.raw (Value.bool true), Cv.ent (nat d)]] [] (Av.one (intS (Int.negSucc (nat_lit 0)))),
    Tr.call 58 [im z] [] (Av.one (Sv.agg [Cv.raw (Value.bool (decide (-z < (0 : Int)))), Cv.ent (nat (Int.natAbs (-z)))])),
    Tr.call 59 [Sv.agg [Cv.raw (Value.bool (decide (-z < (0 : Int)))), Cv.ent (nat (Int.natAbs (-z)))], natS d] [] (Av.tup [rq (Rat.normalize (-z) d h0), ok0])] := ⟨
    sign_mn (Nat.pos_of_ne_zero h0),
    negI_f,
    lowest_f (by unfold LimI; rw [Int.natAbs_neg]; exact h1) h2 h0, trivial⟩
  exact fits_of_trace (n := 300) (k0 := 0) hT Tryz.func23 (by kernel_rfl) (by kernel_rfl) (by kernel_rfl)

set_option maxRecDepth 100000 in
theorem make0_f {z : Int} : FitsP 23 [im z, pn 0] [] (.tup [rz 0 1, intS 10]) := by
  have hT : AllOk Tryz.prog Glob [
    Tr.call 27 [Sv.agg [Cv.raw (Value.bool false), Cv.ent (nat (0 : Nat))]] [] (Av.one (ok0)),
    Tr.call 10 [] [] (Av.one (Sv.agg [Cv.raw (Value.bool false), Cv.ent (nat (Int.natAbs (0 : Int))), Cv.ent (nat (1 : Nat))]))] := ⟨
    sign_p0,
    zeroQ_f, trivial⟩
  exact fits_of_trace (n := 300) (k0 := 0) hT Tryz.func23 (by kernel_rfl) (by kernel_rfl) (by kernel_rfl)

theorem make_f {z e : Int} (h1 : LimI z) (h2 : LimI e) (h0 : e ≠ 0) : FitsP 23 [im z, im e] [] (.tup [rq (Rat.divInt z e), ok0]) := by
  rcases Int.lt_or_lt_of_ne h0 with h | h
  · obtain ⟨d, rfl⟩ : ∃ d : Nat, e = -((d : Nat) : Int) := ⟨e.natAbs, by omega⟩
    have hd : d ≠ 0 := by omega
    rw [im_mn (Nat.pos_of_ne_zero hd), show Rat.divInt z (-(d : Int)) = Rat.normalize (-z) d hd by rw [← Rat.neg_divInt_neg, Int.neg_neg]; exact divInt_norm hd]
    exact make2_f h1 (by unfold LimI at h2; simpa using h2) hd
  · obtain ⟨d, rfl⟩ : ∃ d : Nat, e = ((d : Nat) : Int) := ⟨e.natAbs, by omega⟩
    have hd : d ≠ 0 := by omega
    rw [im_pn, divInt_norm hd]
    exact make1_f h1 (by unfold LimI at h2; simpa using h2) hd

set_option maxRecDepth 100000 in
theorem ofQ_f {n : Int} {d : Nat} (h1 : inI64 n) (h2 : inI64 (d : Int)) (h0 : d ≠ 0) : FitsP 5 [intS n, intS (d : Int)] [] (.one (rq (Rat.normalize n d h0))) := by
  have hT : AllOk Tryz.prog Glob [
    Tr.call 24 [intS n] [] (Av.one (im n)),
    Tr.call 24 [intS (Int.ofNat d)] [] (Av.one (Sv.agg [Cv.raw (Value.bool false), Cv.ent (nat d)])),
    Tr.call 23 [im n, Sv.agg [Cv.raw (Value.bool false), Cv.ent (nat d)]] [] (Av.tup [rq (Rat.normalize n d h0), ok0])] := ⟨
    ofI_f h1,
    ofI_pn h2,
    make1_f (inI_lim h1) (inI_limN h2) h0, trivial⟩
  exact fits_of_trace (n := 300) (k0 := 0) hT Tryz.func5 (by kernel_rfl) (by kernel_rfl) (by kernel_rfl)

set_option maxRecDepth 100000 in
theorem wholeQ_f {z : Int} : FitsP 45 [im z] [] (.one (rz z 1)) := by
  have hT : AllOk Tryz.prog Glob [
    Tr.call 78 [im z] [] (Av.one (im z)),
    Tr.call 32 [Sv.cel (Cv.raw (Value.int IntKind.u64 (Int.ofNat (nat_lit 1))))] [] (Av.one (natS (1 : Nat)))] := ⟨
    copied_f,
    of_f (x := 1) (by omega), trivial⟩
  exact fits_of_trace (n := 300) (k0 := 0) hT Tryz.func45 (by kernel_rfl) (by kernel_rfl) (by kernel_rfl)

set_option maxRecDepth 100000 in
theorem signQ_f {q : Rat} : FitsP 53 [rq q] [] (.one (intS (ordQ q 0))) := by
  have hT : AllOk Tryz.prog Glob [
    Tr.call 27 [Sv.agg [Cv.raw (Value.bool (decide (Rat.num q < (0 : Int)))), Cv.ent (nat (Int.natAbs (Rat.num q)))]] [] (Av.one (intS (ordQ q (0 : Rat))))] := ⟨
    sign_lit (sign3_num q), trivial⟩
  exact fits_of_trace (n := 300) (k0 := 0) hT Tryz.func53 (by kernel_rfl) (by kernel_rfl) (by kernel_rfl)

theorem signQ_is {q : Rat} {k : Int} (h : ordQ q 0 = k) : FitsP 53 [rq q] [] (.one (intS k)) := by subst h; exact signQ_f

set_option maxRecDepth 100000 in
theorem negZ_f {z : Int} {d : Nat} : FitsP 55 [rz z d] [] (.one (rz (-z) d)) := by
  have hT : AllOk Tryz.prog Glob [
    Tr.call 58 [im z] [] (Av.one (Sv.agg [Cv.raw (Value.bool (decide (-z < (0 : Int)))), Cv.ent (nat (Int.natAbs (-z)))])),
    Tr.call 51 [natS d] [] (Av.one (natS d))] := ⟨
    negI_f,
    clone_f, trivial⟩
  exact fits_of_trace (n := 300) (k0 := 0) hT Tryz.func55 (by kernel_rfl) (by kernel_rfl) (by kernel_rfl)

set_option maxRecDepth 100000 in
theorem absZ_f {z : Int} {d : Nat} : FitsP 21 [rz z d] [] (.one (rz (z.natAbs : Int) d)) := by
  have hT : AllOk Tryz.prog Glob [
    Tr.call 50 [im z] [] (Av.one (Sv.agg [Cv.raw (Value.bool false), Cv.ent (nat (Int.natAbs (↑(Int.natAbs z) : Int)))])),
    Tr.call 51 [natS d] [] (Av.one (natS d))] := ⟨
    absI_f,
    clone_f, trivial⟩
  exact fits_of_trace (n := 300) (k0 := 0) hT Tryz.func21 (by kernel_rfl) (by kernel_rfl) (by kernel_rfl)

set_option maxRecDepth 100000 in
theorem cmpQ_f {p q : Rat} (h1 : LimI (p.num * (q.den : Int))) (h2 : LimI (q.num * (p.den : Int))) : FitsP 49 [rq p, rq q] [] (.tup [intS (ordQ p q), ok0]) := by
  have hT : AllOk Tryz.prog Glob [
    Tr.call 74 [rq p, rq q] [] (Av.tup [Sv.agg [Cv.raw (Value.bool (decide (Rat.num p * (↑(Rat.den q) : Int) < (0 : Int)))), Cv.ent (nat (Int.natAbs (Rat.num p * (↑(Rat.den q) : Int))))], Sv.agg [Cv.raw (Value.bool (decide (Rat.num q * (↑(Rat.den p) : Int) < (0 : Int)))), Cv.ent (nat (Int.natAbs (Rat.num q * (↑(Rat.den p) : Int))))], ok0]),
    Tr.call 81 [Sv.agg [Cv.raw (Value.bool (decide (Rat.num p * (↑(Rat.den q) : Int) < (0 : Int)))), Cv.ent (nat (Int.natAbs (Rat.num p * (↑(Rat.den q) : Int))))], Sv.agg [Cv.raw (Value.bool (decide (Rat.num q * (↑(Rat.den p) : Int) < (0 : Int)))), Cv.ent (nat (Int.natAbs (Rat.num q * (↑(Rat.den p) : Int))))]] [] (Av.one (intS (ordQ p q)))] := ⟨
    cross_f h1 h2,
    by rw [← ordQ_cross]; exact cmpI_f, trivial⟩
  exact fits_of_trace (n := 300) (k0 := 0) hT Tryz.func49 (by kernel_rfl) (by kernel_rfl) (by kernel_rfl)

set_option maxRecDepth 100000 in
theorem joinedAdd_f {p q : Rat} (h1 : LimI (p.num * (q.den : Int))) (h2 : LimI (q.num * (p.den : Int))) (h3 : LimI ((p.num * (q.den : Int)) + (q.num * (p.den : Int)))) (h4 : p.den * q.den < Lim) : FitsP 40 [rq p, rq q, rawS (.func (.func 41) #[] #[])] [] (.tup [rq (Rat.normalize ((p.num * (q.den : Int)) + (q.num * (p.den : Int))) (p.den * q.den) (dens_ne p q)), ok0]) := by
  have hT : AllOk Tryz.prog Glob [
    Tr.call 74 [rq p, rq q] [] (Av.tup [Sv.agg [Cv.raw (Value.bool (decide (Rat.num p * (↑(Rat.den q) : Int) < (0 : Int)))), Cv.ent (nat (Int.natAbs (Rat.num p * (↑(Rat.den q) : Int))))], Sv.agg [Cv.raw (Value.bool (decide (Rat.num q * (↑(Rat.den p) : Int) < (0 : Int)))), Cv.ent (nat (Int.natAbs (Rat.num q * (↑(Rat.den p) : Int))))], ok0]),
    Tr.call 41 [Sv.agg [Cv.raw (Value.bool (decide (Rat.num p * (↑(Rat.den q) : Int) < (0 : Int)))), Cv.ent (nat (Int.natAbs (Rat.num p * (↑(Rat.den q) : Int))))], Sv.agg [Cv.raw (Value.bool (decide (Rat.num q * (↑(Rat.den p) : Int) < (0 : Int)))), Cv.ent (nat (Int.natAbs (Rat.num q * (↑(Rat.den p) : Int))))]] [] (Av.tup [Sv.agg [Cv.raw (Value.bool (decide (Rat.num p * (↑(Rat.den q) : Int) + Rat.num q * (↑(Rat.den p) : Int) < (0 : Int)))), Cv.ent (nat (Int.natAbs (Rat.num p * (↑(Rat.den q) : Int) + Rat.num q * (↑(Rat.den p) : Int))))], ok0]),
    Tr.call 39 [natS (Rat.den p), natS (Rat.den q)] [] (Av.tup [natS (Rat.den p * Rat.den q), ok0]),
    Tr.call 23 [Sv.agg [Cv.raw (Value.bool (decide (Rat.num p * (↑(Rat.den q) : Int) + Rat.num q * (↑(Rat.den p) : Int) < (0 : Int)))), Cv.ent (nat (Int.natAbs (Rat.num p * (↑(Rat.den q) : Int) + Rat.num q * (↑(Rat.den p) : Int))))], Sv.agg [Cv.raw (Value.bool false), Cv.ent (nat (Rat.den p * Rat.den q))]] [] (Av.tup [Sv.agg [Cv.raw (Value.bool (decide (Rat.num (Rat.normalize (Rat.num p * (↑(Rat.den q) : Int) + Rat.num q * (↑(Rat.den p) : Int)) (Rat.den p * Rat.den q) (dens_ne p q)) < (0 : Int)))), Cv.ent (nat (Int.natAbs (Rat.num (Rat.normalize (Rat.num p * (↑(Rat.den q) : Int) + Rat.num q * (↑(Rat.den p) : Int)) (Rat.den p * Rat.den q) (dens_ne p q))))), Cv.ent (nat (Rat.den (Rat.normalize (Rat.num p * (↑(Rat.den q) : Int) + Rat.num q * (↑(Rat.den p) : Int)) (Rat.den p * Rat.den q) (dens_ne p q))))], ok0])] := ⟨
    cross_f h1 h2,
    addI_f h1 h2 h3,
    mul_f h4,
    make1_f h3 h4 (dens_ne p q), trivial⟩
  exact fits_of_trace (n := 300) (k0 := 0) hT Tryz.func40 (by kernel_rfl) (by kernel_rfl) (by kernel_rfl)

set_option maxRecDepth 100000 in
theorem addQ0_f {p q : Rat} (h1 : LimI (p.num * (q.den : Int))) (h2 : LimI (q.num * (p.den : Int))) (h3 : LimI ((p.num * (q.den : Int)) + (q.num * (p.den : Int)))) (h4 : p.den * q.den < Lim) : FitsP 14 [rq p, rq q] [] (.tup [rq (p + q), ok0]) := by
  have hT : AllOk Tryz.prog Glob [
    Tr.call 40 [rq p, rq q, Sv.cel (Cv.raw (Value.func (Fn.func 41) #[] #[]))] [] (Av.tup [rq (p + q), ok0])] := ⟨
    by rw [Rat.add_def]; exact joinedAdd_f h1 h2 h3 h4, trivial⟩
  exact fits_of_trace (n := 300) (k0 := 0) hT Tryz.func14 (by kernel_rfl) (by kernel_rfl) (by kernel_rfl)

set_option maxRecDepth 100000 in
theorem joinedSub_f {p q : Rat} (h1 : LimI (p.num * (q.den : Int))) (h2 : LimI (q.num * (p.den : Int))) (h3 : LimI ((p.num * (q.den : Int)) - (q.num * (p.den : Int)))) (h4 : p.den * q.den < Lim) : FitsP 40 [rq p, rq q, rawS (.func (.func 48) #[] #[])] [] (.tup [rq (Rat.normalize ((p.num * (q.den : Int)) - (q.num * (p.den : Int))) (p.den * q.den) (dens_ne p q)), ok0]) := by
  have hT : AllOk Tryz.prog Glob [
    Tr.call 74 [rq p, rq q] [] (Av.tup [Sv.agg [Cv.raw (Value.bool (decide (Rat.num p * (↑(Rat.den q) : Int) < (0 : Int)))), Cv.ent (nat (Int.natAbs (Rat.num p * (↑(Rat.den q) : Int))))], Sv.agg [Cv.raw (Value.bool (decide (Rat.num q * (↑(Rat.den p) : Int) < (0 : Int)))), Cv.ent (nat (Int.natAbs (Rat.num q * (↑(Rat.den p) : Int))))], ok0]),
    Tr.call 48 [Sv.agg [Cv.raw (Value.bool (decide (Rat.num p * (↑(Rat.den q) : Int) < (0 : Int)))), Cv.ent (nat (Int.natAbs (Rat.num p * (↑(Rat.den q) : Int))))], Sv.agg [Cv.raw (Value.bool (decide (Rat.num q * (↑(Rat.den p) : Int) < (0 : Int)))), Cv.ent (nat (Int.natAbs (Rat.num q * (↑(Rat.den p) : Int))))]] [] (Av.tup [Sv.agg [Cv.raw (Value.bool (decide (Rat.num p * (↑(Rat.den q) : Int) - Rat.num q * (↑(Rat.den p) : Int) < (0 : Int)))), Cv.ent (nat (Int.natAbs (Rat.num p * (↑(Rat.den q) : Int) - Rat.num q * (↑(Rat.den p) : Int))))], ok0]),
    Tr.call 39 [natS (Rat.den p), natS (Rat.den q)] [] (Av.tup [natS (Rat.den p * Rat.den q), ok0]),
    Tr.call 23 [Sv.agg [Cv.raw (Value.bool (decide (Rat.num p * (↑(Rat.den q) : Int) - Rat.num q * (↑(Rat.den p) : Int) < (0 : Int)))), Cv.ent (nat (Int.natAbs (Rat.num p * (↑(Rat.den q) : Int) - Rat.num q * (↑(Rat.den p) : Int))))], Sv.agg [Cv.raw (Value.bool false), Cv.ent (nat (Rat.den p * Rat.den q))]] [] (Av.tup [Sv.agg [Cv.raw (Value.bool (decide (Rat.num (Rat.normalize (Rat.num p * (↑(Rat.den q) : Int) - Rat.num q * (↑(Rat.den p) : Int)) (Rat.den p * Rat.den q) (dens_ne p q)) < (0 : Int)))), Cv.ent (nat (Int.natAbs (Rat.num (Rat.normalize (Rat.num p * (↑(Rat.den q) : Int) - Rat.num q * (↑(Rat.den p) : Int)) (Rat.den p * Rat.den q) (dens_ne p q))))), Cv.ent (nat (Rat.den (Rat.normalize (Rat.num p * (↑(Rat.den q) : Int) - Rat.num q * (↑(Rat.den p) : Int)) (Rat.den p * Rat.den q) (dens_ne p q))))], ok0])] := ⟨
    cross_f h1 h2,
    subI_f h1 h2 h3,
    mul_f h4,
    make1_f h3 h4 (dens_ne p q), trivial⟩
  exact fits_of_trace (n := 300) (k0 := 0) hT Tryz.func40 (by kernel_rfl) (by kernel_rfl) (by kernel_rfl)

set_option maxRecDepth 100000 in
theorem subQ0_f {p q : Rat} (h1 : LimI (p.num * (q.den : Int))) (h2 : LimI (q.num * (p.den : Int))) (h3 : LimI ((p.num * (q.den : Int)) - (q.num * (p.den : Int)))) (h4 : p.den * q.den < Lim) : FitsP 19 [rq p, rq q] [] (.tup [rq (p - q), ok0]) := by
  have hT : AllOk Tryz.prog Glob [
    Tr.call 40 [rq p, rq q, Sv.cel (Cv.raw (Value.func (Fn.func 48) #[] #[]))] [] (Av.tup [rq (p - q), ok0])] := ⟨
    by rw [Rat.sub_def]; exact joinedSub_f h1 h2 h3 h4, trivial⟩
  exact fits_of_trace (n := 300) (k0 := 0) hT Tryz.func19 (by kernel_rfl) (by kernel_rfl) (by kernel_rfl)

set_option maxRecDepth 100000 in
theorem mulQ0_f {p q : Rat} (h3 : LimI (p.num * q.num)) (h4 : p.den * q.den < Lim) : FitsP 13 [rq p, rq q] [] (.tup [rq (p * q), ok0]) := by
  have hT : AllOk Tryz.prog Glob [
    Tr.call 38 [Sv.agg [Cv.raw (Value.bool (decide (Rat.num p < (0 : Int)))), Cv.ent (nat (Int.natAbs (Rat.num p)))], Sv.agg [Cv.raw (Value.bool (decide (Rat.num q < (0 : Int)))), Cv.ent (nat (Int.natAbs (Rat.num q)))]] [] (Av.tup [Sv.agg [Cv.raw (Value.bool (decide (Rat.num p * Rat.num q < (0 : Int)))), Cv.ent (nat (Int.natAbs (Rat.num p * Rat.num q)))], ok0]),
    Tr.call 39 [natS (Rat.den p), natS (Rat.den q)] [] (Av.tup [natS (Rat.den p * Rat.den q), ok0]),
    Tr.call 23 [Sv.agg [Cv.raw (Value.bool (decide (Rat.num p * Rat.num q < (0 : Int)))), Cv.ent (nat (Int.natAbs (Rat.num p * Rat.num q)))], Sv.agg [Cv.raw (Value.bool false), Cv.ent (nat (Rat.den p * Rat.den q))]] [] (Av.tup [rq (p * q), ok0])] := ⟨
    mulI_f h3,
    mul_f h4,
    by rw [Rat.mul_def]; exact make1_f h3 h4 (dens_ne p q), trivial⟩
  exact fits_of_trace (n := 300) (k0 := 0) hT Tryz.func13 (by kernel_rfl) (by kernel_rfl) (by kernel_rfl)

theorem den_len (q : Rat) : (((lenN q.den : Nat) : Int) == 0) = false := by
  rw [beq_eq_false_iff_ne]
  have := (lenN_zero (x := q.den)).1
  have := q.den_nz
  omega

set_option maxRecDepth 100000 in
theorem checkQ_f {q : Rat} (h1 : LimI q.num) (h2 : q.den < Lim) : FitsP 9 [rq q] [] (.one ok0) := by
  have hT : AllOk Tryz.prog Glob [
    Tr.call 28 [Sv.agg [Cv.raw (Value.bool (decide (Rat.num q < (0 : Int)))), Cv.ent (nat (Int.natAbs (Rat.num q)))]] [] (Av.one (ok0)),
    Tr.call 29 [natS (Rat.den q)] [] (Av.one (ok0)),
    Tr.call 31 [natS (Int.natAbs (Rat.num q)), natS (Rat.den q)] [] (Av.one (natS (1 : Nat))),
    Tr.call 30 [natS (1 : Nat)] [] (Av.one (boolS true)),
    Tr.norm 26 (Av.one (Sv.cel (Cv.raw (Value.bool ((↑(lenN (Rat.den q)) : Int) == (0 : Int)))))) (Av.one (boolS false))] := ⟨
    checkI_f h1,
    check_f h2,
    by rw [← q.reduced]; exact gcd_f h1 h2,
    isOne_is rfl,
    norm_bool (den_len q), trivial⟩
  exact fits_of_trace (n := 300) (k0 := 0) hT Tryz.func9 (by kernel_rfl) (by kernel_rfl) (by kernel_rfl)

end Go.Proofs.YtnncfbmddpijcaaGreatDoor
