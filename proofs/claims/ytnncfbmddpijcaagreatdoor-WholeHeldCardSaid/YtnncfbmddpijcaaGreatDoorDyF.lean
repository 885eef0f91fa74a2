
/- Dyads: what their functions do. -/
import Derived.Test.YtnncfbmddpijcaaGreatDoorDyM
import Derived.Test.YtnncfbmddpijcaaGreatDoorRatFit
namespace Go.Proofs.YtnncfbmddpijcaaGreatDoor
open Go Go.RowKit Go.Shelf AM
/-- An odd number times a power of two, in memory. -/
def dS (d : Dy) : Sv := .agg [.raw (.bool (decide (d.m < 0))), .ent (nat d.m.natAbs), .raw (.int .i64 d.e)]
def dSz (z x : Int) : Sv := .agg [.raw (.bool (decide (z < 0))), .ent (nat z.natAbs), .raw (.int .i64 x)]
def dN : Sv := .agg [.raw (.bool false), .raw (.slice none 0 0), .raw (.int .i64 0)]
def fnI (f : FuncId) : Sv := rawS (.func (.func f) #[] #[])

theorem w64s {z : Int} (h1 : -1000000000 ≤ z) (h2 : z ≤ 1000000000) : IntKind.i64.wrap z = z := by rw [wrap_i64]; split <;> omega
theorem norm_dN {β : Nat → Option Nat} {W : World} {v : Value} (h : RelS β W v dN) : RelS β W v (dS ⟨0, 0⟩) := by
  obtain ⟨vs, rfl, hh⟩ := h
  match vs, hh with
  | [a, b, c], ⟨h1, h2, h3, _⟩ => exact ⟨[a, b, c], rfl, h1, norm_nil h2, h3, trivial⟩
theorem norm_dN1 : Norm (.one dN) (.one (dS ⟨0, 0⟩)) := fun _ _ _ h => norm_dN h
theorem norm_dN2 {s : Sv} : Norm (.tup [dN, s]) (.tup [dS ⟨0, 0⟩, s]) := fun β W v h => by
  obtain ⟨vs, rfl, hh⟩ := h
  match vs, hh with
  | [a, b], ⟨h1, h2, _⟩ => exact ⟨[a, b], rfl, norm_dN h1, h2, trivial⟩
theorem dSz_eq {z x x' : Int} (h : x = x') : dSz z x = dS ⟨z, x'⟩ := by subst h; rfl
theorem prim_max {P : Program} {ats : Array TypeId} {ty : TypeId} {x y : Operand} {a b c : Int} (h : max a b = c) : PrimOk P (.call ⟨.builtin .max, #[x, y], ats⟩) ty [.int .i64 a, .int .i64 b] (.int .i64 c) := by
  intro ρ w he
  have he : [ρ x, ρ y] = [Value.int .i64 a, Value.int .i64 b] := by simpa [Op.operands, Call.operands] using he
  injection he with h1 he
  injection he with h2 he
  have e : (if a < b then b else a) = c := by rw [← h]; split <;> omega
  simp [execOp, resolve, invoke, builtin, h1, h2, Builtin.max_, Builtin.max2, e]
theorem prim_min {P : Program} {ats : Array TypeId} {ty : TypeId} {x y : Operand} {a b c : Int} (h : min a b = c) : PrimOk P (.call ⟨.builtin .min, #[x, y], ats⟩) ty [.int .i64 a, .int .i64 b] (.int .i64 c) := by
  intro ρ w he
  have he : [ρ x, ρ y] = [Value.int .i64 a, Value.int .i64 b] := by simpa [Op.operands, Call.operands] using he
  injection he with h1 he
  injection he with h2 he
  have e : (if b < a then b else a) = c := by rw [← h]; split <;> omega
  simp [execOp, resolve, invoke, builtin, h1, h2, Builtin.min_, Builtin.min2, e]
theorem tail_f {x t : Nat} (h : IsTail t x) : FitsP 62 [natS x] [] (.one (intS (t : Int))) := fits_N_raw ⟨_, Tryz.func62, by kernel_rfl, by kernel_rfl⟩ _ fun w a hG ha => (tail_nm hG.1 ha).mono fun _ _ ⟨n, he, hn, hw⟩ => ⟨by rw [he, hn.eq h], by subst hw; exact Below.refl _ _⟩
theorem tail_is {x t : Nat} {k : Int} (h : IsTail t x) (hk : (t : Int) = k) : FitsP 62 [natS x] [] (.one (intS k)) := by subst hk; exact tail_f h
theorem bits_is {x : Nat} {k : Int} (hk : (bt x : Int) = k) : FitsP 65 [natS x] [] (.one (intS k)) := by subst hk; exact bits_f (bt_is x)
theorem leftW_f {z k : Int} {j : Nat} (hk : k = (j : Int)) (h1 : j ≤ 9223372036854775807) (h : LimI (z * 2 ^ j)) : FitsP 44 [im z, intS k] [] (.tup [im (z * 2 ^ j), ok0]) := by subst hk; exact leftI_f h1 h
theorem rightW_f {z k : Int} {j : Nat} (hk : k = (j : Int)) (h1 : j ≤ 9223372036854775807) (h : LimI z) : FitsP 64 [im z, intS k] [] (.tup [im (z / 2 ^ j), ok0]) := by subst hk; exact rightI_f h1 h
theorem leftN_f {x : Nat} {k : Int} {j : Nat} (hk : k = (j : Int)) (h1 : j ≤ 9223372036854775807) (h : x * 2 ^ j < Lim) : FitsP 46 [natS x, intS k] [] (.tup [natS (x * 2 ^ j), ok0]) := by subst hk; exact left_f h1 h

set_option maxRecDepth 100000 in
theorem mayExp_yes {x : Int} (h1 : -65536 ≤ x) (h2 : x ≤ 65536) : FitsP 63 [intS x] [] (.one (boolS true)) := by
  have hT : AllOk Tryz.prog Glob [
    Tr.norm 3 (Av.one (Sv.cel (Cv.raw (Value.bool (decide (x ≥ (-65536 : Int))))))) (Av.one (boolS true))] := ⟨
    norm_bool (decide_eq_true h1), trivial⟩
  exact Fits.res (r := (.one (Sv.cel (Cv.raw (Value.bool (decide (x ≤ (65536 : Int)))))))) (fits_of_trace (n := 300) (k0 := 0) hT Tryz.func63 (by kernel_rfl) (by kernel_rfl) (by kernel_rfl)) (norm_bool (decide_eq_true h2))

set_option maxRecDepth 100000 in
theorem mayExp_no1 {x : Int} (h1 : ¬ -65536 ≤ x) : FitsP 63 [intS x] [] (.one (boolS false)) := by
  have hT : AllOk Tryz.prog Glob [
    Tr.norm 3 (Av.one (Sv.cel (Cv.raw (Value.bool (decide (x ≥ (-65536 : Int))))))) (Av.one (boolS false))] := ⟨
    norm_bool (decide_eq_false h1), trivial⟩
  exact fits_of_trace (n := 300) (k0 := 0) hT Tryz.func63 (by kernel_rfl) (by kernel_rfl) (by kernel_rfl)

set_option maxRecDepth 100000 in
theorem mayExp_no2 {x : Int} (h1 : -65536 ≤ x) (h2 : ¬ x ≤ 65536) : FitsP 63 [intS x] [] (.one (boolS false)) := by
  have hT : AllOk Tryz.prog Glob [
    Tr.norm 3 (Av.one (Sv.cel (Cv.raw (Value.bool (decide (x ≥ (-65536 : Int))))))) (Av.one (boolS true))] := ⟨
    norm_bool (decide_eq_true h1), trivial⟩
  exact Fits.res (r := (.one (Sv.cel (Cv.raw (Value.bool (decide (x ≤ (65536 : Int)))))))) (fits_of_trace (n := 300) (k0 := 0) hT Tryz.func63 (by kernel_rfl) (by kernel_rfl) (by kernel_rfl)) (norm_bool (decide_eq_false h2))

theorem mayExp_no {x : Int} (h : ¬ (-65536 ≤ x ∧ x ≤ 65536)) : FitsP 63 [intS x] [] (.one (boolS false)) := by
  by_cases h1 : -65536 ≤ x
  · exact mayExp_no2 h1 fun h2 => h ⟨h1, h2⟩
  · exact mayExp_no1 h1
theorem mayBits_in {x : Int} : (2 ≤ x ∧ x ≤ 4096) ∨ ¬ (2 ≤ x ∧ x ≤ 4096) := Decidable.em _

set_option maxRecDepth 100000 in
theorem mayBits_yes {x : Int} (h1 : 2 ≤ x) (h2 : x ≤ 4096) : FitsP 52 [intS x] [] (.one (boolS true)) := by
  have hT : AllOk Tryz.prog Glob [
    Tr.norm 3 (Av.one (Sv.cel (Cv.raw (Value.bool (decide (x ≥ (2 : Int))))))) (Av.one (boolS true))] := ⟨
    norm_bool (decide_eq_true h1), trivial⟩
  exact Fits.res (r := (.one (Sv.cel (Cv.raw (Value.bool (decide (x ≤ (4096 : Int)))))))) (fits_of_trace (n := 300) (k0 := 0) hT Tryz.func52 (by kernel_rfl) (by kernel_rfl) (by kernel_rfl)) (norm_bool (decide_eq_true h2))

set_option maxRecDepth 100000 in
theorem mayBits_no1 {x : Int} (h1 : ¬ 2 ≤ x) : FitsP 52 [intS x] [] (.one (boolS false)) := by
  have hT : AllOk Tryz.prog Glob [
    Tr.norm 3 (Av.one (Sv.cel (Cv.raw (Value.bool (decide (x ≥ (2 : Int))))))) (Av.one (boolS false))] := ⟨
    norm_bool (decide_eq_false h1), trivial⟩
  exact fits_of_trace (n := 300) (k0 := 0) hT Tryz.func52 (by kernel_rfl) (by kernel_rfl) (by kernel_rfl)

set_option maxRecDepth 100000 in
theorem mayBits_no2 {x : Int} (h1 : 2 ≤ x) (h2 : ¬ x ≤ 4096) : FitsP 52 [intS x] [] (.one (boolS false)) := by
  have hT : AllOk Tryz.prog Glob [
    Tr.norm 3 (Av.one (Sv.cel (Cv.raw (Value.bool (decide (x ≥ (2 : Int))))))) (Av.one (boolS true))] := ⟨
    norm_bool (decide_eq_true h1), trivial⟩
  exact Fits.res (r := (.one (Sv.cel (Cv.raw (Value.bool (decide (x ≤ (4096 : Int)))))))) (fits_of_trace (n := 300) (k0 := 0) hT Tryz.func52 (by kernel_rfl) (by kernel_rfl) (by kernel_rfl)) (norm_bool (decide_eq_false h2))

theorem mayBits_no {x : Int} (h : ¬ (2 ≤ x ∧ x ≤ 4096)) : FitsP 52 [intS x] [] (.one (boolS false)) := by
  by_cases h1 : 2 ≤ x
  · exact mayBits_no2 h1 fun h2 => h ⟨h1, h2⟩
  · exact mayBits_no1 h1

set_option maxRecDepth 100000 in
theorem make0D_f {x : Int} : FitsP 26 [im 0, intS x] [] (.tup [dS ⟨0, 0⟩, ok0]) := by
  have hT : AllOk Tryz.prog Glob [
    Tr.call 27 [im (0 : Int)] [] (Av.one (ok0))] := ⟨
    sign_lit rfl, trivial⟩
  exact Fits.res (r := (.tup [Sv.agg [Cv.raw (Value.bool false), Cv.raw (Value.slice none (nat_lit 0) (nat_lit 0)), Cv.raw (Value.int IntKind.i64 (Int.ofNat (nat_lit 0)))], ok0])) (fits_of_trace (n := 300) (k0 := 0) hT Tryz.func26 (by kernel_rfl) (by kernel_rfl) (by kernel_rfl)) (norm_dN2)

set_option maxRecDepth 100000 in
theorem make1D_f {z x s : Int} {t : Nat} (hs : sign3 z = s) (h0 : s ≠ 0) (ht : IsTail t z.natAbs) (h1 : -65536 ≤ x) (h2 : x + t ≤ 65536) (hz : LimI z) : FitsP 26 [im z, intS x] [] (.tup [dS ⟨z / 2 ^ t, x + t⟩, ok0]) := by
  have hT : AllOk Tryz.prog Glob [
    Tr.call 27 [im z] [] (Av.one (intS s)),
    Tr.norm 5 (Av.one (Sv.cel (Cv.raw (Value.bool (s == (0 : Int)))))) (Av.one (boolS false)),
    Tr.call 62 [natS (Int.natAbs z)] [] (Av.one (intS (↑t : Int))),
    Tr.call 63 [intS x] [] (Av.one (boolS true)),
    Tr.call 63 [intS (IntKind.wrap IntKind.i64 (x + (↑t : Int)))] [] (Av.one (boolS true)),
    Tr.call 64 [im z, intS (↑t : Int)] [] (Av.tup [Sv.agg [Cv.raw (Value.bool (decide (z / (2 : Int) ^ t < (0 : Int)))), Cv.ent (nat (Int.natAbs (z / (2 : Int) ^ t)))], ok0])] := ⟨
    sign_lit hs,
    norm_bool (eq_false h0),
    tail_f ht,
    mayExp_yes h1 (by omega),
    mayExp_yes (by rw [w64s (by omega) (by omega)]; omega) (by rw [w64s (by omega) (by omega)]; omega),
    rightI_f (by omega) hz, trivial⟩
  exact Fits.res (r := (.tup [Sv.agg [Cv.raw (Value.bool (decide (z / (2 : Int) ^ t < (0 : Int)))), Cv.ent (nat (Int.natAbs (z / (2 : Int) ^ t))), Cv.raw (Value.int IntKind.i64 (IntKind.wrap IntKind.i64 (x + (↑t : Int))))], ok0])) (fits_of_trace (n := 300) (k0 := 0) hT Tryz.func26 (by kernel_rfl) (by kernel_rfl) (by kernel_rfl)) (Norm.of_eq (by rw [w64s (by omega) (by omega)]; rfl))

set_option maxRecDepth 100000 in
theorem make2D_f {z x s : Int} {t : Nat} (hs : sign3 z = s) (h0 : s ≠ 0) (ht : IsTail t z.natAbs) (h1 : ¬ (-65536 ≤ x ∧ x ≤ 65536)) : FitsP 26 [im z, intS x] [] (.tup [dS ⟨0, 0⟩, intS 1]) := by
  have hT : AllOk Tryz.prog Glob [
    Tr.call 27 [im z] [] (Av.one (intS s)),
    Tr.norm 5 (Av.one (Sv.cel (Cv.raw (Value.bool (s == (0 : Int)))))) (Av.one (boolS false)),
    Tr.call 62 [natS (Int.natAbs z)] [] (Av.one (intS (↑t : Int))),
    Tr.call 63 [intS x] [] (Av.one (boolS false))] := ⟨
    sign_lit hs,
    norm_bool (eq_false h0),
    tail_f ht,
    mayExp_no h1, trivial⟩
  exact Fits.res (r := (.tup [Sv.agg [Cv.raw (Value.bool false), Cv.raw (Value.slice none (nat_lit 0) (nat_lit 0)), Cv.raw (Value.int IntKind.i64 (Int.ofNat (nat_lit 0)))], intS (Int.ofNat (nat_lit 1))])) (fits_of_trace (n := 300) (k0 := 0) hT Tryz.func26 (by kernel_rfl) (by kernel_rfl) (by kernel_rfl)) (norm_dN2)

set_option maxRecDepth 100000 in
theorem make3D_f {z x s : Int} {t : Nat} (hs : sign3 z = s) (h0 : s ≠ 0) (ht : IsTail t z.natAbs) (h1 : -65536 ≤ x) (h2 : x ≤ 65536) (h3 : 65536 < x + t) (h4 : t ≤ 1000000) : FitsP 26 [im z, intS x] [] (.tup [dS ⟨0, 0⟩, intS 1]) := by
  have hT : AllOk Tryz.prog Glob [
    Tr.call 27 [im z] [] (Av.one (intS s)),
    Tr.norm 5 (Av.one (Sv.cel (Cv.raw (Value.bool (s == (0 : Int)))))) (Av.one (boolS false)),
    Tr.call 62 [natS (Int.natAbs z)] [] (Av.one (intS (↑t : Int))),
    Tr.call 63 [intS x] [] (Av.one (boolS true)),
    Tr.call 63 [intS (IntKind.wrap IntKind.i64 (x + (↑t : Int)))] [] (Av.one (boolS false))] := ⟨
    sign_lit hs,
    norm_bool (eq_false h0),
    tail_f ht,
    mayExp_yes h1 h2,
    mayExp_no (by rw [w64s (by omega) (by omega)]; omega), trivial⟩
  exact Fits.res (r := (.tup [Sv.agg [Cv.raw (Value.bool false), Cv.raw (Value.slice none (nat_lit 0) (nat_lit 0)), Cv.raw (Value.int IntKind.i64 (Int.ofNat (nat_lit 0)))], intS (Int.ofNat (nat_lit 1))])) (fits_of_trace (n := 300) (k0 := 0) hT Tryz.func26 (by kernel_rfl) (by kernel_rfl) (by kernel_rfl)) (norm_dN2)

theorem sign3_ne {z : Int} (h : z ≠ 0) : sign3 z ≠ 0 := by unfold sign3; split <;> (try split) <;> omega
theorem makeD_f {z x : Int} (h1 : -65536 ≤ x) (h2 : (mkD z x).e ≤ 65536) (hz : LimI z) : FitsP 26 [im z, intS x] [] (.tup [dS (mkD z x), ok0]) := by
  by_cases h0 : z = 0
  · subst h0; exact make0D_f
  · rw [show mkD z x = ⟨z / 2 ^ tl z.natAbs, x + (tl z.natAbs : Int)⟩ from if_neg h0] at *
    exact make1D_f rfl (sign3_ne h0) (tl_is _) h1 h2 hz
theorem makeW_f {z x y : Int} (hy : x = y) (h1 : -65536 ≤ y) (h2 : (mkD z y).e ≤ 65536) (hz : LimI z) : FitsP 26 [im z, intS x] [] (.tup [dS (mkD z y), ok0]) := by subst hy; exact makeD_f h1 h2 hz

set_option maxRecDepth 100000 in
theorem ofD0_f {n x : Int} (h : inI64 n) (h1 : -100 ≤ x) (h2 : x ≤ 100) (h3 : (mkD n x).e ≤ 65536) : FitsP 7 [intS n, intS x] [] (.one (dS (mkD n x))) := by
  have hT : AllOk Tryz.prog Glob [
    Tr.call 24 [intS n] [] (Av.one (im n)),
    Tr.prim 4 (Op.call { callee := Callee.builtin Builtin.max, args := #[Operand.tmp 10, Operand.const (Value.int IntKind.i64 (-100 : Int))], argTypes := #[(3 : Nat), (3 : Nat)] }) (nat_lit 3) [Value.int IntKind.i64 x, Value.int IntKind.i64 (Int.negSucc (nat_lit 99))] (Value.int IntKind.i64 x),
    Tr.prim 5 (Op.call { callee := Callee.builtin Builtin.min, args := #[Operand.tmp 11, Operand.const (Value.int IntKind.i64 (100 : Int))], argTypes := #[(3 : Nat), (3 : Nat)] }) (nat_lit 3) [Value.int IntKind.i64 x, Value.int IntKind.i64 (Int.ofNat (nat_lit 100))] (Value.int IntKind.i64 x),
    Tr.call 26 [im n, intS x] [] (Av.tup [dS (mkD n x), ok0])] := ⟨
    ofI_f h,
    prim_max (show max x (-100) = x by omega),
    prim_min (show min x 100 = x by omega),
    makeD_f (by omega) h3 (inI_lim h), trivial⟩
  exact fits_of_trace (n := 300) (k0 := 0) hT Tryz.func7 (by kernel_rfl) (by kernel_rfl) (by kernel_rfl)

set_option maxRecDepth 100000 in
theorem signD_f {a : Dy} {s : Int} (h : sign3 a.m = s) : FitsP 8 [dS a] [] (.one (intS s)) := by
  have hT : AllOk Tryz.prog Glob [
    Tr.call 27 [Sv.agg [Cv.raw (Value.bool (decide (Dy.m a < (0 : Int)))), Cv.ent (nat (Int.natAbs (Dy.m a)))]] [] (Av.one (intS s))] := ⟨
    sign_lit h, trivial⟩
  exact fits_of_trace (n := 300) (k0 := 0) hT Tryz.func8 (by kernel_rfl) (by kernel_rfl) (by kernel_rfl)

set_option maxRecDepth 100000 in
theorem negD_f {a : Dy} : FitsP 83 [dS a] [] (.one (dS (negD a))) := by
  have hT : AllOk Tryz.prog Glob [
    Tr.call 58 [Sv.agg [Cv.raw (Value.bool (decide (Dy.m a < (0 : Int)))), Cv.ent (nat (Int.natAbs (Dy.m a)))]] [] (Av.one (Sv.agg [Cv.raw (Value.bool (decide (-Dy.m a < (0 : Int)))), Cv.ent (nat (Int.natAbs (-Dy.m a)))]))] := ⟨
    negI_f, trivial⟩
  exact fits_of_trace (n := 300) (k0 := 0) hT Tryz.func83 (by kernel_rfl) (by kernel_rfl) (by kernel_rfl)

def absD (a : Dy) : Dy := ⟨(a.m.natAbs : Int), a.e⟩

set_option maxRecDepth 100000 in
theorem copyI_f {z : Int} : FitsP 47 [im z] [] (.one (im z)) := by
  have hT : AllOk Tryz.prog Glob [
    Tr.call 51 [natS (Int.natAbs z)] [] (Av.one (natS (Int.natAbs z)))] := ⟨
    clone_f, trivial⟩
  exact fits_of_trace (n := 300) (k0 := 0) hT Tryz.func47 (by kernel_rfl) (by kernel_rfl) (by kernel_rfl)

set_option maxRecDepth 100000 in
theorem copyD_f {a : Dy} : FitsP 85 [dS a] [] (.one (dS a)) := by
  have hT : AllOk Tryz.prog Glob [
    Tr.call 47 [Sv.agg [Cv.raw (Value.bool (decide (Dy.m a < (0 : Int)))), Cv.ent (nat (Int.natAbs (Dy.m a)))]] [] (Av.one (Sv.agg [Cv.raw (Value.bool (decide (Dy.m a < (0 : Int)))), Cv.ent (nat (Int.natAbs (Dy.m a)))]))] := ⟨
    copyI_f, trivial⟩
  exact fits_of_trace (n := 300) (k0 := 0) hT Tryz.func85 (by kernel_rfl) (by kernel_rfl) (by kernel_rfl)

theorem bt_lim {x : Nat} (h : x < Lim) : bt x ≤ 16384 := by
  have := bt_bound (n := maxL) h
  unfold maxL at this
  omega
set_option maxRecDepth 100000 in
theorem top_f {a : Dy} (h1 : -100000 ≤ a.e) (h2 : a.e ≤ 100000) (h3 : a.m.natAbs < Lim) : FitsP 103 [dS a] [] (.one (intS (topD a))) := by
  have hT : AllOk Tryz.prog Glob [
    Tr.call 65 [natS (Int.natAbs (Dy.m a))] [] (Av.one (Sv.cel (Cv.raw (Value.int IntKind.i64 (↑(bt (Int.natAbs (Dy.m a))) : Int)))))] := ⟨
    bits_is rfl, trivial⟩
  exact Fits.res (r := (.one (Sv.cel (Cv.raw (Value.int IntKind.i64 (IntKind.wrap IntKind.i64 ((↑(bt (Int.natAbs (Dy.m a))) : Int) + Dy.e a))))))) (fits_of_trace (n := 300) (k0 := 0) hT Tryz.func103 (by kernel_rfl) (by kernel_rfl) (by kernel_rfl)) (Norm.of_eq (by rw [w64s (by omega) (by have := bt_lim h3; omega)]; rfl))

section
variable {a b : Dy} {n k : Nat}
theorem BD.range (ha : BD n k a) (hk : n + k ≤ 512) : -16384 ≤ a.e ∧ a.e ≤ 16384 := by
  have := ha.low
  have := ha.high
  omega
theorem lev_arg (ha : BD n k a) (hb : BD n k b) (hk : n + k ≤ 512) : IntKind.i64.wrap (a.e - min a.e b.e) = ((a.e - min a.e b.e).toNat : Int) := by
  have := ha.range hk
  have := hb.range hk
  rw [w64s (by omega) (by omega)]; omega
theorem lev_arg2 (ha : BD n k a) (hb : BD n k b) (hk : n + k ≤ 512) : IntKind.i64.wrap (b.e - min a.e b.e) = ((b.e - min a.e b.e).toNat : Int) := by
  have := ha.range hk
  have := hb.range hk
  rw [w64s (by omega) (by omega)]; omega
theorem lev_in (ha : BD n k a) (hb : BD n k b) (hk : n + k ≤ 512) : (a.e - min a.e b.e).toNat ≤ 9223372036854775807 := by
  have := ha.range hk
  have := hb.range hk
  omega
theorem lev_in2 (ha : BD n k a) (hb : BD n k b) (hk : n + k ≤ 512) : (b.e - min a.e b.e).toNat ≤ 9223372036854775807 := by
  have := ha.range hk
  have := hb.range hk
  omega
theorem lev_lim (ha : BD n k a) (hb : BD n k b) (hk : n + k ≤ 512) : LimI (a.m * 2 ^ (a.e - min a.e b.e).toNat) := by
  have h1 := ha.low
  have h2 := hb.low
  exact lim_of (ha.lev (x := min a.e b.e) (by omega)) hk
theorem lev_lim2 (ha : BD n k a) (hb : BD n k b) (hk : n + k ≤ 512) : LimI (b.m * 2 ^ (b.e - min a.e b.e).toNat) := by
  have h1 := ha.low
  have h2 := hb.low
  exact lim_of (hb.lev (x := min a.e b.e) (by omega)) hk
end
set_option maxRecDepth 100000 in
theorem level_f {a b : Dy} {n k : Nat} (ha : BD n k a) (hb : BD n k b) (hk : n + k ≤ 512) : FitsP 95 [dS a, dS b] [] (.tup [im (lev a (min a.e b.e)), im (lev b (min a.e b.e)), intS (min a.e b.e), ok0]) := by
  have hT : AllOk Tryz.prog Glob [
    Tr.prim 10 (Op.call { callee := Callee.builtin Builtin.min, args := #[Operand.tmp 13, Operand.tmp 15], argTypes := #[(3 : Nat), (3 : Nat)] }) (nat_lit 3) [Value.int IntKind.i64 (Dy.e a), Value.int IntKind.i64 (Dy.e b)] (Value.int IntKind.i64 (min (Dy.e a) (Dy.e b))),
    Tr.call 44 [Sv.agg [Cv.raw (Value.bool (decide (Dy.m a < (0 : Int)))), Cv.ent (nat (Int.natAbs (Dy.m a)))], intS (IntKind.wrap IntKind.i64 (Dy.e a - min (Dy.e a) (Dy.e b)))] [] (Av.tup [Sv.agg [Cv.raw (Value.bool (decide (lev a (min (Dy.e a) (Dy.e b)) < (0 : Int)))), Cv.ent (nat (Int.natAbs (lev a (min (Dy.e a) (Dy.e b)))))], ok0]),
    Tr.call 44 [Sv.agg [Cv.raw (Value.bool (decide (Dy.m b < (0 : Int)))), Cv.ent (nat (Int.natAbs (Dy.m b)))], intS (IntKind.wrap IntKind.i64 (Dy.e b - min (Dy.e a) (Dy.e b)))] [] (Av.tup [Sv.agg [Cv.raw (Value.bool (decide (lev b (min (Dy.e a) (Dy.e b)) < (0 : Int)))), Cv.ent (nat (Int.natAbs (lev b (min (Dy.e a) (Dy.e b)))))], ok0])] := ⟨
    prim_min rfl,
    leftW_f (lev_arg ha hb hk) (lev_in ha hb hk) (lev_lim ha hb hk),
    leftW_f (lev_arg2 ha hb hk) (lev_in2 ha hb hk) (lev_lim2 ha hb hk), trivial⟩
  exact fits_of_trace (n := 300) (k0 := 0) hT Tryz.func95 (by kernel_rfl) (by kernel_rfl) (by kernel_rfl)

section
variable {a b : Dy} {n k : Nat}
theorem lev_lowx (ha : BD n k a) (hb : BD n k b) (hk : n + k ≤ 512) : -65536 ≤ min a.e b.e := by
  have := ha.range hk
  have := hb.range hk
  omega
theorem lev_totAdd (ha : BD n k a) (hb : BD n k b) (hk : n + k + 1 ≤ 512) : LimI (lev a (min a.e b.e) + lev b (min a.e b.e)) := by
  have h1 := ha.low
  have h2 := hb.low
  exact lim_of (add_abs (ha.lev (x := min a.e b.e) (by omega)) (hb.lev (x := min a.e b.e) (by omega))) hk
theorem lev_totSub (ha : BD n k a) (hb : BD n k b) (hk : n + k + 1 ≤ 512) : LimI (lev a (min a.e b.e) - lev b (min a.e b.e)) := by
  have h1 := ha.low
  have h2 := hb.low
  exact lim_of (sub_abs (ha.lev (x := min a.e b.e) (by omega)) (hb.lev (x := min a.e b.e) (by omega))) hk
end
set_option maxRecDepth 100000 in
theorem joinedAddD_f {a b : Dy} {n k : Nat} (ha : BD n k a) (hb : BD n k b) (hk : n + k + 1 ≤ 512) : FitsP 70 [dS a, dS b, rawS (.func (.func 41) #[] #[])] [] (.tup [dS (addD a b), ok0]) := by
  have hT : AllOk Tryz.prog Glob [
    Tr.call 95 [dS a, dS b] [] (Av.tup [Sv.agg [Cv.raw (Value.bool (decide (lev a (min (Dy.e a) (Dy.e b)) < (0 : Int)))), Cv.ent (nat (Int.natAbs (lev a (min (Dy.e a) (Dy.e b)))))], Sv.agg [Cv.raw (Value.bool (decide (lev b (min (Dy.e a) (Dy.e b)) < (0 : Int)))), Cv.ent (nat (Int.natAbs (lev b (min (Dy.e a) (Dy.e b)))))], intS (min (Dy.e a) (Dy.e b)), ok0]),
    Tr.call 41 [Sv.agg [Cv.raw (Value.bool (decide (lev a (min (Dy.e a) (Dy.e b)) < (0 : Int)))), Cv.ent (nat (Int.natAbs (lev a (min (Dy.e a) (Dy.e b)))))], Sv.agg [Cv.raw (Value.bool (decide (lev b (min (Dy.e a) (Dy.e b)) < (0 : Int)))), Cv.ent (nat (Int.natAbs (lev b (min (Dy.e a) (Dy.e b)))))]] [] (Av.tup [Sv.agg [Cv.raw (Value.bool (decide (lev a (min (Dy.e a) (Dy.e b)) + lev b (min (Dy.e a) (Dy.e b)) < (0 : Int)))), Cv.ent (nat (Int.natAbs (lev a (min (Dy.e a) (Dy.e b)) + lev b (min (Dy.e a) (Dy.e b)))))], ok0]),
    Tr.call 26 [Sv.agg [Cv.raw (Value.bool (decide (lev a (min (Dy.e a) (Dy.e b)) + lev b (min (Dy.e a) (Dy.e b)) < (0 : Int)))), Cv.ent (nat (Int.natAbs (lev a (min (Dy.e a) (Dy.e b)) + lev b (min (Dy.e a) (Dy.e b)))))], intS (min (Dy.e a) (Dy.e b))] [] (Av.tup [dS (addD a b), ok0])] := ⟨
    level_f ha hb (by omega),
    addI_f (lev_lim ha hb (by omega)) (lev_lim2 ha hb (by omega)) (lev_totAdd ha hb hk),
    makeD_f (lev_lowx ha hb (by omega)) (by have := (BD.add ha hb).high; unfold addD at this; omega) (lev_totAdd ha hb hk), trivial⟩
  exact fits_of_trace (n := 300) (k0 := 0) hT Tryz.func70 (by kernel_rfl) (by kernel_rfl) (by kernel_rfl)

set_option maxRecDepth 100000 in
theorem addD_f {a b : Dy} {n k : Nat} (ha : BD n k a) (hb : BD n k b) (hk : n + k + 1 ≤ 512) : FitsP 37 [dS a, dS b] [] (.tup [dS (addD a b), ok0]) := by
  have hT : AllOk Tryz.prog Glob [
    Tr.call 70 [dS a, dS b, Sv.cel (Cv.raw (Value.func (Fn.func 41) #[] #[]))] [] (Av.tup [dS (addD a b), ok0])] := ⟨
    joinedAddD_f ha hb hk, trivial⟩
  exact fits_of_trace (n := 300) (k0 := 0) hT Tryz.func37 (by kernel_rfl) (by kernel_rfl) (by kernel_rfl)

set_option maxRecDepth 100000 in
theorem joinedSubD_f {a b : Dy} {n k : Nat} (ha : BD n k a) (hb : BD n k b) (hk : n + k + 1 ≤ 512) : FitsP 70 [dS a, dS b, rawS (.func (.func 48) #[] #[])] [] (.tup [dS (subD a b), ok0]) := by
  have hT : AllOk Tryz.prog Glob [
    Tr.call 95 [dS a, dS b] [] (Av.tup [Sv.agg [Cv.raw (Value.bool (decide (lev a (min (Dy.e a) (Dy.e b)) < (0 : Int)))), Cv.ent (nat (Int.natAbs (lev a (min (Dy.e a) (Dy.e b)))))], Sv.agg [Cv.raw (Value.bool (decide (lev b (min (Dy.e a) (Dy.e b)) < (0 : Int)))), Cv.ent (nat (Int.natAbs (lev b (min (Dy.e a) (Dy.e b)))))], intS (min (Dy.e a) (Dy.e b)), ok0]),
    Tr.call 48 [Sv.agg [Cv.raw (Value.bool (decide (lev a (min (Dy.e a) (Dy.e b)) < (0 : Int)))), Cv.ent (nat (Int.natAbs (lev a (min (Dy.e a) (Dy.e b)))))], Sv.agg [Cv.raw (Value.bool (decide (lev b (min (Dy.e a) (Dy.e b)) < (0 : Int)))), Cv.ent (nat (Int.natAbs (lev b (min (Dy.e a) (Dy.e b)))))]] [] (Av.tup [Sv.agg [Cv.raw (Value.bool (decide (lev a (min (Dy.e a) (Dy.e b)) - lev b (min (Dy.e a) (Dy.e b)) < (0 : Int)))), Cv.ent (nat (Int.natAbs (lev a (min (Dy.e a) (Dy.e b)) - lev b (min (Dy.e a) (Dy.e b)))))], ok0]),
    Tr.call 26 [Sv.agg [Cv.raw (Value.bool (decide (lev a (min (Dy.e a) (Dy.e b)) - lev b (min (Dy.e a) (Dy.e b)) < (0 : Int)))), Cv.ent (nat (Int.natAbs (lev a (min (Dy.e a) (Dy.e b)) - lev b (min (Dy.e a) (Dy.e b)))))], intS (min (Dy.e a) (Dy.e b))] [] (Av.tup [dS (subD a b), ok0])] := ⟨
    level_f ha hb (by omega),
    subI_f (lev_lim ha hb (by omega)) (lev_lim2 ha hb (by omega)) (lev_totSub ha hb hk),
    makeD_f (lev_lowx ha hb (by omega)) (by have := (BD.sub ha hb).high; unfold subD at this; omega) (lev_totSub ha hb hk), trivial⟩
  exact fits_of_trace (n := 300) (k0 := 0) hT Tryz.func70 (by kernel_rfl) (by kernel_rfl) (by kernel_rfl)

set_option maxRecDepth 100000 in
theorem subD_f {a b : Dy} {n k : Nat} (ha : BD n k a) (hb : BD n k b) (hk : n + k + 1 ≤ 512) : FitsP 43 [dS a, dS b] [] (.tup [dS (subD a b), ok0]) := by
  have hT : AllOk Tryz.prog Glob [
    Tr.call 70 [dS a, dS b, Sv.cel (Cv.raw (Value.func (Fn.func 48) #[] #[]))] [] (Av.tup [dS (subD a b), ok0])] := ⟨
    joinedSubD_f ha hb hk, trivial⟩
  exact fits_of_trace (n := 300) (k0 := 0) hT Tryz.func43 (by kernel_rfl) (by kernel_rfl) (by kernel_rfl)

set_option maxRecDepth 100000 in
theorem mulD_f {a b : Dy} {n k n' k' : Nat} (ha : BD n k a) (hb : BD n' k' b) (hk : n + k + (n' + k') ≤ 512) : FitsP 42 [dS a, dS b] [] (.tup [dS (mulD a b), ok0]) := by
  have hT : AllOk Tryz.prog Glob [
    Tr.call 38 [Sv.agg [Cv.raw (Value.bool (decide (Dy.m a < (0 : Int)))), Cv.ent (nat (Int.natAbs (Dy.m a)))], Sv.agg [Cv.raw (Value.bool (decide (Dy.m b < (0 : Int)))), Cv.ent (nat (Int.natAbs (Dy.m b)))]] [] (Av.tup [Sv.agg [Cv.raw (Value.bool (decide (Dy.m a * Dy.m b < (0 : Int)))), Cv.ent (nat (Int.natAbs (Dy.m a * Dy.m b)))], ok0]),
    Tr.call 26 [Sv.agg [Cv.raw (Value.bool (decide (Dy.m a * Dy.m b < (0 : Int)))), Cv.ent (nat (Int.natAbs (Dy.m a * Dy.m b)))], intS (IntKind.wrap IntKind.i64 (Dy.e a + Dy.e b))] [] (Av.tup [dS (mulD a b), ok0])] := ⟨
    mulI_f (lim_of (mul_abs2 ha.man hb.man) hk),
    makeW_f (w64s (by have := ha.range (by omega); have := hb.range (by omega); omega) (by have := ha.range (by omega); have := hb.range (by omega); omega)) (by have := ha.range (by omega); have := hb.range (by omega); omega) (by have := (BD.mul ha hb).high; unfold mulD at this; omega) (lim_of (mul_abs2 ha.man hb.man) hk), trivial⟩
  exact fits_of_trace (n := 300) (k0 := 0) hT Tryz.func42 (by kernel_rfl) (by kernel_rfl) (by kernel_rfl)

theorem isNaN_calls : True := trivial

set_option maxRecDepth 100000 in
theorem nan_f {x : Int} : FitsP 102 [intS x] [] (.one (boolS false)) := by
  have hT : AllOk Tryz.prog Glob [] := trivial
  exact Fits.res (r := (.one (Sv.cel (Cv.raw (Value.bool (x != x)))))) (fits_of_trace (n := 300) (k0 := 0) hT Tryz.func102 (by kernel_rfl) (by kernel_rfl) (by kernel_rfl)) (norm_bool (by simp))

set_option maxRecDepth 100000 in
theorem cmp_lt_f {x y : Int} (h : x < y) : FitsP 87 [intS x, intS y] [] (.one (intS (-1))) := by
  have hT : AllOk Tryz.prog Glob [
    Tr.call 102 [intS x] [] (Av.one (boolS false)),
    Tr.call 102 [intS y] [] (Av.one (boolS false)),
    Tr.norm 11 (Av.one (Sv.cel (Cv.raw (Value.bool (decide (x < y)))))) (Av.one (boolS true))] := ⟨
    nan_f,
    nan_f,
    norm_bool (decide_eq_true h), trivial⟩
  exact fits_of_trace (n := 300) (k0 := 0) hT Tryz.func87 (by kernel_rfl) (by kernel_rfl) (by kernel_rfl)

set_option maxRecDepth 100000 in
theorem cmp_gt_f {x y : Int} (h : y < x) : FitsP 87 [intS x, intS y] [] (.one (intS (1))) := by
  have hT : AllOk Tryz.prog Glob [
    Tr.call 102 [intS x] [] (Av.one (boolS false)),
    Tr.call 102 [intS y] [] (Av.one (boolS false)),
    Tr.norm 11 (Av.one (Sv.cel (Cv.raw (Value.bool (decide (x < y)))))) (Av.one (boolS false)),
    Tr.norm 14 (Av.one (Sv.cel (Cv.raw (Value.bool (decide (x > y)))))) (Av.one (boolS true))] := ⟨
    nan_f,
    nan_f,
    norm_bool (decide_eq_false (show ¬ x < y by omega)),
    norm_bool (decide_eq_true (show x > y from h)), trivial⟩
  exact fits_of_trace (n := 300) (k0 := 0) hT Tryz.func87 (by kernel_rfl) (by kernel_rfl) (by kernel_rfl)

set_option maxRecDepth 100000 in
theorem cmp_eq_f {x y : Int} (h : x = y) : FitsP 87 [intS x, intS y] [] (.one (intS (0))) := by
  have hT : AllOk Tryz.prog Glob [
    Tr.call 102 [intS x] [] (Av.one (boolS false)),
    Tr.call 102 [intS y] [] (Av.one (boolS false)),
    Tr.norm 11 (Av.one (Sv.cel (Cv.raw (Value.bool (decide (x < y)))))) (Av.one (boolS false)),
    Tr.norm 14 (Av.one (Sv.cel (Cv.raw (Value.bool (decide (x > y)))))) (Av.one (boolS false))] := ⟨
    nan_f,
    nan_f,
    norm_bool (decide_eq_false (show ¬ x < y by omega)),
    norm_bool (decide_eq_false (show ¬ x > y by omega)), trivial⟩
  exact fits_of_trace (n := 300) (k0 := 0) hT Tryz.func87 (by kernel_rfl) (by kernel_rfl) (by kernel_rfl)

theorem cmpW_f {x y : Int} : FitsP 87 [intS x, intS y] [] (.one (intS (ordI x y))) := by
  rcases Int.lt_trichotomy x y with h | h | h
  · rw [ordI_lt h]; exact cmp_lt_f h
  · rw [show ordI x y = 0 by subst h; unfold ordI; rw [if_neg (by omega), if_neg (by omega)]]; exact cmp_eq_f h
  · rw [ordI_gt h]; exact cmp_gt_f h
theorem cmpW_is {x y c : Int} (h : ordI x y = c) : FitsP 87 [intS x, intS y] [] (.one (intS c)) := by subst h; exact cmpW_f

theorem bne_true {u v : Int} (h : u ≠ v) : (u != v) = true := by rw [bne_iff_ne]; exact h
theorem bne_false {u v : Int} (h : u = v) : (u != v) = false := by subst h; simp
set_option maxRecDepth 100000 in
theorem sizes1_f {a b : Dy} {n k : Nat} (ha : BD n k a) (hb : BD n k b) (hk : n + k ≤ 512) {u v c : Int} (hu : topD a = u) (hv : topD b = v) (h : u ≠ v) (hc : ordI u v = c) : FitsP 88 [dS a, dS b] [] (.one (intS c)) := by
  have hT : AllOk Tryz.prog Glob [
    Tr.call 103 [dS a] [] (Av.one (intS u)),
    Tr.call 103 [dS b] [] (Av.one (intS v)),
    Tr.norm 11 (Av.one (Sv.cel (Cv.raw (Value.bool (u != v))))) (Av.one (boolS true)),
    Tr.call 87 [intS u, intS v] [] (Av.one (intS c))] := ⟨
    by subst hu; exact top_f (by have := ha.range hk; omega) (by have := ha.range hk; omega) (lim_of ha.man hk),
    by subst hv; exact top_f (by have := hb.range hk; omega) (by have := hb.range hk; omega) (lim_of hb.man hk),
    norm_bool (bne_true h),
    cmpW_is hc, trivial⟩
  exact fits_of_trace (n := 300) (k0 := 0) hT Tryz.func88 (by kernel_rfl) (by kernel_rfl) (by kernel_rfl)

set_option maxRecDepth 100000 in
theorem sizes2_f {a b : Dy} {n k : Nat} (ha : BD n k a) (hb : BD n k b) (hk : n + k ≤ 512) {u v c : Int} (hu : topD a = u) (hv : topD b = v) (h : u = v) (hc : ord3 (lev a (min a.e b.e)).natAbs (lev b (min a.e b.e)).natAbs = c) : FitsP 88 [dS a, dS b] [] (.one (intS c)) := by
  have hT : AllOk Tryz.prog Glob [
    Tr.call 103 [dS a] [] (Av.one (intS u)),
    Tr.call 103 [dS b] [] (Av.one (intS v)),
    Tr.norm 11 (Av.one (Sv.cel (Cv.raw (Value.bool (u != v))))) (Av.one (boolS false)),
    Tr.call 95 [dS a, dS b] [] (Av.tup [Sv.agg [Cv.raw (Value.bool (decide (lev a (min (Dy.e a) (Dy.e b)) < (0 : Int)))), Cv.ent (nat (Int.natAbs (lev a (min (Dy.e a) (Dy.e b)))))], Sv.agg [Cv.raw (Value.bool (decide (lev b (min (Dy.e a) (Dy.e b)) < (0 : Int)))), Cv.ent (nat (Int.natAbs (lev b (min (Dy.e a) (Dy.e b)))))], intS (min (Dy.e a) (Dy.e b)), ok0]),
    Tr.call 76 [Sv.cel (Cv.ent (nat (Int.natAbs (lev a (min (Dy.e a) (Dy.e b)))))), Sv.cel (Cv.ent (nat (Int.natAbs (lev b (min (Dy.e a) (Dy.e b))))))] [] (Av.one (intS c))] := ⟨
    by subst hu; exact top_f (by have := ha.range hk; omega) (by have := ha.range hk; omega) (lim_of ha.man hk),
    by subst hv; exact top_f (by have := hb.range hk; omega) (by have := hb.range hk; omega) (lim_of hb.man hk),
    norm_bool (bne_false h),
    level_f ha hb hk,
    by subst hc; exact cmp_f, trivial⟩
  exact fits_of_trace (n := 300) (k0 := 0) hT Tryz.func88 (by kernel_rfl) (by kernel_rfl) (by kernel_rfl)

set_option maxRecDepth 100000 in
theorem compare1_f {a b : Dy} {s t c : Int} (hs : sign3 a.m = s) (ht : sign3 b.m = t) (h : s ≠ t) (hc : ordI s t = c) : FitsP 61 [dS a, dS b] [] (.one (intS c)) := by
  have hT : AllOk Tryz.prog Glob [
    Tr.call 8 [dS a] [] (Av.one (intS s)),
    Tr.call 8 [dS b] [] (Av.one (intS t)),
    Tr.norm 11 (Av.one (Sv.cel (Cv.raw (Value.bool (s != t))))) (Av.one (boolS true)),
    Tr.call 87 [intS s, intS t] [] (Av.one (intS c))] := ⟨
    signD_f hs,
    signD_f ht,
    norm_bool (bne_true h),
    cmpW_is hc, trivial⟩
  exact fits_of_trace (n := 300) (k0 := 0) hT Tryz.func61 (by kernel_rfl) (by kernel_rfl) (by kernel_rfl)

set_option maxRecDepth 100000 in
theorem compare2_f {a b : Dy} {s t c r : Int} (hs : sign3 a.m = s) (ht : sign3 b.m = t) (h : s = t) (hc : FitsP 88 [dS a, dS b] [] (.one (intS c))) (hr : s * c = r) (h1 : -1 ≤ r) (h2 : r ≤ 1) : FitsP 61 [dS a, dS b] [] (.one (intS r)) := by
  have hT : AllOk Tryz.prog Glob [
    Tr.call 8 [dS a] [] (Av.one (intS s)),
    Tr.call 8 [dS b] [] (Av.one (intS t)),
    Tr.norm 11 (Av.one (Sv.cel (Cv.raw (Value.bool (s != t))))) (Av.one (boolS false)),
    Tr.call 88 [dS a, dS b] [] (Av.one (intS c))] := ⟨
    signD_f hs,
    signD_f ht,
    norm_bool (bne_false h),
    hc, trivial⟩
  exact Fits.res (r := (.one (intS (IntKind.wrap IntKind.i64 (s * c))))) (fits_of_trace (n := 300) (k0 := 0) hT Tryz.func61 (by kernel_rfl) (by kernel_rfl) (by kernel_rfl)) (Norm.of_eq (by rw [w64s (by omega) (by omega), hr]))

theorem ordQ_range (p q : Rat) : -1 ≤ ordQ p q ∧ ordQ p q ≤ 1 := by
  unfold ordQ; split
  · omega
  · split <;> omega
theorem compareD_f {a b : Dy} {n k : Nat} (ha : BD n k a) (hb : BD n k b) (hk : n + k ≤ 512) : FitsP 61 [dS a, dS b] [] (.one (intS (ordQ (dv a) (dv b)))) := by
  have hR := ordQ_range (dv a) (dv b)
  by_cases hs : sign3 a.m = sign3 b.m
  · by_cases ht : topD a = topD b
    · exact compare2_f rfl rfl hs (sizes2_f ha hb hk rfl rfl ht rfl) (ord_levs rfl hs.symm) hR.1 hR.2
    · exact compare2_f rfl rfl hs (sizes1_f ha hb hk rfl rfl ht rfl) (ord_tops ha.ok hb.ok rfl hs.symm ht) hR.1 hR.2
  · exact compare1_f rfl rfl hs (ord_signs rfl rfl hs)
theorem compareD_is {a b : Dy} {n k : Nat} {c : Int} (ha : BD n k a) (hb : BD n k b) (hk : n + k ≤ 512) (hc : ordQ (dv a) (dv b) = c) : FitsP 61 [dS a, dS b] [] (.one (intS c)) := by subst hc; exact compareD_f ha hb hk

set_option maxRecDepth 100000 in
theorem lessC_f {a b : Dy} {n k : Nat} (ha : BD n k a) (hb : BD n k b) (hk : n + k ≤ 512) {c : Int} (hc : ordQ (dv a) (dv b) = c) : FitsP 25 [dS a, dS b] [] (.one (boolS (decide (c < 0)))) := by
  have hT : AllOk Tryz.prog Glob [
    Tr.call 61 [dS a, dS b] [] (Av.one (intS c))] := ⟨
    compareD_is ha hb hk hc, trivial⟩
  exact fits_of_trace (n := 300) (k0 := 0) hT Tryz.func25 (by kernel_rfl) (by kernel_rfl) (by kernel_rfl)

theorem ordQ_neg_iff {p q : Rat} : decide (ordQ p q < 0) = decide (p < q) := by
  rw [decide_eq_decide]
  rcases rat_tri p q with h | h | h
  · rw [ordQ_ltI h]; exact ⟨fun _ => h, fun _ => by decide⟩
  · rw [ordQ_eqI h]; exact ⟨fun h' => absurd h' (by decide), fun h' => absurd h' (by grind)⟩
  · rw [ordQ_gtI h]; exact ⟨fun h' => absurd h' (by decide), fun h' => absurd h' (by grind)⟩
theorem lessD_f {a b : Dy} {n k : Nat} (ha : BD n k a) (hb : BD n k b) (hk : n + k ≤ 512) : FitsP 25 [dS a, dS b] [] (.one (boolS (decide (dv a < dv b)))) := by
  rw [← ordQ_neg_iff]; exact lessC_f ha hb hk rfl
theorem lessD_is {a b : Dy} {n k : Nat} {c : Bool} (ha : BD n k a) (hb : BD n k b) (hk : n + k ≤ 512) (hc : decide (dv a < dv b) = c) : FitsP 25 [dS a, dS b] [] (.one (boolS c)) := by subst hc; exact lessD_f ha hb hk
def maxD (a b : Dy) : Dy := if dv a < dv b then b else a
def minD (a b : Dy) : Dy := if dv b < dv a then b else a

end Go.Proofs.YtnncfbmddpijcaaGreatDoor
