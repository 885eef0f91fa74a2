/- Layer 4: its own small functions. -/
import Derived.Test.YtlgfjgkcgimdoaaGreatDoorRatN
namespace Go.Proofs.YtlgfjgkcgimdoaaGreatDoor
open Go Go.RowKit Go.Shelf AM
theorem parseIG_f {z : Int} {s : ByteArray} (m : Bool) (d : List UInt8) (hs : s.data.toList = (if m then 45 :: d else d)) (hD : AllD d) (h0 : d ≠ []) (hl : d.length ≤ 4900) (hz : sg m (decv d) = z) : FitsP 57 [rawS (.string s)] [] (.tup [im z, ok0]) := by
  subst hz; exact fits_raw_I0 cal57 _ fun w _ => parseInt_c w s m d hs hD h0 hl
theorem dparse_lit {n : Nat} {s : ByteArray} (hD : AllD s.data.toList) (h0 : s.data.toList ≠ []) (hl : s.size ≤ 4900) (hz : decv s.data.toList = n) : FitsP 104 [rawS (.string s)] [] (.tup [natS n, ok0]) := by subst hz; exact dparse_f s hD h0 hl
theorem nat_pn {d : Nat} : FitsP 30 [natS d] [] (.one (pn d)) := by rw [← im_pn]; exact nat_f
theorem make1_lit {z : Int} {d : Nat} (q : Rat) (h1 : LimI z) (h2 : d < Lim) (h0 : d ≠ 0) (h : Rat.normalize z d h0 = q) : FitsP 26 [im z, pn d] [] (.tup [rq q, ok0]) := by subst h; exact make1_f h1 h2 h0

theorem lim_small1 {z : Int} (h : z.natAbs < 18446744073709551616) : LimI z := small_lim h

set_option maxRecDepth 100000 in
theorem point_f  : FitsP 92 [(rawS (.string ⟨#[45, 48]⟩)), (rawS (.string ⟨#[50, 53]⟩))] [] (.tup [rq ((-1 / 4 : Rat)), ok0]) := by
  have hT : AllOk Tryz.prog Glob [
    Tr.call (nat_lit 57) [Sv.cel (Cv.raw (Value.string { data := #[(45 : UInt8), (48 : UInt8)] }))] [] (Av.tup [Sv.agg [Cv.raw (Value.bool (decide ((0 : Int) < (0 : Int)))), Cv.ent (nat (Int.natAbs (0 : Int)))], Sv.cel (Cv.raw (Value.int IntKind.i64 (Int.ofNat (nat_lit 0))))]),
    Tr.call (nat_lit 104) [Sv.cel (Cv.raw (Value.string { data := #[(50 : UInt8), (53 : UInt8)] }))] [] (Av.tup [Sv.cel (Cv.ent (nat (25 : Nat))), Sv.cel (Cv.raw (Value.int IntKind.i64 (Int.ofNat (nat_lit 0))))]),
    Tr.call (nat_lit 57) [Sv.cel (Cv.raw (Value.string ({ data := #[(45 : UInt8), (48 : UInt8)] } ++ { data := #[(50 : UInt8), (53 : UInt8)] })))] [] (Av.tup [Sv.agg [Cv.raw (Value.bool (decide ((-25 : Int) < (0 : Int)))), Cv.ent (nat (Int.natAbs (-25 : Int)))], Sv.cel (Cv.raw (Value.int IntKind.i64 (Int.ofNat (nat_lit 0))))]),
    Tr.call (nat_lit 54) [Sv.cel (Cv.raw (Value.int IntKind.i64 (Int.ofNat (nat_lit 2))))] [] (Av.tup [Sv.cel (Cv.ent (nat (100 : Nat))), Sv.cel (Cv.raw (Value.int IntKind.i64 (Int.ofNat (nat_lit 0))))]),
    Tr.call (nat_lit 30) [Sv.cel (Cv.ent (nat (100 : Nat)))] [] (Av.one (Sv.agg [Cv.raw (Value.bool false), Cv.ent (nat (100 : Nat))])),
    Tr.call (nat_lit 26) [Sv.agg [Cv.raw (Value.bool (decide ((-25 : Int) < (0 : Int)))), Cv.ent (nat (Int.natAbs (-25 : Int)))], Sv.agg [Cv.raw (Value.bool false), Cv.ent (nat (100 : Nat))]] [] (Av.tup [Sv.agg [Cv.raw (Value.bool (decide (Rat.num (-1 / 4 : Rat) < (0 : Int)))), Cv.ent (nat (Int.natAbs (Rat.num (-1 / 4 : Rat)))), Cv.ent (nat (Rat.den (-1 / 4 : Rat)))], Sv.cel (Cv.raw (Value.int IntKind.i64 (Int.ofNat (nat_lit 0))))])] := ⟨
    parseIG_f true [48] rfl (by decide +kernel) (by decide +kernel) (by decide +kernel) (by decide +kernel),
    dparse_lit (by decide +kernel) (by decide +kernel) (by decide +kernel) (by decide +kernel),
    parseIG_f true [48, 50, 53] rfl (by decide +kernel) (by decide +kernel) (by decide +kernel) (by decide +kernel),
    ten_f (k := 2) (by decide +kernel),
    nat_pn,
    make1_lit _ (lim_small1 (by decide +kernel)) (small_lim (by decide +kernel)) (by decide +kernel) (by decide +kernel), trivial⟩
  exact fits_of_trace (n := 300) (k0 := 0) hT Tryz.func92 (by kernel_rfl) (by kernel_rfl) (by kernel_rfl)

set_option maxRecDepth 100000 in
theorem parse025_f  : FitsP 49 [(rawS (.string ⟨#[45, 48, 46, 50, 53]⟩))] [] (.tup [rq ((-1 / 4 : Rat)), ok0]) := by
  have hT : AllOk Tryz.prog Glob [
    Tr.call (nat_lit 90) [Sv.cel (Cv.raw (Value.string { data := #[(45 : UInt8), (48 : UInt8), (46 : UInt8), (50 : UInt8), (53 : UInt8)] })), Sv.cel (Cv.raw (Value.string { data := #[(47 : UInt8)] }))] [] (Av.tup [Sv.cel (Cv.raw (Value.string { data := #[(45 : UInt8), (48 : UInt8), (46 : UInt8), (50 : UInt8), (53 : UInt8)] })), Sv.cel (Cv.raw (Value.string { data := #[] })), Sv.cel (Cv.raw (Value.bool false))]),
    Tr.call (nat_lit 90) [Sv.cel (Cv.raw (Value.string { data := #[(45 : UInt8), (48 : UInt8), (46 : UInt8), (50 : UInt8), (53 : UInt8)] })), Sv.cel (Cv.raw (Value.string { data := #[(46 : UInt8)] }))] [] (Av.tup [Sv.cel (Cv.raw (Value.string { data := #[(45 : UInt8), (48 : UInt8)] })), Sv.cel (Cv.raw (Value.string { data := #[(50 : UInt8), (53 : UInt8)] })), Sv.cel (Cv.raw (Value.bool true))]),
    Tr.call (nat_lit 92) [Sv.cel (Cv.raw (Value.string { data := #[(45 : UInt8), (48 : UInt8)] })), Sv.cel (Cv.raw (Value.string { data := #[(50 : UInt8), (53 : UInt8)] }))] [] (Av.tup [Sv.agg [Cv.raw (Value.bool (decide (Rat.num (-1 / 4 : Rat) < (0 : Int)))), Cv.ent (nat (Int.natAbs (Rat.num (-1 / 4 : Rat)))), Cv.ent (nat (Rat.den (-1 / 4 : Rat)))], Sv.cel (Cv.raw (Value.int IntKind.i64 (Int.ofNat (nat_lit 0))))])] := ⟨
    cut_f (by decide +kernel) (by decide +kernel),
    cut_f (by decide +kernel) (by decide +kernel),
    point_f, trivial⟩
  exact fits_of_trace (n := 300) (k0 := 0) hT Tryz.func49 (by kernel_rfl) (by kernel_rfl) (by kernel_rfl)

set_option maxRecDepth 100000 in
theorem sum3_0 {p q r : Rat} {m n k : Nat} (hp : BQ m p) (hq : BQ n q) (hr : BQ k r) (h : m + n + k + 10 ≤ 512) : FitsP 36 [Sv.cel (Cv.row 0 0 3 3)] [(0, ⟨43, [Cv.raw (Value.bool (decide ((p : Rat).num < 0))), Cv.ent (nat (p : Rat).num.natAbs), Cv.ent (nat (p : Rat).den), Cv.raw (Value.bool (decide ((q : Rat).num < 0))), Cv.ent (nat (q : Rat).num.natAbs), Cv.ent (nat (q : Rat).den), Cv.raw (Value.bool (decide ((r : Rat).num < 0))), Cv.ent (nat (r : Rat).num.natAbs), Cv.ent (nat (r : Rat).den)], true⟩)] (.tup [rq (0 + p + q + r), ok0]) := by
  have hT : AllOk Tryz.prog Glob [
    Tr.call (nat_lit 29) [] [] (Av.one (Sv.agg [Cv.raw (Value.bool (decide (Rat.num (0 : Rat) < (0 : Int)))), Cv.ent (nat (Int.natAbs (Rat.num (0 : Rat)))), Cv.ent (nat (Rat.den (0 : Rat)))])),
    Tr.call (nat_lit 33) [Sv.agg [Cv.raw (Value.bool (decide (Rat.num (0 : Rat) < (0 : Int)))), Cv.ent (nat (Int.natAbs (Rat.num (0 : Rat)))), Cv.ent (nat (Rat.den (0 : Rat)))], Sv.agg [Cv.raw (Value.bool (decide (Rat.num p < (0 : Int)))), Cv.ent (nat (Int.natAbs (Rat.num p))), Cv.ent (nat (Rat.den p))]] [] (Av.tup [Sv.agg [Cv.raw (Value.bool (decide (Rat.num ((0 : Rat) + p) < (0 : Int)))), Cv.ent (nat (Int.natAbs (Rat.num ((0 : Rat) + p)))), Cv.ent (nat (Rat.den ((0 : Rat) + p)))], Sv.cel (Cv.raw (Value.int IntKind.i64 (Int.ofNat (nat_lit 0))))]),
    Tr.call (nat_lit 33) [Sv.agg [Cv.raw (Value.bool (decide (Rat.num ((0 : Rat) + p) < (0 : Int)))), Cv.ent (nat (Int.natAbs (Rat.num ((0 : Rat) + p)))), Cv.ent (nat (Rat.den ((0 : Rat) + p)))], Sv.agg [Cv.raw (Value.bool (decide (Rat.num q < (0 : Int)))), Cv.ent (nat (Int.natAbs (Rat.num q))), Cv.ent (nat (Rat.den q))]] [] (Av.tup [Sv.agg [Cv.raw (Value.bool (decide (Rat.num ((0 : Rat) + p + q) < (0 : Int)))), Cv.ent (nat (Int.natAbs (Rat.num ((0 : Rat) + p + q)))), Cv.ent (nat (Rat.den ((0 : Rat) + p + q)))], Sv.cel (Cv.raw (Value.int IntKind.i64 (Int.ofNat (nat_lit 0))))]),
    Tr.call (nat_lit 33) [Sv.agg [Cv.raw (Value.bool (decide (Rat.num ((0 : Rat) + p + q) < (0 : Int)))), Cv.ent (nat (Int.natAbs (Rat.num ((0 : Rat) + p + q)))), Cv.ent (nat (Rat.den ((0 : Rat) + p + q)))], Sv.agg [Cv.raw (Value.bool (decide (Rat.num r < (0 : Int)))), Cv.ent (nat (Int.natAbs (Rat.num r))), Cv.ent (nat (Rat.den r))]] [] (Av.tup [Sv.agg [Cv.raw (Value.bool (decide (Rat.num ((0 : Rat) + p + q + r) < (0 : Int)))), Cv.ent (nat (Int.natAbs (Rat.num ((0 : Rat) + p + q + r)))), Cv.ent (nat (Rat.den ((0 : Rat) + p + q + r)))], Sv.cel (Cv.raw (Value.int IntKind.i64 (Int.ofNat (nat_lit 0))))])] := ⟨
    zeroQ0_f,
    addQ_f bq_zero hp (by omega),
    addQ_f (bq_zero.add hp) hq (by omega),
    addQ_f ((bq_zero.add hp).add hq) hr (by omega), trivial⟩
  exact fits_of_trace (n := 300) (k0 := 1) hT Tryz.func36 (by kernel_rfl) (by kernel_rfl) (by kernel_rfl)

theorem sum3_f {p q r s : Rat} {m n k : Nat} (hp : BQ m p) (hq : BQ n q) (hr : BQ k r) (h : m + n + k + 10 ≤ 512) (hs : p + q + r = s) (x : Nat) (o : Bool) : FitsP 36 [Sv.cel (Cv.row x 0 3 3)] [(x, ⟨43, [Cv.raw (Value.bool (decide ((p : Rat).num < 0))), Cv.ent (nat (p : Rat).num.natAbs), Cv.ent (nat (p : Rat).den), Cv.raw (Value.bool (decide ((q : Rat).num < 0))), Cv.ent (nat (q : Rat).num.natAbs), Cv.ent (nat (q : Rat).den), Cv.raw (Value.bool (decide ((r : Rat).num < 0))), Cv.ent (nat (r : Rat).num.natAbs), Cv.ent (nat (r : Rat).den)], o⟩)] (.tup [rq s, ok0]) := by
  have e : 0 + p + q + r = s := by rw [← hs, Rat.zero_add]
  rw [← e]
  exact Fits.row (pre := []) (sum3_0 hp hq hr h) rfl rfl rfl x o

section
variable {p q s : Rat}
theorem addQ_lit (s : Rat) (hp : BQ 1 p) (hq : BQ 1 q) (h : p + q = s) : FitsP 33 [rq p, rq q] [] (.tup [rq s, ok0]) := by subst h; exact addQ_f hp hq (by omega)
theorem subQ_lit (s : Rat) (hp : BQ 1 p) (hq : BQ 1 q) (h : p - q = s) : FitsP 34 [rq p, rq q] [] (.tup [rq s, ok0]) := by subst h; exact subQ_f hp hq (by omega)
theorem mulQ_lit (s : Rat) (hp : BQ 1 p) (hq : BQ 1 q) (h : p * q = s) : FitsP 35 [rq p, rq q] [] (.tup [rq s, ok0]) := by subst h; exact mulQ_f hp hq (by omega)
theorem divQ_lit (s : Rat) (hp : BQ 1 p) (hq : BQ 1 q) (h0 : q ≠ 0) (h : p / q = s) : FitsP 37 [rq p, rq q] [] (.tup [rq s, ok0]) := by subst h; exact divQ_f hp hq h0 (by omega)
theorem text1_lit {z : Int} {s : ByteArray} (q : Rat) (hn : q.num = z) (hd : q.den = 1) (hs : DecI z s.data.toList) (h1 : LimI z) : FitsP 48 [rq q] [] (.one (rawS (.string s))) := by rw [rq_lit hn hd]; exact text1_f hs h1
theorem text2_lit {z : Int} {d : Nat} {s t u : ByteArray} (q : Rat) (hn : q.num = z) (hd : q.den = d) (h0 : d ≠ 1) (hs : DecI z s.data.toList) (ht : Dec d t.data.toList) (h1 : LimI z) (h2 : d < Lim) (hu : s ++ ⟨#[47]⟩ ++ t = u) : FitsP 48 [rq q] [] (.one (rawS (.string u))) := by
  subst hu; rw [rq_lit hn hd]; exact text2_f h0 hs ht h1 h2
theorem neg_lit (s : Rat) (h : -p = s) : FitsP 40 [rq p] [] (.one (rq s)) := by subst h; exact negQ_f
theorem abs_lit (s : Rat) (h : absQ p = s) : FitsP 41 [rq p] [] (.one (rq s)) := by subst h; exact absQ_f
theorem floor_lit {z : Int} (hp : BQ 1 p) (h : p.floor = z) : FitsP 42 [rq p] [] (.one (im z)) := by subst h; exact floorB_f hp (by omega)
theorem ceil_lit {z : Int} (hp : BQ 1 p) (h : -(-p).floor = z) : FitsP 43 [rq p] [] (.one (im z)) := by subst h; exact ceilB_f hp (by omega)
theorem divZ_f : FitsP 37 [rq p, rq 0] [] (.tup [rq 0, intS 10]) := divQZ_f
end

set_option maxRecDepth 100000 in
theorem checkZ0_f  : FitsP 31 [rz 0 0] [] (.one (intS 2)) := by
  have hT : AllOk Tryz.prog Glob [
    Tr.call (nat_lit 25) [Sv.agg [Cv.raw (Value.bool (decide ((0 : Int) < (0 : Int)))), Cv.ent (nat (Int.natAbs (0 : Int)))]] [] (Av.one (Sv.cel (Cv.raw (Value.int IntKind.i64 (Int.ofNat (nat_lit 0)))))),
    Tr.call (nat_lit 75) [Sv.cel (Cv.ent (nat (0 : Nat)))] [] (Av.one (Sv.cel (Cv.raw (Value.int IntKind.i64 (Int.ofNat (nat_lit 0)))))),
    Tr.call (nat_lit 81) [Sv.cel (Cv.ent (nat (Int.natAbs (0 : Int)))), Sv.cel (Cv.ent (nat (0 : Nat)))] [] (Av.one (Sv.cel (Cv.ent (nat (0 : Nat))))),
    Tr.call (nat_lit 80) [Sv.cel (Cv.ent (nat (0 : Nat)))] [] (Av.one (Sv.cel (Cv.raw (Value.bool false))))] := ⟨
    checkI_f (lim_small1 (by decide +kernel)),
    check_f (small_lim (by decide +kernel)),
    gcd_f (small_lim (by decide +kernel)) (small_lim (by decide +kernel)),
    isOne_not (by decide +kernel), trivial⟩
  exact fits_of_trace (n := 300) (k0 := 0) hT Tryz.func31 (by kernel_rfl) (by kernel_rfl) (by kernel_rfl)

theorem checkNil_f : FitsP 31 [Sv.agg [Cv.raw (Value.bool false), Cv.raw (Value.slice none 0 0), Cv.raw (Value.slice none 0 0)]] [] (.one (intS 2)) := Fits.args checkZ0_f fun β W vals h => by
  obtain ⟨v, rfl, vs, rfl, hh⟩ := all2_1 h
  match vs, hh with
  | [a, b, c], ⟨h1, h2, h3, _⟩ => exact ⟨⟨[a, b, c], rfl, h1, norm_nil h2, norm_nil h3, trivial⟩, trivial⟩
theorem sum3_lit {p q r : Rat} (s : Rat) (hp : BQ 1 p) (hq : BQ 1 q) (hr : BQ 1 r) (hs : p + q + r = s) (x : Nat) (o : Bool) : FitsP 36 [Sv.cel (Cv.row x 0 3 3)] [(x, ⟨43, [Cv.raw (Value.bool (decide ((p : Rat).num < 0))), Cv.ent (nat (p : Rat).num.natAbs), Cv.ent (nat (p : Rat).den), Cv.raw (Value.bool (decide ((q : Rat).num < 0))), Cv.ent (nat (q : Rat).num.natAbs), Cv.ent (nat (q : Rat).den), Cv.raw (Value.bool (decide ((r : Rat).num < 0))), Cv.ent (nat (r : Rat).num.natAbs), Cv.ent (nat (r : Rat).den)], o⟩)] (.tup [rq s, ok0]) := sum3_f hp hq hr (by omega) hs x o

instance (z : Int) : Decidable (inI64 z) := by unfold inI64; exact inferInstance

set_option maxRecDepth 100000 in
theorem parts_f  : FitsP 24 [] [] (.one (boolS true)) := by
  have hT : AllOk Tryz.prog Glob [
    Tr.call (nat_lit 55) [Sv.cel (Cv.raw (Value.int IntKind.i64 (Int.ofNat (nat_lit 1)))), Sv.cel (Cv.raw (Value.int IntKind.i64 (Int.ofNat (nat_lit 2))))] [] (Av.one (Sv.agg [Cv.raw (Value.bool (decide (Rat.num (1 / 2 : Rat) < (0 : Int)))), Cv.ent (nat (Int.natAbs (Rat.num (1 / 2 : Rat)))), Cv.ent (nat (Rat.den (1 / 2 : Rat)))])),
    Tr.call (nat_lit 55) [Sv.cel (Cv.raw (Value.int IntKind.i64 (Int.negSucc (nat_lit 1)))), Sv.cel (Cv.raw (Value.int IntKind.i64 (Int.ofNat (nat_lit 6))))] [] (Av.one (Sv.agg [Cv.raw (Value.bool (decide (Rat.num (-1 / 3 : Rat) < (0 : Int)))), Cv.ent (nat (Int.natAbs (Rat.num (-1 / 3 : Rat)))), Cv.ent (nat (Rat.den (-1 / 3 : Rat)))])),
    Tr.call (nat_lit 33) [Sv.agg [Cv.raw (Value.bool (decide (Rat.num (1 / 2 : Rat) < (0 : Int)))), Cv.ent (nat (Int.natAbs (Rat.num (1 / 2 : Rat)))), Cv.ent (nat (Rat.den (1 / 2 : Rat)))], Sv.agg [Cv.raw (Value.bool (decide (Rat.num (-1 / 3 : Rat) < (0 : Int)))), Cv.ent (nat (Int.natAbs (Rat.num (-1 / 3 : Rat)))), Cv.ent (nat (Rat.den (-1 / 3 : Rat)))]] [] (Av.tup [Sv.agg [Cv.raw (Value.bool (decide (Rat.num (1 / 6 : Rat) < (0 : Int)))), Cv.ent (nat (Int.natAbs (Rat.num (1 / 6 : Rat)))), Cv.ent (nat (Rat.den (1 / 6 : Rat)))], Sv.cel (Cv.raw (Value.int IntKind.i64 (Int.ofNat (nat_lit 0))))]),
    Tr.call (nat_lit 34) [Sv.agg [Cv.raw (Value.bool (decide (Rat.num (1 / 2 : Rat) < (0 : Int)))), Cv.ent (nat (Int.natAbs (Rat.num (1 / 2 : Rat)))), Cv.ent (nat (Rat.den (1 / 2 : Rat)))], Sv.agg [Cv.raw (Value.bool (decide (Rat.num (-1 / 3 : Rat) < (0 : Int)))), Cv.ent (nat (Int.natAbs (Rat.num (-1 / 3 : Rat)))), Cv.ent (nat (Rat.den (-1 / 3 : Rat)))]] [] (Av.tup [Sv.agg [Cv.raw (Value.bool (decide (Rat.num (5 / 6 : Rat) < (0 : Int)))), Cv.ent (nat (Int.natAbs (Rat.num (5 / 6 : Rat)))), Cv.ent (nat (Rat.den (5 / 6 : Rat)))], Sv.cel (Cv.raw (Value.int IntKind.i64 (Int.ofNat (nat_lit 0))))]),
    Tr.call (nat_lit 35) [Sv.agg [Cv.raw (Value.bool (decide (Rat.num (1 / 2 : Rat) < (0 : Int)))), Cv.ent (nat (Int.natAbs (Rat.num (1 / 2 : Rat)))), Cv.ent (nat (Rat.den (1 / 2 : Rat)))], Sv.agg [Cv.raw (Value.bool (decide (Rat.num (-1 / 3 : Rat) < (0 : Int)))), Cv.ent (nat (Int.natAbs (Rat.num (-1 / 3 : Rat)))), Cv.ent (nat (Rat.den (-1 / 3 : Rat)))]] [] (Av.tup [Sv.agg [Cv.raw (Value.bool (decide (Rat.num (-1 / 6 : Rat) < (0 : Int)))), Cv.ent (nat (Int.natAbs (Rat.num (-1 / 6 : Rat)))), Cv.ent (nat (Rat.den (-1 / 6 : Rat)))], Sv.cel (Cv.raw (Value.int IntKind.i64 (Int.ofNat (nat_lit 0))))]),
    Tr.call (nat_lit 37) [Sv.agg [Cv.raw (Value.bool (decide (Rat.num (1 / 2 : Rat) < (0 : Int)))), Cv.ent (nat (Int.natAbs (Rat.num (1 / 2 : Rat)))), Cv.ent (nat (Rat.den (1 / 2 : Rat)))], Sv.agg [Cv.raw (Value.bool (decide (Rat.num (-1 / 3 : Rat) < (0 : Int)))), Cv.ent (nat (Int.natAbs (Rat.num (-1 / 3 : Rat)))), Cv.ent (nat (Rat.den (-1 / 3 : Rat)))]] [] (Av.tup [Sv.agg [Cv.raw (Value.bool (decide (Rat.num (-3 / 2 : Rat) < (0 : Int)))), Cv.ent (nat (Int.natAbs (Rat.num (-3 / 2 : Rat)))), Cv.ent (nat (Rat.den (-3 / 2 : Rat)))], Sv.cel (Cv.raw (Value.int IntKind.i64 (Int.ofNat (nat_lit 0))))]),
    Tr.call (nat_lit 36) [Sv.cel (Cv.row (nat_lit 46) (nat_lit 0) (nat_lit 3) (nat_lit 3))] [(nat_lit 46, { t := nat_lit 43, cs := [Cv.raw (Value.bool (decide (Rat.num (1 / 2 : Rat) < (0 : Int)))), Cv.ent (nat (Int.natAbs (Rat.num (1 / 2 : Rat)))), Cv.ent (nat (Rat.den (1 / 2 : Rat))), Cv.raw (Value.bool (decide (Rat.num (1 / 2 : Rat) < (0 : Int)))), Cv.ent (nat (Int.natAbs (Rat.num (1 / 2 : Rat)))), Cv.ent (nat (Rat.den (1 / 2 : Rat))), Cv.raw (Value.bool (decide (Rat.num (-1 / 3 : Rat) < (0 : Int)))), Cv.ent (nat (Int.natAbs (Rat.num (-1 / 3 : Rat)))), Cv.ent (nat (Rat.den (-1 / 3 : Rat)))], own := true })] (Av.tup [Sv.agg [Cv.raw (Value.bool (decide (Rat.num (2 / 3 : Rat) < (0 : Int)))), Cv.ent (nat (Int.natAbs (Rat.num (2 / 3 : Rat)))), Cv.ent (nat (Rat.den (2 / 3 : Rat)))], Sv.cel (Cv.raw (Value.int IntKind.i64 (Int.ofNat (nat_lit 0))))]),
    Tr.call (nat_lit 39) [Sv.agg [Cv.raw (Value.bool (decide (Rat.num (1 / 2 : Rat) < (0 : Int)))), Cv.ent (nat (Int.natAbs (Rat.num (1 / 2 : Rat)))), Cv.ent (nat (Rat.den (1 / 2 : Rat)))], Sv.agg [Cv.raw (Value.bool (decide (Rat.num (-1 / 3 : Rat) < (0 : Int)))), Cv.ent (nat (Int.natAbs (Rat.num (-1 / 3 : Rat)))), Cv.ent (nat (Rat.den (-1 / 3 : Rat)))]] [] (Av.tup [Sv.cel (Cv.raw (Value.int IntKind.i64 (Int.ofNat (nat_lit 1)))), Sv.cel (Cv.raw (Value.int IntKind.i64 (Int.ofNat (nat_lit 0))))]),
    Tr.call (nat_lit 49) [Sv.cel (Cv.raw (Value.string { data := #[(45 : UInt8), (48 : UInt8), (46 : UInt8), (50 : UInt8), (53 : UInt8)] }))] [] (Av.tup [Sv.agg [Cv.raw (Value.bool (decide (Rat.num (-1 / 4 : Rat) < (0 : Int)))), Cv.ent (nat (Int.natAbs (Rat.num (-1 / 4 : Rat)))), Cv.ent (nat (Rat.den (-1 / 4 : Rat)))], Sv.cel (Cv.raw (Value.int IntKind.i64 (Int.ofNat (nat_lit 0))))]),
    Tr.call (nat_lit 29) [] [] (Av.one (Sv.agg [Cv.raw (Value.bool (decide (Rat.num (0 : Rat) < (0 : Int)))), Cv.ent (nat (Int.natAbs (Rat.num (0 : Rat)))), Cv.ent (nat (Rat.den (0 : Rat)))])),
    Tr.call (nat_lit 37) [Sv.agg [Cv.raw (Value.bool (decide (Rat.num (1 / 2 : Rat) < (0 : Int)))), Cv.ent (nat (Int.natAbs (Rat.num (1 / 2 : Rat)))), Cv.ent (nat (Rat.den (1 / 2 : Rat)))], Sv.agg [Cv.raw (Value.bool (decide (Rat.num (0 : Rat) < (0 : Int)))), Cv.ent (nat (Int.natAbs (Rat.num (0 : Rat)))), Cv.ent (nat (Rat.den (0 : Rat)))]] [] (Av.tup [Sv.agg [Cv.raw (Value.bool (decide (Rat.num (0 : Rat) < (0 : Int)))), Cv.ent (nat (Int.natAbs (Rat.num (0 : Rat)))), Cv.ent (nat (Rat.den (0 : Rat)))], Sv.cel (Cv.raw (Value.int IntKind.i64 (Int.ofNat (nat_lit 10))))]),
    Tr.call (nat_lit 48) [Sv.agg [Cv.raw (Value.bool (decide (Rat.num (1 / 6 : Rat) < (0 : Int)))), Cv.ent (nat (Int.natAbs (Rat.num (1 / 6 : Rat)))), Cv.ent (nat (Rat.den (1 / 6 : Rat)))]] [] (Av.one (Sv.cel (Cv.raw (Value.string { data := #[(49 : UInt8), (47 : UInt8), (54 : UInt8)] })))),
    Tr.call (nat_lit 48) [Sv.agg [Cv.raw (Value.bool (decide (Rat.num (5 / 6 : Rat) < (0 : Int)))), Cv.ent (nat (Int.natAbs (Rat.num (5 / 6 : Rat)))), Cv.ent (nat (Rat.den (5 / 6 : Rat)))]] [] (Av.one (Sv.cel (Cv.raw (Value.string { data := #[(53 : UInt8), (47 : UInt8), (54 : UInt8)] })))),
    Tr.call (nat_lit 48) [Sv.agg [Cv.raw (Value.bool (decide (Rat.num (-1 / 6 : Rat) < (0 : Int)))), Cv.ent (nat (Int.natAbs (Rat.num (-1 / 6 : Rat)))), Cv.ent (nat (Rat.den (-1 / 6 : Rat)))]] [] (Av.one (Sv.cel (Cv.raw (Value.string { data := #[(45 : UInt8), (49 : UInt8), (47 : UInt8), (54 : UInt8)] })))),
    Tr.call (nat_lit 48) [Sv.agg [Cv.raw (Value.bool (decide (Rat.num (-3 / 2 : Rat) < (0 : Int)))), Cv.ent (nat (Int.natAbs (Rat.num (-3 / 2 : Rat)))), Cv.ent (nat (Rat.den (-3 / 2 : Rat)))]] [] (Av.one (Sv.cel (Cv.raw (Value.string { data := #[(45 : UInt8), (51 : UInt8), (47 : UInt8), (50 : UInt8)] })))),
    Tr.call (nat_lit 48) [Sv.agg [Cv.raw (Value.bool (decide (Rat.num (2 / 3 : Rat) < (0 : Int)))), Cv.ent (nat (Int.natAbs (Rat.num (2 / 3 : Rat)))), Cv.ent (nat (Rat.den (2 / 3 : Rat)))]] [] (Av.one (Sv.cel (Cv.raw (Value.string { data := #[(50 : UInt8), (47 : UInt8), (51 : UInt8)] })))),
    Tr.call (nat_lit 48) [Sv.agg [Cv.raw (Value.bool (decide (Rat.num (-1 / 4 : Rat) < (0 : Int)))), Cv.ent (nat (Int.natAbs (Rat.num (-1 / 4 : Rat)))), Cv.ent (nat (Rat.den (-1 / 4 : Rat)))]] [] (Av.one (Sv.cel (Cv.raw (Value.string { data := #[(45 : UInt8), (49 : UInt8), (47 : UInt8), (52 : UInt8)] })))),
    Tr.call (nat_lit 38) [Sv.agg [Cv.raw (Value.bool (decide (Rat.num (-1 / 3 : Rat) < (0 : Int)))), Cv.ent (nat (Int.natAbs (Rat.num (-1 / 3 : Rat)))), Cv.ent (nat (Rat.den (-1 / 3 : Rat)))]] [] (Av.one (Sv.cel (Cv.raw (Value.int IntKind.i64 (Int.negSucc (nat_lit 0)))))),
    Tr.call (nat_lit 41) [Sv.agg [Cv.raw (Value.bool (decide (Rat.num (-1 / 3 : Rat) < (0 : Int)))), Cv.ent (nat (Int.natAbs (Rat.num (-1 / 3 : Rat)))), Cv.ent (nat (Rat.den (-1 / 3 : Rat)))]] [] (Av.one (Sv.agg [Cv.raw (Value.bool (decide (Rat.num (1 / 3 : Rat) < (0 : Int)))), Cv.ent (nat (Int.natAbs (Rat.num (1 / 3 : Rat)))), Cv.ent (nat (Rat.den (1 / 3 : Rat)))])),
    Tr.call (nat_lit 48) [Sv.agg [Cv.raw (Value.bool (decide (Rat.num (1 / 3 : Rat) < (0 : Int)))), Cv.ent (nat (Int.natAbs (Rat.num (1 / 3 : Rat)))), Cv.ent (nat (Rat.den (1 / 3 : Rat)))]] [] (Av.one (Sv.cel (Cv.raw (Value.string { data := #[(49 : UInt8), (47 : UInt8), (51 : UInt8)] })))),
    Tr.call (nat_lit 40) [Sv.agg [Cv.raw (Value.bool (decide (Rat.num (1 / 2 : Rat) < (0 : Int)))), Cv.ent (nat (Int.natAbs (Rat.num (1 / 2 : Rat)))), Cv.ent (nat (Rat.den (1 / 2 : Rat)))]] [] (Av.one (Sv.agg [Cv.raw (Value.bool (decide (Rat.num (-1 / 2 : Rat) < (0 : Int)))), Cv.ent (nat (Int.natAbs (Rat.num (-1 / 2 : Rat)))), Cv.ent (nat (Rat.den (-1 / 2 : Rat)))])),
    Tr.call (nat_lit 48) [Sv.agg [Cv.raw (Value.bool (decide (Rat.num (-1 / 2 : Rat) < (0 : Int)))), Cv.ent (nat (Int.natAbs (Rat.num (-1 / 2 : Rat)))), Cv.ent (nat (Rat.den (-1 / 2 : Rat)))]] [] (Av.one (Sv.cel (Cv.raw (Value.string { data := #[(45 : UInt8), (49 : UInt8), (47 : UInt8), (50 : UInt8)] })))),
    Tr.call (nat_lit 42) [Sv.agg [Cv.raw (Value.bool (decide (Rat.num (-3 / 2 : Rat) < (0 : Int)))), Cv.ent (nat (Int.natAbs (Rat.num (-3 / 2 : Rat)))), Cv.ent (nat (Rat.den (-3 / 2 : Rat)))]] [] (Av.one (Sv.agg [Cv.raw (Value.bool (decide ((-2 : Int) < (0 : Int)))), Cv.ent (nat (Int.natAbs (-2 : Int)))])),
    Tr.call (nat_lit 52) [Sv.agg [Cv.raw (Value.bool (decide ((-2 : Int) < (0 : Int)))), Cv.ent (nat (Int.natAbs (-2 : Int)))]] [] (Av.one (Sv.cel (Cv.raw (Value.string { data := #[(45 : UInt8), (50 : UInt8)] })))),
    Tr.call (nat_lit 43) [Sv.agg [Cv.raw (Value.bool (decide (Rat.num (-3 / 2 : Rat) < (0 : Int)))), Cv.ent (nat (Int.natAbs (Rat.num (-3 / 2 : Rat)))), Cv.ent (nat (Rat.den (-3 / 2 : Rat)))]] [] (Av.one (Sv.agg [Cv.raw (Value.bool (decide ((-1 : Int) < (0 : Int)))), Cv.ent (nat (Int.natAbs (-1 : Int)))])),
    Tr.call (nat_lit 52) [Sv.agg [Cv.raw (Value.bool (decide ((-1 : Int) < (0 : Int)))), Cv.ent (nat (Int.natAbs (-1 : Int)))]] [] (Av.one (Sv.cel (Cv.raw (Value.string { data := #[(45 : UInt8), (49 : UInt8)] })))),
    Tr.call (nat_lit 47) [Sv.cel (Cv.raw (Value.int IntKind.i64 (Int.ofNat (nat_lit 4))))] [] (Av.one (Sv.agg [Cv.raw (Value.bool (decide ((4 : Int) < (0 : Int)))), Cv.ent (nat (Int.natAbs (4 : Int)))])),
    Tr.call (nat_lit 44) [Sv.agg [Cv.raw (Value.bool (decide ((4 : Int) < (0 : Int)))), Cv.ent (nat (Int.natAbs (4 : Int)))]] [] (Av.one (Sv.agg [Cv.raw (Value.bool (decide (Rat.num (4 : Rat) < (0 : Int)))), Cv.ent (nat (Int.natAbs (Rat.num (4 : Rat)))), Cv.ent (nat (Rat.den (4 : Rat)))])),
    Tr.call (nat_lit 48) [Sv.agg [Cv.raw (Value.bool (decide (Rat.num (4 : Rat) < (0 : Int)))), Cv.ent (nat (Int.natAbs (Rat.num (4 : Rat)))), Cv.ent (nat (Rat.den (4 : Rat)))]] [] (Av.one (Sv.cel (Cv.raw (Value.string { data := #[(52 : UInt8)] })))),
    Tr.call (nat_lit 31) [Sv.agg [Cv.raw (Value.bool (decide (Rat.num (1 / 2 : Rat) < (0 : Int)))), Cv.ent (nat (Int.natAbs (Rat.num (1 / 2 : Rat)))), Cv.ent (nat (Rat.den (1 / 2 : Rat)))]] [] (Av.one (Sv.cel (Cv.raw (Value.int IntKind.i64 (Int.ofNat (nat_lit 0)))))),
    Tr.call (nat_lit 31) [Sv.agg [Cv.raw (Value.bool false), Cv.raw (Value.slice none (nat_lit 0) (nat_lit 0)), Cv.raw (Value.slice none (nat_lit 0) (nat_lit 0))]] [] (Av.one (Sv.cel (Cv.raw (Value.int IntKind.i64 (Int.ofNat (nat_lit 2))))))] := ⟨
    ofQ_lit (a := 1) (d := 2) ((1 / 2 : Rat)) (by decide +kernel) (by decide +kernel) (by decide +kernel) (by decide +kernel),
    ofQ_lit (a := -2) (d := 6) ((-1 / 3 : Rat)) (by decide +kernel) (by decide +kernel) (by decide +kernel) (by decide +kernel),
    addQ_lit (p := ((1 / 2 : Rat))) (q := ((-1 / 3 : Rat))) ((1 / 6 : Rat)) ⟨by decide +kernel, by decide +kernel⟩ ⟨by decide +kernel, by decide +kernel⟩ (by decide +kernel),
    subQ_lit (p := ((1 / 2 : Rat))) (q := ((-1 / 3 : Rat))) ((5 / 6 : Rat)) ⟨by decide +kernel, by decide +kernel⟩ ⟨by decide +kernel, by decide +kernel⟩ (by decide +kernel),
    mulQ_lit (p := ((1 / 2 : Rat))) (q := ((-1 / 3 : Rat))) ((-1 / 6 : Rat)) ⟨by decide +kernel, by decide +kernel⟩ ⟨by decide +kernel, by decide +kernel⟩ (by decide +kernel),
    divQ_lit (p := ((1 / 2 : Rat))) (q := ((-1 / 3 : Rat))) ((-3 / 2 : Rat)) ⟨by decide +kernel, by decide +kernel⟩ ⟨by decide +kernel, by decide +kernel⟩ (by decide +kernel) (by decide +kernel),
    sum3_lit (p := ((1 / 2 : Rat))) (q := ((1 / 2 : Rat))) (r := ((-1 / 3 : Rat))) ((2 / 3 : Rat)) ⟨by decide +kernel, by decide +kernel⟩ ⟨by decide +kernel, by decide +kernel⟩ ⟨by decide +kernel, by decide +kernel⟩ (by decide +kernel) _ _,
    cmp_lit (p := ((1 / 2 : Rat))) (q := ((-1 / 3 : Rat))) (k := 1) (m := 1) (n := 1) ⟨by decide +kernel, by decide +kernel⟩ ⟨by decide +kernel, by decide +kernel⟩ (by decide +kernel) (by decide +kernel),
    parse025_f,
    zeroQ0_f,
    divZ_f (p := ((1 / 2 : Rat))),
    text2_lit (z := 1) (d := 6) (s := ⟨#[49]⟩) (t := ⟨#[54]⟩) (u := ⟨#[49, 47, 54]⟩) ((1 / 6 : Rat)) (by decide +kernel) (by decide +kernel) (by decide +kernel) ⟨[49], by decide +kernel, rfl⟩ (by decide +kernel) (lim_small1 (by decide +kernel)) (small_lim (by decide +kernel)) (by decide +kernel),
    text2_lit (z := 5) (d := 6) (s := ⟨#[53]⟩) (t := ⟨#[54]⟩) (u := ⟨#[53, 47, 54]⟩) ((5 / 6 : Rat)) (by decide +kernel) (by decide +kernel) (by decide +kernel) ⟨[53], by decide +kernel, rfl⟩ (by decide +kernel) (lim_small1 (by decide +kernel)) (small_lim (by decide +kernel)) (by decide +kernel),
    text2_lit (z := -1) (d := 6) (s := ⟨#[45, 49]⟩) (t := ⟨#[54]⟩) (u := ⟨#[45, 49, 47, 54]⟩) ((-1 / 6 : Rat)) (by decide +kernel) (by decide +kernel) (by decide +kernel) ⟨[49], by decide +kernel, rfl⟩ (by decide +kernel) (lim_small1 (by decide +kernel)) (small_lim (by decide +kernel)) (by decide +kernel),
    text2_lit (z := -3) (d := 2) (s := ⟨#[45, 51]⟩) (t := ⟨#[50]⟩) (u := ⟨#[45, 51, 47, 50]⟩) ((-3 / 2 : Rat)) (by decide +kernel) (by decide +kernel) (by decide +kernel) ⟨[51], by decide +kernel, rfl⟩ (by decide +kernel) (lim_small1 (by decide +kernel)) (small_lim (by decide +kernel)) (by decide +kernel),
    text2_lit (z := 2) (d := 3) (s := ⟨#[50]⟩) (t := ⟨#[51]⟩) (u := ⟨#[50, 47, 51]⟩) ((2 / 3 : Rat)) (by decide +kernel) (by decide +kernel) (by decide +kernel) ⟨[50], by decide +kernel, rfl⟩ (by decide +kernel) (lim_small1 (by decide +kernel)) (small_lim (by decide +kernel)) (by decide +kernel),
    text2_lit (z := -1) (d := 4) (s := ⟨#[45, 49]⟩) (t := ⟨#[52]⟩) (u := ⟨#[45, 49, 47, 52]⟩) ((-1 / 4 : Rat)) (by decide +kernel) (by decide +kernel) (by decide +kernel) ⟨[49], by decide +kernel, rfl⟩ (by decide +kernel) (lim_small1 (by decide +kernel)) (small_lim (by decide +kernel)) (by decide +kernel),
    signQ_is (q := ((-1 / 3 : Rat))) (k := Int.negSucc 0) (by decide +kernel),
    abs_lit (p := ((-1 / 3 : Rat))) ((1 / 3 : Rat)) (by decide +kernel),
    text2_lit (z := 1) (d := 3) (s := ⟨#[49]⟩) (t := ⟨#[51]⟩) (u := ⟨#[49, 47, 51]⟩) ((1 / 3 : Rat)) (by decide +kernel) (by decide +kernel) (by decide +kernel) ⟨[49], by decide +kernel, rfl⟩ (by decide +kernel) (lim_small1 (by decide +kernel)) (small_lim (by decide +kernel)) (by decide +kernel),
    neg_lit (p := ((1 / 2 : Rat))) ((-1 / 2 : Rat)) (by decide +kernel),
    text2_lit (z := -1) (d := 2) (s := ⟨#[45, 49]⟩) (t := ⟨#[50]⟩) (u := ⟨#[45, 49, 47, 50]⟩) ((-1 / 2 : Rat)) (by decide +kernel) (by decide +kernel) (by decide +kernel) ⟨[49], by decide +kernel, rfl⟩ (by decide +kernel) (lim_small1 (by decide +kernel)) (small_lim (by decide +kernel)) (by decide +kernel),
    floor_lit (p := ((-3 / 2 : Rat))) (z := -2) ⟨by decide +kernel, by decide +kernel⟩ (by decide +kernel),
    textI_f (z1 := -2) ⟨#[45, 50]⟩ ⟨[50], by decide +kernel, rfl⟩ (lim_small1 (by decide +kernel)),
    ceil_lit (p := ((-3 / 2 : Rat))) (z := -1) ⟨by decide +kernel, by decide +kernel⟩ (by decide +kernel),
    textI_f (z1 := -1) ⟨#[45, 49]⟩ ⟨[49], by decide +kernel, rfl⟩ (lim_small1 (by decide +kernel)),
    ofI_f (z1 := 4) (by decide +kernel),
    wholeB_f (z := 4),
    text1_lit (z := 4) (s := ⟨#[52]⟩) ((4 : Rat)) (by decide +kernel) (by decide +kernel) ⟨[52], by decide +kernel, rfl⟩ (lim_small1 (by decide +kernel)),
    checkB_f (p := ((1 / 2 : Rat))) (m := 1) ⟨by decide +kernel, by decide +kernel⟩ (by decide +kernel),
    checkNil_f, trivial⟩
  exact fits_of_trace (n := 400) (k0 := 0) hT Tryz.func24 (by kernel_rfl) (by kernel_rfl) (by kernel_rfl)
end Go.Proofs.YtlgfjgkcgimdoaaGreatDoor
