/- Layer 4: its own small functions. -/
import Derived.Test.YtphpaejgcahgbaaGreatDoorRatN
import Derived.Test.YtphpaejgcahgbaaGreatDoorRatFit
namespace Go.Proofs.YtphpaejgcahgbaaGreatDoor
open Go Go.RowKit Go.Shelf AM
theorem parseIG_f {z : Int} {s : ByteArray} (m : Bool) (d : List UInt8) (hs : s.data.toList = (if m then 45 :: d else d)) (hD : AllD d) (h0 : d ≠ []) (hl : d.length ≤ 4900) (hz : sg m (decv d) = z) : FitsP 77 [rawS (.string s)] [] (.tup [im z, ok0]) := by
  subst hz; exact fits_raw_I0 cal77 _ fun w _ => parseInt_c w s m d hs hD h0 hl
theorem dparse_lit {n : Nat} {s : ByteArray} (hD : AllD s.data.toList) (h0 : s.data.toList ≠ []) (hl : s.size ≤ 4900) (hz : decv s.data.toList = n) : FitsP 157 [rawS (.string s)] [] (.tup [natS n, ok0]) := by subst hz; exact dparse_f s hD h0 hl
theorem nat_pn {d : Nat} : FitsP 31 [natS d] [] (.one (pn d)) := by rw [← im_pn]; exact nat_f
theorem make1_lit {z : Int} {d : Nat} (q : Rat) (h1 : LimI z) (h2 : d < Lim) (h0 : d ≠ 0) (h : Rat.normalize z d h0 = q) : FitsP 30 [im z, pn d] [] (.tup [rq q, ok0]) := by subst h; exact make1_f h1 h2 h0

theorem lim_small1 {z : Int} (h : z.natAbs < 18446744073709551616) : LimI z := small_lim h

set_option maxRecDepth 100000 in
theorem point_f  : FitsP 109 [(rawS (.string ⟨#[45, 48]⟩)), (rawS (.string ⟨#[50, 53]⟩))] [] (.tup [rq ((-1 / 4 : Rat)), ok0]) := by
  have hT : AllOk Tryz.prog Glob [
    Tr.call 77 [Sv.cel (Cv.raw (Value.string { data := #[(45 : UInt8), (48 : UInt8)] }))] [] (Av.tup [Sv.agg [Cv.raw (Value.bool (decide ((0 : Int) < (0 : Int)))), Cv.ent (nat (Int.natAbs (0 : Int)))], Sv.cel (Cv.raw (Value.int IntKind.i64 (Int.ofNat (nat_lit 0))))]),
    Tr.call 157 [Sv.cel (Cv.raw (Value.string { data := #[(50 : UInt8), (53 : UInt8)] }))] [] (Av.tup [Sv.cel (Cv.ent (nat (25 : Nat))), Sv.cel (Cv.raw (Value.int IntKind.i64 (Int.ofNat (nat_lit 0))))]),
    Tr.call 77 [Sv.cel (Cv.raw (Value.string ({ data := #[(45 : UInt8), (48 : UInt8)] } ++ { data := #[(50 : UInt8), (53 : UInt8)] })))] [] (Av.tup [Sv.agg [Cv.raw (Value.bool (decide ((-25 : Int) < (0 : Int)))), Cv.ent (nat (Int.natAbs (-25 : Int)))], Sv.cel (Cv.raw (Value.int IntKind.i64 (Int.ofNat (nat_lit 0))))]),
    Tr.call 29 [Sv.cel (Cv.raw (Value.int IntKind.i64 (Int.ofNat (nat_lit 2))))] [] (Av.tup [Sv.cel (Cv.ent (nat (100 : Nat))), Sv.cel (Cv.raw (Value.int IntKind.i64 (Int.ofNat (nat_lit 0))))]),
    Tr.call 31 [Sv.cel (Cv.ent (nat (100 : Nat)))] [] (Av.one (Sv.agg [Cv.raw (Value.bool false), Cv.ent (nat (100 : Nat))])),
    Tr.call 30 [Sv.agg [Cv.raw (Value.bool (decide ((-25 : Int) < (0 : Int)))), Cv.ent (nat (Int.natAbs (-25 : Int)))], Sv.agg [Cv.raw (Value.bool false), Cv.ent (nat (100 : Nat))]] [] (Av.tup [Sv.agg [Cv.raw (Value.bool (decide (Rat.num (-1 / 4 : Rat) < (0 : Int)))), Cv.ent (nat (Int.natAbs (Rat.num (-1 / 4 : Rat)))), Cv.ent (nat (Rat.den (-1 / 4 : Rat)))], Sv.cel (Cv.raw (Value.int IntKind.i64 (Int.ofNat (nat_lit 0))))])] := ⟨
    parseIG_f true [48] rfl (by decide +kernel) (by decide +kernel) (by decide +kernel) (by decide +kernel),
    dparse_lit (by decide +kernel) (by decide +kernel) (by decide +kernel) (by decide +kernel),
    parseIG_f true [48, 50, 53] rfl (by decide +kernel) (by decide +kernel) (by decide +kernel) (by decide +kernel),
    ten_f (k := 2) (by decide +kernel),
    nat_pn,
    make1_lit _ (lim_small1 (by decide +kernel)) (small_lim (by decide +kernel)) (by decide +kernel) (by decide +kernel), trivial⟩
  exact fits_of_trace (n := 300) (k0 := 0) hT Tryz.func109 (by kernel_rfl) (by kernel_rfl) (by kernel_rfl)

set_option maxRecDepth 100000 in
theorem parse025_f  : FitsP 28 [(rawS (.string ⟨#[45, 48, 46, 50, 53]⟩))] [] (.tup [rq ((-1 / 4 : Rat)), ok0]) := by
  have hT : AllOk Tryz.prog Glob [
    Tr.call 107 [Sv.cel (Cv.raw (Value.string { data := #[(45 : UInt8), (48 : UInt8), (46 : UInt8), (50 : UInt8), (53 : UInt8)] })), Sv.cel (Cv.raw (Value.string { data := #[(47 : UInt8)] }))] [] (Av.tup [Sv.cel (Cv.raw (Value.string { data := #[(45 : UInt8), (48 : UInt8), (46 : UInt8), (50 : UInt8), (53 : UInt8)] })), Sv.cel (Cv.raw (Value.string { data := #[] })), Sv.cel (Cv.raw (Value.bool false))]),
    Tr.call 107 [Sv.cel (Cv.raw (Value.string { data := #[(45 : UInt8), (48 : UInt8), (46 : UInt8), (50 : UInt8), (53 : UInt8)] })), Sv.cel (Cv.raw (Value.string { data := #[(46 : UInt8)] }))] [] (Av.tup [Sv.cel (Cv.raw (Value.string { data := #[(45 : UInt8), (48 : UInt8)] })), Sv.cel (Cv.raw (Value.string { data := #[(50 : UInt8), (53 : UInt8)] })), Sv.cel (Cv.raw (Value.bool true))]),
    Tr.call 109 [Sv.cel (Cv.raw (Value.string { data := #[(45 : UInt8), (48 : UInt8)] })), Sv.cel (Cv.raw (Value.string { data := #[(50 : UInt8), (53 : UInt8)] }))] [] (Av.tup [Sv.agg [Cv.raw (Value.bool (decide (Rat.num (-1 / 4 : Rat) < (0 : Int)))), Cv.ent (nat (Int.natAbs (Rat.num (-1 / 4 : Rat)))), Cv.ent (nat (Rat.den (-1 / 4 : Rat)))], Sv.cel (Cv.raw (Value.int IntKind.i64 (Int.ofNat (nat_lit 0))))])] := ⟨
    cut_f (by decide +kernel) (by decide +kernel),
    cut_f (by decide +kernel) (by decide +kernel),
    point_f, trivial⟩
  exact fits_of_trace (n := 300) (k0 := 0) hT Tryz.func28 (by kernel_rfl) (by kernel_rfl) (by kernel_rfl)

set_option maxRecDepth 100000 in
theorem sum3_0 {p q r : Rat} {m n k : Nat} (hp : BQ m p) (hq : BQ n q) (hr : BQ k r) (h : m + n + k + 10 ≤ 512) : FitsP 97 [Sv.cel (Cv.row 0 0 3 3)] [(0, ⟨44, [Cv.raw (Value.bool (decide ((p : Rat).num < 0))), Cv.ent (nat (p : Rat).num.natAbs), Cv.ent (nat (p : Rat).den), Cv.raw (Value.bool (decide ((q : Rat).num < 0))), Cv.ent (nat (q : Rat).num.natAbs), Cv.ent (nat (q : Rat).den), Cv.raw (Value.bool (decide ((r : Rat).num < 0))), Cv.ent (nat (r : Rat).num.natAbs), Cv.ent (nat (r : Rat).den)], true⟩)] (.tup [rq (0 + p + q + r), ok0]) := by
  have hT : AllOk Tryz.prog Glob [
    Tr.call 98 [] [] (Av.one (Sv.agg [Cv.raw (Value.bool (decide (Rat.num (0 : Rat) < (0 : Int)))), Cv.ent (nat (Int.natAbs (Rat.num (0 : Rat)))), Cv.ent (nat (Rat.den (0 : Rat)))])),
    Tr.call 37 [Sv.agg [Cv.raw (Value.bool (decide (Rat.num (0 : Rat) < (0 : Int)))), Cv.ent (nat (Int.natAbs (Rat.num (0 : Rat)))), Cv.ent (nat (Rat.den (0 : Rat)))], Sv.agg [Cv.raw (Value.bool (decide (Rat.num p < (0 : Int)))), Cv.ent (nat (Int.natAbs (Rat.num p))), Cv.ent (nat (Rat.den p))]] [] (Av.tup [Sv.agg [Cv.raw (Value.bool (decide (Rat.num ((0 : Rat) + p) < (0 : Int)))), Cv.ent (nat (Int.natAbs (Rat.num ((0 : Rat) + p)))), Cv.ent (nat (Rat.den ((0 : Rat) + p)))], Sv.cel (Cv.raw (Value.int IntKind.i64 (Int.ofNat (nat_lit 0))))]),
    Tr.call 37 [Sv.agg [Cv.raw (Value.bool (decide (Rat.num ((0 : Rat) + p) < (0 : Int)))), Cv.ent (nat (Int.natAbs (Rat.num ((0 : Rat) + p)))), Cv.ent (nat (Rat.den ((0 : Rat) + p)))], Sv.agg [Cv.raw (Value.bool (decide (Rat.num q < (0 : Int)))), Cv.ent (nat (Int.natAbs (Rat.num q))), Cv.ent (nat (Rat.den q))]] [] (Av.tup [Sv.agg [Cv.raw (Value.bool (decide (Rat.num ((0 : Rat) + p + q) < (0 : Int)))), Cv.ent (nat (Int.natAbs (Rat.num ((0 : Rat) + p + q)))), Cv.ent (nat (Rat.den ((0 : Rat) + p + q)))], Sv.cel (Cv.raw (Value.int IntKind.i64 (Int.ofNat (nat_lit 0))))]),
    Tr.call 37 [Sv.agg [Cv.raw (Value.bool (decide (Rat.num ((0 : Rat) + p + q) < (0 : Int)))), Cv.ent (nat (Int.natAbs (Rat.num ((0 : Rat) + p + q)))), Cv.ent (nat (Rat.den ((0 : Rat) + p + q)))], Sv.agg [Cv.raw (Value.bool (decide (Rat.num r < (0 : Int)))), Cv.ent (nat (Int.natAbs (Rat.num r))), Cv.ent (nat (Rat.den r))]] [] (Av.tup [Sv.agg [Cv.raw (Value.bool (decide (Rat.num ((0 : Rat) + p + q + r) < (0 : Int)))), Cv.ent (nat (Int.natAbs (Rat.num ((0 : Rat) + p + q + r)))), Cv.ent (nat (Rat.den ((0 : Rat) + p + q + r)))], Sv.cel (Cv.raw (Value.int IntKind.i64 (Int.ofNat (nat_lit 0))))])] := ⟨
    zeroQ0_f,
    addQ_f bq_zero hp (by omega),
    addQ_f (bq_zero.add hp) hq (by omega),
    addQ_f ((bq_zero.add hp).add hq) hr (by omega), trivial⟩
  exact fits_of_trace (n := 300) (k0 := 1) hT Tryz.func97 (by kernel_rfl) (by kernel_rfl) (by kernel_rfl)

theorem sum3_f {p q r s : Rat} {m n k : Nat} (hp : BQ m p) (hq : BQ n q) (hr : BQ k r) (h : m + n + k + 10 ≤ 512) (hs : p + q + r = s) (x : Nat) (o : Bool) : FitsP 97 [Sv.cel (Cv.row x 0 3 3)] [(x, ⟨44, [Cv.raw (Value.bool (decide ((p : Rat).num < 0))), Cv.ent (nat (p : Rat).num.natAbs), Cv.ent (nat (p : Rat).den), Cv.raw (Value.bool (decide ((q : Rat).num < 0))), Cv.ent (nat (q : Rat).num.natAbs), Cv.ent (nat (q : Rat).den), Cv.raw (Value.bool (decide ((r : Rat).num < 0))), Cv.ent (nat (r : Rat).num.natAbs), Cv.ent (nat (r : Rat).den)], o⟩)] (.tup [rq s, ok0]) := by
  have e : 0 + p + q + r = s := by rw [← hs, Rat.zero_add]
  rw [← e]
  exact Fits.row (pre := []) (sum3_0 hp hq hr h) rfl rfl rfl x o

section
variable {p q s : Rat}
theorem addQ_lit (s : Rat) (hp : BQ 1 p) (hq : BQ 1 q) (h : p + q = s) : FitsP 37 [rq p, rq q] [] (.tup [rq s, ok0]) := by subst h; exact addQ_f hp hq (by omega)
theorem subQ_lit (s : Rat) (hp : BQ 1 p) (hq : BQ 1 q) (h : p - q = s) : FitsP 39 [rq p, rq q] [] (.tup [rq s, ok0]) := by subst h; exact subQ_f hp hq (by omega)
theorem mulQ_lit (s : Rat) (hp : BQ 1 p) (hq : BQ 1 q) (h : p * q = s) : FitsP 50 [rq p, rq q] [] (.tup [rq s, ok0]) := by subst h; exact mulQ_f hp hq (by omega)
theorem divQ_lit (s : Rat) (hp : BQ 1 p) (hq : BQ 1 q) (h0 : q ≠ 0) (h : p / q = s) : FitsP 96 [rq p, rq q] [] (.tup [rq s, ok0]) := by subst h; exact divQ_f hp hq h0 (by omega)
theorem text1_lit {z : Int} {s : ByteArray} (q : Rat) (hn : q.num = z) (hd : q.den = 1) (hs : DecI z s.data.toList) (h1 : LimI z) : FitsP 33 [rq q] [] (.one (rawS (.string s))) := by rw [rq_lit hn hd]; exact text1_f hs h1
theorem text2_lit {z : Int} {d : Nat} {s t u : ByteArray} (q : Rat) (hn : q.num = z) (hd : q.den = d) (h0 : d ≠ 1) (hs : DecI z s.data.toList) (ht : Dec d t.data.toList) (h1 : LimI z) (h2 : d < Lim) (hu : s ++ ⟨#[47]⟩ ++ t = u) : FitsP 33 [rq q] [] (.one (rawS (.string u))) := by
  subst hu; rw [rq_lit hn hd]; exact text2_f h0 hs ht h1 h2
theorem neg_lit (s : Rat) (h : -p = s) : FitsP 99 [rq p] [] (.one (rq s)) := by subst h; exact negQ_f
theorem abs_lit (s : Rat) (h : absQ p = s) : FitsP 69 [rq p] [] (.one (rq s)) := by subst h; exact absQ_f
theorem floor_lit {z : Int} (hp : BQ 1 p) (h : p.floor = z) : FitsP 41 [rq p] [] (.one (im z)) := by subst h; exact floorB_f hp (by omega)
theorem ceil_lit {z : Int} (hp : BQ 1 p) (h : -(-p).floor = z) : FitsP 100 [rq p] [] (.one (im z)) := by subst h; exact ceilB_f hp (by omega)
theorem divZ_f : FitsP 96 [rq p, rq 0] [] (.tup [rq 0, intS 10]) := divQZ_f
end

set_option maxRecDepth 100000 in
theorem checkZ0_f  : FitsP 36 [rz 0 0] [] (.one (intS 2)) := by
  have hT : AllOk Tryz.prog Glob [
    Tr.call 26 [Sv.agg [Cv.raw (Value.bool (decide ((0 : Int) < (0 : Int)))), Cv.ent (nat (Int.natAbs (0 : Int)))]] [] (Av.one (Sv.cel (Cv.raw (Value.int IntKind.i64 (Int.ofNat (nat_lit 0)))))),
    Tr.call 101 [Sv.cel (Cv.ent (nat (0 : Nat)))] [] (Av.one (Sv.cel (Cv.raw (Value.int IntKind.i64 (Int.ofNat (nat_lit 0)))))),
    Tr.call 114 [Sv.cel (Cv.ent (nat (Int.natAbs (0 : Int)))), Sv.cel (Cv.ent (nat (0 : Nat)))] [] (Av.one (Sv.cel (Cv.ent (nat (0 : Nat))))),
    Tr.call 113 [Sv.cel (Cv.ent (nat (0 : Nat)))] [] (Av.one (Sv.cel (Cv.raw (Value.bool false))))] := ⟨
    checkI_f (lim_small1 (by decide +kernel)),
    check_f (small_lim (by decide +kernel)),
    gcd_f (small_lim (by decide +kernel)) (small_lim (by decide +kernel)),
    isOne_not (by decide +kernel), trivial⟩
  exact fits_of_trace (n := 300) (k0 := 0) hT Tryz.func36 (by kernel_rfl) (by kernel_rfl) (by kernel_rfl)

theorem checkNil_f : FitsP 36 [Sv.agg [Cv.raw (Value.bool false), Cv.raw (Value.slice none 0 0), Cv.raw (Value.slice none 0 0)]] [] (.one (intS 2)) := Fits.args checkZ0_f fun β W vals h => by
  obtain ⟨v, rfl, vs, rfl, hh⟩ := all2_1 h
  match vs, hh with
  | [a, b, c], ⟨h1, h2, h3, _⟩ => exact ⟨⟨[a, b, c], rfl, h1, norm_nil h2, norm_nil h3, trivial⟩, trivial⟩
theorem sum3_lit {p q r : Rat} (s : Rat) (hp : BQ 1 p) (hq : BQ 1 q) (hr : BQ 1 r) (hs : p + q + r = s) (x : Nat) (o : Bool) : FitsP 97 [Sv.cel (Cv.row x 0 3 3)] [(x, ⟨44, [Cv.raw (Value.bool (decide ((p : Rat).num < 0))), Cv.ent (nat (p : Rat).num.natAbs), Cv.ent (nat (p : Rat).den), Cv.raw (Value.bool (decide ((q : Rat).num < 0))), Cv.ent (nat (q : Rat).num.natAbs), Cv.ent (nat (q : Rat).den), Cv.raw (Value.bool (decide ((r : Rat).num < 0))), Cv.ent (nat (r : Rat).num.natAbs), Cv.ent (nat (r : Rat).den)], o⟩)] (.tup [rq s, ok0]) := sum3_f hp hq hr (by omega) hs x o

instance (z : Int) : Decidable (inI64 z) := by unfold inI64; exact inferInstance

set_option maxRecDepth 100000 in
theorem parts_f  : FitsP 25 [] [] (.one (boolS true)) := by
  have hT : AllOk Tryz.prog Glob [
    Tr.call 42 [Sv.cel (Cv.raw (Value.int IntKind.i64 (Int.ofNat (nat_lit 1)))), Sv.cel (Cv.raw (Value.int IntKind.i64 (Int.ofNat (nat_lit 2))))] [] (Av.one (Sv.agg [Cv.raw (Value.bool (decide (Rat.num (1 / 2 : Rat) < (0 : Int)))), Cv.ent (nat (Int.natAbs (Rat.num (1 / 2 : Rat)))), Cv.ent (nat (Rat.den (1 / 2 : Rat)))])),
    Tr.call 42 [Sv.cel (Cv.raw (Value.int IntKind.i64 (Int.negSucc (nat_lit 1)))), Sv.cel (Cv.raw (Value.int IntKind.i64 (Int.ofNat (nat_lit 6))))] [] (Av.one (Sv.agg [Cv.raw (Value.bool (decide (Rat.num (-1 / 3 : Rat) < (0 : Int)))), Cv.ent (nat (Int.natAbs (Rat.num (-1 / 3 : Rat)))), Cv.ent (nat (Rat.den (-1 / 3 : Rat)))])),
    Tr.call 37 [Sv.agg [Cv.raw (Value.bool (decide (Rat.num (1 / 2 : Rat) < (0 : Int)))), Cv.ent (nat (Int.natAbs (Rat.num (1 / 2 : Rat)))), Cv.ent (nat (Rat.den (1 / 2 : Rat)))], Sv.agg [Cv.raw (Value.bool (decide (Rat.num (-1 / 3 : Rat) < (0 : Int)))), Cv.ent (nat (Int.natAbs (Rat.num (-1 / 3 : Rat)))), Cv.ent (nat (Rat.den (-1 / 3 : Rat)))]] [] (Av.tup [Sv.agg [Cv.raw (Value.bool (decide (Rat.num (1 / 6 : Rat) < (0 : Int)))), Cv.ent (nat (Int.natAbs (Rat.num (1 / 6 : Rat)))), Cv.ent (nat (Rat.den (1 / 6 : Rat)))], Sv.cel (Cv.raw (Value.int IntKind.i64 (Int.ofNat (nat_lit 0))))]),
    Tr.call 39 [Sv.agg [Cv.raw (Value.bool (decide (Rat.num (1 / 2 : Rat) < (0 : Int)))), Cv.ent (nat (Int.natAbs (Rat.num (1 / 2 : Rat)))), Cv.ent (nat (Rat.den (1 / 2 : Rat)))], Sv.agg [Cv.raw (Value.bool (decide (Rat.num (-1 / 3 : Rat) < (0 : Int)))), Cv.ent (nat (Int.natAbs (Rat.num (-1 / 3 : Rat)))), Cv.ent (nat (Rat.den (-1 / 3 : Rat)))]] [] (Av.tup [Sv.agg [Cv.raw (Value.bool (decide (Rat.num (5 / 6 : Rat) < (0 : Int)))), Cv.ent (nat (Int.natAbs (Rat.num (5 / 6 : Rat)))), Cv.ent (nat (Rat.den (5 / 6 : Rat)))], Sv.cel (Cv.raw (Value.int IntKind.i64 (Int.ofNat (nat_lit 0))))]),
    Tr.call 50 [Sv.agg [Cv.raw (Value.bool (decide (Rat.num (1 / 2 : Rat) < (0 : Int)))), Cv.ent (nat (Int.natAbs (Rat.num (1 / 2 : Rat)))), Cv.ent (nat (Rat.den (1 / 2 : Rat)))], Sv.agg [Cv.raw (Value.bool (decide (Rat.num (-1 / 3 : Rat) < (0 : Int)))), Cv.ent (nat (Int.natAbs (Rat.num (-1 / 3 : Rat)))), Cv.ent (nat (Rat.den (-1 / 3 : Rat)))]] [] (Av.tup [Sv.agg [Cv.raw (Value.bool (decide (Rat.num (-1 / 6 : Rat) < (0 : Int)))), Cv.ent (nat (Int.natAbs (Rat.num (-1 / 6 : Rat)))), Cv.ent (nat (Rat.den (-1 / 6 : Rat)))], Sv.cel (Cv.raw (Value.int IntKind.i64 (Int.ofNat (nat_lit 0))))]),
    Tr.call 96 [Sv.agg [Cv.raw (Value.bool (decide (Rat.num (1 / 2 : Rat) < (0 : Int)))), Cv.ent (nat (Int.natAbs (Rat.num (1 / 2 : Rat)))), Cv.ent (nat (Rat.den (1 / 2 : Rat)))], Sv.agg [Cv.raw (Value.bool (decide (Rat.num (-1 / 3 : Rat) < (0 : Int)))), Cv.ent (nat (Int.natAbs (Rat.num (-1 / 3 : Rat)))), Cv.ent (nat (Rat.den (-1 / 3 : Rat)))]] [] (Av.tup [Sv.agg [Cv.raw (Value.bool (decide (Rat.num (-3 / 2 : Rat) < (0 : Int)))), Cv.ent (nat (Int.natAbs (Rat.num (-3 / 2 : Rat)))), Cv.ent (nat (Rat.den (-3 / 2 : Rat)))], Sv.cel (Cv.raw (Value.int IntKind.i64 (Int.ofNat (nat_lit 0))))]),
    Tr.call 97 [Sv.cel (Cv.row (nat_lit 46) (nat_lit 0) (nat_lit 3) (nat_lit 3))] [(nat_lit 46, { t := 44, cs := [Cv.raw (Value.bool (decide (Rat.num (1 / 2 : Rat) < (0 : Int)))), Cv.ent (nat (Int.natAbs (Rat.num (1 / 2 : Rat)))), Cv.ent (nat (Rat.den (1 / 2 : Rat))), Cv.raw (Value.bool (decide (Rat.num (1 / 2 : Rat) < (0 : Int)))), Cv.ent (nat (Int.natAbs (Rat.num (1 / 2 : Rat)))), Cv.ent (nat (Rat.den (1 / 2 : Rat))), Cv.raw (Value.bool (decide (Rat.num (-1 / 3 : Rat) < (0 : Int)))), Cv.ent (nat (Int.natAbs (Rat.num (-1 / 3 : Rat)))), Cv.ent (nat (Rat.den (-1 / 3 : Rat)))], own := true })] (Av.tup [Sv.agg [Cv.raw (Value.bool (decide (Rat.num (2 / 3 : Rat) < (0 : Int)))), Cv.ent (nat (Int.natAbs (Rat.num (2 / 3 : Rat)))), Cv.ent (nat (Rat.den (2 / 3 : Rat)))], Sv.cel (Cv.raw (Value.int IntKind.i64 (Int.ofNat (nat_lit 0))))]),
    Tr.call 38 [Sv.agg [Cv.raw (Value.bool (decide (Rat.num (1 / 2 : Rat) < (0 : Int)))), Cv.ent (nat (Int.natAbs (Rat.num (1 / 2 : Rat)))), Cv.ent (nat (Rat.den (1 / 2 : Rat)))], Sv.agg [Cv.raw (Value.bool (decide (Rat.num (-1 / 3 : Rat) < (0 : Int)))), Cv.ent (nat (Int.natAbs (Rat.num (-1 / 3 : Rat)))), Cv.ent (nat (Rat.den (-1 / 3 : Rat)))]] [] (Av.tup [Sv.cel (Cv.raw (Value.int IntKind.i64 (Int.ofNat (nat_lit 1)))), Sv.cel (Cv.raw (Value.int IntKind.i64 (Int.ofNat (nat_lit 0))))]),
    Tr.call 28 [Sv.cel (Cv.raw (Value.string { data := #[(45 : UInt8), (48 : UInt8), (46 : UInt8), (50 : UInt8), (53 : UInt8)] }))] [] (Av.tup [Sv.agg [Cv.raw (Value.bool (decide (Rat.num (-1 / 4 : Rat) < (0 : Int)))), Cv.ent (nat (Int.natAbs (Rat.num (-1 / 4 : Rat)))), Cv.ent (nat (Rat.den (-1 / 4 : Rat)))], Sv.cel (Cv.raw (Value.int IntKind.i64 (Int.ofNat (nat_lit 0))))]),
    Tr.call 98 [] [] (Av.one (Sv.agg [Cv.raw (Value.bool (decide (Rat.num (0 : Rat) < (0 : Int)))), Cv.ent (nat (Int.natAbs (Rat.num (0 : Rat)))), Cv.ent (nat (Rat.den (0 : Rat)))])),
    Tr.call 96 [Sv.agg [Cv.raw (Value.bool (decide (Rat.num (1 / 2 : Rat) < (0 : Int)))), Cv.ent (nat (Int.natAbs (Rat.num (1 / 2 : Rat)))), Cv.ent (nat (Rat.den (1 / 2 : Rat)))], Sv.agg [Cv.raw (Value.bool (decide (Rat.num (0 : Rat) < (0 : Int)))), Cv.ent (nat (Int.natAbs (Rat.num (0 : Rat)))), Cv.ent (nat (Rat.den (0 : Rat)))]] [] (Av.tup [Sv.agg [Cv.raw (Value.bool (decide (Rat.num (0 : Rat) < (0 : Int)))), Cv.ent (nat (Int.natAbs (Rat.num (0 : Rat)))), Cv.ent (nat (Rat.den (0 : Rat)))], Sv.cel (Cv.raw (Value.int IntKind.i64 (Int.ofNat (nat_lit 10))))]),
    Tr.call 33 [Sv.agg [Cv.raw (Value.bool (decide (Rat.num (1 / 6 : Rat) < (0 : Int)))), Cv.ent (nat (Int.natAbs (Rat.num (1 / 6 : Rat)))), Cv.ent (nat (Rat.den (1 / 6 : Rat)))]] [] (Av.one (Sv.cel (Cv.raw (Value.string { data := #[(49 : UInt8), (47 : UInt8), (54 : UInt8)] })))),
    Tr.call 33 [Sv.agg [Cv.raw (Value.bool (decide (Rat.num (5 / 6 : Rat) < (0 : Int)))), Cv.ent (nat (Int.natAbs (Rat.num (5 / 6 : Rat)))), Cv.ent (nat (Rat.den (5 / 6 : Rat)))]] [] (Av.one (Sv.cel (Cv.raw (Value.string { data := #[(53 : UInt8), (47 : UInt8), (54 : UInt8)] })))),
    Tr.call 33 [Sv.agg [Cv.raw (Value.bool (decide (Rat.num (-1 / 6 : Rat) < (0 : Int)))), Cv.ent (nat (Int.natAbs (Rat.num (-1 / 6 : Rat)))), Cv.ent (nat (Rat.den (-1 / 6 : Rat)))]] [] (Av.one (Sv.cel (Cv.raw (Value.string { data := #[(45 : UInt8), (49 : UInt8), (47 : UInt8), (54 : UInt8)] })))),
    Tr.call 33 [Sv.agg [Cv.raw (Value.bool (decide (Rat.num (-3 / 2 : Rat) < (0 : Int)))), Cv.ent (nat (Int.natAbs (Rat.num (-3 / 2 : Rat)))), Cv.ent (nat (Rat.den (-3 / 2 : Rat)))]] [] (Av.one (Sv.cel (Cv.raw (Value.string { data := #[(45 : UInt8), (51 : UInt8), (47 : UInt8), (50 : UInt8)] })))),
    Tr.call 33 [Sv.agg [Cv.raw (Value.bool (decide (Rat.num (2 / 3 : Rat) < (0 : Int)))), Cv.ent (nat (Int.natAbs (Rat.num (2 / 3 : Rat)))), Cv.ent (nat (Rat.den (2 / 3 : Rat)))]] [] (Av.one (Sv.cel (Cv.raw (Value.string { data := #[(50 : UInt8), (47 : UInt8), (51 : UInt8)] })))),
    Tr.call 33 [Sv.agg [Cv.raw (Value.bool (decide (Rat.num (-1 / 4 : Rat) < (0 : Int)))), Cv.ent (nat (Int.natAbs (Rat.num (-1 / 4 : Rat)))), Cv.ent (nat (Rat.den (-1 / 4 : Rat)))]] [] (Av.one (Sv.cel (Cv.raw (Value.string { data := #[(45 : UInt8), (49 : UInt8), (47 : UInt8), (52 : UInt8)] })))),
    Tr.call 43 [Sv.agg [Cv.raw (Value.bool (decide (Rat.num (-1 / 3 : Rat) < (0 : Int)))), Cv.ent (nat (Int.natAbs (Rat.num (-1 / 3 : Rat)))), Cv.ent (nat (Rat.den (-1 / 3 : Rat)))]] [] (Av.one (Sv.cel (Cv.raw (Value.int IntKind.i64 (Int.negSucc (nat_lit 0)))))),
    Tr.call 69 [Sv.agg [Cv.raw (Value.bool (decide (Rat.num (-1 / 3 : Rat) < (0 : Int)))), Cv.ent (nat (Int.natAbs (Rat.num (-1 / 3 : Rat)))), Cv.ent (nat (Rat.den (-1 / 3 : Rat)))]] [] (Av.one (Sv.agg [Cv.raw (Value.bool (decide (Rat.num (1 / 3 : Rat) < (0 : Int)))), Cv.ent (nat (Int.natAbs (Rat.num (1 / 3 : Rat)))), Cv.ent (nat (Rat.den (1 / 3 : Rat)))])),
    Tr.call 33 [Sv.agg [Cv.raw (Value.bool (decide (Rat.num (1 / 3 : Rat) < (0 : Int)))), Cv.ent (nat (Int.natAbs (Rat.num (1 / 3 : Rat)))), Cv.ent (nat (Rat.den (1 / 3 : Rat)))]] [] (Av.one (Sv.cel (Cv.raw (Value.string { data := #[(49 : UInt8), (47 : UInt8), (51 : UInt8)] })))),
    Tr.call 99 [Sv.agg [Cv.raw (Value.bool (decide (Rat.num (1 / 2 : Rat) < (0 : Int)))), Cv.ent (nat (Int.natAbs (Rat.num (1 / 2 : Rat)))), Cv.ent (nat (Rat.den (1 / 2 : Rat)))]] [] (Av.one (Sv.agg [Cv.raw (Value.bool (decide (Rat.num (-1 / 2 : Rat) < (0 : Int)))), Cv.ent (nat (Int.natAbs (Rat.num (-1 / 2 : Rat)))), Cv.ent (nat (Rat.den (-1 / 2 : Rat)))])),
    Tr.call 33 [Sv.agg [Cv.raw (Value.bool (decide (Rat.num (-1 / 2 : Rat) < (0 : Int)))), Cv.ent (nat (Int.natAbs (Rat.num (-1 / 2 : Rat)))), Cv.ent (nat (Rat.den (-1 / 2 : Rat)))]] [] (Av.one (Sv.cel (Cv.raw (Value.string { data := #[(45 : UInt8), (49 : UInt8), (47 : UInt8), (50 : UInt8)] })))),
    Tr.call 41 [Sv.agg [Cv.raw (Value.bool (decide (Rat.num (-3 / 2 : Rat) < (0 : Int)))), Cv.ent (nat (Int.natAbs (Rat.num (-3 / 2 : Rat)))), Cv.ent (nat (Rat.den (-3 / 2 : Rat)))]] [] (Av.one (Sv.agg [Cv.raw (Value.bool (decide ((-2 : Int) < (0 : Int)))), Cv.ent (nat (Int.natAbs (-2 : Int)))])),
    Tr.call 34 [Sv.agg [Cv.raw (Value.bool (decide ((-2 : Int) < (0 : Int)))), Cv.ent (nat (Int.natAbs (-2 : Int)))]] [] (Av.one (Sv.cel (Cv.raw (Value.string { data := #[(45 : UInt8), (50 : UInt8)] })))),
    Tr.call 100 [Sv.agg [Cv.raw (Value.bool (decide (Rat.num (-3 / 2 : Rat) < (0 : Int)))), Cv.ent (nat (Int.natAbs (Rat.num (-3 / 2 : Rat)))), Cv.ent (nat (Rat.den (-3 / 2 : Rat)))]] [] (Av.one (Sv.agg [Cv.raw (Value.bool (decide ((-1 : Int) < (0 : Int)))), Cv.ent (nat (Int.natAbs (-1 : Int)))])),
    Tr.call 34 [Sv.agg [Cv.raw (Value.bool (decide ((-1 : Int) < (0 : Int)))), Cv.ent (nat (Int.natAbs (-1 : Int)))]] [] (Av.one (Sv.cel (Cv.raw (Value.string { data := #[(45 : UInt8), (49 : UInt8)] })))),
    Tr.call 35 [Sv.cel (Cv.raw (Value.int IntKind.i64 (Int.ofNat (nat_lit 4))))] [] (Av.one (Sv.agg [Cv.raw (Value.bool (decide ((4 : Int) < (0 : Int)))), Cv.ent (nat (Int.natAbs (4 : Int)))])),
    Tr.call 40 [Sv.agg [Cv.raw (Value.bool (decide ((4 : Int) < (0 : Int)))), Cv.ent (nat (Int.natAbs (4 : Int)))]] [] (Av.one (Sv.agg [Cv.raw (Value.bool (decide (Rat.num (4 : Rat) < (0 : Int)))), Cv.ent (nat (Int.natAbs (Rat.num (4 : Rat)))), Cv.ent (nat (Rat.den (4 : Rat)))])),
    Tr.call 33 [Sv.agg [Cv.raw (Value.bool (decide (Rat.num (4 : Rat) < (0 : Int)))), Cv.ent (nat (Int.natAbs (Rat.num (4 : Rat)))), Cv.ent (nat (Rat.den (4 : Rat)))]] [] (Av.one (Sv.cel (Cv.raw (Value.string { data := #[(52 : UInt8)] })))),
    Tr.call 36 [Sv.agg [Cv.raw (Value.bool (decide (Rat.num (1 / 2 : Rat) < (0 : Int)))), Cv.ent (nat (Int.natAbs (Rat.num (1 / 2 : Rat)))), Cv.ent (nat (Rat.den (1 / 2 : Rat)))]] [] (Av.one (Sv.cel (Cv.raw (Value.int IntKind.i64 (Int.ofNat (nat_lit 0)))))),
    Tr.call 36 [Sv.agg [Cv.raw (Value.bool false), Cv.raw (Value.slice none (nat_lit 0) (nat_lit 0)), Cv.raw (Value.slice none (nat_lit 0) (nat_lit 0))]] [] (Av.one (Sv.cel (Cv.raw (Value.int IntKind.i64 (Int.ofNat (nat_lit 2))))))] := ⟨
    ofQ_lit (a := 1) (d := 2) ((1 / 2 : Rat)) (by decide +kernel) (by decide +kernel) (by decide +kernel) (by decide +kernel),
    ofQ_lit (a := -2) (d := 6) ((-1 / 3 : Rat)) (by decide +kernel) (by decide +kernel) (by decide +kernel) (by decide +kernel),
    addQ_lit (p := ((1 / 2 : Rat))) (q := ((-1 / 3 : Rat))) ((1 / 6 : Rat)) ⟨by decide +kernel, by decide +kernel⟩ ⟨by decide +kernel, by decide +kernel⟩ (by decide +kernel),
    subQ_lit (p := ((1 / 2 : Rat))) (q := ((-1 / 3 : Rat))) ((5 / 6 : Rat)) ⟨by decide +kernel, by decide +kernel⟩ ⟨by decide +kernel, by decide +kernel⟩ (by decide +kernel),
    mulQ_lit (p := ((1 / 2 : Rat))) (q := ((-1 / 3 : Rat))) ((-1 / 6 : Rat)) ⟨by decide +kernel, by decide +kernel⟩ ⟨by decide +kernel, by decide +kernel⟩ (by decide +kernel),
    divQ_lit (p := ((1 / 2 : Rat))) (q := ((-1 / 3 : Rat))) ((-3 / 2 : Rat)) ⟨by decide +kernel, by decide +kernel⟩ ⟨by decide +kernel, by decide +kernel⟩ (by decide +kernel) (by decide +kernel),
    sum3_lit (p := ((1 / 2 : Rat))) (q := ((1 / 2 : Rat))) (r := ((-1 / 3 : Rat))) ((2 / 3 : Rat)) ⟨by decide +kernel, by decide +kernel⟩ ⟨by decide +kernel, by decide +kernel⟩ ⟨by decide +kernel, by decide +kernel⟩ (by decide +kernel) _ _,
    cmp_lit (p := ((1 / 2 : Rat))) (q := ((-1 / 3 : Rat))) (k := 1) (m := 1) (n := 1) ⟨by decide +kernel, by decide +kernel⟩ ⟨by decide +kernel, by decide +kernel⟩ (by decide +kernel) (by decide +kernel),
    parse025_f,
    zeroQ0_f,
    divZ_f (p := ((1 / 2 : Rat))),
    text2_lit (z := 1) (d := 6) (s := ⟨#[49]⟩) (t := ⟨#[54]⟩) (u := ⟨#[49, 47, 54]⟩) ((1 / 6 : Rat)) (by decide +kernel) (by decide +kernel) (by decide +kernel) ⟨[49], by decide +kernel, rfl⟩ (by decide +kernel) (lim_small1 (by decide +kernel)) (small_lim (by decide +kernel)) (by decide +kernel),
    text2_lit (z := 5) (d := 6) (s := ⟨#[53]⟩) (t := ⟨#[54]⟩) (u := ⟨#[53, 47, 54]⟩) ((5 / 6 : Rat)) (by decide +kernel) (by decide +kernel) (by decide +kernel) ⟨[53], by decide +kernel, rfl⟩ (by decide +kernel) (lim_small1 (by decide +kernel)) (small_lim (by decide +kernel)) (by decide +kernel),
    text2_lit (z := -1) (d := 6) (s := ⟨#[45, 49]⟩) (t := ⟨#[54]⟩) (u := ⟨#[45, 49, 47, 54]⟩) ((-1 / 6 : Rat)) (by decide +kernel) (by decide +kernel) (by decide +kernel) ⟨[49], by decide +kernel, rfl⟩ (by decide +kernel) (lim_small1 (by decide +kernel)) (small_lim (by decide +kernel)) (by decide +kernel),
    text2_lit (z := -3) (d := 2) (s := ⟨#[45, 51]⟩) (t := ⟨#[50]⟩) (u := ⟨#[45, 51, 47, 50]⟩) ((-3 / 2 : Rat)) (by decide +kernel) (by decide +kernel) (by decide +kernel) ⟨[51], by decide +kernel, rfl⟩ (by decide +kernel) (lim_small1 (by decide +kernel)) (small_lim (by decide +kernel)) (by decide +kernel),
    text2_lit (z := 2) (d := 3) (s := ⟨#[50]⟩) (t := ⟨#[51]⟩) (u := ⟨#[50, 47, 51]⟩) ((2 / 3 : Rat)) (by decide +kernel) (by decide +kernel) (by decide +kernel) ⟨[50], by decide +kernel, rfl⟩ (by decide +kernel) (lim_small1 (by decide +kernel)) (small_lim (by decide +kernel)) (by decide +kernel),
    text2_lit (z := -1) (d := 4) (s := ⟨#[45, 49]⟩) (t := ⟨#[52]⟩) (u := ⟨#[45, 49, 47, 52]⟩) ((-1 / 4 : Rat)) (by decide +kernel) (by decide +kernel) (by decide +kernel) ⟨[49], by decide +kernel, rfl⟩ (by decide +kernel) (lim_small1 (by decide +kernel)) (small_lim (by decide +kernel)) (by decide +kernel),
    signQ_is (q := ((-1 / 3 : Rat))) (k := Int.negSucc 0) (by decide +kernel),
    abs_lit (p := ((-1 / 3 : Rat))) ((1 / 3 : Rat)) (by decide +kernel),
    text2_lit (z := 1) (d := 3) (s := ⟨#[49]⟩) (t := ⟨#[51]⟩) (u := ⟨#[49, 47, 51]⟩) ((1 / 3 : Rat)) (by decide +kernel) (by decide +kernel) (by decide +kernel) ⟨[49], by decide +kernel, rfl⟩ (by decide +kernel) (lim_small1 (by decide +kernel)) (small_lim (by decide +kernel)) (by decide +kernel),
    neg_lit (p := ((1 / 2 : Rat))) ((-1 / 2 : Rat)) (by decide +kernel),
    text2_lit (z := -1) (d := 2) (s := ⟨#[45, 49]⟩) (t := ⟨#[50]⟩) (u := ⟨#[45, 49, 47, 50]⟩) ((-1 / 2 : Rat)) (by decide +kernel) (by decide +kernel) (by decide +kernel) ⟨[49], by decide +kernel, rfl⟩ (by decide +kernel) (lim_small1 (by decide +kernel)) (small_lim (by decide +kernel)) (by decide +kernel),
    floor_lit (p := ((-3 / 2 : Rat))) (z := -2) ⟨by decide +kernel, by decide +kernel⟩ (by decide +kernel),
    textI_f (z1 := -2) ⟨#[45, 50]⟩ ⟨[50], by decide +kernel, rfl⟩ (lim_small1 (by decide +kernel)),
    ceil_lit (p := ((-3 / 2 : Rat))) (z := -1) ⟨by decide +kernel, by decide +kernel⟩ (by decide +kernel),
    textI_f (z1 := -1) ⟨#[45, 49]⟩ ⟨[49], by decide +kernel, rfl⟩ (lim_small1 (by decide +kernel)),
    ofI_f (z1 := 4) (by decide +kernel),
    wholeB_f (z := 4),
    text1_lit (z := 4) (s := ⟨#[52]⟩) ((4 : Rat)) (by decide +kernel) (by decide +kernel) ⟨[52], by decide +kernel, rfl⟩ (lim_small1 (by decide +kernel)),
    checkB_f (p := ((1 / 2 : Rat))) (m := 1) ⟨by decide +kernel, by decide +kernel⟩ (by decide +kernel),
    checkNil_f, trivial⟩
  exact fits_of_trace (n := 400) (k0 := 0) hT Tryz.func25 (by kernel_rfl) (by kernel_rfl) (by kernel_rfl)
end Go.Proofs.YtphpaejgcahgbaaGreatDoor

/- Layer 4: the same, and what fits. -/
namespace Go.Proofs.YtphpaejgcahgbaaGreatDoor
open Go Go.RowKit Go.Shelf AM
theorem sameI_is {z1 z2 : Int} {b : Bool} (h : decide (z1 = z2) = b) : FitsP 22 [im z1, im z2] [] (.one (boolS b)) := by subst h; exact sameI_f
theorem cmpN_is {x y : Nat} {k : Int} (h : ord3 x y = k) : FitsP 86 [natS x, natS y] [] (.one (intS k)) := by subst h; exact cmp_f
theorem ord3_self (x : Nat) : ord3 x x = 0 := by unfold ord3; simp
theorem ord3_ne {x y : Nat} (h : x ≠ y) : ord3 x y ≠ 0 := by unfold ord3; split <;> (try split) <;> omega

set_option maxRecDepth 100000 in
theorem sameEq_f {p q : Rat} (h : p = q) : FitsP 32 [rq p, rq q] [] (.one (boolS true)) := by
  have hT : AllOk Tryz.prog Glob [
    Tr.call 22 [Sv.agg [Cv.raw (Value.bool (decide (Rat.num p < (0 : Int)))), Cv.ent (nat (Int.natAbs (Rat.num p)))], Sv.agg [Cv.raw (Value.bool (decide (Rat.num q < (0 : Int)))), Cv.ent (nat (Int.natAbs (Rat.num q)))]] [] (Av.one (Sv.cel (Cv.raw (Value.bool true)))),
    Tr.call 86 [Sv.cel (Cv.ent (nat (Rat.den p))), Sv.cel (Cv.ent (nat (Rat.den q)))] [] (Av.one (Sv.cel (Cv.raw (Value.int IntKind.i64 (Int.ofNat (nat_lit 0))))))] := ⟨
    sameI_is (by rw [h]; simp),
    cmpN_is (by rw [h]; exact ord3_self _), trivial⟩
  exact fits_of_trace (n := 300) (k0 := 0) hT Tryz.func32 (by kernel_rfl) (by kernel_rfl) (by kernel_rfl)

set_option maxRecDepth 100000 in
theorem sameNum_f {p q : Rat} (h : p.num ≠ q.num) : FitsP 32 [rq p, rq q] [] (.one (boolS false)) := by
  have hT : AllOk Tryz.prog Glob [
    Tr.call 22 [Sv.agg [Cv.raw (Value.bool (decide (Rat.num p < (0 : Int)))), Cv.ent (nat (Int.natAbs (Rat.num p)))], Sv.agg [Cv.raw (Value.bool (decide (Rat.num q < (0 : Int)))), Cv.ent (nat (Int.natAbs (Rat.num q)))]] [] (Av.one (Sv.cel (Cv.raw (Value.bool false))))] := ⟨
    sameI_is (decide_eq_false h), trivial⟩
  exact fits_of_trace (n := 300) (k0 := 0) hT Tryz.func32 (by kernel_rfl) (by kernel_rfl) (by kernel_rfl)

set_option maxRecDepth 100000 in
theorem sameDen_f {p q : Rat} {k : Int} (h : p.num = q.num) (hk : ord3 p.den q.den = k) (h0 : k ≠ 0) : FitsP 32 [rq p, rq q] [] (.one (boolS false)) := by
  have hT : AllOk Tryz.prog Glob [
    Tr.call 22 [Sv.agg [Cv.raw (Value.bool (decide (Rat.num p < (0 : Int)))), Cv.ent (nat (Int.natAbs (Rat.num p)))], Sv.agg [Cv.raw (Value.bool (decide (Rat.num q < (0 : Int)))), Cv.ent (nat (Int.natAbs (Rat.num q)))]] [] (Av.one (Sv.cel (Cv.raw (Value.bool true)))),
    Tr.call 86 [Sv.cel (Cv.ent (nat (Rat.den p))), Sv.cel (Cv.ent (nat (Rat.den q)))] [] (Av.one (Sv.cel (Cv.raw (Value.int IntKind.i64 k))))] := ⟨
    sameI_is (decide_eq_true h),
    cmpN_is hk, trivial⟩
  exact Fits.res (r := (.one (Sv.cel (Cv.raw (Value.bool (k == (0 : Int))))))) (fits_of_trace (n := 300) (k0 := 0) hT Tryz.func32 (by kernel_rfl) (by kernel_rfl) (by kernel_rfl)) (norm_bool (eq_false h0))

theorem same_f {p q : Rat} : FitsP 32 [rq p, rq q] [] (.one (boolS (decide (p = q)))) := by
  by_cases h : p = q
  · rw [decide_eq_true h]; exact sameEq_f h
  · rw [decide_eq_false h]
    by_cases h1 : p.num = q.num
    · exact sameDen_f h1 rfl (ord3_ne fun e => h (Rat.ext h1 e))
    · exact sameNum_f h1
theorem sameNot_f {p q : Rat} (h : p ≠ q) : FitsP 32 [rq p, rq q] [] (.one (boolS false)) := by
  have := same_f (p := p) (q := q); rw [decide_eq_false h] at this; exact this
end Go.Proofs.YtphpaejgcahgbaaGreatDoor
