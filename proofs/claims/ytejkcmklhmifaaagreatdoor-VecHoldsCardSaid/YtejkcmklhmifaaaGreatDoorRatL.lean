/- Layer 4: its own small functions. -/
import Derived.Test.YtejkcmklhmifaaaGreatDoorRatN
import Derived.Test.YtejkcmklhmifaaaGreatDoorRatFit
namespace Go.Proofs.YtejkcmklhmifaaaGreatDoor
open Go Go.RowKit Go.Shelf AM
theorem nat_pn {d : Nat} : FitsP 169 [natS d] [] (.one (pn d)) := by rw [← im_pn]; exact nat_f
theorem make1_lit {z : Int} {d : Nat} (q : Rat) (h1 : LimI z) (h2 : d < Lim) (h0 : d ≠ 0) (h : Rat.normalize z d h0 = q) : FitsP 69 [im z, pn d] [] (.tup [rq q, ok0]) := by subst h; exact make1_f h1 h2 h0

theorem lim_small1 {z : Int} (h : z.natAbs < 18446744073709551616) : LimI z := small_lim h

set_option maxRecDepth 100000 in
theorem sum3_0 {p q r : Rat} {m n k : Nat} (hp : BQ m p) (hq : BQ n q) (hr : BQ k r) (h : m + n + k + 10 ≤ 512) : FitsP 106 [Sv.cel (Cv.row 0 0 3 3)] [(0, ⟨27, [Cv.raw (Value.bool (decide ((p : Rat).num < 0))), Cv.ent (nat (p : Rat).num.natAbs), Cv.ent (nat (p : Rat).den), Cv.raw (Value.bool (decide ((q : Rat).num < 0))), Cv.ent (nat (q : Rat).num.natAbs), Cv.ent (nat (q : Rat).den), Cv.raw (Value.bool (decide ((r : Rat).num < 0))), Cv.ent (nat (r : Rat).num.natAbs), Cv.ent (nat (r : Rat).den)], true, .no⟩)] (.tup [rq (0 + p + q + r), ok0]) := by
  have hT : AllOk Tryz.prog Glob [
    Tr.call 20 [] [] (Av.one (rq (0 : Rat))),
    Tr.call 24 [rq (0 : Rat), rq p] [] (Av.tup [rq ((0 : Rat) + p), ok0]),
    Tr.call 24 [rq ((0 : Rat) + p), rq q] [] (Av.tup [rq ((0 : Rat) + p + q), ok0]),
    Tr.call 24 [rq ((0 : Rat) + p + q), rq r] [] (Av.tup [rq ((0 : Rat) + p + q + r), ok0])] := ⟨
    zeroQ0_f,
    addQ_f bq_zero hp (by omega),
    addQ_f (bq_zero.add hp) hq (by omega),
    addQ_f ((bq_zero.add hp).add hq) hr (by omega), trivial⟩
  exact fits_of_trace (n := 300) (k0 := 1) hT Tryz.func106 (by kernel_rfl) (by kernel_rfl) (by kernel_rfl)

theorem sum3_f {p q r s : Rat} {m n k : Nat} (hp : BQ m p) (hq : BQ n q) (hr : BQ k r) (h : m + n + k + 10 ≤ 512) (hs : p + q + r = s) (x : Nat) (o : Bool) : FitsP 106 [Sv.cel (Cv.row x 0 3 3)] [(x, ⟨27, [Cv.raw (Value.bool (decide ((p : Rat).num < 0))), Cv.ent (nat (p : Rat).num.natAbs), Cv.ent (nat (p : Rat).den), Cv.raw (Value.bool (decide ((q : Rat).num < 0))), Cv.ent (nat (q : Rat).num.natAbs), Cv.ent (nat (q : Rat).den), Cv.raw (Value.bool (decide ((r : Rat).num < 0))), Cv.ent (nat (r : Rat).num.natAbs), Cv.ent (nat (r : Rat).den)], o, .no⟩)] (.tup [rq s, ok0]) := by
  have e : 0 + p + q + r = s := by rw [← hs, Rat.zero_add]
  rw [← e]
  exact Fits.row (pre := []) (sum3_0 hp hq hr h) rfl rfl rfl x o

section
variable {p q s : Rat}
theorem addQ_lit (s : Rat) (hp : BQ 1 p) (hq : BQ 1 q) (h : p + q = s) : FitsP 24 [rq p, rq q] [] (.tup [rq s, ok0]) := by subst h; exact addQ_f hp hq (by omega)
theorem subQ_lit (s : Rat) (hp : BQ 1 p) (hq : BQ 1 q) (h : p - q = s) : FitsP 29 [rq p, rq q] [] (.tup [rq s, ok0]) := by subst h; exact subQ_f hp hq (by omega)
theorem mulQ_lit (s : Rat) (hp : BQ 1 p) (hq : BQ 1 q) (h : p * q = s) : FitsP 23 [rq p, rq q] [] (.tup [rq s, ok0]) := by subst h; exact mulQ_f hp hq (by omega)
theorem text1_lit {z : Int} {s : ByteArray} (q : Rat) (hn : q.num = z) (hd : q.den = 1) (hs : DecI z s.data.toList) (h1 : LimI z) : FitsP 98 [rq q] [] (.one (rawS (.string s))) := by rw [rq_lit hn hd]; exact text1_f hs h1
theorem text2_lit {z : Int} {d : Nat} {s t u : ByteArray} (q : Rat) (hn : q.num = z) (hd : q.den = d) (h0 : d ≠ 1) (hs : DecI z s.data.toList) (ht : Dec d t.data.toList) (h1 : LimI z) (h2 : d < Lim) (hu : s ++ ⟨#[47]⟩ ++ t = u) : FitsP 98 [rq q] [] (.one (rawS (.string u))) := by
  subst hu; rw [rq_lit hn hd]; exact text2_f h0 hs ht h1 h2
theorem neg_lit (s : Rat) (h : -p = s) : FitsP 145 [rq p] [] (.one (rq s)) := by subst h; exact negQ_f
theorem abs_lit (s : Rat) (h : absQ p = s) : FitsP 31 [rq p] [] (.one (rq s)) := by subst h; exact absQ_f
end

set_option maxRecDepth 100000 in
theorem checkZ0_f  : FitsP 19 [rz 0 0] [] (.one (intS 2)) := by
  have hT : AllOk Tryz.prog Glob [
    Tr.call 74 [im (0 : Int)] [] (Av.one (ok0)),
    Tr.call 75 [natS (0 : Nat)] [] (Av.one (ok0)),
    Tr.call 77 [natS (Int.natAbs (0 : Int)), natS (0 : Nat)] [] (Av.one (natS (0 : Nat))),
    Tr.call 76 [natS (0 : Nat)] [] (Av.one (boolS false))] := ⟨
    checkI_f (lim_small1 (by decide +kernel)),
    check_f (small_lim (by decide +kernel)),
    gcd_f (small_lim (by decide +kernel)) (small_lim (by decide +kernel)),
    isOne_not (by decide +kernel), trivial⟩
  exact fits_of_trace (n := 300) (k0 := 0) hT Tryz.func19 (by kernel_rfl) (by kernel_rfl) (by kernel_rfl)

theorem checkNil_f : FitsP 19 [Sv.agg [Cv.raw (Value.bool false), Cv.raw (Value.slice none 0 0), Cv.raw (Value.slice none 0 0)]] [] (.one (intS 2)) := Fits.args checkZ0_f fun β W vals h => by
  obtain ⟨v, rfl, vs, rfl, hh⟩ := all2_1 h
  match vs, hh with
  | [a, b, c], ⟨h1, h2, h3, _⟩ => exact ⟨⟨[a, b, c], rfl, h1, norm_nil h2, norm_nil h3, trivial⟩, trivial⟩
theorem sum3_lit {p q r : Rat} (s : Rat) (hp : BQ 1 p) (hq : BQ 1 q) (hr : BQ 1 r) (hs : p + q + r = s) (x : Nat) (o : Bool) : FitsP 106 [Sv.cel (Cv.row x 0 3 3)] [(x, ⟨27, [Cv.raw (Value.bool (decide ((p : Rat).num < 0))), Cv.ent (nat (p : Rat).num.natAbs), Cv.ent (nat (p : Rat).den), Cv.raw (Value.bool (decide ((q : Rat).num < 0))), Cv.ent (nat (q : Rat).num.natAbs), Cv.ent (nat (q : Rat).den), Cv.raw (Value.bool (decide ((r : Rat).num < 0))), Cv.ent (nat (r : Rat).num.natAbs), Cv.ent (nat (r : Rat).den)], o, .no⟩)] (.tup [rq s, ok0]) := sum3_f hp hq hr (by omega) hs x o

instance (z : Int) : Decidable (inI64 z) := by unfold inI64; exact inferInstance

end Go.Proofs.YtejkcmklhmifaaaGreatDoor

/- Layer 4: the same, and what fits. -/
namespace Go.Proofs.YtejkcmklhmifaaaGreatDoor
open Go Go.RowKit Go.Shelf AM
theorem cmpN_is {x y : Nat} {k : Int} (h : ord3 x y = k) : FitsP 164 [natS x, natS y] [] (.one (intS k)) := by subst h; exact cmp_f
theorem ord3_self (x : Nat) : ord3 x x = 0 := by unfold ord3; simp
theorem ord3_ne {x y : Nat} (h : x ≠ y) : ord3 x y ≠ 0 := by unfold ord3; split <;> (try split) <;> omega

end Go.Proofs.YtejkcmklhmifaaaGreatDoor
