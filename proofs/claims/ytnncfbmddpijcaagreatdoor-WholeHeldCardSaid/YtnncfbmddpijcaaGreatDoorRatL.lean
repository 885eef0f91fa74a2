
/- Layer 4: its own small functions. -/
import Derived.Test.YtnncfbmddpijcaaGreatDoorRatN
import Derived.Test.YtnncfbmddpijcaaGreatDoorRatFit
namespace Go.Proofs.YtnncfbmddpijcaaGreatDoor
open Go Go.RowKit Go.Shelf AM
theorem nat_pn {d : Nat} : FitsP 82 [natS d] [] (.one (pn d)) := by rw [← im_pn]; exact nat_f
theorem make1_lit {z : Int} {d : Nat} (q : Rat) (h1 : LimI z) (h2 : d < Lim) (h0 : d ≠ 0) (h : Rat.normalize z d h0 = q) : FitsP 23 [im z, pn d] [] (.tup [rq q, ok0]) := by subst h; exact make1_f h1 h2 h0

theorem lim_small1 {z : Int} (h : z.natAbs < 18446744073709551616) : LimI z := small_lim h

section
variable {p q s : Rat}
theorem addQ_lit (s : Rat) (hp : BQ 1 p) (hq : BQ 1 q) (h : p + q = s) : FitsP 14 [rq p, rq q] [] (.tup [rq s, ok0]) := by subst h; exact addQ_f hp hq (by omega)
theorem subQ_lit (s : Rat) (hp : BQ 1 p) (hq : BQ 1 q) (h : p - q = s) : FitsP 19 [rq p, rq q] [] (.tup [rq s, ok0]) := by subst h; exact subQ_f hp hq (by omega)
theorem mulQ_lit (s : Rat) (hp : BQ 1 p) (hq : BQ 1 q) (h : p * q = s) : FitsP 13 [rq p, rq q] [] (.tup [rq s, ok0]) := by subst h; exact mulQ_f hp hq (by omega)
theorem neg_lit (s : Rat) (h : -p = s) : FitsP 55 [rq p] [] (.one (rq s)) := by subst h; exact negQ_f
theorem abs_lit (s : Rat) (h : absQ p = s) : FitsP 21 [rq p] [] (.one (rq s)) := by subst h; exact absQ_f
end

set_option maxRecDepth 100000 in
theorem checkZ0_f  : FitsP 9 [rz 0 0] [] (.one (intS 2)) := by
  have hT : AllOk Tryz.prog Glob [
    Tr.call 28 [im (0 : Int)] [] (Av.one (ok0)),
    Tr.call 29 [natS (0 : Nat)] [] (Av.one (ok0)),
    Tr.call 31 [natS (Int.natAbs (0 : Int)), natS (0 : Nat)] [] (Av.one (natS (0 : Nat))),
    Tr.call 30 [natS (0 : Nat)] [] (Av.one (boolS false))] := ⟨
    checkI_f (lim_small1 (by decide +kernel)),
    check_f (small_lim (by decide +kernel)),
    gcd_f (small_lim (by decide +kernel)) (small_lim (by decide +kernel)),
    isOne_not (by decide +kernel), trivial⟩
  exact fits_of_trace (n := 300) (k0 := 0) hT Tryz.func9 (by kernel_rfl) (by kernel_rfl) (by kernel_rfl)

theorem checkNil_f : FitsP 9 [Sv.agg [Cv.raw (Value.bool false), Cv.raw (Value.slice none 0 0), Cv.raw (Value.slice none 0 0)]] [] (.one (intS 2)) := Fits.args checkZ0_f fun β W vals h => by
  obtain ⟨v, rfl, vs, rfl, hh⟩ := all2_1 h
  match vs, hh with
  | [a, b, c], ⟨h1, h2, h3, _⟩ => exact ⟨⟨[a, b, c], rfl, h1, norm_nil h2, norm_nil h3, trivial⟩, trivial⟩
instance (z : Int) : Decidable (inI64 z) := by unfold inI64; exact inferInstance

end Go.Proofs.YtnncfbmddpijcaaGreatDoor

/- Layer 4: the same, and what fits. -/
namespace Go.Proofs.YtnncfbmddpijcaaGreatDoor
open Go Go.RowKit Go.Shelf AM
theorem cmpN_is {x y : Nat} {k : Int} (h : ord3 x y = k) : FitsP 76 [natS x, natS y] [] (.one (intS k)) := by subst h; exact cmp_f
theorem ord3_self (x : Nat) : ord3 x x = 0 := by unfold ord3; simp
theorem ord3_ne {x y : Nat} (h : x ≠ y) : ord3 x y ≠ 0 := by unfold ord3; split <;> (try split) <;> omega

end Go.Proofs.YtnncfbmddpijcaaGreatDoor
