/- Layer 6: a number within a span. -/
import Derived.Test.YtnnnmhjcnkipbaaGreatDoorSpFit
import Derived.Test.YtnnnmhjcnkipbaaGreatDoorSpM
namespace Go.Proofs.YtnnnmhjcnkipbaaGreatDoor
open Go Go.RowKit Go.Shelf AM
/-- So many parts of a hundred. -/
def tQ (k : Nat) : Rat := Rat.normalize (k : Int) 100 (by decide)
def atQ (x y : Dy) (k : Nat) : Rat := dv x + (dv y - dv x) * tQ k
def partW (w : Int) : Int := Int.tmod (IntKind.wrap .i64 ((BitVec.toNat (BitVec.ofInt (IntKind.bits .i64) w &&& BitVec.ofInt (IntKind.bits .i64) 127) : Nat) : Int)) 101

theorem tQ_eq (k : Nat) : tQ k = (k : Rat) / 100 := by
  unfold tQ; rw [Rat.normalize_eq_mkRat, Rat.mkRat_eq_div]; rfl
theorem tQ_ge (k : Nat) : 0 ≤ tQ k := by
  rw [tQ_eq]
  have : (0 : Rat) ≤ (k : Rat) := Rat.natCast_nonneg
  grind
theorem tQ_le {k : Nat} (h : k ≤ 100) : tQ k ≤ 1 := by
  rw [tQ_eq]
  have : (k : Rat) ≤ ((100 : Nat) : Rat) := Rat.natCast_le_natCast.2 h
  have e : ((100 : Nat) : Rat) = 100 := rfl
  grind
theorem tQ_bq {k : Nat} (h : k ≤ 100) : BQ 1 (tQ k) := norm_BQ _ (by rw [Int.natAbs_natCast]; omega) (by decide)
section
variable {x y : Dy} {k : Nat}
theorem at_ge (h : dv x ≤ dv y) : dv x ≤ atQ x y k := by
  unfold atQ
  have := Rat.mul_nonneg (show 0 ≤ dv y - dv x by grind) (tQ_ge k)
  grind
theorem at_le (h : dv x ≤ dv y) (hk : k ≤ 100) : atQ x y k ≤ dv y := by
  unfold atQ
  have := Rat.mul_le_mul_of_nonneg_left (tQ_le hk) (show 0 ≤ dv y - dv x by grind)
  grind
theorem at_bq (h : FitS x y) (hk : k ≤ 100) : BQ 78 (atQ x y k) := (h.a.bd.bq.add ((h.b.bd.bq.sub h.a.bd.bq).mul (tQ_bq hk))).mono (by omega)
end
theorem partW_in (w : Int) : ∃ k : Nat, k ≤ 100 ∧ partW w = (k : Int) := by
  unfold partW
  generalize hb : BitVec.toNat (BitVec.ofInt (IntKind.bits .i64) w &&& BitVec.ofInt (IntKind.bits .i64) 127) = b
  have h : b ≤ 127 := by
    rw [← hb, BitVec.toNat_and]
    exact Nat.and_le_right
  refine ⟨b % 101, by omega, ?_⟩
  rw [w64s (by omega) (by omega), Int.tmod_eq_emod_of_nonneg (by omega)]
  omega
theorem ofK_f {k : Nat} (hk : k ≤ 100) : FitsP 48 [intS (k : Int), intS 100] [] (.one (rq (tQ k))) := ofQ_f (d := 100) (inI_small (by omega) (by omega)) (inI_small (by decide) (by decide)) (by decide)
theorem ofW_f {z : Int} {k : Nat} (hz : z = (k : Int)) (hk : k ≤ 100) : FitsP 48 [intS z, intS 100] [] (.one (rq (tQ k))) := by subst hz; exact ofK_f hk

set_option maxRecDepth 100000 in
theorem at_f {x y : Dy} {w : Int} {k : Nat} (h : FitS x y) (hk : k ≤ 100) (hw : partW w = (k : Int)) : FitsP 16 [spS x y, intS w] [] (.one (rq (atQ x y k))) := by
  have hT : AllOk Tryz.prog Glob [
    Tr.call 53 [Sv.agg [Cv.raw (Value.bool (decide (Dy.m x < (0 : Int)))), Cv.ent (nat (Int.natAbs (Dy.m x))), Cv.raw (Value.int IntKind.i64 (Dy.e x))]] [] (Av.tup [Sv.agg [Cv.raw (Value.bool (decide (Rat.num (dv x) < (0 : Int)))), Cv.ent (nat (Int.natAbs (Rat.num (dv x)))), Cv.ent (nat (Rat.den (dv x)))], Sv.cel (Cv.raw (Value.int IntKind.i64 (Int.ofNat (nat_lit 0))))]),
    Tr.call 53 [Sv.agg [Cv.raw (Value.bool (decide (Dy.m y < (0 : Int)))), Cv.ent (nat (Int.natAbs (Dy.m y))), Cv.raw (Value.int IntKind.i64 (Dy.e y))]] [] (Av.tup [Sv.agg [Cv.raw (Value.bool (decide (Rat.num (dv y) < (0 : Int)))), Cv.ent (nat (Int.natAbs (Rat.num (dv y)))), Cv.ent (nat (Rat.den (dv y)))], Sv.cel (Cv.raw (Value.int IntKind.i64 (Int.ofNat (nat_lit 0))))]),
    Tr.call 22 [Sv.agg [Cv.raw (Value.bool (decide (Rat.num (dv y) < (0 : Int)))), Cv.ent (nat (Int.natAbs (Rat.num (dv y)))), Cv.ent (nat (Rat.den (dv y)))], Sv.agg [Cv.raw (Value.bool (decide (Rat.num (dv x) < (0 : Int)))), Cv.ent (nat (Int.natAbs (Rat.num (dv x)))), Cv.ent (nat (Rat.den (dv x)))]] [] (Av.tup [Sv.agg [Cv.raw (Value.bool (decide (Rat.num (dv y - dv x) < (0 : Int)))), Cv.ent (nat (Int.natAbs (Rat.num (dv y - dv x)))), Cv.ent (nat (Rat.den (dv y - dv x)))], Sv.cel (Cv.raw (Value.int IntKind.i64 (Int.ofNat (nat_lit 0))))]),
    Tr.call 48 [Sv.cel (Cv.raw (Value.int IntKind.i64 (Int.tmod (IntKind.wrap IntKind.i64 (↑(BitVec.toNat (BitVec.ofInt (IntKind.bits IntKind.i64) w &&& BitVec.ofInt (IntKind.bits IntKind.i64) (127 : Int))) : Int)) (101 : Int)))), Sv.cel (Cv.raw (Value.int IntKind.i64 (Int.ofNat (nat_lit 100))))] [] (Av.one (Sv.agg [Cv.raw (Value.bool (decide (Rat.num (tQ k) < (0 : Int)))), Cv.ent (nat (Int.natAbs (Rat.num (tQ k)))), Cv.ent (nat (Rat.den (tQ k)))])),
    Tr.call 23 [Sv.agg [Cv.raw (Value.bool (decide (Rat.num (dv y - dv x) < (0 : Int)))), Cv.ent (nat (Int.natAbs (Rat.num (dv y - dv x)))), Cv.ent (nat (Rat.den (dv y - dv x)))], Sv.agg [Cv.raw (Value.bool (decide (Rat.num (tQ k) < (0 : Int)))), Cv.ent (nat (Int.natAbs (Rat.num (tQ k)))), Cv.ent (nat (Rat.den (tQ k)))]] [] (Av.tup [Sv.agg [Cv.raw (Value.bool (decide (Rat.num ((dv y - dv x) * tQ k) < (0 : Int)))), Cv.ent (nat (Int.natAbs (Rat.num ((dv y - dv x) * tQ k)))), Cv.ent (nat (Rat.den ((dv y - dv x) * tQ k)))], Sv.cel (Cv.raw (Value.int IntKind.i64 (Int.ofNat (nat_lit 0))))]),
    Tr.call 21 [Sv.agg [Cv.raw (Value.bool (decide (Rat.num (dv x) < (0 : Int)))), Cv.ent (nat (Int.natAbs (Rat.num (dv x)))), Cv.ent (nat (Rat.den (dv x)))], Sv.agg [Cv.raw (Value.bool (decide (Rat.num ((dv y - dv x) * tQ k) < (0 : Int)))), Cv.ent (nat (Int.natAbs (Rat.num ((dv y - dv x) * tQ k)))), Cv.ent (nat (Rat.den ((dv y - dv x) * tQ k)))]] [] (Av.tup [Sv.agg [Cv.raw (Value.bool (decide (Rat.num (atQ x y k) < (0 : Int)))), Cv.ent (nat (Int.natAbs (Rat.num (atQ x y k)))), Cv.ent (nat (Rat.den (atQ x y k)))], Sv.cel (Cv.raw (Value.int IntKind.i64 (Int.ofNat (nat_lit 0))))])] := ⟨
    ratioD_f h.a.bd (by omega),
    ratioD_f h.b.bd (by omega),
    subQ_f h.b.bd.bq h.a.bd.bq (by omega),
    ofW_f hw hk,
    mulQ_f (h.b.bd.bq.sub h.a.bd.bq) (tQ_bq hk) (by omega),
    addQ_f h.a.bd.bq ((h.b.bd.bq.sub h.a.bd.bq).mul (tQ_bq hk)) (by omega), trivial⟩
  exact fits_of_trace (n := 300) (k0 := 0) hT Tryz.func16 (by kernel_rfl) (by kernel_rfl) (by kernel_rfl)
end Go.Proofs.YtnnnmhjcnkipbaaGreatDoor
