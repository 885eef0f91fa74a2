/- RatioOrders. -/
import Derived.Test.YtlgfjgkcgimdoaaGreatDoorRatSame
namespace Go.Proofs.YtlgfjgkcgimdoaaGreatDoor
open Go Go.RowKit Go.Shelf AM
section
variable {p q : Rat} {k : Int}
theorem ordQ_sub (h : ordQ p q = k) : ordQ (p - q) 0 = k := by
  rw [← h]; unfold ordQ
  have e1 : p - q < 0 ↔ p < q := by constructor <;> intro h <;> grind
  have e2 : p - q = 0 ↔ p = q := by constructor <;> intro h <;> grind
  simp only [e1, e2]
theorem ordQ_neg (h : ordQ p q = k) : ordQ (-q) (-p) = k := by
  rw [← h]; unfold ordQ
  have e1 : -q < -p ↔ p < q := by constructor <;> intro h <;> grind
  have e2 : -q = -p ↔ p = q := by constructor <;> intro h <;> grind
  simp only [e1, e2]
theorem BQ.neg {n : Nat} (h : BQ n p) : BQ n (-p) := ⟨by rw [Rat.neg_num, Int.natAbs_neg]; exact h.1, h.2⟩
theorem ordQ_zero2 : ordQ p q = 0 ↔ p = q := by
  unfold ordQ
  constructor
  · intro h; split at h
    · cases h
    · split at h
      · assumption
      · cases h
  · rintro rfl; simp [Rat.lt_irrefl]
theorem beq_self_int (k : Int) : (k == k) = true := by simp
theorem ordQ_same (h : ordQ p q = k) : ((k == 0) == decide (p = q)) = true := by
  by_cases e : p = q
  · rw [decide_eq_true e, ← h, ordQ_zero2.2 e]; rfl
  · rw [decide_eq_false e]
    have : k ≠ 0 := fun h0 => e (ordQ_zero2.1 (h.trans h0))
    rw [eq_false this]; rfl
theorem absQ_nonneg (p : Rat) : ¬ absQ p < 0 := by unfold absQ; split <;> grind
theorem ordQ_abs (h : ordQ (absQ p) 0 = k) : decide (k ≥ 0) = true := by
  rw [decide_eq_true_iff, ← h]
  unfold ordQ
  rw [if_neg (absQ_nonneg p)]
  split <;> omega
end

set_option maxRecDepth 100000 in
theorem RatioOrders_fit {p q : Rat} (hp : BQ 20 p) (hq : BQ 20 q) {k s : Int} (hk : ordQ p q = k) (hs : ordQ (absQ p) 0 = s) : FitsP 7 [rq p, rq q] [] (.one (boolS true)) := by
  have hT : AllOk Tryz.prog Glob [
    Tr.call (nat_lit 24) [] [] (Av.one (Sv.cel (Cv.raw (Value.bool true)))),
    Tr.call (nat_lit 32) [Sv.cel (Cv.row (nat_lit 7) (nat_lit 0) (nat_lit 2) (nat_lit 2))] [(nat_lit 7, { t := nat_lit 43, cs := [Cv.raw (Value.bool (decide (Rat.num p < (0 : Int)))), Cv.ent (nat (Int.natAbs (Rat.num p))), Cv.ent (nat (Rat.den p)), Cv.raw (Value.bool (decide (Rat.num q < (0 : Int)))), Cv.ent (nat (Int.natAbs (Rat.num q))), Cv.ent (nat (Rat.den q))], own := true })] (Av.one (Sv.cel (Cv.raw (Value.bool true)))),
    Tr.call (nat_lit 39) [Sv.agg [Cv.raw (Value.bool (decide (Rat.num p < (0 : Int)))), Cv.ent (nat (Int.natAbs (Rat.num p))), Cv.ent (nat (Rat.den p))], Sv.agg [Cv.raw (Value.bool (decide (Rat.num q < (0 : Int)))), Cv.ent (nat (Int.natAbs (Rat.num q))), Cv.ent (nat (Rat.den q))]] [] (Av.tup [Sv.cel (Cv.raw (Value.int IntKind.i64 k)), Sv.cel (Cv.raw (Value.int IntKind.i64 (Int.ofNat (nat_lit 0))))]),
    Tr.call (nat_lit 34) [Sv.agg [Cv.raw (Value.bool (decide (Rat.num p < (0 : Int)))), Cv.ent (nat (Int.natAbs (Rat.num p))), Cv.ent (nat (Rat.den p))], Sv.agg [Cv.raw (Value.bool (decide (Rat.num q < (0 : Int)))), Cv.ent (nat (Int.natAbs (Rat.num q))), Cv.ent (nat (Rat.den q))]] [] (Av.tup [Sv.agg [Cv.raw (Value.bool (decide (Rat.num (p - q) < (0 : Int)))), Cv.ent (nat (Int.natAbs (Rat.num (p - q)))), Cv.ent (nat (Rat.den (p - q)))], Sv.cel (Cv.raw (Value.int IntKind.i64 (Int.ofNat (nat_lit 0))))]),
    Tr.call (nat_lit 40) [Sv.agg [Cv.raw (Value.bool (decide (Rat.num q < (0 : Int)))), Cv.ent (nat (Int.natAbs (Rat.num q))), Cv.ent (nat (Rat.den q))]] [] (Av.one (Sv.agg [Cv.raw (Value.bool (decide (Rat.num (-q) < (0 : Int)))), Cv.ent (nat (Int.natAbs (Rat.num (-q)))), Cv.ent (nat (Rat.den (-q)))])),
    Tr.call (nat_lit 40) [Sv.agg [Cv.raw (Value.bool (decide (Rat.num p < (0 : Int)))), Cv.ent (nat (Int.natAbs (Rat.num p))), Cv.ent (nat (Rat.den p))]] [] (Av.one (Sv.agg [Cv.raw (Value.bool (decide (Rat.num (-p) < (0 : Int)))), Cv.ent (nat (Int.natAbs (Rat.num (-p)))), Cv.ent (nat (Rat.den (-p)))])),
    Tr.call (nat_lit 39) [Sv.agg [Cv.raw (Value.bool (decide (Rat.num (-q) < (0 : Int)))), Cv.ent (nat (Int.natAbs (Rat.num (-q)))), Cv.ent (nat (Rat.den (-q)))], Sv.agg [Cv.raw (Value.bool (decide (Rat.num (-p) < (0 : Int)))), Cv.ent (nat (Int.natAbs (Rat.num (-p)))), Cv.ent (nat (Rat.den (-p)))]] [] (Av.tup [Sv.cel (Cv.raw (Value.int IntKind.i64 k)), Sv.cel (Cv.raw (Value.int IntKind.i64 (Int.ofNat (nat_lit 0))))]),
    Tr.call (nat_lit 38) [Sv.agg [Cv.raw (Value.bool (decide (Rat.num (p - q) < (0 : Int)))), Cv.ent (nat (Int.natAbs (Rat.num (p - q)))), Cv.ent (nat (Rat.den (p - q)))]] [] (Av.one (Sv.cel (Cv.raw (Value.int IntKind.i64 k)))),
    Tr.norm (nat_lit 53) (Av.one (Sv.cel (Cv.raw (Value.bool (k == k))))) (Av.one (Sv.cel (Cv.raw (Value.bool true)))),
    Tr.norm (nat_lit 58) (Av.one (Sv.cel (Cv.raw (Value.bool (k == k))))) (Av.one (Sv.cel (Cv.raw (Value.bool true)))),
    Tr.call (nat_lit 28) [Sv.agg [Cv.raw (Value.bool (decide (Rat.num p < (0 : Int)))), Cv.ent (nat (Int.natAbs (Rat.num p))), Cv.ent (nat (Rat.den p))], Sv.agg [Cv.raw (Value.bool (decide (Rat.num q < (0 : Int)))), Cv.ent (nat (Int.natAbs (Rat.num q))), Cv.ent (nat (Rat.den q))]] [] (Av.one (Sv.cel (Cv.raw (Value.bool (decide (p = q)))))),
    Tr.norm (nat_lit 66) (Av.one (Sv.cel (Cv.raw (Value.bool ((k == (0 : Int)) == decide (p = q)))))) (Av.one (Sv.cel (Cv.raw (Value.bool true)))),
    Tr.call (nat_lit 41) [Sv.agg [Cv.raw (Value.bool (decide (Rat.num p < (0 : Int)))), Cv.ent (nat (Int.natAbs (Rat.num p))), Cv.ent (nat (Rat.den p))]] [] (Av.one (Sv.agg [Cv.raw (Value.bool (decide (Rat.num (absQ p) < (0 : Int)))), Cv.ent (nat (Int.natAbs (Rat.num (absQ p)))), Cv.ent (nat (Rat.den (absQ p)))])),
    Tr.call (nat_lit 38) [Sv.agg [Cv.raw (Value.bool (decide (Rat.num (absQ p) < (0 : Int)))), Cv.ent (nat (Int.natAbs (Rat.num (absQ p)))), Cv.ent (nat (Rat.den (absQ p)))]] [] (Av.one (Sv.cel (Cv.raw (Value.int IntKind.i64 s)))),
    Tr.norm (nat_lit 71) (Av.one (Sv.cel (Cv.raw (Value.bool (decide (s ≥ (0 : Int))))))) (Av.one (Sv.cel (Cv.raw (Value.bool true))))] := ⟨
    parts_f,
    fitTwo_f hp hq _ _,
    cmp_lit hp hq (by omega) hk,
    subQ_f hp hq (by omega),
    negQ_f,
    negQ_f,
    cmp_lit hq.neg hp.neg (by omega) (ordQ_neg hk),
    signQ_is (ordQ_sub hk),
    norm_bool (beq_self_int k),
    norm_bool (beq_self_int k),
    same_f,
    norm_bool (ordQ_same hk),
    absQ_f,
    signQ_is hs,
    norm_bool (ordQ_abs hs), trivial⟩
  exact fits_of_trace (n := 300) (k0 := 0) hT Tryz.func7 (by kernel_rfl) (by kernel_rfl) (by kernel_rfl)

set_option maxRecDepth 100000 in
theorem RatioOrders_unfit (m0 : Bool) (e0 d0 : Ent) (m1 : Bool) (e1 d1 : Ent) (hu : ∀ (x : Nat) (o : Bool), FitsP 32 [Sv.cel (Cv.row x 0 2 2)] [(x, ⟨43, [.raw (.bool m0), .ent e0, .ent d0, .raw (.bool m1), .ent e1, .ent d1], o⟩)] (.one (boolS false))) : FitsP 7 [.agg [.raw (.bool m0), .ent e0, .ent d0], .agg [.raw (.bool m1), .ent e1, .ent d1]] [] (.one (boolS true)) := by
  have hT : AllOk Tryz.prog Glob [
    Tr.call (nat_lit 24) [] [] (Av.one (Sv.cel (Cv.raw (Value.bool true)))),
    Tr.call (nat_lit 32) [Sv.cel (Cv.row (nat_lit 7) (nat_lit 0) (nat_lit 2) (nat_lit 2))] [(nat_lit 7, { t := nat_lit 43, cs := [Cv.raw (Value.bool m0), Cv.ent e0, Cv.ent d0, Cv.raw (Value.bool m1), Cv.ent e1, Cv.ent d1], own := true })] (Av.one (Sv.cel (Cv.raw (Value.bool false))))] := ⟨
    parts_f,
    hu _ _, trivial⟩
  exact fits_of_trace (n := 300) (k0 := 0) hT Tryz.func7 (by kernel_rfl) (by kernel_rfl) (by kernel_rfl)

theorem RatioOrders_un0 {m : Bool} {xs ds : List Nat} (hu : Unfit m xs ds) (m1 : Bool) (a1 b1 : List Nat) : FitsP 7 [ag m xs ds, ag m1 a1 b1] [] (.one (boolS true)) := RatioOrders_unfit _ _ _ _ _ _ fun x o => unfit2_0 hu m1 a1 b1 x o

theorem RatioOrders_un1 {q0 : Rat} (h0 : BQ 20 q0) {m : Bool} {xs ds : List Nat} (hu : Unfit m xs ds) : FitsP 7 [rq q0, ag m xs ds] [] (.one (boolS true)) := RatioOrders_unfit _ _ _ _ _ _ fun x o => unfit2_1 h0 hu x o
end Go.Proofs.YtlgfjgkcgimdoaaGreatDoor
