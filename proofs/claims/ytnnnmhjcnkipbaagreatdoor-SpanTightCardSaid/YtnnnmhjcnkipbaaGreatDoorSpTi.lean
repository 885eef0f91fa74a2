/- SpanTight: the heads. -/
import Derived.Test.YtnnnmhjcnkipbaaGreatDoorSpFit
import Derived.Test.YtnnnmhjcnkipbaaGreatDoorSpM
namespace Go.Proofs.YtnnnmhjcnkipbaaGreatDoor
open Go Go.RowKit Go.Shelf AM
theorem few_bd {n k b : Nat} {d : Dy} (h : BD n k d) (hb : 32 * (n + k) ≤ b) : Few b d := Nat.le_trans (bt_bound h.man) hb
section
variable {x y u v : Dy} (ha : FitS x y) (hb : FitS u v)
include ha hb
theorem addT : FitsP 17 [spS x y, spS u v, intS 4000] [] (.tup [spS (addD x u) (addD y v), ok0]) := by
  have := addS_f (b := 4000) ha.a.bd ha.b.bd hb.a.bd hb.b.bd (by omega) (by omega) (by omega)
  rw [rd_self (few_bd (ha.a.bd.add hb.a.bd) (by omega)), ru_self (few_bd (ha.b.bd.add hb.b.bd) (by omega))] at this; exact this
theorem subT : FitsP 18 [spS x y, spS u v, intS 4000] [] (.tup [spS (addD x (negD v)) (addD y (negD u)), ok0]) := by
  have := subS_f (b := 4000) ha.a.bd ha.b.bd hb.a.bd hb.b.bd (by omega) (by omega) (by omega)
  rw [rd_self (few_bd (ha.a.bd.add hb.b.bd.neg) (by omega)), ru_self (few_bd (ha.b.bd.add hb.a.bd.neg) (by omega))] at this; exact this
theorem mulT : FitsP 19 [spS x y, spS u v, intS 4000] [] (.tup [spS (loM x y u v) (hiM x y u v), ok0]) := by
  have := mulS_f (b := 4000) ha.a.bd ha.b.bd hb.a.bd hb.b.bd (by omega) (by omega) (by omega)
  rw [rd_self (few_bd (loM_bd ha.a.bd ha.b.bd hb.a.bd hb.b.bd) (by omega)), ru_self (few_bd (hiM_bd ha.a.bd ha.b.bd hb.a.bd hb.b.bd) (by omega))] at this; exact this
end
theorem sub_same (x v : Dy) : ordQ (dv (addD x (negD v))) (dv (subD x v)) = 0 := ordQ_eqI (by rw [addD_dv, negD_dv, subD_dv]; grind)
theorem has_dec {p q r : Rat} (h1 : p ≤ q) (h2 : q ≤ r) : decide (p ≤ q ∧ q ≤ r) = true := decide_eq_true ⟨h1, h2⟩
end Go.Proofs.YtnnnmhjcnkipbaaGreatDoor
