
/- Layer 6: its own small numbers. -/
import Derived.Test.YtnncfbmddpijcaaGreatDoorSpS
import Derived.Test.YtnncfbmddpijcaaGreatDoorDyL
namespace Go.Proofs.YtnncfbmddpijcaaGreatDoor
open Go Go.RowKit Go.Shelf AM
instance (b : Nat) (d : Dy) : Decidable (Few b d) := by unfold Few; exact inferInstance
section
variable {b : Nat} {w : Int} {x y u v p q c d : Dy}
theorem addD_is (h : c.Ok) (hd : dv c = dv x + dv u) : addD x u = c := dv_inj (mk_ok _ _) h (by rw [addD_dv, hd])
theorem subD_is (h : c.Ok) (hd : dv c = dv x - dv u) : subD x u = c := dv_inj (mk_ok _ _) h (by rw [subD_dv, hd])
theorem mulD_is (h : c.Ok) (hd : dv c = dv x * dv u) : mulD x u = c := dv_inj (mk_ok _ _) h (by rw [mulD_dv, hd])
theorem addSL (hw : w = (b : Int)) (c d : Dy) (hx : BD 4 4 x) (hy : BD 4 4 y) (hu : BD 4 4 u) (hv : BD 4 4 v) (hb : 2 ≤ b) (hb2 : b ≤ 4096) (hc : c.Ok) (hd : d.Ok) (h1 : dv c = dv x + dv u) (h2 : dv d = dv y + dv v) (f1 : Few b c) (f2 : Few b d) : FitsP 12 [spS x y, spS u v, intS w] [] (.tup [spS c d, ok0]) := by
  subst hw
  have := addS_f hx hy hu hv (by omega) hb hb2
  rw [addD_is hc h1, addD_is hd h2, rd_self f1, ru_self f2] at this; exact this
theorem mulSL {p1 p2 p3 p4 : Dy} (hw : w = (b : Int)) (c d : Dy) (hx : BD 4 4 x) (hy : BD 4 4 y) (hu : BD 4 4 u) (hv : BD 4 4 v) (hb : 2 ≤ b) (hb2 : b ≤ 4096) (o1 : p1.Ok) (o2 : p2.Ok) (o3 : p3.Ok) (o4 : p4.Ok) (e1 : dv p1 = dv x * dv u) (e2 : dv p2 = dv x * dv v) (e3 : dv p3 = dv y * dv u) (e4 : dv p4 = dv y * dv v) (hc : lo4 p1 p2 p3 p4 = c) (hd : hi4 p1 p2 p3 p4 = d) (f1 : Few b c) (f2 : Few b d) : FitsP 11 [spS x y, spS u v, intS w] [] (.tup [spS c d, ok0]) := by
  subst hw
  have := mulS_f hx hy hu hv (by omega) hb hb2
  rw [show loM x y u v = c by unfold loM; rw [mulD_is o1 e1, mulD_is o2 e2, mulD_is o3 e3, mulD_is o4 e4, hc], show hiM x y u v = d by unfold hiM; rw [mulD_is o1 e1, mulD_is o2 e2, mulD_is o3 e3, mulD_is o4 e4, hd], rd_self f1, ru_self f2] at this; exact this
theorem nearSL (hw : w = (b : Int)) {r : Rat} (c d : Dy) (hq : BQ 4 r) (hb : 2 ≤ b) (hb2 : b ≤ 4096) (hc : nrD b r = c) (hd : nrD b (-r) = negD d) : FitsP 4 [rq r, intS w] [] (.tup [spS c d, ok0]) := by
  subst hw
  have := nearS_f hq (by omega) hb hb2
  rw [hc, show nuD b r = d by unfold nuD; rw [hd, neg_neg]] at this; exact this
theorem roundSL (hw : w = (b : Int)) (c d : Dy) (hx : BD 4 4 x) (hy : BD 4 4 y) (hb : 2 ≤ b) (hb2 : b ≤ 4096) (hc : c.Ok) (hd : (negD d).Ok) (h1 : dv c = ((x.m / 2 ^ (bt x.m.natAbs - b) * 2 ^ (bt x.m.natAbs - b) : Int) : Rat) * p2 x.e) (h2 : dv (negD d) = (((negD y).m / 2 ^ (bt (negD y).m.natAbs - b) * 2 ^ (bt (negD y).m.natAbs - b) : Int) : Rat) * p2 (negD y).e) : FitsP 35 [spS x y, intS w] [] (.tup [spS c d, ok0]) := by
  subst hw
  have := roundS_f hx hy (by omega) hb hb2
  rw [rdL_is hx.ok hc h1, show ruD b y = d by unfold ruD; rw [rdL_is hy.ok.neg hd h2, neg_neg]] at this; exact this
theorem widthSL (c : Dy) (hx : BD 4 4 x) (hy : BD 4 4 y) (hc : c.Ok) (h1 : dv c = dv y - dv x) : FitsP 17 [spS x y] [] (.tup [dS c, ok0]) := by
  have := widthS_f hx hy (by omega)
  rw [subD_is hc h1] at this; exact this
theorem middleSL (c : Dy) (hx : BD 4 4 x) (hy : BD 4 4 y) (hc : c.Ok) (h1 : dv c = (dv x + dv y) / 2) : FitsP 16 [spS x y] [] (.tup [dS c, ok0]) := by
  have := middleS_f hx hy (by omega)
  rw [show mdD x y = c from dv_inj (mk_ok _ _) hc (by rw [mdD_dv, h1])] at this; exact this
end

theorem fewD {b : Nat} {a : Dy} (h : Few b a) : decide ((bt a.m.natAbs : Int) ≤ (b : Int)) = true := decide_eq_true (by unfold Few at h; omega)
end Go.Proofs.YtnncfbmddpijcaaGreatDoor
