/- Layer 6: its own small numbers. -/
import Derived.Test.YtejkcmklhmifaaaGreatDoorSpS
import Derived.Test.YtejkcmklhmifaaaGreatDoorDyL
namespace Go.Proofs.YtejkcmklhmifaaaGreatDoor
open Go Go.RowKit Go.Shelf AM
instance (b : Nat) (d : Dy) : Decidable (Few b d) := by unfold Few; exact inferInstance
section
variable {b : Nat} {w : Int} {x y u v p q c d : Dy}
theorem addD_is (h : c.Ok) (hd : dv c = dv x + dv u) : addD x u = c := dv_inj (mk_ok _ _) h (by rw [addD_dv, hd])
theorem subD_is (h : c.Ok) (hd : dv c = dv x - dv u) : subD x u = c := dv_inj (mk_ok _ _) h (by rw [subD_dv, hd])
theorem mulD_is (h : c.Ok) (hd : dv c = dv x * dv u) : mulD x u = c := dv_inj (mk_ok _ _) h (by rw [mulD_dv, hd])
theorem addSL (hw : w = (b : Int)) (c d : Dy) (hx : BD 4 4 x) (hy : BD 4 4 y) (hu : BD 4 4 u) (hv : BD 4 4 v) (hb : 2 ≤ b) (hb2 : b ≤ 4096) (hc : c.Ok) (hd : d.Ok) (h1 : dv c = dv x + dv u) (h2 : dv d = dv y + dv v) (f1 : Few b c) (f2 : Few b d) : FitsP 22 [spS x y, spS u v, intS w] [] (.tup [spS c d, ok0]) := by
  subst hw
  have := addS_f hx hy hu hv (by omega) hb hb2
  rw [addD_is hc h1, addD_is hd h2, rd_self f1, ru_self f2] at this; exact this
theorem mulSL {p1 p2 p3 p4 : Dy} (hw : w = (b : Int)) (c d : Dy) (hx : BD 4 4 x) (hy : BD 4 4 y) (hu : BD 4 4 u) (hv : BD 4 4 v) (hb : 2 ≤ b) (hb2 : b ≤ 4096) (o1 : p1.Ok) (o2 : p2.Ok) (o3 : p3.Ok) (o4 : p4.Ok) (e1 : dv p1 = dv x * dv u) (e2 : dv p2 = dv x * dv v) (e3 : dv p3 = dv y * dv u) (e4 : dv p4 = dv y * dv v) (hc : lo4 p1 p2 p3 p4 = c) (hd : hi4 p1 p2 p3 p4 = d) (f1 : Few b c) (f2 : Few b d) : FitsP 21 [spS x y, spS u v, intS w] [] (.tup [spS c d, ok0]) := by
  subst hw
  have := mulS_f hx hy hu hv (by omega) hb hb2
  rw [show loM x y u v = c by unfold loM; rw [mulD_is o1 e1, mulD_is o2 e2, mulD_is o3 e3, mulD_is o4 e4, hc], show hiM x y u v = d by unfold hiM; rw [mulD_is o1 e1, mulD_is o2 e2, mulD_is o3 e3, mulD_is o4 e4, hd], rd_self f1, ru_self f2] at this; exact this
theorem sumSL (hw : w = (b : Int)) (c d : Dy) (hx : BD 4 4 x) (hy : BD 4 4 y) (hu : BD 4 4 u) (hv : BD 4 4 v) (hp : BD 4 4 p) (hq : BD 4 4 q) (hb : 2 ≤ b) (hb2 : b ≤ 4096) {m1 m2 : Dy} (g1 : Few b x) (g2 : Few b y) (o1 : m1.Ok) (o2 : m2.Ok) (e1 : dv m1 = dv x + dv u) (e2 : dv m2 = dv y + dv v) (g3 : Few b m1) (g4 : Few b m2) (hc : c.Ok) (hd : d.Ok) (h1 : dv c = dv m1 + dv p) (h2 : dv d = dv m2 + dv q) (f1 : Few b c) (f2 : Few b d) (z : Nat) (o : Bool) : FitsP 114 [intS w, Sv.cel (Cv.row z 0 3 3)] [(z, ⟨32, [.raw (.bool (decide (x.m < 0))), .ent (nat x.m.natAbs), .raw (.int .i64 x.e), .raw (.bool (decide (y.m < 0))), .ent (nat y.m.natAbs), .raw (.int .i64 y.e), .raw (.bool (decide (u.m < 0))), .ent (nat u.m.natAbs), .raw (.int .i64 u.e), .raw (.bool (decide (v.m < 0))), .ent (nat v.m.natAbs), .raw (.int .i64 v.e), .raw (.bool (decide (p.m < 0))), .ent (nat p.m.natAbs), .raw (.int .i64 p.e), .raw (.bool (decide (q.m < 0))), .ent (nat q.m.natAbs), .raw (.int .i64 q.e)], o, .no⟩)] (.tup [spS c d, ok0]) := by
  subst hw
  have := sumS_f hx hy hu hv hp hq (by omega) hb hb2 z o
  rw [show s3 b x u p = c by unfold s3 s2; rw [rd_self g1, addD_is o1 e1, rd_self g3, addD_is hc h1, rd_self f1], show t3 b y v q = d by unfold t3 t2; rw [ru_self g2, addD_is o2 e2, ru_self g4, addD_is hd h2, ru_self f2]] at this; exact this
theorem nearSL (hw : w = (b : Int)) {r : Rat} (c d : Dy) (hq : BQ 4 r) (hb : 2 ≤ b) (hb2 : b ≤ 4096) (hc : nrD b r = c) (hd : nrD b (-r) = negD d) : FitsP 14 [rq r, intS w] [] (.tup [spS c d, ok0]) := by
  subst hw
  have := nearS_f hq (by omega) hb hb2
  rw [hc, show nuD b r = d by unfold nuD; rw [hd, neg_neg]] at this; exact this
theorem roundSL (hw : w = (b : Int)) (c d : Dy) (hx : BD 4 4 x) (hy : BD 4 4 y) (hb : 2 ≤ b) (hb2 : b ≤ 4096) (hc : c.Ok) (hd : (negD d).Ok) (h1 : dv c = ((x.m / 2 ^ (bt x.m.natAbs - b) * 2 ^ (bt x.m.natAbs - b) : Int) : Rat) * p2 x.e) (h2 : dv (negD d) = (((negD y).m / 2 ^ (bt (negD y).m.natAbs - b) * 2 ^ (bt (negD y).m.natAbs - b) : Int) : Rat) * p2 (negD y).e) : FitsP 81 [spS x y, intS w] [] (.tup [spS c d, ok0]) := by
  subst hw
  have := roundS_f hx hy (by omega) hb hb2
  rw [rdL_is hx.ok hc h1, show ruD b y = d by unfold ruD; rw [rdL_is hy.ok.neg hd h2, neg_neg]] at this; exact this
theorem widthSL (c : Dy) (hx : BD 4 4 x) (hy : BD 4 4 y) (hc : c.Ok) (h1 : dv c = dv y - dv x) : FitsP 27 [spS x y] [] (.tup [dS c, ok0]) := by
  have := widthS_f hx hy (by omega)
  rw [subD_is hc h1] at this; exact this
theorem middleSL (c : Dy) (hx : BD 4 4 x) (hy : BD 4 4 y) (hc : c.Ok) (h1 : dv c = (dv x + dv y) / 2) : FitsP 26 [spS x y] [] (.tup [dS c, ok0]) := by
  have := middleS_f hx hy (by omega)
  rw [show mdD x y = c from dv_inj (mk_ok _ _) hc (by rw [mdD_dv, h1])] at this; exact this
theorem textSL {r t : Rat} {s1 s2 s3 : ByteArray} (hx : BD 4 4 x) (hy : BD 4 4 y) (h1 : dv x = r) (h2 : dv y = t) (hs : FitsP 98 [rq r] [] (.one (rawS (.string s1)))) (ht : FitsP 98 [rq t] [] (.one (rawS (.string s2)))) (l1 : s1.size ≤ 1000) (l2 : s2.size ≤ 1000) (e : s1 ++ ⟨#[46, 46]⟩ ++ s2 = s3) : FitsP 99 [spS x y] [] (.one (rawS (.string s3))) := by
  subst e; exact textS_f (ratioL r hx h1) (ratioL t hy h2) hs ht l1 l2
theorem sizeSL (c : Dy) (hx : BD 4 4 (absD x)) (hy : BD 4 4 (absD y)) (h1 : maxD (absD x) (absD y) = c) : FitsP 118 [spS x y] [] (.one (dS c)) := by subst h1; exact sizeS_f hx hy (by omega)
theorem evenSL (c d : Dy) (h1 : negD (absD x) = c) (h2 : absD x = d) : FitsP 180 [dS x] [] (.one (spS c d)) := by subst h1; subst h2; exact evenS_f
end

theorem fewD {b : Nat} {a : Dy} (h : Few b a) : decide ((bt a.m.natAbs : Int) ≤ (b : Int)) = true := decide_eq_true (by unfold Few at h; omega)
end Go.Proofs.YtejkcmklhmifaaaGreatDoor
