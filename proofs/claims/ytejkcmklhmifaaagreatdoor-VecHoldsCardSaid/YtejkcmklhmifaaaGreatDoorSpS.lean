/- Spans: three together. -/
import Derived.Test.YtejkcmklhmifaaaGreatDoorSpO
namespace Go.Proofs.YtejkcmklhmifaaaGreatDoor
open Go Go.RowKit Go.Shelf AM
/-! Three spans together. -/
def s2 (b : Nat) (x u : Dy) : Dy := rdD b (addD (rdD b x) u)
def s3 (b : Nat) (x u p : Dy) : Dy := rdD b (addD (s2 b x u) p)
def t2 (b : Nat) (y v : Dy) : Dy := ruD b (addD (ruD b y) v)
def t3 (b : Nat) (y v q : Dy) : Dy := ruD b (addD (t2 b y v) q)
section
variable {b n k : Nat} {x y u v p q : Dy}
theorem s2_bd (hb : 1 ≤ b) (hx : BD n k x) (hu : BD n k u) : BD (n + 3) k (s2 b x u) := ((hx.rd hb).add (hu.mono (by omega) (Nat.le_refl _))).rd hb
theorem t2_bd (hb : 1 ≤ b) (hx : BD n k x) (hu : BD n k u) : BD (n + 3) k (t2 b x u) := ((hx.ru hb).add (hu.mono (by omega) (Nat.le_refl _))).ru hb
theorem s3_bd (hb : 1 ≤ b) (hx : BD n k x) (hu : BD n k u) (hp : BD n k p) : BD (n + 5) k (s3 b x u p) := ((s2_bd hb hx hu).add (hp.mono (by omega) (Nat.le_refl _))).rd hb
theorem t3_bd (hb : 1 ≤ b) (hx : BD n k x) (hu : BD n k u) (hp : BD n k p) : BD (n + 5) k (t3 b x u p) := ((t2_bd hb hx hu).add (hp.mono (by omega) (Nat.le_refl _))).ru hb
end

set_option maxRecDepth 100000 in
theorem sumS0_f {x y u v p q : Dy} {b n k : Nat} (hx : BD n k x) (hy : BD n k y) (hu : BD n k u) (hv : BD n k v) (hp : BD n k p) (hq : BD n k q) (hk : n + k + 8 ≤ 512) (hb : 2 ≤ b) (hb2 : b ≤ 4096) : FitsP 114 [intS (b : Int), Sv.cel (Cv.row 0 0 3 3)] [(0, ⟨32, [.raw (.bool (decide (x.m < 0))), .ent (nat x.m.natAbs), .raw (.int .i64 x.e), .raw (.bool (decide (y.m < 0))), .ent (nat y.m.natAbs), .raw (.int .i64 y.e), .raw (.bool (decide (u.m < 0))), .ent (nat u.m.natAbs), .raw (.int .i64 u.e), .raw (.bool (decide (v.m < 0))), .ent (nat v.m.natAbs), .raw (.int .i64 v.e), .raw (.bool (decide (p.m < 0))), .ent (nat p.m.natAbs), .raw (.int .i64 p.e), .raw (.bool (decide (q.m < 0))), .ent (nat q.m.natAbs), .raw (.int .i64 q.e)], true, .no⟩)] (.tup [spS (s3 b x u p) (t3 b y v q), ok0]) := by
  have hT : AllOk Tryz.prog Glob [
    Tr.call 81 [spS x y, intS (↑b : Int)] [] (Av.tup [spS (rdD b x) (ruD b y), ok0]),
    Tr.call 22 [spS (rdD b x) (ruD b y), spS u v, intS (↑b : Int)] [] (Av.tup [spS (s2 b x u) (t2 b y v), ok0]),
    Tr.call 22 [spS (s2 b x u) (t2 b y v), spS p q, intS (↑b : Int)] [] (Av.tup [spS (s3 b x u p) (t3 b y v q), ok0])] := ⟨
    roundS_f hx hy (by omega) hb hb2,
    addS_f (hx.rd (by omega)) (hy.ru (by omega)) (hu.mono (by omega) (Nat.le_refl _)) (hv.mono (by omega) (Nat.le_refl _)) (by omega) hb hb2,
    addS_f (s2_bd (by omega) hx hu) (t2_bd (by omega) hy hv) (hp.mono (by omega) (Nat.le_refl _)) (hq.mono (by omega) (Nat.le_refl _)) (by omega) hb hb2, trivial⟩
  exact fits_of_trace (n := 300) (k0 := 1) hT Tryz.func114 (by kernel_rfl) (by kernel_rfl) (by kernel_rfl)

theorem sumS_f {x y u v p q : Dy} {b n k : Nat} (hx : BD n k x) (hy : BD n k y) (hu : BD n k u) (hv : BD n k v) (hp : BD n k p) (hq : BD n k q) (hk : n + k + 8 ≤ 512) (hb : 2 ≤ b) (hb2 : b ≤ 4096) (z : Nat) (o : Bool) : FitsP 114 [intS (b : Int), Sv.cel (Cv.row z 0 3 3)] [(z, ⟨32, [.raw (.bool (decide (x.m < 0))), .ent (nat x.m.natAbs), .raw (.int .i64 x.e), .raw (.bool (decide (y.m < 0))), .ent (nat y.m.natAbs), .raw (.int .i64 y.e), .raw (.bool (decide (u.m < 0))), .ent (nat u.m.natAbs), .raw (.int .i64 u.e), .raw (.bool (decide (v.m < 0))), .ent (nat v.m.natAbs), .raw (.int .i64 v.e), .raw (.bool (decide (p.m < 0))), .ent (nat p.m.natAbs), .raw (.int .i64 p.e), .raw (.bool (decide (q.m < 0))), .ent (nat q.m.natAbs), .raw (.int .i64 q.e)], o, .no⟩)] (.tup [spS (s3 b x u p) (t3 b y v q), ok0]) := Fits.row (pre := [intS (b : Int)]) (sumS0_f hx hy hu hv hp hq hk hb hb2) rfl rfl rfl z o
end Go.Proofs.YtejkcmklhmifaaaGreatDoor
