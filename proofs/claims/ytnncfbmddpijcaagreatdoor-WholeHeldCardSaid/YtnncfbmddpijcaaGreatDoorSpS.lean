
/- Spans: three together. -/
import Derived.Test.YtnncfbmddpijcaaGreatDoorSpO
namespace Go.Proofs.YtnncfbmddpijcaaGreatDoor
open Go Go.RowKit Go.Shelf AM
/-! Three spans together. -/
def s2 (b : Nat) (x u : Dy) : Dy := rdD b (addD (rdD b x) u)
def s3 (b : Nat) (x u p : Dy) : Dy := rdD b (addD (s2 b x u) p)
def t2 (b : Nat) (y v : Dy) : Dy := ruD b (addD (ruD b y) v)
def t3 (b : Nat) (y v q : Dy) : Dy := ruD b (addD (t2 b y v) q)
section
variable {b n k : Nat} {x y u v p q : Dy}
theorem s2_bd (hb : 1 ≤ b) (hx : BD n k x) (hu : BD n k u) : BD (n + 3) k (s2 b x u) := ((hx.rd hb).add (hu.mono (by omega) (Nat.le_refl _))).rd hb
theorem t2_bd (hb : 1 ≤ b) (hx : BD n k x) (hu : BD n k u) : BD (n + 3) k (t2 b x u) := ((hx.ru hb).add (hu.mono (by omega) (Nat.le_refl _))).ru hb
theorem s3_bd (hb : 1 ≤ b) (hx : BD n k x) (hu : BD n k u) (hp : BD n k p) : BD (n + 5) k (s3 b x u p) := ((s2_bd hb hx hu).add (hp.mono (by omega) (Nat.le_refl _))).rd hb
theorem t3_bd (hb : 1 ≤ b) (hx : BD n k x) (hu : BD n k u) (hp : BD n k p) : BD (n + 5) k (t3 b x u p) := ((t2_bd hb hx hu).add (hp.mono (by omega) (Nat.le_refl _))).ru hb
end

end Go.Proofs.YtnncfbmddpijcaaGreatDoor
