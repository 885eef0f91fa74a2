/- What divides two numbers. -/
import Derived.Test.YtlgfjgkcgimdoaaDoorNm
import Derived.Deep.LoopGhost
namespace Go.Proofs.YtlgfjgkcgimdoaaDoor
open Go Go.RowKit Go.Shelf

theorem gcd_step (x y : Nat) : Nat.gcd y (x % y) = Nat.gcd x y := by rw [Nat.gcd_comm x y, Nat.gcd_rec y x, Nat.gcd_comm]

end Go.Proofs.YtlgfjgkcgimdoaaDoor
