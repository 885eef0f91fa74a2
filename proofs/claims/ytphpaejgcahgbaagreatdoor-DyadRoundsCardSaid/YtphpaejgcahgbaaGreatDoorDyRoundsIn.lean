/- DyadRounds: whatever comes in. -/
import Derived.Test.YtphpaejgcahgbaaGreatDoorCardD
import Derived.Test.YtphpaejgcahgbaaGreatDoorDyRounds
namespace Go.Proofs.YtphpaejgcahgbaaGreatDoor
open Go Go.RowKit Go.Shelf AM
theorem dyadRounds_law (w : World) (hG : Glob w) (v0 : Value) (n : Int) (_ : -9223372036854775808 ≤ n) (_ : n ≤ 9223372036854775807) (u : Bool) (h0 : DyIn w v0) : Calls Tryz.prog 10 #[v0, .int .i64 n, .bool u] w fun e w' => e = .returned (.bool true) ∧ Below w.heap.size w w' := by
  obtain ⟨m0, a0, e0, r0, c0⟩ := h0
  rcases c0 with ⟨p, g0, s0⟩ | u0
  · exact law_in (DyadRounds_fit g0) hG ⟨s0, rfl, rfl, trivial⟩
  · exact law_in (DyadRounds_un0 u0 _ _) hG ⟨r0, rfl, rfl, trivial⟩
end Go.Proofs.YtphpaejgcahgbaaGreatDoor
