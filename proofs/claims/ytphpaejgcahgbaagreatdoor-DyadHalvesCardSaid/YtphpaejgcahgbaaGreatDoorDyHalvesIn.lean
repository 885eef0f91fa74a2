/- DyadHalves: whatever comes in. -/
import Derived.Test.YtphpaejgcahgbaaGreatDoorCardD
import Derived.Test.YtphpaejgcahgbaaGreatDoorDyHalves
namespace Go.Proofs.YtphpaejgcahgbaaGreatDoor
open Go Go.RowKit Go.Shelf AM
theorem dyadHalves_law (w : World) (hG : Glob w) (v0 : Value) (v1 : Value) (h0 : DyIn w v0) (h1 : DyIn w v1) : Calls Tryz.prog 12 #[v0, v1] w fun e w' => e = .returned (.bool true) ∧ Below w.heap.size w w' := by
  obtain ⟨m0, a0, e0, r0, c0⟩ := h0
  obtain ⟨m1, a1, e1, r1, c1⟩ := h1
  rcases c0 with ⟨p, g0, s0⟩ | u0
  · skip
    rcases c1 with ⟨q, g1, s1⟩ | u1
    · exact law_in (DyadHalves_fit g0 g1) hG ⟨s0, s1, trivial⟩
    · exact law_in (DyadHalves_un1 g0 u1) hG ⟨s0, r1, trivial⟩
  · exact law_in (DyadHalves_un0 u0 m1 a1 e1) hG ⟨r0, r1, trivial⟩
end Go.Proofs.YtphpaejgcahgbaaGreatDoor
