/- RatioField: whatever comes in. -/
import Derived.Test.YtlgfjgkcgimdoaaGreatDoorCardR
import Derived.Test.YtlgfjgkcgimdoaaGreatDoorRatField
namespace Go.Proofs.YtlgfjgkcgimdoaaGreatDoor
open Go Go.RowKit Go.Shelf AM
theorem ratioField_law (w : World) (hG : Glob w) (v0 : Value) (v1 : Value) (v2 : Value) (h0 : RatIn w v0) (h1 : RatIn w v1) (h2 : RatIn w v2) : Calls Tryz.prog 6 #[v0, v1, v2] w fun e w' => e = .returned (.bool true) ∧ Below w.heap.size w w' := by
  obtain ⟨m0, a0, b0, r0, c0⟩ := h0
  obtain ⟨m1, a1, b1, r1, c1⟩ := h1
  obtain ⟨m2, a2, b2, r2, c2⟩ := h2
  rcases c0 with ⟨p, g0, s0⟩ | u0
  · skip
    rcases c1 with ⟨q, g1, s1⟩ | u1
    · skip
      rcases c2 with ⟨r, g2, s2⟩ | u2
      · exact law_in (RatioField_fit g0 g1 g2 ) hG ⟨s0, s1, s2, trivial⟩
      · exact law_in (RatioField_un2 g0 g1 u2) hG ⟨s0, s1, r2, trivial⟩
    · exact law_in (RatioField_un1 g0 u1 m2 a2 b2) hG ⟨s0, r1, r2, trivial⟩
  · exact law_in (RatioField_un0 u0 m1 a1 b1 m2 a2 b2) hG ⟨r0, r1, r2, trivial⟩
end Go.Proofs.YtlgfjgkcgimdoaaGreatDoor
