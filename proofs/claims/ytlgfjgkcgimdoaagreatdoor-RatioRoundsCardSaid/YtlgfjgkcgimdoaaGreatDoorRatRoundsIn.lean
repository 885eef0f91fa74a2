/- RatioRounds: whatever comes in. -/
import Derived.Test.YtlgfjgkcgimdoaaGreatDoorCardR
import Derived.Test.YtlgfjgkcgimdoaaGreatDoorRatRounds
namespace Go.Proofs.YtlgfjgkcgimdoaaGreatDoor
open Go Go.RowKit Go.Shelf AM
theorem ratioRounds_law (w : World) (hG : Glob w) (v0 : Value) (h0 : RatIn w v0) : Calls Tryz.prog 8 #[v0] w fun e w' => e = .returned (.bool true) ∧ Below w.heap.size w w' := by
  obtain ⟨m0, a0, b0, r0, c0⟩ := h0
  rcases c0 with ⟨p, g0, s0⟩ | u0
  · exact law_in (RatioRounds_fit g0 ) hG ⟨s0, trivial⟩
  · exact law_in (RatioRounds_un0 u0) hG ⟨r0, trivial⟩
end Go.Proofs.YtlgfjgkcgimdoaaGreatDoor
