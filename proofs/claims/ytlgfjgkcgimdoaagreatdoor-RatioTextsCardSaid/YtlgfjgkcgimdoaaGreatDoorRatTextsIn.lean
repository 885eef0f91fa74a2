/- RatioTexts: whatever comes in. -/
import Derived.Test.YtlgfjgkcgimdoaaGreatDoorCardR
import Derived.Test.YtlgfjgkcgimdoaaGreatDoorRatTexts
namespace Go.Proofs.YtlgfjgkcgimdoaaGreatDoor
open Go Go.RowKit Go.Shelf AM
theorem ratioTexts_law (w : World) (hG : Glob w) (v0 : Value) (n : Int) (hn1 : -9223372036854775808 ≤ n) (hn2 : n ≤ 9223372036854775807) (h0 : RatIn w v0) : Calls Tryz.prog 9 #[v0, .int .i64 n] w fun e w' => e = .returned (.bool true) ∧ Below w.heap.size w w' := by
  obtain ⟨m0, a0, b0, r0, c0⟩ := h0
  rcases c0 with ⟨p, g0, s0⟩ | u0
  · exact law_in (RatioTexts_fit g0 ⟨hn1, hn2⟩) hG ⟨s0, rfl, trivial⟩
  · exact law_in (RatioTexts_un0 u0 _) hG ⟨r0, rfl, trivial⟩
end Go.Proofs.YtlgfjgkcgimdoaaGreatDoor
