/- VecUnits: whatever comes in. -/
import Derived.Test.YtejkcmklhmifaaaGreatDoorVecFitIn
import Derived.Test.YtejkcmklhmifaaaGreatDoorVecUnit
namespace Go.Proofs.YtejkcmklhmifaaaGreatDoor
open Go Go.RowKit Go.Shelf AM
theorem vecUnits_law (w : World) (hG : Glob w) (v0 : Value) (h0 : RatsIn w v0) : Calls Tryz.prog 8 #[v0] w fun e w' => e = .returned (.bool true) ∧ Below w.heap.size w w' := by
  obtain ⟨A, hA, r0⟩ := h0
  rcases fit7_1 hA with ⟨a, g0⟩ | hu
  · exact law_in (VecUnits_fit g0.most g0.same g0.bq) hG ⟨g0.conv r0, trivial⟩
  · exact law_in (VecUnits_un hu) hG ⟨r0, trivial⟩
end Go.Proofs.YtejkcmklhmifaaaGreatDoor
