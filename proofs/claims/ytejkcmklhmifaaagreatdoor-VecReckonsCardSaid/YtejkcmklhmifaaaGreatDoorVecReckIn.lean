/- VecReckons: whatever comes in. -/
import Derived.Test.YtejkcmklhmifaaaGreatDoorVecFitIn
import Derived.Test.YtejkcmklhmifaaaGreatDoorVecReck
namespace Go.Proofs.YtejkcmklhmifaaaGreatDoor
open Go Go.RowKit Go.Shelf AM
theorem vecReckons_law (w : World) (hG : Glob w) (v0 v1 v2 : Value) (h0 : RatsIn w v0) (h1 : RatsIn w v1) (h2 : RatsIn w v2) : Calls Tryz.prog 4 #[v0, v1, v2] w fun e w' => e = .returned (.bool true) ∧ Below w.heap.size w w' := by
  obtain ⟨A, hA, r0⟩ := h0
  obtain ⟨B, hB, r1⟩ := h1
  obtain ⟨C, hC, r2⟩ := h2
  rcases fit7_3 hA hB hC with ⟨a, b, c, g0, g1, g2⟩ | hu
  · by_cases h6 : A.length ≤ 6
    · exact law_in (VecReckons_fit h6 g0.same g1.same g0.bq g1.bq g2.same g2.bq) hG ⟨g0.conv r0, g1.conv r1, g2.conv r2, trivial⟩
    · exact law_in (VecReckons_long (by omega) g0.most g0.same g1.same g2.same g0.bq g1.bq g2.bq) hG ⟨g0.conv r0, g1.conv r1, g2.conv r2, trivial⟩
  · exact law_in (VecReckons_un hu) hG ⟨r0, r1, r2, trivial⟩
end Go.Proofs.YtejkcmklhmifaaaGreatDoor
