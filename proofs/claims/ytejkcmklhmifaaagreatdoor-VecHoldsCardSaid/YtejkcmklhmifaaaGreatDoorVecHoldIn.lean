/- VecHolds: whatever comes in. -/
import Derived.Test.YtejkcmklhmifaaaGreatDoorVecFitIn
import Derived.Test.YtejkcmklhmifaaaGreatDoorVecHold
namespace Go.Proofs.YtejkcmklhmifaaaGreatDoor
open Go Go.RowKit Go.Shelf AM
theorem vecHolds_law (w : World) (hG : Glob w) (v0 v1 : Value) (n : Int) (h0 : RatsIn w v0) (h1 : RatsIn w v1) : Calls Tryz.prog 6 #[v0, v1, .int .i64 n] w fun e w' => e = .returned (.bool true) ∧ Below w.heap.size w w' := by
  obtain ⟨A, hA, r0⟩ := h0
  obtain ⟨B, hB, r1⟩ := h1
  rcases fit7_2 hA hB with ⟨a, b, g0, g1⟩ | hu
  · by_cases h6 : A.length ≤ 6
    · by_cases e1 : n < 2
      · exact law_in (VecHolds_lo g0.most g0.same g1.same g0.bq g1.bq h6 e1) hG ⟨g0.conv r0, g1.conv r1, rfl, trivial⟩
      · by_cases e2 : n > 300
        · exact law_in (VecHolds_hi g0.most g0.same g1.same g0.bq g1.bq h6 e1 e2) hG ⟨g0.conv r0, g1.conv r1, rfl, trivial⟩
        · obtain ⟨m, rfl⟩ : ∃ m : Nat, n = m := ⟨n.toNat, by omega⟩
          exact law_in (VecHolds_fit h6 g0.same g1.same g0.bq g1.bq (by omega) (by omega)) hG ⟨g0.conv r0, g1.conv r1, rfl, trivial⟩
    · exact law_in (VecHolds_long g0.most g0.same g1.same g0.bq g1.bq (by omega)) hG ⟨g0.conv r0, g1.conv r1, rfl, trivial⟩
  · exact law_in (VecHolds_un hu) hG ⟨r0, r1, rfl, trivial⟩
end Go.Proofs.YtejkcmklhmifaaaGreatDoor
