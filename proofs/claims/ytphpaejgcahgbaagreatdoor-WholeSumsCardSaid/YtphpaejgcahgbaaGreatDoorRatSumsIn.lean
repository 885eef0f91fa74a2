/- WholeSums: whatever comes in. -/
import Derived.Test.YtphpaejgcahgbaaGreatDoorCardL
import Derived.Test.YtphpaejgcahgbaaGreatDoorRatSums
namespace Go.Proofs.YtphpaejgcahgbaaGreatDoor
open Go Go.RowKit Go.Shelf AM
theorem wholeSums_law (w : World) (hG : Glob w) (v0 v1 : Value) (h0 : RatInL w v0) (h1 : RatInL w v1) : Calls Tryz.prog 6 #[v0, v1] w fun e w' => e = .returned (.bool true) ∧ Below w.heap.size w w' := by
  obtain ⟨m0, a0, b0, r0, c0⟩ := h0
  obtain ⟨m1, a1, b1, r1, c1⟩ := h1
  rcases c0 with ⟨p, lp, s0⟩ | ⟨c, hc, hu⟩
  · by_cases g1 : p.num.natAbs < 4294967296 ^ 10
    · by_cases g2 : p.den < 4294967296 ^ 10
      · rcases c1 with ⟨q, lq, s1⟩ | ⟨c, hc, hu⟩
        · by_cases k1 : q.num.natAbs < 4294967296 ^ 10
          · by_cases k2 : q.den < 4294967296 ^ 10
            · exact law_in (WholeSums_go lp lq ⟨g1, g2⟩ ⟨k1, k2⟩ rfl) hG ⟨s0, s1, trivial⟩
            · exact law_in (WholeSums_b3 lp lq ⟨g1, g2⟩ k1 k2) hG ⟨s0, s1, trivial⟩
          · exact law_in (WholeSums_b2 lp lq ⟨g1, g2⟩ k1) hG ⟨s0, s1, trivial⟩
        · exact law_in (WholeSums_b1 lp ⟨g1, g2⟩ hc hu) hG ⟨s0, r1, trivial⟩
      · exact law_in (WholeSums_a3 lp g1 g2 _ _ _) hG ⟨s0, r1, trivial⟩
    · exact law_in (WholeSums_a2 lp g1 _ _ _) hG ⟨s0, r1, trivial⟩
  · exact law_in (WholeSums_a1 hc hu _ _ _) hG ⟨r0, r1, trivial⟩
end Go.Proofs.YtphpaejgcahgbaaGreatDoor
