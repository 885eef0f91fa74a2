/- SpanNests: whatever comes in. -/
import Derived.Test.YtnnnmhjcnkipbaaGreatDoorCardS
import Derived.Test.YtnnnmhjcnkipbaaGreatDoorSpNests
namespace Go.Proofs.YtnnnmhjcnkipbaaGreatDoor
open Go Go.RowKit Go.Shelf AM
theorem spanNests_law (w : World) (hG : Glob w) (v0 : Value) (v1 : Value) (n : Int) (_ : -9223372036854775808 ≤ n) (_ : n ≤ 9223372036854775807) (h0 : SpIn w v0) (h1 : SpIn w v1) : Calls Tryz.prog 7 #[v0, v1, .int .i64 n] w fun e w' => e = .returned (.bool true) ∧ Below w.heap.size w w' := by
  obtain ⟨m0, a0, e0, n0, b0, f0, r0, c0⟩ := h0
  obtain ⟨m1, a1, e1, n1, b1, f1, r1, c1⟩ := h1
  rcases c0 with ⟨x0, y0, g0, s0⟩ | u0
  · skip
    rcases c1 with ⟨x1, y1, g1, s1⟩ | u1
    · exact law_in (SpanNests_fit g0 g1 n) hG ⟨s0, s1, rfl, trivial⟩
    · exact law_in (SpanNests_un1 g0 u1 _) hG ⟨s0, r1, rfl, trivial⟩
  · exact law_in (SpanNests_un0 u0 m1 a1 e1 n1 b1 f1 _) hG ⟨r0, r1, rfl, trivial⟩
end Go.Proofs.YtnnnmhjcnkipbaaGreatDoor
