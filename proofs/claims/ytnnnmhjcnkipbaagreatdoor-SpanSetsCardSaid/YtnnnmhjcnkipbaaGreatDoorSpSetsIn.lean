/- SpanSets: whatever comes in. -/
import Derived.Test.YtnnnmhjcnkipbaaGreatDoorCardS
import Derived.Test.YtnnnmhjcnkipbaaGreatDoorCardRow
import Derived.Test.YtnnnmhjcnkipbaaGreatDoorSpSets
namespace Go.Proofs.YtnnnmhjcnkipbaaGreatDoor
open Go Go.RowKit Go.Shelf AM
theorem spanSets_law (w : World) (hG : Glob w) (v0 : Value) (v1 : Value) (v2 : Value) (h0 : SpIn w v0) (h1 : SpIn w v1) (h2 : DyInL w v2) : Calls Tryz.prog 5 #[v0, v1, v2] w fun e w' => e = .returned (.bool true) ∧ Below w.heap.size w w' := by
  obtain ⟨m0, a0, e0, n0, b0, f0, r0, c0⟩ := h0
  obtain ⟨m1, a1, e1, n1, b1, f1, r1, c1⟩ := h1
  obtain ⟨m2, a2, e2, hl, r2, c2⟩ := h2
  rcases c0 with ⟨x0, y0, g0, s0⟩ | u0
  · rcases c1 with ⟨x1, y1, g1, s1⟩ | u1
    · rcases c2 with ⟨d, g2, s2⟩ | u2
      · exact law_in (SpanSets_fit g0 g1 g2) hG ⟨s0, s1, s2, trivial⟩
      · exact law_in (SpanSets_un2 hl g0 g1 u2) hG ⟨s0, s1, r2, trivial⟩
    · exact law_in (SpanSets_un1 hl g0 u1) hG ⟨s0, r1, r2, trivial⟩
  · exact law_in (SpanSets_un0 hl u0 m1 a1 e1 n1 b1 f1) hG ⟨r0, r1, r2, trivial⟩
end Go.Proofs.YtnnnmhjcnkipbaaGreatDoor
