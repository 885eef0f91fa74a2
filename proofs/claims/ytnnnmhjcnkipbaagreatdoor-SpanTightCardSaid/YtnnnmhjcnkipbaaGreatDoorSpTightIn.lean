/- SpanTight: whatever comes in. -/
import Derived.Test.YtnnnmhjcnkipbaaGreatDoorCardS
import Derived.Test.YtnnnmhjcnkipbaaGreatDoorSpTight
namespace Go.Proofs.YtnnnmhjcnkipbaaGreatDoor
open Go Go.RowKit Go.Shelf AM
theorem spanTight_law (w : World) (hG : Glob w) (v0 : Value) (v1 : Value) (h0 : SpIn w v0) (h1 : SpIn w v1) : Calls Tryz.prog 4 #[v0, v1] w fun e w' => e = .returned (.bool true) ∧ Below w.heap.size w w' := by
  obtain ⟨m0, a0, e0, n0, b0, f0, r0, c0⟩ := h0
  obtain ⟨m1, a1, e1, n1, b1, f1, r1, c1⟩ := h1
  rcases c0 with ⟨x0, y0, g0, s0⟩ | u0
  · skip
    rcases c1 with ⟨x1, y1, g1, s1⟩ | u1
    · exact law_in (SpanTight_fit g0 g1) hG ⟨s0, s1, trivial⟩
    · exact law_in (SpanTight_un1 g0 u1) hG ⟨s0, r1, trivial⟩
  · exact law_in (SpanTight_un0 u0 m1 a1 e1 n1 b1 f1) hG ⟨r0, r1, trivial⟩
end Go.Proofs.YtnnnmhjcnkipbaaGreatDoor
