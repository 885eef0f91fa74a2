/- SpanSizes: whatever comes in. -/
import Derived.Test.YtnnnmhjcnkipbaaGreatDoorCardS
import Derived.Test.YtnnnmhjcnkipbaaGreatDoorSpSizes
namespace Go.Proofs.YtnnnmhjcnkipbaaGreatDoor
open Go Go.RowKit Go.Shelf AM
theorem spanSizes_law (w : World) (hG : Glob w) (v0 : Value) (n : Int) (_ : -9223372036854775808 ≤ n) (_ : n ≤ 9223372036854775807) (h0 : SpIn w v0) : Calls Tryz.prog 6 #[v0, .int .i64 n] w fun e w' => e = .returned (.bool true) ∧ Below w.heap.size w w' := by
  obtain ⟨m0, a0, e0, n0, b0, f0, r0, c0⟩ := h0
  rcases c0 with ⟨x0, y0, g0, s0⟩ | u0
  · exact law_in (SpanSizes_fit g0 n) hG ⟨s0, rfl, trivial⟩
  · exact law_in (SpanSizes_un0 u0 _) hG ⟨r0, rfl, trivial⟩
end Go.Proofs.YtnnnmhjcnkipbaaGreatDoor
