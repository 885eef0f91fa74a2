/- SpanHolds: whatever comes in. -/
import Derived.Test.YtnnnmhjcnkipbaaGreatDoorCardA3
import Derived.Test.YtnnnmhjcnkipbaaGreatDoorSpHolds
namespace Go.Proofs.YtnnnmhjcnkipbaaGreatDoor
open Go Go.RowKit Go.Shelf AM
theorem spanHolds_law (w : World) (hG : Glob w) (v0 : Value) (v1 : Value) (p0 p1 n : Int) (h0 : SpIn w v0) (h1 : SpIn w v1) : Calls Tryz.prog 3 #[v0, v1, .agg #[.int .i64 p0, .int .i64 p1, .int .i64 n]] w fun e w' => e = .returned (.bool true) ∧ Below w.heap.size w w' := by
  obtain ⟨m0, a0, e0, n0, b0, f0, r0, c0⟩ := h0
  obtain ⟨m1, a1, e1, n1, b1, f1, r1, c1⟩ := h1
  rcases c0 with ⟨x0, y0, g0, s0⟩ | u0
  · skip
    rcases c1 with ⟨x1, y1, g1, s1⟩ | u1
    · exact law_in (SpanHolds_fit g0 g1 p0 p1 n) hG ⟨s0, s1, ⟨[.int .i64 p0, .int .i64 p1, .int .i64 n], rfl, rfl, rfl, rfl, trivial⟩, trivial⟩
    · exact law_in (SpanHolds_un1 g0 u1 p0 p1 n) hG ⟨s0, r1, ⟨[.int .i64 p0, .int .i64 p1, .int .i64 n], rfl, rfl, rfl, rfl, trivial⟩, trivial⟩
  · exact law_in (SpanHolds_un0 u0 m1 a1 e1 n1 b1 f1 p0 p1 n) hG ⟨r0, r1, ⟨[.int .i64 p0, .int .i64 p1, .int .i64 n], rfl, rfl, rfl, rfl, trivial⟩, trivial⟩
end Go.Proofs.YtnnnmhjcnkipbaaGreatDoor
