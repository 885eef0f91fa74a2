/- SpanNear: whatever comes in. -/
import Derived.Test.YtphpaejgcahgbaaGreatDoorCardD
import Derived.Test.YtphpaejgcahgbaaGreatDoorSpNear
namespace Go.Proofs.YtphpaejgcahgbaaGreatDoor
open Go Go.RowKit Go.Shelf AM
/-- A ratio in: fit, or not. -/
def RatIn10 (W : World) (v : Value) : Prop := ∃ (m : Bool) (xs ds : List Nat), RelS (fun _ => none) W v (ag m xs ds) ∧ ((∃ q : Rat, BQ 10 q ∧ RelS (fun _ => none) W v (rq q)) ∨ Unfit10 m xs ds)
theorem ratIn10 {W : World} {v : Value} {m : Bool} {xs ds : List Nat} (h1 : In32 xs) (h2 : In32 ds) (h : ∀ β, RelS β W v (ag m xs ds)) : RatIn10 W v := by
  refine ⟨m, xs, ds, h _, ?_⟩
  rcases ag_cases10 (m := m) h1 h2 with ⟨q, hq, hr⟩ | hu
  · exact .inl ⟨q, hq, hr _ W v (h _)⟩
  · exact .inr hu
theorem spanNear_law (w : World) (hG : Glob w) (v0 : Value) (n : Int) (_ : -9223372036854775808 ≤ n) (_ : n ≤ 9223372036854775807) (k : Int) (_ : -9223372036854775808 ≤ k) (_ : k ≤ 9223372036854775807) (h0 : RatIn10 w v0) : Calls Tryz.prog 13 #[v0, .int .i64 n, .int .i64 k] w fun e w' => e = .returned (.bool true) ∧ Below w.heap.size w w' := by
  obtain ⟨m0, a0, b0, r0, c0⟩ := h0
  rcases c0 with ⟨q, g0, s0⟩ | u | ⟨hx, u⟩ | ⟨hx, hy, c, hc, u⟩
  · exact law_in (SpanNear_fit g0) hG ⟨s0, rfl, rfl, trivial⟩
  · exact law_in (SpanNear_un1 u) hG ⟨r0, rfl, rfl, trivial⟩
  · exact law_in (SpanNear_un2 hx u) hG ⟨r0, rfl, rfl, trivial⟩
  · exact law_in (SpanNear_un3 hx hy hc u) hG ⟨r0, rfl, rfl, trivial⟩
end Go.Proofs.YtphpaejgcahgbaaGreatDoor
