/- RatioMakes: whatever comes in. -/
import Derived.Test.YtlgfjgkcgimdoaaGreatDoorCardR
import Derived.Test.YtlgfjgkcgimdoaaGreatDoorRatMakes
namespace Go.Proofs.YtlgfjgkcgimdoaaGreatDoor
open Go Go.RowKit Go.Shelf AM
/-- A whole number in: fit, or not. -/
def IntIn (W : World) (v : Value) : Prop := ∃ (m : Bool) (xs : List Nat), RelS (fun _ => none) W v (aiS m xs) ∧ ((∃ z : Int, z.natAbs < 4294967296 ^ 30 ∧ RelS (fun _ => none) W v (im z)) ∨ UnfitI m xs)
theorem intIn {W : World} {v : Value} {m : Bool} {xs : List Nat} (h1 : In32 xs) (h : ∀ β, RelS β W v (aiS m xs)) : IntIn W v := by
  refine ⟨m, xs, h _, ?_⟩
  rcases ai_cases (m := m) h1 with ⟨z, hz, hr⟩ | hu
  · exact .inl ⟨z, hz, hr _ W v (h _)⟩
  · exact .inr hu
theorem ratioMakes_law (w : World) (hG : Glob w) (v0 v1 : Value) (h0 : IntIn w v0) (h1 : IntIn w v1) : Calls Tryz.prog 5 #[v0, v1] w fun e w' => e = .returned (.bool true) ∧ Below w.heap.size w w' := by
  obtain ⟨m0, a0, r0, c0⟩ := h0
  obtain ⟨m1, a1, r1, c1⟩ := h1
  rcases c0 with ⟨n, g0, s0⟩ | u0
  · rcases c1 with ⟨d, g1, s1⟩ | u1
    · by_cases hd : d = 0
      · subst hd; exact law_in (RatioMakes_fit0 g0 g1) hG ⟨s0, s1, trivial⟩
      · refine law_in (RatioMakes_fit1 g0 g1 hd rfl ?_) hG ⟨s0, s1, trivial⟩
        unfold sign3; split
        · omega
        · omega
    · rcases u1 with h | ⟨hy, h⟩
      · exact law_in (RatioMakes_un5 g0 h) hG ⟨s0, r1, trivial⟩
      · exact law_in (RatioMakes_un4 g0 hy rfl h) hG ⟨s0, r1, trivial⟩
  · rcases u0 with h | ⟨hx, h⟩
    · exact law_in (RatioMakes_un1 h) hG ⟨r0, r1, trivial⟩
    · by_cases hy : 30 < a1.length
      · exact law_in (RatioMakes_un2 hx hy) hG ⟨r0, r1, trivial⟩
      · exact law_in (RatioMakes_un3 hx (by omega) rfl h) hG ⟨r0, r1, trivial⟩
end Go.Proofs.YtlgfjgkcgimdoaaGreatDoor
