/- VecScales: whatever comes in. -/
import Derived.Test.YtejkcmklhmifaaaGreatDoorVecFitIn
import Derived.Test.YtejkcmklhmifaaaGreatDoorVecScal
namespace Go.Proofs.YtejkcmklhmifaaaGreatDoor
open Go Go.RowKit Go.Shelf AM
/-- A ratio in, as it comes. -/
def AgIn (W : World) (v : Value) : Prop := ∃ a : Ag, a.In ∧ RelS (fun _ => none) W v (agS a)
theorem ratInAg {W : World} {v : Value} {m : Bool} {xs ds : List Nat} (h1 : In32 xs) (h2 : In32 ds) (h : ∀ β, RelS β W v (ag m xs ds)) : AgIn W v := ⟨⟨m, xs, ds⟩, ⟨h1, h2⟩, h _⟩
theorem vecScales_law (w : World) (hG : Glob w) (v0 v1 v2 : Value) (h0 : RatsIn w v0) (h1 : RatsIn w v1) (h2 : AgIn w v2) : Calls Tryz.prog 5 #[v0, v1, v2] w fun e w' => e = .returned (.bool true) ∧ Below w.heap.size w w' := by
  obtain ⟨A, hA, r0⟩ := h0
  obtain ⟨B, hB, r1⟩ := h1
  obtain ⟨p, hp, r2⟩ := h2
  rcases fit7_2 hA hB with ⟨a, b, g0, g1⟩ | hu
  · by_cases h6 : A.length ≤ 6
    · rcases fit7_1 (A := [p]) (fun x hx => by simp only [List.mem_cons, List.not_mem_nil, or_false] at hx; subst hx; exact hp) with ⟨qs, g2⟩ | hu
      · obtain ⟨q, hq⟩ := g2.good 0 p rfl
        exact law_in (VecScales_fit h6 g0.same g1.same g0.bq g1.bq hq.bq) hG ⟨g0.conv r0, g1.conv r1, hq.rel r2, trivial⟩
      · exact law_in (VecScales_unq h6 g0.same g1.same g0.bq g1.bq hu) hG ⟨g0.conv r0, g1.conv r1, r2, trivial⟩
    · exact law_in (VecScales_long (by omega) g0.most g0.same g1.same g0.bq g1.bq) hG ⟨g0.conv r0, g1.conv r1, r2, trivial⟩
  · exact law_in (VecScales_un hu) hG ⟨r0, r1, r2, trivial⟩
end Go.Proofs.YtejkcmklhmifaaaGreatDoor
