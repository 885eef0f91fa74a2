/- VecShapes: whatever comes in. -/
import Derived.Test.YtejkcmklhmifaaaGreatDoorVecFitIn
import Derived.Test.YtejkcmklhmifaaaGreatDoorVecShap
namespace Go.Proofs.YtejkcmklhmifaaaGreatDoor
open Go Go.RowKit Go.Shelf AM
theorem unitD_bd {n : Nat} {z : Int} : ∀ x ∈ unitD n z, BD 4 4 x.1 ∧ BD 4 4 x.2 := fun x hx => by
  unfold unitD at hx
  obtain ⟨j, _, rfl⟩ := List.mem_map.1 hx
  split
  · exact ⟨by decide +kernel, by decide +kernel⟩
  · exact ⟨by decide +kernel, by decide +kernel⟩
theorem vecShapes_law (w : World) (hG : Glob w) (v2 : Value) (n z : Int) (h0 : RatsIn w v2) : Calls Tryz.prog 7 #[.int .i64 n, .int .i64 z, v2] w fun e w' => e = .returned (.bool true) ∧ Below w.heap.size w w' := by
  obtain ⟨A, hA, r0⟩ := h0
  rcases fit7_1 hA with ⟨a, g0⟩ | hu
  · by_cases h1 : n < 0
    · exact law_in (VecShapes_lo g0.most g0.same g0.bq h1) hG ⟨rfl, rfl, g0.conv r0, trivial⟩
    · by_cases h2 : n > 16
      · exact law_in (VecShapes_hi g0.most g0.same g0.bq h1 h2) hG ⟨rfl, rfl, g0.conv r0, trivial⟩
      · obtain ⟨m, rfl⟩ : ∃ m : Nat, n = m := ⟨n.toNat, by omega⟩
        have r := g0.conv r0
        have hs := g0.same
        have hm := g0.most
        generalize A.length = p at r hs hm
        by_cases h3 : m = p
        · subst h3
          obtain ⟨b, hb⟩ := holds_any (n := m) (m := 5) hm (unitD_len m z) hs unitD_bd g0.bq (by omega)
          exact law_in (VecShapes_eq hm hs g0.bq hb) hG ⟨rfl, rfl, r, trivial⟩
        · exact law_in (VecShapes_ne (by omega) hm hs g0.bq h3) hG ⟨rfl, rfl, r, trivial⟩
  · exact law_in (VecShapes_un hu) hG ⟨rfl, rfl, r0, trivial⟩
end Go.Proofs.YtejkcmklhmifaaaGreatDoor
