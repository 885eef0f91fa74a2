/- IntegerMuls: whatever comes in. -/
import Derived.Test.YtphpaejgcahgbaaGreatDoorCardI
import Derived.Test.YtphpaejgcahgbaaGreatDoorIntMuls
import Derived.Shelf.Vars
namespace Go.Proofs.YtphpaejgcahgbaaGreatDoor
open Go Go.RowKit Go.Shelf AM
theorem law_inI {f : FuncId} {args : List Sv} {w : World} {vals : List Value} (h : FitsP f args [] (.one (boolS true))) (hG : Glob w) (hv : All2 (RelS (fun _ => none) w) vals args) : Calls Tryz.prog f vals.toArray w fun e w' => e = .returned (.bool true) ∧ Below w.heap.size w w' :=
  (h.2 (fun _ => none) w w vals rfl (Ext.refl _) (fun _ _ _ _ h => h) hG hv (fun _ h => by cases h)).mono fun e w' ⟨v, he, hr, hb⟩ => by
    have hr : v = .bool true := hr
    subst hr
    exact ⟨he, hb⟩
theorem maxL_in {w : World} (h : w.ShapedOpen Tryz.prog) : MaxL w :=
  Go.Proofs.cell_of_shapedOpen_int (zero := #[.int .i64 0]) (t := 3) h (of_decide_eq_true (by kernel_rfl)) (by kernel_rfl) rfl (by kernel_rfl) (by kernel_rfl) (by kernel_rfl)
theorem argI_ai {w : World} {v : Value} {m : Bool} {xs : List Nat} (h : ArgI w v m xs) : RelS (fun _ => none) w v (aiS m xs) := by
  obtain ⟨s, rfl, hs⟩ := h
  exact ⟨[.bool m, s], rfl, rfl, hs, trivial⟩
theorem muls3_law (w : World) (hT : Tab w) (hT10 : Tab10 w) (hsh : w.ShapedOpen Tryz.prog) (v0 v1 v2 : Value) (m0 : Bool) (xs0 : List Nat) (m1 : Bool) (xs1 : List Nat) (m2 : Bool) (xs2 : List Nat) (hx0 : ArgI w v0 m0 xs0) (hb0 : ∀ x ∈ xs0, x < 4294967296) (hx1 : ArgI w v1 m1 xs1) (hb1 : ∀ x ∈ xs1, x < 4294967296) (hx2 : ArgI w v2 m2 xs2) (hb2 : ∀ x ∈ xs2, x < 4294967296) : Calls Tryz.prog 4 #[v0, v1, v2] w fun e w' => e = .returned (.bool true) ∧ Below w.heap.size w w' := by
  have hG : Glob w := ⟨hT, hT10, maxL_in hsh⟩
  have r0 := argI_ai hx0
  have r1 := argI_ai hx1
  have r2 := argI_ai hx2
  rcases ai_cases (m := m0) hb0 with ⟨z0, hz0, k0⟩ | hu
  · rcases ai_cases (m := m1) hb1 with ⟨z1, hz1, k1⟩ | hu
    · rcases ai_cases (m := m2) hb2 with ⟨z2, hz2, k2⟩ | hu
      · exact law_inI (IntegerMuls_fit hz0 hz1 hz2) hG ⟨k0 _ w v0 r0, k1 _ w v1 r1, k2 _ w v2 r2, trivial⟩
      · exact law_inI (IntegerMuls_un2 hz0 hz1 hu) hG ⟨k0 _ w v0 r0, k1 _ w v1 r1, r2, trivial⟩
    · exact law_inI (IntegerMuls_un1 hz0 hu m2 xs2) hG ⟨k0 _ w v0 r0, r1, r2, trivial⟩
  · exact law_inI (IntegerMuls_un0 hu m1 xs1 m2 xs2) hG ⟨r0, r1, r2, trivial⟩
end Go.Proofs.YtphpaejgcahgbaaGreatDoor
