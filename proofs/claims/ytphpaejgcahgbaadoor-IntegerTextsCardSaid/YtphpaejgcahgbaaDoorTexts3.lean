/- IntegerTexts: whatever comes in. -/
import Derived.Test.YtphpaejgcahgbaaDoorCardI
import Derived.Test.YtphpaejgcahgbaaDoorIntTexts
import Derived.Shelf.Vars
namespace Go.Proofs.YtphpaejgcahgbaaDoor
open Go Go.RowKit Go.Shelf AM
theorem law_inI {f : FuncId} {args : List Sv} {w : World} {vals : List Value} (h : FitsP f args [] (.one (boolS true))) (hG : Glob w) (hv : All2 (RelS (fun _ => none) w) vals args) : Calls Tryd.prog f vals.toArray w fun e w' => e = .returned (.bool true) ∧ Below w.heap.size w w' :=
  (h.2 (fun _ => none) w w vals rfl (Ext.refl _) (fun _ _ _ _ h => h) hG hv (fun _ h => by cases h)).mono fun e w' ⟨v, he, hr, hb⟩ => by
    have hr : v = .bool true := hr
    subst hr
    exact ⟨he, hb⟩
theorem maxL_in {w : World} (h : w.ShapedOpen Tryd.prog) : MaxL w :=
  Go.Proofs.cell_of_shapedOpen_int (zero := #[.int .i64 0]) (t := 3) h (of_decide_eq_true (by kernel_rfl)) (by kernel_rfl) rfl (by kernel_rfl) (by kernel_rfl) (by kernel_rfl)
theorem argI_ai {w : World} {v : Value} {m : Bool} {xs : List Nat} (h : ArgI w v m xs) : RelS (fun _ => none) w v (aiS m xs) := by
  obtain ⟨s, rfl, hs⟩ := h
  exact ⟨[.bool m, s], rfl, rfl, hs, trivial⟩
theorem texts3_law (w : World) (hT : Tab w) (hT10 : Tab10 w) (hsh : w.ShapedOpen Tryd.prog) (v : Value) (m : Bool) (xs : List Nat) (n : Int) (hn1 : -9223372036854775808 ≤ n) (hn2 : n ≤ 9223372036854775807) (hx : ArgI w v m xs) (hb : ∀ x ∈ xs, x < 4294967296) : Calls Tryd.prog 3 #[v, .int .i64 n] w fun e w' => e = .returned (.bool true) ∧ Below w.heap.size w w' := by
  have hG : Glob w := ⟨hT, hT10, maxL_in hsh⟩
  have hr := argI_ai hx
  rcases ai_cases (m := m) hb with ⟨z, hz, hk⟩ | hu
  · exact law_inI (IntegerTexts_any ⟨hn1, hn2⟩ hz) hG ⟨hk _ w v hr, rfl, trivial⟩
  · exact law_inI (IntegerTexts_un ⟨hn1, hn2⟩ hu) hG ⟨hr, rfl, trivial⟩
end Go.Proofs.YtphpaejgcahgbaaDoor
