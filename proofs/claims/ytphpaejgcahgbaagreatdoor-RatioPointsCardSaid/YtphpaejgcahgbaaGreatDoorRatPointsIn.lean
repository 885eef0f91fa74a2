/- RatioPoints: whatever comes in. -/
import Derived.Test.YtphpaejgcahgbaaGreatDoorCardR
import Derived.Test.YtphpaejgcahgbaaGreatDoorRatPoints
namespace Go.Proofs.YtphpaejgcahgbaaGreatDoor
open Go Go.RowKit Go.Shelf AM
/-- A whole number in: fit, or not. -/
def IntIn (W : World) (v : Value) : Prop := ∃ (m : Bool) (xs : List Nat), RelS (fun _ => none) W v (aiS m xs) ∧ ((∃ z : Int, z.natAbs < 4294967296 ^ 20 ∧ RelS (fun _ => none) W v (im z)) ∨ 20 < xs.length ∨ (xs.length ≤ 20 ∧ checkI m xs ≠ 0))
theorem intIn {W : World} {v : Value} {m : Bool} {xs : List Nat} (hb : In32 xs) (h : ∀ β, RelS β W v (aiS m xs)) : IntIn W v := by
  refine ⟨m, xs, h _, ?_⟩
  by_cases hx : 20 < xs.length
  · exact .inr (.inl hx)
  have hx : xs.length ≤ 20 := by omega
  by_cases h1 : checkI m xs = 0
  · refine .inl ⟨sg m (val 4294967296 xs), by rw [sg_natAbs]; exact Nat.lt_of_lt_of_le (val_lt hb) (Nat.pow_le_pow_right (by omega) hx), ?_⟩
    obtain ⟨vs, rfl, hh⟩ := h (fun _ => none)
    match vs, hh with
    | [a, b], ⟨k1, k2, _⟩ =>
      obtain rfl : a = .bool m := k1
      have k2 : Arg W b xs := k2
      obtain ⟨⟨A, cap, rfl⟩, _⟩ := id k2
      obtain ⟨e1, hn⟩ := ai_im k2 hb (by omega) h1
      refine ⟨[_, _], rfl, ?_, hn, trivial⟩
      show Value.bool m = Value.bool _
      rw [e1]
  · exact .inr (.inr ⟨hx, h1⟩)
theorem ratioPoints_law (w : World) (hG : Glob w) (v0 : Value) (n : Int) (_ : -9223372036854775808 ≤ n) (_ : n ≤ 9223372036854775807) (h0 : IntIn w v0) : Calls Tryz.prog 5 #[v0, .int .i64 n] w fun e w' => e = .returned (.bool true) ∧ Below w.heap.size w w' := by
  obtain ⟨m0, a0, r0, c0⟩ := h0
  rcases c0 with ⟨z, g0, s0⟩ | u | ⟨hx, u⟩
  · exact law_in (RatioPoints_fit g0) hG ⟨s0, rfl, trivial⟩
  · exact law_in (RatioPoints_un1 u) hG ⟨r0, rfl, trivial⟩
  · exact law_in (RatioPoints_un2 hx rfl u) hG ⟨r0, rfl, trivial⟩
end Go.Proofs.YtphpaejgcahgbaaGreatDoor
