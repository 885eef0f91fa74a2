/- A row of three numbers that comes in. -/
import Derived.Test.YtnnnmhjcnkipbaaGreatDoorCardS
namespace Go.Proofs.YtnnnmhjcnkipbaaGreatDoor
open Go Go.RowKit Go.WideShapes Go.ChangeShapes Go.ChangeAt Go.Shelf AM
theorem under_a3 : Tryz.prog.underlying 30 = some (.array 3 3) := by kernel_rfl
theorem cells_a3 : Tryz.prog.cellsOf 30 = 3 := by kernel_rfl
set_option maxRecDepth 100000 in
theorem read_a3 {H : Type} {enc : TypeId × Value → H} {W : World} {r : Reach} {b0 : Nat} {v : Value} {d : DataW H} {ps : List MemPlace} (hval : Value.okWide Tryz.prog W r b0 30 v) (h : DataW.Trod enc Tryz.prog W 0 (fun _ => true) true 30 v d ps) :
    ∃ p0 p1 w : Int, v = .agg #[.int .i64 p0, .int .i64 p1, .int .i64 w] := by
  simp only [Value.okWide, under_a3] at hval
  obtain ⟨cs, rfl, hsz, _⟩ := hval
  obtain ⟨c0, c1, c2, rfl⟩ := Go.Joins.array3 (hsz.trans cells_a3)
  obtain ⟨fuel, hf⟩ := h
  obtain ⟨xs, m, _, _, _, hl, he⟩ := DataW.trod_array under_a3 (show DataW.trod enc Tryz.prog W 0 (fun _ => true) true fuel 30 [c0, c1, c2] = _ from hf)
  have key : ∀ (i : Nat) (c : Value), i < 3 → ([c0, c1, c2].drop (i * 1)).take 1 = [c] → ∃ z, c = .int .i64 z := fun i c hi hc => by
    have := he i hi
    rw [cells_iR, hc] at this
    have hx : ∃ y, xs[i]? = some y := ⟨xs[i]'(by omega), List.getElem?_eq_getElem (by omega)⟩
    obtain ⟨y, hy⟩ := hx
    rw [hy] at this
    obtain ⟨z, hz, _⟩ := DataW.trod_int under_iR this
    exact ⟨z, by simpa using hz⟩
  obtain ⟨z0, rfl⟩ := key 0 c0 (by omega) rfl
  obtain ⟨z1, rfl⟩ := key 1 c1 (by omega) rfl
  obtain ⟨z2, rfl⟩ := key 2 c2 (by omega) rfl
  exact ⟨z0, z1, z2, rfl⟩
end Go.Proofs.YtnnnmhjcnkipbaaGreatDoor
