/- A dyad that comes in. -/
import Derived.Test.YtnnnmhjcnkipbaaGreatDoorCardR
import Derived.Test.YtnnnmhjcnkipbaaGreatDoorDyFit
namespace Go.Proofs.YtnnnmhjcnkipbaaGreatDoor
open Go Go.RowKit Go.WideShapes Go.ChangeShapes Go.ChangeAt Go.Shelf AM

noncomputable def dyR0 : Field := (fieldsR (Tryz.prog.underlying 27)).getD 0 default
noncomputable def dyR1 : Field := (fieldsR (Tryz.prog.underlying 27)).getD 1 default
theorem under_dyR : Tryz.prog.underlying 27 = some (.struct #[dyR0, dyR1]) := by kernel_rfl
theorem dyR0_type : dyR0.type = 25 := by kernel_rfl
theorem dyR1_type : dyR1.type = 3 := by kernel_rfl
theorem dyR0_off : dyR0.offset = 0 := by kernel_rfl
theorem dyR1_off : dyR1.offset = 2 := by kernel_rfl
theorem under_iR : Tryz.prog.underlying 3 = some (.int .i64) := by kernel_rfl
theorem cells_iR : Tryz.prog.cellsOf 3 = 1 := by kernel_rfl
theorem cells_dyR : Tryz.prog.cellsOf 27 = 3 := by kernel_rfl
set_option maxRecDepth 100000 in
theorem read_dyad {H : Type} {enc : TypeId × Value → H} {W : World} {r : Reach} {b0 : Nat} {v : Value} {d : DataW H} {ps : List MemPlace} (hval : Value.okWide Tryz.prog W r b0 27 v) (h : DataW.Trod enc Tryz.prog W 0 (fun _ => true) true 27 v d ps) :
    ∃ (m : Bool) (xs : List Nat) (e : Int), In32 xs ∧ ∀ β, RelS β W v (adS m xs e) := by
  obtain ⟨cs, rfl, hsz⟩ := okWide_struct under_dyR hval
  obtain ⟨c0, c1, c2, rfl⟩ := Go.Joins.array3 (hsz.trans cells_dyR)
  obtain ⟨fuel, hf⟩ := h
  obtain ⟨y0, y1, n, _, _, h0, h1⟩ := trod_struct2 under_dyR (show DataW.trod enc Tryz.prog W 0 (fun _ => true) true fuel 27 [c0, c1, c2] = _ from hf)
  rw [dyR0_type, dyR0_off, cells_intR] at h0
  rw [dyR1_type, dyR1_off, cells_iR] at h1
  obtain ⟨m, xs, hb, rfl, hx⟩ := trod_intR (c0 := c0) (c1 := c1) h0
  obtain ⟨e, he, _, _⟩ := DataW.trod_int (cs := [c2]) under_iR h1
  obtain rfl : c2 = .int .i64 e := by simpa using he
  exact ⟨m, xs, e, hb, fun β => ⟨[.bool m, c1, .int .i64 e], rfl, rfl, hx, rfl, trivial⟩⟩
/-- A dyad in: fit, or not. -/
def DyIn (W : World) (v : Value) : Prop := ∃ (m : Bool) (xs : List Nat) (e : Int), RelS (fun _ => none) W v (adS m xs e) ∧ ((∃ d : Dy, FitD d ∧ RelS (fun _ => none) W v (dS d)) ∨ UnfitD m xs e)
theorem dyIn {W : World} {v : Value} {m : Bool} {xs : List Nat} {e : Int} (h1 : In32 xs) (h : ∀ β, RelS β W v (adS m xs e)) : DyIn W v := by
  refine ⟨m, xs, e, h _, ?_⟩
  rcases ad_cases (m := m) (e := e) h1 with ⟨d, hd, hr⟩ | hu
  · exact .inl ⟨d, hd, hr _ W v (h _)⟩
  · exact .inr hu
end Go.Proofs.YtnnnmhjcnkipbaaGreatDoor
