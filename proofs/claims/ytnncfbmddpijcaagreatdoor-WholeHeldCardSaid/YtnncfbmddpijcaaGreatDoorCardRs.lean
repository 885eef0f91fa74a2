
/- Rows of ratios that come in. -/
import Derived.Test.YtnncfbmddpijcaaGreatDoorCardR
import Derived.Test.YtnncfbmddpijcaaGreatDoorRowIn
namespace Go.Proofs.YtnncfbmddpijcaaGreatDoor
open Go Go.RowKit Go.WideShapes Go.ChangeShapes Go.ChangeAt Go.Shelf AM

section
variable {H : Type} {enc : TypeId × Value → H} {W : World} {r : Reach} {b0 : Nat} {v : Value} {d : DataW H} {ps : List MemPlace}
set_option maxRecDepth 100000 in
theorem trod_ag {n : Nat} {cs : List Value} {y : DataW H × List MemPlace} (hl : cs.length = 3) (hf : DataW.trod enc Tryz.prog W 0 (fun _ => true) true n 27 cs = some y) : ∃ a : Ag, a.In ∧ All2 (HoldsC W) cs (agC a) := by
  match cs, hl with
  | [c0, c1, c2], _ =>
    obtain ⟨y0, y1, n, _, _, h0, h1⟩ := trod_struct2 under_ratR hf
    rw [ratR0_type, ratR0_off, cells_intR] at h0
    rw [ratR1_type, ratR1_off, cells_natR] at h1
    obtain ⟨m, xs, hb, rfl, hx⟩ := trod_intR (c0 := c0) (c1 := c1) h0
    obtain ⟨ds, hd, hb'⟩ := read_natR (v := c2) h1
    exact ⟨⟨m, xs, ds⟩, ⟨hb, hb'⟩, rfl, hx, hd, trivial⟩
theorem under_rats : Tryz.prog.underlying 28 = some (.slice 27) := by kernel_rfl
/-- A row of ratios, as it comes. -/
def RatsIn (W : World) (v : Value) : Prop := ∃ l : List Ag, (∀ x ∈ l, x.In) ∧ (rowOf l.length (l.flatMap agC)).holds W v
set_option maxRecDepth 100000 in
theorem trod_rats {n : Nat} {y : DataW H × List MemPlace} (hf : DataW.trod enc Tryz.prog W 0 (fun _ => true) true n 28 [v] = some y) : RatsIn W v := by
  obtain ⟨xs, h1, _, h2⟩ := read_row agC Ag.In under_rats cells_ratR (by omega) agC_len (fun _ _ _ hl h => trod_ag hl h) hf
  exact ⟨xs, h1, h2⟩
set_option maxRecDepth 100000 in
theorem read_rats (hval : Value.okWide Tryz.prog W r b0 28 v) (h : DataW.Trod enc Tryz.prog W 0 (fun _ => true) true 28 v d ps) : RatsIn W v := by
  obtain ⟨a, len, cap, rfl⟩ := okWide_slice under_rats hval
  obtain ⟨fuel, hf⟩ := h
  exact trod_rats hf
end
end Go.Proofs.YtnncfbmddpijcaaGreatDoor
