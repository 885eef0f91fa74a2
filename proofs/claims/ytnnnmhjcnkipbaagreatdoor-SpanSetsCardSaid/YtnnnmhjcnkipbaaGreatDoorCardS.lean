/- A span that comes in. -/
import Derived.Test.YtnnnmhjcnkipbaaGreatDoorCardD
import Derived.Test.YtnnnmhjcnkipbaaGreatDoorSpFit
import Derived.OpenShut
namespace Go.Proofs.YtnnnmhjcnkipbaaGreatDoor
open Go Go.RowKit Go.WideShapes Go.ChangeShapes Go.ChangeAt Go.Shelf AM

noncomputable def spR0 : Field := (fieldsR (Tryz.prog.underlying 29)).getD 0 default
noncomputable def spR1 : Field := (fieldsR (Tryz.prog.underlying 29)).getD 1 default
theorem under_spR : Tryz.prog.underlying 29 = some (.struct #[spR0, spR1]) := by kernel_rfl
theorem spR0_type : spR0.type = 27 := by kernel_rfl
theorem spR1_type : spR1.type = 27 := by kernel_rfl
theorem spR0_off : spR0.offset = 0 := by kernel_rfl
theorem spR1_off : spR1.offset = 3 := by kernel_rfl
theorem cells_spR : Tryz.prog.cellsOf 29 = 6 := by kernel_rfl
theorem array6 {cs : Array Value} (h : cs.size = 6) : ∃ a b c d e f, cs = #[a, b, c, d, e, f] := by
  obtain ⟨l⟩ := cs
  match l, h with
  | [a, b, c, d, e, f], _ => exact ⟨a, b, c, d, e, f, rfl⟩
section
variable {H : Type} {enc : TypeId × Value → H} {W : World} {r : Reach} {b0 : Nat} {v : Value} {d : DataW H} {ps : List MemPlace}
set_option maxRecDepth 100000 in
theorem trod_dyR {n : Nat} {c0 c1 c2 : Value} {y : DataW H × List MemPlace} (h : DataW.trod enc Tryz.prog W 0 (fun _ => true) true n 27 [c0, c1, c2] = some y) : ∃ (m : Bool) (xs : List Nat) (e : Int), In32 xs ∧ c0 = .bool m ∧ Arg W c1 xs ∧ c2 = .int .i64 e := by
  obtain ⟨y0, y1, k, _, _, h0, h1⟩ := trod_struct2 under_dyR h
  rw [dyR0_type, dyR0_off, cells_intR] at h0
  rw [dyR1_type, dyR1_off, cells_iR] at h1
  obtain ⟨m, xs, hb, rfl, hx⟩ := trod_intR (c0 := c0) (c1 := c1) h0
  obtain ⟨e, he, _, _⟩ := DataW.trod_int (cs := [c2]) under_iR h1
  obtain rfl : c2 = .int .i64 e := by simpa using he
  exact ⟨m, xs, e, hb, rfl, hx, rfl⟩
set_option maxRecDepth 100000 in
theorem read_span (hval : Value.okWide Tryz.prog W r b0 29 v) (h : DataW.Trod enc Tryz.prog W 0 (fun _ => true) true 29 v d ps) :
    ∃ (m : Bool) (xs : List Nat) (e : Int) (m' : Bool) (ys : List Nat) (e' : Int), In32 xs ∧ In32 ys ∧ ∀ β, RelS β W v (spA m xs e m' ys e') := by
  obtain ⟨cs, rfl, hsz⟩ := okWide_struct under_spR hval
  obtain ⟨c0, c1, c2, c3, c4, c5, rfl⟩ := array6 (hsz.trans cells_spR)
  obtain ⟨fuel, hf⟩ := h
  obtain ⟨y0, y1, n, _, _, h0, h1⟩ := trod_struct2 under_spR (show DataW.trod enc Tryz.prog W 0 (fun _ => true) true fuel 29 [c0, c1, c2, c3, c4, c5] = _ from hf)
  rw [spR0_type, spR0_off, cells_dyR] at h0
  rw [spR1_type, spR1_off, cells_dyR] at h1
  obtain ⟨m, xs, e, hb, rfl, hx, rfl⟩ := trod_dyR (c0 := c0) (c1 := c1) (c2 := c2) h0
  obtain ⟨m', ys, e', hb', rfl, hx', rfl⟩ := trod_dyR (c0 := c3) (c1 := c4) (c2 := c5) h1
  exact ⟨m, xs, e, m', ys, e', hb, hb', fun β => ⟨[.bool m, c1, .int .i64 e, .bool m', c4, .int .i64 e'], rfl, rfl, hx, rfl, rfl, hx', rfl, trivial⟩⟩
end
/-- A span in: fit, or not. -/
def SpIn (W : World) (v : Value) : Prop := ∃ (m : Bool) (xs : List Nat) (e : Int) (m' : Bool) (ys : List Nat) (e' : Int), RelS (fun _ => none) W v (spA m xs e m' ys e') ∧ ((∃ x y : Dy, FitS x y ∧ RelS (fun _ => none) W v (spS x y)) ∨ UnfitS m xs e m' ys e')
theorem spIn {W : World} {v : Value} {m : Bool} {xs : List Nat} {e : Int} {m' : Bool} {ys : List Nat} {e' : Int} (h1 : In32 xs) (h2 : In32 ys) (h : ∀ β, RelS β W v (spA m xs e m' ys e')) : SpIn W v := by
  refine ⟨m, xs, e, m', ys, e', h _, ?_⟩
  rcases sa_cases (m := m) (e := e) (m' := m') (e' := e') h1 h2 with ⟨x, y, hd, hr⟩ | hu
  · exact .inl ⟨x, y, hd, hr _ W v (h _)⟩
  · exact .inr hu
end Go.Proofs.YtnnnmhjcnkipbaaGreatDoor
