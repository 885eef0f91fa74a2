/- A whole number that comes in. -/
import Derived.Test.YtphpaejgcahgbaaGreatDoorCard
import Derived.Test.YtphpaejgcahgbaaGreatDoorFit3
import Derived.Lib.SmallJoins
import Derived.ChangeArms
namespace Go.Proofs.YtphpaejgcahgbaaGreatDoor
open Go Go.RowKit Go.WideShapes Go.ChangeShapes Go.ChangeAt Go.Shelf

set_option maxRecDepth 100000 in
/-- A field that is a row of digits. -/
theorem read_natF {H : Type} {enc : TypeId × Value → H} {W : World} {v : Value} {fuel : Nat} {y : DataW H × List MemPlace}
    (hf : DataW.trod enc Tryz.prog W 0 (fun _ => true) true fuel 23 [v] = some y) : ∃ zs : List Nat, Arg W v zs ∧ ∀ x ∈ zs, x < 4294967296 := by
  obtain ⟨a, len, cap, hs⟩ := Go.Joins.slice_form under_nat hf
  injection hs with hs
  subst hs
  rcases open_ints under_nat under_u32 cells_u32 hf with ⟨h0, _⟩ | ⟨A, len', cap', zs, h0, _, hl, hm, hlen, _, hc, hw⟩
  · simp at h0
    obtain ⟨rfl, rfl, rfl⟩ := h0
    exact ⟨[], ⟨⟨_, _, rfl⟩, fun _ => Rd.nil _ _ _⟩, by simp⟩
  · simp at h0
    obtain ⟨rfl, rfl, rfl⟩ := h0
    simp at hlen
    have hwf : ∀ n ∈ zs, 0 ≤ n ∧ n < 4294967296 := fun n hn => by
      have := hw n hn
      simp [Lit.wf, IntKind.min, IntKind.max, IntKind.signed, IntKind.bits] at this
      omega
    have hll : ((zs.take len).map Int.toNat).length = len := by simp; omega
    refine ⟨(zs.take len).map Int.toNat, ⟨⟨some A, cap, by rw [hll]⟩, fun h40 => ⟨some A, cap, by rw [hll], by omega, by omega, fun h1 => ?_⟩⟩, ?_⟩
    · have h00 := hc 0 (by omega)
      have hs : A.spot = none := by
        rw [show A.add 0 = A from rfl] at h00
        unfold World.cell? at h00
        split at h00
        · split at h00
          · cases h00
          · rename_i h; cases e : A.spot with
            | none => rfl
            | some _ => rw [e] at h; simp at h
        · cases h00
      have hA : A = ⟨A.block, A.off, none⟩ := by cases A; simp at hs; simp [hs]
      refine ⟨A.block, A.off, by rw [← hA], World.block_lt_of_cell? W A (show W.cell? A = some _ from h00), fun j x hx => ?_⟩
      rw [List.getElem?_map] at hx
      rcases hz : (zs.take len)[j]? with _ | n
      · rw [hz] at hx; cases hx
      · rw [hz] at hx
        injection hx with hx
        have hj : j < len := by have := (List.getElem?_eq_some_iff.1 hz).1; simp at this; omega
        have hn : zs[j]? = some n := by rw [List.getElem?_take_of_lt hj] at hz; exact hz
        have := hc j (by omega)
        rw [List.getD_eq_getElem?_getD, hn] at this
        have hp := hwf n (List.mem_of_getElem? hn)
        have hadd : A.add j = ⟨A.block, A.off + j, none⟩ := by
          unfold Addr.add
          split
          · rename_i e; subst e; exact hA
          · rfl
        rw [hadd] at this
        rw [this, ← hx]
        simp; omega
    · intro x hx
      obtain ⟨n, hn, rfl⟩ := List.mem_map.1 hx
      have := hwf n (List.mem_of_mem_take hn)
      omega

def fieldsOf : Option TypeDesc → Array Field
  | some (.struct fs) => fs
  | _ => #[]
noncomputable def intF0 : Field := (fieldsOf (Tryz.prog.underlying 25)).getD 0 default
noncomputable def intF1 : Field := (fieldsOf (Tryz.prog.underlying 25)).getD 1 default
theorem under_int : Tryz.prog.underlying 25 = some (.struct #[intF0, intF1]) := by kernel_rfl
theorem intF0_type : intF0.type = 4 := by kernel_rfl
theorem intF1_type : intF1.type = 23 := by kernel_rfl
theorem under_bool : Tryz.prog.underlying 4 = some .bool := by kernel_rfl
set_option maxRecDepth 100000 in
theorem read_int {H : Type} {enc : TypeId × Value → H} {W : World} {r : Reach} {b0 : Nat} {v : Value} {d : DataW H} {ps : List MemPlace} (hval : Value.okWide Tryz.prog W r b0 25 v)
    (h : DataW.Trod enc Tryz.prog W 0 (fun _ => true) true 25 v d ps) : ∃ (m : Bool) (zs : List Nat), ArgI W v m zs ∧ ∀ x ∈ zs, x < 4294967296 := by
  obtain ⟨v0, v1, y0, y1, n, rfl, rfl, rfl, h0, h1⟩ := Go.Joins.open_agg2 under_int (by kernel_rfl) (by kernel_rfl) hval h
  rw [intF0_type] at h0
  rw [intF1_type] at h1
  obtain ⟨m, hm, _⟩ := DataW.trod_bool under_bool h0
  injection hm with hm
  subst hm
  obtain ⟨zs, hz, hb⟩ := read_natF h1
  exact ⟨m, zs, ⟨v1, rfl, hz⟩, hb⟩
end Go.Proofs.YtphpaejgcahgbaaGreatDoor
