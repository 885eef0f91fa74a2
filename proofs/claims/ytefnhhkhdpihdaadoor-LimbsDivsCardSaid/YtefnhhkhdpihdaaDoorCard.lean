/- What a law's arguments read as, and what its answer is: for rows whose answer is true and whose arguments stay. -/
import Derived.Test.YtefnhhkhdpihdaaDoorCards
import Derived.Test.YtefnhhkhdpihdaaDoorTie
import Derived.WalkKit
import Derived.ProofKit
import Derived.OpenShut
import Derived.Deep.DeepHandedRow
import Derived.Lib.LaidTab
import Derived.Test.YtefnhhkhdpihdaaDoorMade
namespace Go.Proofs.YtefnhhkhdpihdaaDoor
open Go Go.RowKit Go.WideShapes Go.ChangeShapes Go.ChangeAt Go.Shelf

theorem under_nat : Tryd.prog.underlying 23 = some (.slice 35) := by kernel_rfl
theorem under_u32 : Tryd.prog.underlying 35 = some (.int .u32) := by kernel_rfl
theorem cells_u32 : Tryd.prog.cellsOf 35 = 1 := by kernel_rfl
theorem laidOut : laidOutB Tryd.prog = true := by kernel_rfl

set_option maxRecDepth 100000 in
/-- A number that comes in: its digits. -/
theorem read_nat {H : Type} {enc : TypeId × Value → H} {W : World} {r : Reach} {b0 : Nat} {v : Value} {d : DataW H} {ps : List MemPlace} (hval : Value.okWide Tryd.prog W r b0 23 v)
    (h : DataW.Trod enc Tryd.prog W 0 (fun _ => true) true 23 v d ps) : ∃ zs : List Nat, Arg W v zs ∧ ∀ x ∈ zs, x < 4294967296 := by
  obtain ⟨a, len, cap, rfl⟩ := okWide_slice under_nat hval
  obtain ⟨fuel, hf⟩ := h
  rw [show (Value.slice a len cap).cells = #[.slice a len cap] from rfl] at hf
  rcases open_ints under_nat under_u32 cells_u32 hf with ⟨h0, _⟩ | ⟨A, len', cap', zs, h0, _, hl, hm, hlen, _, hc, hw⟩
  · simp at h0
    obtain ⟨rfl, rfl, rfl⟩ := h0
    exact ⟨[], ⟨⟨_, _, rfl⟩, fun _ => Rd.nil _ _ _⟩, by simp⟩
  · simp at h0
    obtain ⟨rfl, rfl, rfl⟩ := h0
    simp at hlen
    have hwf : ∀ n ∈ zs, 0 ≤ n ∧ n < 4294967296 := fun n hn => by
      have := hw n hn
      simp [Lit.wf, IntKind.min, IntKind.max, IntKind.signed, IntKind.bits] at this
      omega
    have hll : ((zs.take len).map Int.toNat).length = len := by simp; omega
    refine ⟨(zs.take len).map Int.toNat, ⟨⟨some A, cap, by rw [hll]⟩, fun h40 => ⟨some A, cap, by rw [hll], by omega, by omega, fun h1 => ?_⟩⟩, ?_⟩
    · have h00 := hc 0 (by omega)
      have hs : A.spot = none := by
        rw [show A.add 0 = A from rfl] at h00
        unfold World.cell? at h00
        split at h00
        · split at h00
          · cases h00
          · rename_i h; cases e : A.spot with
            | none => rfl
            | some _ => rw [e] at h; simp at h
        · cases h00
      have hA : A = ⟨A.block, A.off, none⟩ := by cases A; simp at hs; simp [hs]
      refine ⟨A.block, A.off, by rw [← hA], World.block_lt_of_cell? W A (show W.cell? A = some _ from h00), fun j x hx => ?_⟩
      rw [List.getElem?_map] at hx
      rcases hz : (zs.take len)[j]? with _ | n
      · rw [hz] at hx; cases hx
      · rw [hz] at hx
        injection hx with hx
        have hj : j < len := by have := (List.getElem?_eq_some_iff.1 hz).1; simp at this; omega
        have hn : zs[j]? = some n := by rw [List.getElem?_take_of_lt hj] at hz; exact hz
        have := hc j (by omega)
        rw [List.getD_eq_getElem?_getD, hn] at this
        have hp := hwf n (List.mem_of_getElem? hn)
        have hadd : A.add j = ⟨A.block, A.off + j, none⟩ := by
          unfold Addr.add
          split
          · rename_i e; subst e; exact hA
          · rfl
        rw [hadd] at this
        rw [this, ← hx]
        simp; omega
    · intro x hx
      obtain ⟨n, hn, rfl⟩ := List.mem_map.1 hx
      have := hwf n (List.mem_of_mem_take hn)
      omega

/-- What the row's list gives. -/
theorem gTab : Tryd.prog.globalNamed "math/bits.deBruijn32tab" = some 0 := by kernel_rfl
end Go.Proofs.YtefnhhkhdpihdaaDoor
