/- A ratio that comes in, however long. -/
import Derived.Test.YtnncfbmddpijcaaGreatDoorCardR
import Derived.Test.YtnncfbmddpijcaaGreatDoorRatLong
namespace Go.Proofs.YtnncfbmddpijcaaGreatDoor
open Go Go.RowKit Go.WideShapes Go.ChangeShapes Go.ChangeAt Go.Shelf AM

set_option maxRecDepth 100000 in
/-- A field that is a row of digits. -/
theorem read_natL {H : Type} {enc : TypeId × Value → H} {W : World} {v : Value} {fuel : Nat} {y : DataW H × List MemPlace}
    (hf : DataW.trod enc Tryz.prog W 0 (fun _ => true) true fuel 23 [v] = some y) : ∃ zs : List Nat, (argL zs).holds W v ∧ ∀ x ∈ zs, x < 4294967296 := by
  obtain ⟨a, len, cap, hs⟩ := Go.Joins.slice_form under_nat hf
  injection hs with hs
  subst hs
  rcases open_ints under_nat under_u32 cells_u32 hf with ⟨h0, _⟩ | ⟨A, len', cap', zs, h0, _, hl, hm, hlen, _, hc, hw⟩
  · simp at h0
    obtain ⟨rfl, rfl, rfl⟩ := h0
    exact ⟨[], ⟨⟨_, _, rfl⟩, fun _ => Rd.nil _ _ _⟩, by simp⟩
  · simp at h0
    obtain ⟨rfl, rfl, rfl⟩ := h0
    simp at hlen
    have hwf : ∀ n ∈ zs, 0 ≤ n ∧ n < 4294967296 := fun n hn => by
      have := hw n hn
      simp [Lit.wf, IntKind.min, IntKind.max, IntKind.signed, IntKind.bits] at this
      omega
    have hll : ((zs.take len).map Int.toNat).length = len := by simp; omega
    refine ⟨(zs.take len).map Int.toNat, ⟨⟨some A, cap, by rw [hll]⟩, fun h40 => ⟨some A, cap, by rw [hll], by omega, by omega, fun h1 => ?_⟩⟩, ?_⟩
    · have h00 := hc 0 (by omega)
      have hs : A.spot = none := by
        rw [show A.add 0 = A from rfl] at h00
        unfold World.cell? at h00
        split at h00
        · split at h00
          · cases h00
          · rename_i h; cases e : A.spot with
            | none => rfl
            | some _ => rw [e] at h; simp at h
        · cases h00
      have hA : A = ⟨A.block, A.off, none⟩ := by cases A; simp at hs; simp [hs]
      refine ⟨A.block, A.off, by rw [← hA], World.block_lt_of_cell? W A (show W.cell? A = some _ from h00), fun j x hx => ?_⟩
      rw [List.getElem?_map] at hx
      rcases hz : (zs.take len)[j]? with _ | n
      · rw [hz] at hx; cases hx
      · rw [hz] at hx
        injection hx with hx
        have hj : j < len := by have := (List.getElem?_eq_some_iff.1 hz).1; simp at this; omega
        have hn : zs[j]? = some n := by rw [List.getElem?_take_of_lt hj] at hz; exact hz
        have := hc j (by omega)
        rw [List.getD_eq_getElem?_getD, hn] at this
        have hp := hwf n (List.mem_of_getElem? hn)
        have hadd : A.add j = ⟨A.block, A.off + j, none⟩ := by
          unfold Addr.add
          split
          · rename_i e; subst e; exact hA
          · rfl
        rw [hadd] at this
        rw [this, ← hx]
        simp; omega
    · intro x hx
      obtain ⟨n, hn, rfl⟩ := List.mem_map.1 hx
      have := hwf n (List.mem_of_mem_take hn)
      omega


section
variable {H : Type} {enc : TypeId × Value → H} {W : World} {r : Reach} {b0 : Nat} {v : Value} {d : DataW H} {ps : List MemPlace}
set_option maxRecDepth 100000 in
theorem trod_intL {n : Nat} {c0 c1 : Value} {y : DataW H × List MemPlace} (h : DataW.trod enc Tryz.prog W 0 (fun _ => true) true n 25 [c0, c1] = some y) : ∃ (m : Bool) (xs : List Nat), In32 xs ∧ c0 = .bool m ∧ (argL xs).holds W c1 := by
  obtain ⟨y0, y1, k, _, _, h0, h1⟩ := trod_struct2 under_intR h
  rw [intR0_type, intR0_off, cells_boolR] at h0
  rw [intR1_type, intR1_off, cells_natR] at h1
  obtain ⟨m, hm, _⟩ := DataW.trod_bool under_boolR h0
  obtain ⟨xs, hx, hb⟩ := read_natL h1
  refine ⟨m, xs, hb, ?_, hx⟩
  simpa using hm
set_option maxRecDepth 100000 in
theorem read_ratL (hval : Value.okWide Tryz.prog W r b0 27 v) (h : DataW.Trod enc Tryz.prog W 0 (fun _ => true) true 27 v d ps) :
    ∃ (m : Bool) (xs ds : List Nat), In32 xs ∧ In32 ds ∧ ∀ β, RelS β W v (agL m xs ds) := by
  obtain ⟨cs, rfl, hsz⟩ := okWide_struct under_ratR hval
  obtain ⟨c0, c1, c2, rfl⟩ := Go.Joins.array3 (hsz.trans cells_ratR)
  obtain ⟨fuel, hf⟩ := h
  obtain ⟨y0, y1, n, _, _, h0, h1⟩ := trod_struct2 under_ratR (show DataW.trod enc Tryz.prog W 0 (fun _ => true) true fuel 27 [c0, c1, c2] = _ from hf)
  rw [ratR0_type, ratR0_off, cells_intR] at h0
  rw [ratR1_type, ratR1_off, cells_natR] at h1
  obtain ⟨m, xs, hb, rfl, hx⟩ := trod_intL (c0 := c0) (c1 := c1) h0
  obtain ⟨ds, hd, hb'⟩ := read_natL (v := c2) h1
  exact ⟨m, xs, ds, hb, hb', fun β => ⟨[.bool m, c1, c2], rfl, rfl, hx, hd, trivial⟩⟩
end
def RatInL (W : World) (v : Value) : Prop := ∃ (m : Bool) (xs ds : List Nat), RelS (fun _ => none) W v (agL m xs ds) ∧ ((∃ q : Rat, LQ q ∧ RelS (fun _ => none) W v (rq q)) ∨ UnfitL m xs ds)
theorem ratInL {W : World} {v : Value} {m : Bool} {xs ds : List Nat} (h1 : In32 xs) (h2 : In32 ds) (h : ∀ β, RelS β W v (agL m xs ds)) : RatInL W v := by
  refine ⟨m, xs, ds, h _, ?_⟩
  rcases agL_cases (m := m) h1 h2 with ⟨q, hq, hr⟩ | hu
  · exact .inl ⟨q, hq, hr _ W v (h _)⟩
  · exact .inr hu
end Go.Proofs.YtnncfbmddpijcaaGreatDoor
