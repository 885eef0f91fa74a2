/- A dyad that comes in, however long: for a law that copies it. -/
import Derived.Test.YtnnnmhjcnkipbaaGreatDoorCardD
import Derived.Test.YtnnnmhjcnkipbaaGreatDoorSpRow
namespace Go.Proofs.YtnnnmhjcnkipbaaGreatDoor
open Go Go.RowKit Go.WideShapes Go.ChangeShapes Go.ChangeAt Go.Shelf AM

theorem bytes_u32 : Tryz.prog.bytesOf 126 = 4 := by kernel_rfl
theorem lits_len {H : Type} {k : IntKind} {zs : List Int} : (lits k zs : List (DataW H)).length = zs.length := by simp [lits]
section
variable {H : Type} {enc : TypeId × Value → H} {W : World} {r : Reach} {b0 : Nat} {v : Value} {d : DataW H} {ps : List MemPlace}
set_option maxRecDepth 100000 in
theorem read_natW {H : Type} {enc : TypeId × Value → H} {W : World} {v : Value} {fuel : Nat} {y : DataW H × List MemPlace}
    (hf : DataW.trod enc Tryz.prog W 0 (fun _ => true) true fuel 23 [v] = some y) (hwt : ∀ k ∈ y.1.weights Tryz.prog 23, k ≤ reachBytes) : ∃ zs : List Nat, Rd .u32 W v zs ∧ zs.length ≤ 35184372088832 ∧ In32 zs := by
  obtain ⟨a, len, cap, hs⟩ := Go.Joins.slice_form under_nat hf
  injection hs with hs
  subst hs
  rcases open_ints under_nat under_u32 cells_u32 hf with ⟨h0, _⟩ | ⟨A, len', cap', zs, h0, _, hl, hm, hlen, hy, hc, hw⟩
  · simp at h0
    obtain ⟨rfl, rfl, rfl⟩ := h0
    exact ⟨[], Rd.nil _ _ _, by simp, by simp [In32]⟩
  · simp at h0
    obtain ⟨rfl, rfl, rfl⟩ := h0
    simp at hlen
    have hwf : ∀ n ∈ zs, 0 ≤ n ∧ n < 4294967296 := fun n hn => by
      have := hw n hn
      simp [Lit.wf, IntKind.min, IntKind.max, IntKind.signed, IntKind.bits] at this
      omega
    have hll : ((zs.take len).map Int.toNat).length = len := by simp; omega
    have hbd : zs.length * 4 ≤ 140737488351232 := by
      rw [hy] at hwt
      have := hwt (zs.length * 4) (by
        unfold DataW.weights
        rw [under_nat]
        refine List.mem_cons.2 (.inl ?_)
        rw [bytes_u32, lits_len, lits_len, List.length_take, List.length_drop]
        omega)
      exact Nat.le_trans this (of_decide_eq_true (by kernel_rfl))
    refine ⟨(zs.take len).map Int.toNat, ⟨some A, cap, by rw [hll], by omega, by omega, fun h1 => ?_⟩, by omega, ?_⟩
    · have h00 := hc 0 (by omega)
      have hs : A.spot = none := by
        rw [show A.add 0 = A from rfl] at h00
        unfold World.cell? at h00
        split at h00
        · split at h00
          · cases h00
          · rename_i h; cases e : A.spot with
            | none => rfl
            | some _ => rw [e] at h; simp at h
        · cases h00
      have hA : A = ⟨A.block, A.off, none⟩ := by cases A; simp at hs; simp [hs]
      refine ⟨A.block, A.off, by rw [← hA], World.block_lt_of_cell? W A (show W.cell? A = some _ from h00), fun j x hx => ?_⟩
      rw [List.getElem?_map] at hx
      rcases hz : (zs.take len)[j]? with _ | n
      · rw [hz] at hx; cases hx
      · rw [hz] at hx
        injection hx with hx
        have hj : j < len := by have := (List.getElem?_eq_some_iff.1 hz).1; simp at this; omega
        have hn : zs[j]? = some n := by rw [List.getElem?_take_of_lt hj] at hz; exact hz
        have := hc j (by omega)
        rw [List.getD_eq_getElem?_getD, hn] at this
        have hp := hwf n (List.mem_of_getElem? hn)
        have hadd : A.add j = ⟨A.block, A.off + j, none⟩ := by
          unfold Addr.add
          split
          · rename_i e; subst e; exact hA
          · rfl
        rw [hadd] at this
        rw [this, ← hx]
        simp; omega
    · intro x hx
      obtain ⟨n, hn, rfl⟩ := List.mem_map.1 hx
      have := hwf n (List.mem_of_mem_take hn)
      omega
set_option maxRecDepth 100000 in
theorem read_dyadL (hval : Value.okWide Tryz.prog W r b0 27 v) (h : DataW.Trod enc Tryz.prog W 0 (fun _ => true) true 27 v d ps) (hwt : ∀ k ∈ d.weights Tryz.prog 27, k ≤ reachBytes) :
    ∃ (m : Bool) (xs : List Nat) (e : Int), In32 xs ∧ xs.length ≤ 35184372088832 ∧ ∀ β, RelS β W v (adR m xs e) := by
  obtain ⟨cs, rfl, hsz⟩ := okWide_struct under_dyR hval
  obtain ⟨c0, c1, c2, rfl⟩ := Go.Joins.array3 (hsz.trans cells_dyR)
  obtain ⟨fuel, hf⟩ := h
  obtain ⟨y0, y1, n, hy, _, h0, h1⟩ := trod_struct2 under_dyR (show DataW.trod enc Tryz.prog W 0 (fun _ => true) true fuel 27 [c0, c1, c2] = _ from hf)
  rw [dyR0_type, dyR0_off, cells_intR] at h0
  rw [dyR1_type, dyR1_off, cells_iR] at h1
  obtain ⟨z0, z1, n', hz, _, g0, g1⟩ := trod_struct2 under_intR (show DataW.trod enc Tryz.prog W 0 (fun _ => true) true n 25 [c0, c1] = _ from h0)
  rw [intR0_type, intR0_off, cells_boolR] at g0
  rw [intR1_type, intR1_off, cells_natR] at g1
  obtain ⟨m, hm, _⟩ := DataW.trod_bool under_boolR g0
  obtain rfl : c0 = .bool m := by simpa using hm
  have hd : d = .agg [.agg [z0.1, z1.1], y1.1] := by
    have := (Prod.mk.inj hy).1
    rw [hz] at this
    exact this
  have hwt' : ∀ k ∈ z1.1.weights Tryz.prog 23, k ≤ reachBytes := fun k hk => hwt k (by
    rw [hd]
    unfold DataW.weights
    rw [under_dyR]
    show k ∈ DataW.weightsEach Tryz.prog [dyR0.type, dyR1.type] [.agg [z0.1, z1.1], y1.1]
    unfold DataW.weightsEach
    refine List.mem_append.2 (.inl ?_)
    rw [dyR0_type]
    unfold DataW.weights
    rw [under_intR]
    show k ∈ DataW.weightsEach Tryz.prog [intR0.type, intR1.type] [z0.1, z1.1]
    unfold DataW.weightsEach
    refine List.mem_append.2 (.inr ?_)
    unfold DataW.weightsEach
    refine List.mem_append.2 (.inl ?_)
    rw [intR1_type]
    exact hk)
  obtain ⟨xs, hx, hl, hb⟩ := read_natW g1 hwt'
  obtain ⟨e, he, _, _⟩ := DataW.trod_int (cs := [c2]) under_iR h1
  obtain rfl : c2 = .int .i64 e := by simpa using he
  exact ⟨m, xs, e, hb, hl, fun β => ⟨[.bool m, c1, .int .i64 e], rfl, rfl, hx, rfl, trivial⟩⟩
end
/-- A dyad in, however long: an end, or not. -/
def DyInL (W : World) (v : Value) : Prop := ∃ (m : Bool) (xs : List Nat) (e : Int), xs.length ≤ 35184372088832 ∧ RelS (fun _ => none) W v (adR m xs e) ∧ ((∃ d : Dy, FitE d ∧ RelS (fun _ => none) W v (dS d)) ∨ UnfitS m xs e m xs e)
theorem adR_adS {β : Nat → Option Nat} {W : World} {v : Value} {m : Bool} {xs : List Nat} {e : Int} (h : RelS β W v (adR m xs e)) : RelS β W v (adS m xs e) := by
  obtain ⟨vs, rfl, hh⟩ := h
  match vs, hh with
  | [a, b, c], ⟨k1, k2, k3, _⟩ =>
    have k2 : Rd .u32 W b xs := k2
    obtain ⟨A, cap, e', _⟩ := k2.form
    exact ⟨_, rfl, k1, ⟨⟨A, cap, e'⟩, fun _ => k2⟩, k3, trivial⟩
theorem dyInL {W : World} {v : Value} {m : Bool} {xs : List Nat} {e : Int} (h1 : In32 xs) (hl : xs.length ≤ 35184372088832) (h : ∀ β, RelS β W v (adR m xs e)) : DyInL W v := by
  refine ⟨m, xs, e, hl, h _, ?_⟩
  by_cases h2 : 10 < xs.length
  · exact .inr (.inl h2)
  by_cases h3 : 200 < e
  · exact .inr (.inr (.inl ⟨by omega, h3⟩))
  by_cases h4 : e < -200
  · exact .inr (.inr (.inr (.inl ⟨by omega, h4⟩)))
  rcases ad_end (m := m) (e := e) h1 (by omega) (by omega) (by omega) with ⟨d, hd, hr⟩ | ⟨c, hc, hu⟩
  · exact .inl ⟨d, hd, hr _ W v (adR_adS (h _))⟩
  · exact .inr (.inr (.inr (.inr ⟨⟨by omega, by omega, by omega⟩, .inr (.inr (.inr ⟨⟨by omega, by omega, by omega⟩, c, hc, checkSA1_f hu hc⟩))⟩)))
end Go.Proofs.YtnnnmhjcnkipbaaGreatDoor
