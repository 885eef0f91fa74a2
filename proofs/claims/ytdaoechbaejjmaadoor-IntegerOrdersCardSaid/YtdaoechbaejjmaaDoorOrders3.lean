/- IntegerOrders: the walk. Written by gen03c.py. -/
import Derived.Test.YtdaoechbaejjmaaDoorDivs3
namespace Go.Proofs.YtdaoechbaejjmaaDoor
open Go Go.RowKit Go.Shelf
attribute [local go_sem ↓] Go.wp_at_zero Go.wp_at_succ

theorem sign3_sub (x y : Int) : sign3 (x - y) = ordI x y := by
  unfold sign3 ordI
  split <;> split <;> (try split) <;> omega
theorem ordI_flip (x y : Int) : IntKind.i64.wrap (-(ordI y x)) = ordI x y := by
  rw [wrap_i64]; unfold ordI
  split <;> split <;> (try split) <;> omega
theorem ordI_turn (x y : Int) : ordI (-y) (-x) = ordI x y := by
  unfold ordI
  split <;> split <;> (try split) <;> omega
theorem sign3_abs (x : Int) : decide (sign3 (x.natAbs : Int) ≥ 0) = true := by
  rw [decide_eq_true_iff]; unfold sign3; split <;> (try split) <;> omega
theorem ordI_same (x y : Int) : decide (x = y) = (ordI x y == 0) := (ordI_zero x y).symm

set_option maxRecDepth 100000 in
set_option maxHeartbeats 16000000 in
theorem orders3_law (w : World) (hT : Tab w) (hT10 : Tab10 w) (v0 v1 : Value) (m0 : Bool) (xs : List Nat) (m1 : Bool) (ys : List Nat) (h0 : ArgI w v0 m0 xs) (b0 : ∀ x ∈ xs, x < 4294967296) (h1 : ArgI w v1 m1 ys) (b1 : ∀ x ∈ ys, x < 4294967296) :
    Calls Tryd.prog 12 #[v0, v1] w fun e w' => e = .returned (.bool true) ∧ Below w.heap.size w w' := by
  obtain ⟨s0, rfl, hA0⟩ := h0
  obtain ⟨s1, rfl, hA1⟩ := h1
  obtain ⟨⟨A0, c0, rfl⟩, _⟩ := id hA0
  obtain ⟨⟨A1, c1, rfl⟩, _⟩ := id hA1
  obtain ⟨n0, e0⟩ : ∃ n, xs.length = n := ⟨_, rfl⟩
  obtain ⟨n1, e1⟩ : ∃ n, ys.length = n := ⟨_, rfl⟩
  rw [e0] at hA0 ⊢
  rw [e1] at hA1 ⊢
  have HT := Lib.hid (And.intro hT hT10)
  have HX := Lib.hid (And.intro (And.intro e0 (And.intro hA0 b0)) (And.intro e1 (And.intro hA1 b1)))
  have HB := Lib.hid (Two.new w (.bool m0) (.slice A0 n0 c0) (.bool m1) (.slice A1 n1 c1))
  clear hT hT10 e0 e1 hA0 hA1 b0 b1
  go_enter Tryd.func12, Tryd.ntmps12
  go_wp2_with fail
  refine (counts3_c _ (HT.out.1.below HB.out.2.2) (HT.out.2.below HB.out.2.2)).mono ?_
  rintro e w1 ⟨rfl, hb⟩
  have H1 := Lib.hid (HB.out.below hb)
  clear hb
  have HA := Lib.hid (And.intro (HX.out.1.2.1.below H1.out.2.2 (Nat.le_refl _)) (HX.out.2.2.1.below H1.out.2.2 (Nat.le_refl _)))
  have HR := Lib.hid (RowA.new2 (m1 := m0) (m2 := m1) rfl HX.out.1.1 HX.out.2.1 HA.out.1 HA.out.2)
  obtain ⟨a0, a1, _, _⟩ := H1.out.1.cells
  obtain ⟨b0, b1, _, _⟩ := H1.out.2.1.cells
  go_wp2_with fail
  refine (fit3_c _ _ 2 [(m0, xs), (m1, ys)] HR.out.1 (by simp)).mono ?_
  rintro e w2 ⟨rfl, hb⟩
  have H2 := Lib.hid ((H1.out.below HR.out.2).below hb)
  clear hb a0 a1 b0 b1
  by_cases hf : FitI m0 xs ∧ FitI m1 ys
  case neg =>
    rw [two_unfit hf]
    clear hf
    go_wp2_with fail
    go_ret
    exact ⟨rfl, H2.out.2.2⟩
  rw [two_fit hf]
  have i0 := im_arg HX.out.1.2.1 HX.out.1.1 HX.out.1.2.2 hf.1
  have i1 := im_arg HX.out.2.2.1 HX.out.2.1 HX.out.2.2.2 hf.2
  clear hf
  obtain ⟨x, hx⟩ : ∃ x, val 4294967296 xs = x := ⟨_, rfl⟩
  obtain ⟨y, hy⟩ : ∃ y, val 4294967296 ys = y := ⟨_, rfl⟩
  rw [hx] at i0
  rw [hy] at i1
  obtain ⟨z1, hz1⟩ : ∃ z, sg m0 x = z := ⟨_, rfl⟩
  obtain ⟨z2, hz2⟩ : ∃ z, sg m1 y = z := ⟨_, rfl⟩
  have k1 : z1.natAbs = x := by rw [← hz1, sg_natAbs]
  have k2 : z2.natAbs = y := by rw [← hz2, sg_natAbs]
  rw [hz1, ← k1] at i0
  rw [hz2, ← k2] at i1
  clear hx hy hz1 hz2 k1 k2
  have HI := Lib.hid (And.intro i0.2 i1.2)
  have H3 := Lib.hid (show VS w w2 [(w.heap.size + 1, .bool m1, .slice A1 n1 c1, z2), (w.heap.size, .bool m0, .slice A0 n0 c0, z1)] from ⟨H2.out.2.2, fun u hu => by
    simp only [List.mem_cons, List.not_mem_nil, or_false] at hu
    rcases hu with rfl | rfl
    · exact ⟨H2.out.2.1, i1.1.below H2.out.2.2⟩
    · exact ⟨H2.out.1, i0.1.below H2.out.2.2⟩⟩)
  clear i0 i1
  have hLd : LimI (z1 - z2) := lim31 (by have := pow31; have h1 := HI.out.1.1; have h2 := HI.out.2.1; generalize 4294967296 ^ 30 = b at *; omega)
  have HL := Lib.hid (And.intro (lim_of (n := 30) HI.out.1.1 (by omega) : LimI z1) (And.intro (lim_of (n := 30) HI.out.2.1 (by omega) : LimI z2) hLd))
  clear hLd
  obtain ⟨a0, a1, _, _⟩ := (H3.out.var 1 rfl).1.cells
  obtain ⟨b0, b1, _, _⟩ := (H3.out.var 0 rfl).1.cells
  go_wp2_with fail
  refine (subInt_c _ _ _ z1 z2 (H3.out.var 1 rfl).2 (H3.out.var 0 rfl).2 HL.out.1 HL.out.2.1 HL.out.2.2).mono ?_
  rintro e w4 ⟨vd, rfl, hvd, hb⟩
  clear a0 a1 b0 b1
  have H4 := Lib.hid (H3.out.below hb)
  clear hb
  obtain ⟨md, Ad, cd, nd, rfl, _, _⟩ := hvd.cases
  have H5 := Lib.hid (H4.out.put rfl hvd)
  clear hvd
  obtain ⟨a0, a1, _, _⟩ := (H5.out.var 2 rfl).1.cells
  obtain ⟨b0, b1, _, _⟩ := (H5.out.var 1 rfl).1.cells
  go_wp2_with fail
  refine (cmpInt_c _ _ _ z1 z2 (H5.out.var 2 rfl).2 (H5.out.var 1 rfl).2).mono ?_
  rintro e w6 ⟨rfl, hb⟩
  clear a0 a1 b0 b1
  have H6 := Lib.hid (H5.out.below hb)
  clear hb
  have H7 := Lib.hid (H6.out.below (Below.drew (Below.refl _ _)))
  obtain ⟨d0, d1, _, _⟩ := (H7.out.var 0 rfl).1.cells
  obtain ⟨a0, a1, _, _⟩ := (H7.out.var 2 rfl).1.cells
  obtain ⟨b0, b1, _, _⟩ := (H7.out.var 1 rfl).1.cells
  obtain ⟨c, hc⟩ : ∃ c, ordI z1 z2 = c := ⟨_, rfl⟩
  obtain ⟨c2, hc2⟩ : ∃ c2, ordI z2 z1 = c2 := ⟨_, rfl⟩
  obtain ⟨bz, hbz⟩ : ∃ bz, (c == 0) = bz := ⟨_, rfl⟩
  obtain ⟨sa, hsa⟩ : ∃ sa, sign3 (z1.natAbs : Int) = sa := ⟨_, rfl⟩
  have hsa2 : decide (sa ≥ 0) = true := by rw [← hsa]; exact sign3_abs z1
  have hw : IntKind.i64.wrap (-c2) = c := by rw [← hc2, ← hc]; exact ordI_flip z1 z2
  have HO := Lib.hid (And.intro ((sign3_sub z1 z2).trans hc) (And.intro hc2 (And.intro ((ordI_turn z1 z2).trans hc) (And.intro (show decide (z1 = z2) = bz by rw [← hbz, ← hc]; exact ordI_same z1 z2) (And.intro hsa (show decide (- -z1 = z1) = true from decide_eq_true (Int.neg_neg z1)))))))
  rw [hc]
  clear hc hc2 hsa
  go_wp2_with fail
  go_region_held3 (fun w' => w'.cell? ⟨w4.heap.size, 0, none⟩ = some (.bool md) ∧ w'.cell? ⟨w4.heap.size, 1, none⟩ = some (.slice Ad nd cd) ∧ w'.cell? ⟨w.heap.size, 0, none⟩ = some (.bool m0) ∧ w'.cell? ⟨w.heap.size, 1, none⟩ = some (.slice A0 n0 c0) ∧ w'.cell? ⟨w.heap.size + 1, 0, none⟩ = some (.bool m1) ∧ w'.cell? ⟨w.heap.size + 1, 1, none⟩ = some (.slice A1 n1 c1)) (first | exact ⟨by assumption, by assumption, by assumption, by assumption, by assumption, by assumption⟩ | go_keep)
    (first
      | (have hi0 := (H7.out.var 0 rfl).2; (with_reducible refine (sign_c _ _ (z1 - z2) hi0).mono ?_); rintro e w8 ⟨rfl, hb⟩; rw [HO.out.1]; clear hi0 d0 d1 a0 a1 b0 b1; have H8 := Lib.hid (H7.out.below hb); clear hb; obtain ⟨d0, d1, _, _⟩ := (H8.out.var 0 rfl).1.cells; obtain ⟨a0, a1, _, _⟩ := (H8.out.var 2 rfl).1.cells; obtain ⟨b0, b1, _, _⟩ := (H8.out.var 1 rfl).1.cells)
      | (have hi0 := (H8.out.var 1 rfl).2; have hi1 := (H8.out.var 2 rfl).2; (with_reducible refine (cmpInt_c _ _ _ z2 z1 hi0 hi1).mono ?_); rintro e w9 ⟨rfl, hb⟩; rw [HO.out.2.1]; clear hi0 hi1 d0 d1 a0 a1 b0 b1; have H9 := Lib.hid (H8.out.below hb); clear hb; obtain ⟨d0, d1, _, _⟩ := (H9.out.var 0 rfl).1.cells; obtain ⟨a0, a1, _, _⟩ := (H9.out.var 2 rfl).1.cells; obtain ⟨b0, b1, _, _⟩ := (H9.out.var 1 rfl).1.cells)
      | (have hi0 := (H9.out.var 1 rfl).2; (with_reducible refine (negInt_c _ _ z2 hi0).mono ?_); rintro e w10 ⟨vnb, rfl, hvn, hb⟩; have HNB := Lib.hid hvn; clear hvn; clear hi0 d0 d1 a0 a1 b0 b1; have H10 := Lib.hid (H9.out.below hb); clear hb; obtain ⟨d0, d1, _, _⟩ := (H10.out.var 0 rfl).1.cells; obtain ⟨a0, a1, _, _⟩ := (H10.out.var 2 rfl).1.cells; obtain ⟨b0, b1, _, _⟩ := (H10.out.var 1 rfl).1.cells)
      | (have hi0 := (H10.out.var 2 rfl).2; (with_reducible refine (negInt_c _ _ z1 hi0).mono ?_); rintro e w11 ⟨vna, rfl, hvn, hb⟩; have HNA := Lib.hid (And.intro (HNB.out.below hb) hvn); clear hvn; clear hi0 d0 d1 a0 a1 b0 b1; have H11 := Lib.hid (H10.out.below hb); clear hb; obtain ⟨d0, d1, _, _⟩ := (H11.out.var 0 rfl).1.cells; obtain ⟨a0, a1, _, _⟩ := (H11.out.var 2 rfl).1.cells; obtain ⟨b0, b1, _, _⟩ := (H11.out.var 1 rfl).1.cells)
      | ((with_reducible refine (cmpInt_c _ _ _ (-z2) (-z1) HNA.out.1 HNA.out.2).mono ?_); rintro e w12 ⟨rfl, hb⟩; rw [HO.out.2.2.1]; clear d0 d1 a0 a1 b0 b1; have H12 := Lib.hid (H11.out.below hb); clear hb; obtain ⟨d0, d1, _, _⟩ := (H12.out.var 0 rfl).1.cells; obtain ⟨a0, a1, _, _⟩ := (H12.out.var 2 rfl).1.cells; obtain ⟨b0, b1, _, _⟩ := (H12.out.var 1 rfl).1.cells)
      | (have hi0 := (H12.out.var 2 rfl).2; have hi1 := (H12.out.var 1 rfl).2; (with_reducible refine (same_c _ _ _ z1 z2 hi0 hi1).mono ?_); rintro e w13 ⟨rfl, hb⟩; rw [HO.out.2.2.2.1]; clear hi0 hi1 d0 d1 a0 a1 b0 b1; have H13 := Lib.hid (H12.out.below hb); clear hb; obtain ⟨d0, d1, _, _⟩ := (H13.out.var 0 rfl).1.cells; obtain ⟨a0, a1, _, _⟩ := (H13.out.var 2 rfl).1.cells; obtain ⟨b0, b1, _, _⟩ := (H13.out.var 1 rfl).1.cells)
      | (have hi0 := (H13.out.var 2 rfl).2; (with_reducible refine (absInt_c _ _ z1 hi0).mono ?_); rintro e w14 ⟨vaa, rfl, hvn, hb⟩; have HAA := Lib.hid hvn; clear hvn; clear hi0 d0 d1 a0 a1 b0 b1; have H14 := Lib.hid (H13.out.below hb); clear hb; obtain ⟨d0, d1, _, _⟩ := (H14.out.var 0 rfl).1.cells; obtain ⟨a0, a1, _, _⟩ := (H14.out.var 2 rfl).1.cells; obtain ⟨b0, b1, _, _⟩ := (H14.out.var 1 rfl).1.cells)
      | ((with_reducible refine (sign_c _ _ (z1.natAbs : Int) HAA.out).mono ?_); rintro e w15 ⟨rfl, hb⟩; rw [HO.out.2.2.2.2.1]; clear d0 d1 a0 a1 b0 b1; have H15 := Lib.hid (H14.out.below hb); clear hb; obtain ⟨d0, d1, _, _⟩ := (H15.out.var 0 rfl).1.cells; obtain ⟨a0, a1, _, _⟩ := (H15.out.var 2 rfl).1.cells; obtain ⟨b0, b1, _, _⟩ := (H15.out.var 1 rfl).1.cells)
      | (have hi0 := (H15.out.var 2 rfl).2; (with_reducible refine (negInt_c _ _ z1 hi0).mono ?_); rintro e w16 ⟨vn1, rfl, hvn, hb⟩; have HN1 := Lib.hid hvn; clear hvn; clear hi0 d0 d1 a0 a1 b0 b1; have H16 := Lib.hid (H15.out.below hb); clear hb; obtain ⟨d0, d1, _, _⟩ := (H16.out.var 0 rfl).1.cells; obtain ⟨a0, a1, _, _⟩ := (H16.out.var 2 rfl).1.cells; obtain ⟨b0, b1, _, _⟩ := (H16.out.var 1 rfl).1.cells)
      | ((with_reducible refine (negInt_c _ _ (-z1) HN1.out).mono ?_); rintro e w17 ⟨vn2, rfl, hvn, hb⟩; have HN2 := Lib.hid hvn; clear hvn; clear d0 d1 a0 a1 b0 b1; have H17 := Lib.hid (H16.out.below hb); clear hb; obtain ⟨d0, d1, _, _⟩ := (H17.out.var 0 rfl).1.cells; obtain ⟨a0, a1, _, _⟩ := (H17.out.var 2 rfl).1.cells; obtain ⟨b0, b1, _, _⟩ := (H17.out.var 1 rfl).1.cells)
      | (have hi0 := (H17.out.var 2 rfl).2; (with_reducible refine (same_c _ _ _ (- -z1) z1 HN2.out hi0).mono ?_); rintro e w18 ⟨rfl, hb⟩; rw [HO.out.2.2.2.2.2]; clear hi0 d0 d1 a0 a1 b0 b1; have H18 := Lib.hid (H17.out.below hb); clear hb; obtain ⟨d0, d1, _, _⟩ := (H18.out.var 0 rfl).1.cells; obtain ⟨a0, a1, _, _⟩ := (H18.out.var 2 rfl).1.cells; obtain ⟨b0, b1, _, _⟩ := (H18.out.var 1 rfl).1.cells))
  all_goals
    go_wp2_with fail
    go_ret
    exact ⟨rfl, H18.out.1⟩
end Go.Proofs.YtdaoechbaejjmaaDoor
