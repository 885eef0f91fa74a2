/- IntegerDivs: the walk. Written by gen03b.py. -/
import Derived.Test.YtdaoechbaejjmaaDoorFit3
namespace Go.Proofs.YtdaoechbaejjmaaDoor
open Go Go.RowKit Go.Shelf
attribute [local go_sem ↓] Go.wp_at_zero Go.wp_at_succ

theorem lim31 {z : Int} (h : z.natAbs < 4294967296 ^ 31) : LimI z := lim_of (n := 31) h (by omega)
theorem pow31 : 4294967296 ^ 31 = 4294967296 ^ 30 * 4294967296 := Nat.pow_succ 4294967296 30
/-- What a division leaves is of a size with which can be gone on. -/
theorem div_lims {z1 z2 : Int} (h1 : z1.natAbs < 4294967296 ^ 30) (h2 : z2.natAbs < 4294967296 ^ 30) (h0 : z2 ≠ 0) :
    LimI (z1 / z2) ∧ LimI (z1 % z2) ∧ LimI (z1 / z2 * z2) ∧ z1 / z2 * z2 + z1 % z2 = z1 ∧ 0 ≤ z1 % z2 ∧ z1 % z2 < (z2.natAbs : Int) ∧ LimI (z2.natAbs : Int) := by
  have hq : (z1 / z2).natAbs ≤ z1.natAbs := Int.natAbs_ediv_le_natAbs z1 z2
  have hr0 := Int.emod_nonneg z1 h0
  have hr1 : z1 % z2 < (z2.natAbs : Int) := Int.emod_lt z1 h0
  have he : z1 / z2 * z2 + z1 % z2 = z1 := Int.ediv_mul_add_emod z1 z2
  have hp := pow31
  generalize z1 / z2 * z2 = p at he ⊢
  generalize z1 / z2 = q at hq ⊢
  generalize z1 % z2 = r at *
  generalize 4294967296 ^ 30 = b at *
  refine ⟨lim31 ?_, lim31 ?_, lim31 ?_, he, hr0, hr1, lim31 ?_⟩ <;> omega

theorem two_fit {m0 m1 : Bool} {xs ys : List Nat} (hf : FitI m0 xs ∧ FitI m1 ys) : fitA [(m0, xs), (m1, ys)] = true := by
  unfold fitA; simp [hf.1, hf.2]
theorem two_unfit {m0 m1 : Bool} {xs ys : List Nat} (hf : ¬ (FitI m0 xs ∧ FitI m1 ys)) : fitA [(m0, xs), (m1, ys)] = false := by
  by_cases g0 : FitI m0 xs
  · exact fitA_false (k := 1) rfl (fun g1 => hf ⟨g0, g1⟩)
  · exact fitA_false (k := 0) rfl g0

set_option maxRecDepth 100000 in
set_option maxHeartbeats 16000000 in
theorem divs3_law (w : World) (hT : Tab w) (hT10 : Tab10 w) (v0 v1 : Value) (m0 : Bool) (xs : List Nat) (m1 : Bool) (ys : List Nat) (h0 : ArgI w v0 m0 xs) (b0 : ∀ x ∈ xs, x < 4294967296) (h1 : ArgI w v1 m1 ys) (b1 : ∀ x ∈ ys, x < 4294967296) :
    Calls Tryd.prog 10 #[v0, v1] w fun e w' => e = .returned (.bool true) ∧ Below w.heap.size w w' := by
  obtain ⟨s0, rfl, hA0⟩ := h0
  obtain ⟨s1, rfl, hA1⟩ := h1
  obtain ⟨⟨A0, c0, rfl⟩, _⟩ := id hA0
  obtain ⟨⟨A1, c1, rfl⟩, _⟩ := id hA1
  obtain ⟨n0, e0⟩ : ∃ n, xs.length = n := ⟨_, rfl⟩
  obtain ⟨n1, e1⟩ : ∃ n, ys.length = n := ⟨_, rfl⟩
  rw [e0] at hA0 ⊢
  rw [e1] at hA1 ⊢
  have HT := Lib.hid (And.intro hT hT10)
  have HX := Lib.hid (And.intro (And.intro e0 (And.intro hA0 b0)) (And.intro e1 (And.intro hA1 b1)))
  have HB := Lib.hid (Two.new w (.bool m0) (.slice A0 n0 c0) (.bool m1) (.slice A1 n1 c1))
  clear hT hT10 e0 e1 hA0 hA1 b0 b1
  go_enter Tryd.func10, Tryd.ntmps10
  go_wp2_with fail
  refine (counts3_c _ (HT.out.1.below HB.out.2.2) (HT.out.2.below HB.out.2.2)).mono ?_
  rintro e w1 ⟨rfl, hb⟩
  have H1 := Lib.hid (HB.out.below hb)
  clear hb
  have HA := Lib.hid (And.intro (HX.out.1.2.1.below H1.out.2.2 (Nat.le_refl _)) (HX.out.2.2.1.below H1.out.2.2 (Nat.le_refl _)))
  have HR := Lib.hid (RowA.new2 (m1 := m0) (m2 := m1) rfl HX.out.1.1 HX.out.2.1 HA.out.1 HA.out.2)
  obtain ⟨a0, a1, _, _⟩ := H1.out.1.cells
  obtain ⟨b0, b1, _, _⟩ := H1.out.2.1.cells
  go_wp2_with fail
  refine (fit3_c _ _ 2 [(m0, xs), (m1, ys)] HR.out.1 (by simp)).mono ?_
  rintro e w2 ⟨rfl, hb⟩
  have H2 := Lib.hid ((H1.out.below HR.out.2).below hb)
  clear hb a0 a1 b0 b1
  by_cases hf : FitI m0 xs ∧ FitI m1 ys
  case neg =>
    rw [two_unfit hf]
    clear hf
    go_wp2_with fail
    go_ret
    exact ⟨rfl, H2.out.2.2⟩
  rw [two_fit hf]
  have i0 := im_arg HX.out.1.2.1 HX.out.1.1 HX.out.1.2.2 hf.1
  have i1 := im_arg HX.out.2.2.1 HX.out.2.1 HX.out.2.2.2 hf.2
  clear hf
  obtain ⟨x, hx⟩ : ∃ x, val 4294967296 xs = x := ⟨_, rfl⟩
  obtain ⟨y, hy⟩ : ∃ y, val 4294967296 ys = y := ⟨_, rfl⟩
  rw [hx] at i0
  rw [hy] at i1
  obtain ⟨z1, hz1⟩ : ∃ z, sg m0 x = z := ⟨_, rfl⟩
  obtain ⟨z2, hz2⟩ : ∃ z, sg m1 y = z := ⟨_, rfl⟩
  have k1 : z1.natAbs = x := by rw [← hz1, sg_natAbs]
  have k2 : z2.natAbs = y := by rw [← hz2, sg_natAbs]
  rw [hz1, ← k1] at i0
  rw [hz2, ← k2] at i1
  clear hx hy hz1 hz2 k1 k2
  have HI := Lib.hid (And.intro i0.2 i1.2)
  have H3 := Lib.hid (show VS w w2 [(w.heap.size + 1, .bool m1, .slice A1 n1 c1, z2), (w.heap.size, .bool m0, .slice A0 n0 c0, z1)] from ⟨H2.out.2.2, fun u hu => by
    simp only [List.mem_cons, List.not_mem_nil, or_false] at hu
    rcases hu with rfl | rfl
    · exact ⟨H2.out.2.1, i1.1.below H2.out.2.2⟩
    · exact ⟨H2.out.1, i0.1.below H2.out.2.2⟩⟩)
  clear i0 i1
  by_cases hz : z2 = 0
  · subst hz
    have hn1 : n1 = 0 := HI.out.2.2.2 (by simp)
    subst hn1
    obtain ⟨a0, a1, _, _⟩ := (H3.out.var 1 rfl).1.cells
    obtain ⟨b0, b1, _, _⟩ := (H3.out.var 0 rfl).1.cells
    go_wp2_with fail
    refine (divInt_zero _ _ _ z1 (H3.out.var 1 rfl).2 (H3.out.var 0 rfl).2).mono ?_
    rintro e w4 ⟨rfl, hb⟩
    clear a0 a1 b0 b1
    have H4 := Lib.hid (H3.out.below hb)
    clear hb
    have H5 := Lib.hid ((H4.out.put rfl (Im.zero _)).put (alloc_size _ _) (Im.zero _).box)
    obtain ⟨b0, b1, _, _⟩ := (H5.out.var 2 rfl).1.cells
    obtain ⟨q0, q1, _, _⟩ := (H5.out.var 1 rfl).1.cells
    go_wp2_with fail
    refine (sign_c _ _ 0 (H5.out.var 1 rfl).2).mono ?_
    rintro e w6 ⟨rfl, hb⟩
    clear b0 b1 q0 q1
    rw [show sign3 0 = 0 from rfl]
    have H6 := Lib.hid (H5.out.below hb)
    clear hb
    obtain ⟨r0, r1, _, _⟩ := (H6.out.var 0 rfl).1.cells
    go_wp2_with fail
    refine (sign_c _ _ 0 (H6.out.var 0 rfl).2).mono ?_
    rintro e w7 ⟨rfl, hb⟩
    clear r0 r1
    rw [show sign3 0 = 0 from rfl]
    have H7 := Lib.hid (H6.out.below hb)
    clear hb
    go_wp2_with fail
    go_ret
    exact ⟨rfl, H7.out.1⟩
  · have hL := div_lims HI.out.1.1 HI.out.2.1 hz
    have hn1 : ¬ n1 = 0 := fun h => hz (by have := HI.out.2.2.1 h; omega)
    have hb1 : ((n1 : Int) == 0) = false := by rw [beq_eq_false_iff_ne]; omega
    have HZ := Lib.hid hz
    have hdiv := divInt_c w2 _ _ z1 z2 (H3.out.var 1 rfl).2 (H3.out.var 0 rfl).2 (lim_of (n := 30) HI.out.1.1 (by omega)) (lim_of (n := 30) HI.out.2.1 (by omega)) hz
    obtain ⟨q, hq⟩ : ∃ q, z1 / z2 = q := ⟨_, rfl⟩
    obtain ⟨r, hr⟩ : ∃ r, z1 % z2 = r := ⟨_, rfl⟩
    rw [hq, hr] at hL hdiv
    have HL := Lib.hid hL
    have HD := Lib.hid hdiv
    clear hz hL hdiv hq hr
    obtain ⟨a0, a1, _, _⟩ := (H3.out.var 1 rfl).1.cells
    obtain ⟨b0, b1, _, _⟩ := (H3.out.var 0 rfl).1.cells
    go_wp2_with fail
    refine (HD.out).mono ?_
    rintro e w4 ⟨vq, vr, rfl, hvq, hvr, hb⟩
    clear a0 a1 b0 b1
    have H4 := Lib.hid (H3.out.below hb)
    clear hb
    obtain ⟨mq, Aq, cq, nq, rfl, _, _⟩ := hvq.cases
    obtain ⟨mr, Ar, cr, nr, rfl, _, _⟩ := hvr.cases
    have H5 := Lib.hid ((H4.out.put rfl hvq).put (alloc_size _ _) hvr.box)
    clear hvq hvr
    obtain ⟨b0, b1, _, _⟩ := (H5.out.var 2 rfl).1.cells
    obtain ⟨q0, q1, _, _⟩ := (H5.out.var 1 rfl).1.cells
    go_wp2_with fail
    refine (mulInt_c _ _ _ q z2 (H5.out.var 1 rfl).2 (H5.out.var 2 rfl).2 HL.out.2.2.1).mono ?_
    rintro e w6 ⟨vp, rfl, hvp, hb⟩
    clear b0 b1 q0 q1
    have H6 := Lib.hid (H5.out.below hb)
    clear hb
    obtain ⟨mp, Ap, cp, np, rfl, _, _⟩ := hvp.cases
    have H7 := Lib.hid (H6.out.put rfl hvp)
    clear hvp
    obtain ⟨p0, p1, _, _⟩ := (H7.out.var 0 rfl).1.cells
    obtain ⟨r0, r1, _, _⟩ := (H7.out.var 1 rfl).1.cells
    go_wp2_with fail
    refine (addInt_c _ _ _ (q * z2) r (H7.out.var 0 rfl).2 (H7.out.var 1 rfl).2 HL.out.2.2.1 HL.out.2.1 (by rw [HL.out.2.2.2.1]; exact lim_of (n := 30) HI.out.1.1 (by omega))).mono ?_
    rintro e w8 ⟨vs, rfl, hvs, hb⟩
    clear p0 p1 r0 r1
    rw [HL.out.2.2.2.1] at hvs
    have H8 := Lib.hid (H7.out.below hb)
    clear hb
    obtain ⟨ms, As, cs, ns, rfl, _, _⟩ := hvs.cases
    have H9 := Lib.hid (H8.out.put rfl hvs)
    clear hvs
    have H10 := Lib.hid (H9.out.below (Below.drew (Below.refl _ _)))
    obtain ⟨s0, s1, _, _⟩ := (H10.out.var 0 rfl).1.cells
    obtain ⟨a0, a1, _, _⟩ := (H10.out.var 5 rfl).1.cells
    obtain ⟨r0, r1, _, _⟩ := (H10.out.var 2 rfl).1.cells
    obtain ⟨b0, b1, _, _⟩ := (H10.out.var 4 rfl).1.cells
    obtain ⟨q0, q1, _, _⟩ := (H10.out.var 3 rfl).1.cells
    have hord : decide (ordI r (z2.natAbs : Int) < 0) = true := by rw [decide_eq_true_iff]; unfold ordI; rw [if_pos HL.out.2.2.2.2.2.1]; omega
    have hsr : decide (sign3 r ≥ 0) = true := by rw [decide_eq_true_iff]; unfold sign3; have := HL.out.2.2.2.2.1; rw [if_neg (by omega)]; split <;> omega
    obtain ⟨od, hod⟩ : ∃ od, ordI r (z2.natAbs : Int) = od := ⟨_, rfl⟩
    obtain ⟨sr, hsrr⟩ : ∃ sr, sign3 r = sr := ⟨_, rfl⟩
    rw [hod] at hord
    rw [hsrr] at hsr
    have HO := Lib.hid (And.intro hod hsrr)
    clear hod hsrr
    go_wp2_with fail
    go_region_held3 (fun w' => w'.cell? ⟨w8.heap.size, 0, none⟩ = some (.bool ms) ∧ w'.cell? ⟨w8.heap.size, 1, none⟩ = some (.slice As ns cs) ∧ w'.cell? ⟨w.heap.size, 0, none⟩ = some (.bool m0) ∧ w'.cell? ⟨w.heap.size, 1, none⟩ = some (.slice A0 n0 c0) ∧ w'.cell? ⟨w4.heap.size + 1, 0, none⟩ = some (.bool mr) ∧ w'.cell? ⟨w4.heap.size + 1, 1, none⟩ = some (.slice Ar nr cr) ∧ w'.cell? ⟨w.heap.size + 1, 0, none⟩ = some (.bool m1) ∧ w'.cell? ⟨w.heap.size + 1, 1, none⟩ = some (.slice A1 n1 c1) ∧ w'.cell? ⟨w4.heap.size, 0, none⟩ = some (.bool mq) ∧ w'.cell? ⟨w4.heap.size, 1, none⟩ = some (.slice Aq nq cq)) (first | exact ⟨by assumption, by assumption, by assumption, by assumption, by assumption, by assumption, by assumption, by assumption, by assumption, by assumption⟩ | go_keep)
      (first
        | (have hi0 := (H10.out.var 0 rfl).2; have hi1 := (H10.out.var 5 rfl).2; (with_reducible refine (same_c _ _ _ z1 z1 hi0 hi1).mono ?_); rintro e w11 ⟨rfl, hb⟩; rw [decide_eq_true (rfl : z1 = z1)]; clear hi0 hi1 s0 s1 a0 a1 r0 r1 b0 b1 q0 q1; have H11 := Lib.hid (H10.out.below hb); clear hb; obtain ⟨s0, s1, _, _⟩ := (H11.out.var 0 rfl).1.cells; obtain ⟨a0, a1, _, _⟩ := (H11.out.var 5 rfl).1.cells; obtain ⟨r0, r1, _, _⟩ := (H11.out.var 2 rfl).1.cells; obtain ⟨b0, b1, _, _⟩ := (H11.out.var 4 rfl).1.cells; obtain ⟨q0, q1, _, _⟩ := (H11.out.var 3 rfl).1.cells)
        | (have hi0 := (H11.out.var 2 rfl).2; (with_reducible refine (sign_c _ _ r hi0).mono ?_); rintro e w12 ⟨rfl, hb⟩; rw [HO.out.2]; clear hi0 s0 s1 a0 a1 r0 r1 b0 b1 q0 q1; have H12 := Lib.hid (H11.out.below hb); clear hb; obtain ⟨s0, s1, _, _⟩ := (H12.out.var 0 rfl).1.cells; obtain ⟨a0, a1, _, _⟩ := (H12.out.var 5 rfl).1.cells; obtain ⟨r0, r1, _, _⟩ := (H12.out.var 2 rfl).1.cells; obtain ⟨b0, b1, _, _⟩ := (H12.out.var 4 rfl).1.cells; obtain ⟨q0, q1, _, _⟩ := (H12.out.var 3 rfl).1.cells)
        | (have hi0 := (H12.out.var 4 rfl).2; (with_reducible refine (absInt_c _ _ z2 hi0).mono ?_); rintro e w13 ⟨vb, rfl, hvb, hb⟩; have HVB := Lib.hid hvb; clear hvb; clear hi0 s0 s1 a0 a1 r0 r1 b0 b1 q0 q1; have H13 := Lib.hid (H12.out.below hb); clear hb; obtain ⟨s0, s1, _, _⟩ := (H13.out.var 0 rfl).1.cells; obtain ⟨a0, a1, _, _⟩ := (H13.out.var 5 rfl).1.cells; obtain ⟨r0, r1, _, _⟩ := (H13.out.var 2 rfl).1.cells; obtain ⟨b0, b1, _, _⟩ := (H13.out.var 4 rfl).1.cells; obtain ⟨q0, q1, _, _⟩ := (H13.out.var 3 rfl).1.cells)
        | (have hi0 := (H13.out.var 2 rfl).2; (with_reducible refine (cmpInt_c _ _ _ r (z2.natAbs : Int) hi0 HVB.out).mono ?_); rintro e w14 ⟨rfl, hb⟩; rw [HO.out.1]; clear hi0 s0 s1 a0 a1 r0 r1 b0 b1 q0 q1; have H14 := Lib.hid (H13.out.below hb); clear hb; obtain ⟨s0, s1, _, _⟩ := (H14.out.var 0 rfl).1.cells; obtain ⟨a0, a1, _, _⟩ := (H14.out.var 5 rfl).1.cells; obtain ⟨r0, r1, _, _⟩ := (H14.out.var 2 rfl).1.cells; obtain ⟨b0, b1, _, _⟩ := (H14.out.var 4 rfl).1.cells; obtain ⟨q0, q1, _, _⟩ := (H14.out.var 3 rfl).1.cells)
        | (have hi0 := (H14.out.var 3 rfl).2; (with_reducible refine (checkInt_im _ _ q hi0 HL.out.1).mono ?_); rintro e w15 ⟨rfl, hb⟩; clear hi0 s0 s1 a0 a1 r0 r1 b0 b1 q0 q1; have H15 := Lib.hid (H14.out.below hb); clear hb; obtain ⟨s0, s1, _, _⟩ := (H15.out.var 0 rfl).1.cells; obtain ⟨a0, a1, _, _⟩ := (H15.out.var 5 rfl).1.cells; obtain ⟨r0, r1, _, _⟩ := (H15.out.var 2 rfl).1.cells; obtain ⟨b0, b1, _, _⟩ := (H15.out.var 4 rfl).1.cells; obtain ⟨q0, q1, _, _⟩ := (H15.out.var 3 rfl).1.cells)
        | (have hi0 := (H15.out.var 2 rfl).2; (with_reducible refine (checkInt_im _ _ r hi0 HL.out.2.1).mono ?_); rintro e w16 ⟨rfl, hb⟩; clear hi0 s0 s1 a0 a1 r0 r1 b0 b1 q0 q1; have H16 := Lib.hid (H15.out.below hb); clear hb; obtain ⟨s0, s1, _, _⟩ := (H16.out.var 0 rfl).1.cells; obtain ⟨a0, a1, _, _⟩ := (H16.out.var 5 rfl).1.cells; obtain ⟨r0, r1, _, _⟩ := (H16.out.var 2 rfl).1.cells; obtain ⟨b0, b1, _, _⟩ := (H16.out.var 4 rfl).1.cells; obtain ⟨q0, q1, _, _⟩ := (H16.out.var 3 rfl).1.cells))
    all_goals
      go_wp2_with fail
      go_ret
      exact ⟨rfl, H16.out.1⟩
end Go.Proofs.YtdaoechbaejjmaaDoor
