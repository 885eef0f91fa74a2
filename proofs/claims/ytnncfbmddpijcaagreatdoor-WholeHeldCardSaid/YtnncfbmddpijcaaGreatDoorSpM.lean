
/- Spans: what is between two, and how rounding keeps the order. -/
import Derived.Test.YtnncfbmddpijcaaGreatDoorSpO
namespace Go.Proofs.YtnncfbmddpijcaaGreatDoor
open Go Go.RowKit Go.Shelf AM
/-! What is between two. -/
section
variable {x y u v : Dy} {X Y : Rat}
theorem mul_low {a b X c L : Rat} (h1 : a ≤ X) (h2 : X ≤ b) (l1 : L ≤ a * c) (l2 : L ≤ b * c) : L ≤ X * c := by
  rcases Rat.le_total (a := 0) (b := c) with hc | hc
  · have := Rat.mul_le_mul_of_nonneg_right h1 hc
    grind
  · have := Rat.mul_le_mul_of_nonneg_right h2 (show 0 ≤ -c by grind)
    grind
theorem mul_high {a b X c L : Rat} (h1 : a ≤ X) (h2 : X ≤ b) (l1 : a * c ≤ L) (l2 : b * c ≤ L) : X * c ≤ L := by
  rcases Rat.le_total (a := 0) (b := c) with hc | hc
  · have := Rat.mul_le_mul_of_nonneg_right h2 hc
    grind
  · have := Rat.mul_le_mul_of_nonneg_right h1 (show 0 ≤ -c by grind)
    grind
theorem loM_le (h1 : dv x ≤ X) (h2 : X ≤ dv y) (h3 : dv u ≤ Y) (h4 : Y ≤ dv v) : dv (loM x y u v) ≤ X * Y := by
  have h := lo4_dv (mulD x u) (mulD x v) (mulD y u) (mulD y v)
  rw [mulD_dv, mulD_dv, mulD_dv, mulD_dv] at h
  unfold loM
  generalize dv (lo4 (mulD x u) (mulD x v) (mulD y u) (mulD y v)) = L at *
  have a1 : L ≤ X * dv u := mul_low h1 h2 h.1 h.2.2.1
  have a2 : L ≤ X * dv v := mul_low h1 h2 h.2.1 h.2.2.2
  rw [Rat.mul_comm] at a1 a2 ⊢
  exact mul_low h3 h4 a1 a2
theorem hiM_ge (h1 : dv x ≤ X) (h2 : X ≤ dv y) (h3 : dv u ≤ Y) (h4 : Y ≤ dv v) : X * Y ≤ dv (hiM x y u v) := by
  have h := hi4_dv (mulD x u) (mulD x v) (mulD y u) (mulD y v)
  rw [mulD_dv, mulD_dv, mulD_dv, mulD_dv] at h
  unfold hiM
  generalize dv (hi4 (mulD x u) (mulD x v) (mulD y u) (mulD y v)) = L at *
  have a1 : X * dv u ≤ L := mul_high h1 h2 h.1 h.2.2.1
  have a2 : X * dv v ≤ L := mul_high h1 h2 h.2.1 h.2.2.2
  rw [Rat.mul_comm] at a1 a2 ⊢
  exact mul_high h3 h4 a1 a2
end
/-! Rounded, the order stays. -/
theorem few_below {b : Nat} {r d : Dy} (hb : 1 ≤ b) (hf : Few b r) (h : dv r ≤ dv d) : dv r ≤ dv (rdD b d) := by
  by_cases hd : Few b d
  · rw [rd_self hd]; exact h
  · have hbt : ¬ bt d.m.natAbs ≤ b := hd
    rw [rd_dv]
    generalize ho : bt d.m.natAbs - b = o at *
    rcases Int.lt_or_le r.e (d.e + (o : Int)) with he | he
    · -- it is less than what is left
      have h1 : av r < p2 ((b : Int) + r.e) := by
        have h2 := av_lt r
        unfold topD at h2
        unfold Few at hf
        have := p2_mono (show (bt r.m.natAbs : Int) + r.e ≤ (b : Int) + r.e by omega)
        grind
      have h0 : d.m ≠ 0 := by rintro e; rw [e] at hbt; exact hbt (by rw [show (0 : Int).natAbs = 0 from rfl, bt_zero]; omega)
      have hr : -av r ≤ dv r ∧ dv r ≤ av r := by
        rcases Int.lt_trichotomy r.m 0 with k | k | k
        · have := av_pos (d := r) (by omega); rw [dv_neg k]; grind
        · rw [dv_zero.2 k]; unfold av; rw [k]; simp
        · have := av_pos (d := r) (by omega); rw [dv_pos k]; grind
      have e3 : p2 ((b : Int) + r.e) ≤ p2 (topD d - 1) := p2_mono (by unfold topD; omega)
      have h4 := av_ge h0
      rcases Int.lt_or_lt_of_ne h0 with k | k
      · exfalso
        rw [dv_neg k] at h
        grind
      · -- it is above nothing: so much is left
        have h5 : (2 : Int) ^ (bt d.m.natAbs - 1 - o) ≤ d.m / 2 ^ o := by
          rw [Int.le_ediv_iff_mul_le (pow2_posI o), ← Int.pow_add, show bt d.m.natAbs - 1 - o + o = bt d.m.natAbs - 1 by omega]
          have := bt_ge (x := d.m.natAbs) (by omega)
          have e := pow2_cast (bt d.m.natAbs - 1)
          omega
        have h6 : (2 : Int) ^ (bt d.m.natAbs - 1) ≤ d.m / 2 ^ o * 2 ^ o := by
          have := Int.mul_le_mul_of_nonneg_right h5 (Int.le_of_lt (pow2_posI o))
          rw [← Int.pow_add, show bt d.m.natAbs - 1 - o + o = bt d.m.natAbs - 1 by omega] at this
          exact this
        have h7 := (mul_p2_le (e := d.e)).2 (Rat.intCast_le_intCast.2 h6)
        have h8 : p2 (topD d - 1) = ((2 ^ (bt d.m.natAbs - 1) : Int) : Rat) * p2 d.e := by
          have := p2_shift 1 d.e (bt d.m.natAbs - 1)
          rw [Int.one_mul] at this
          rw [← this, show topD d - 1 = d.e + ((bt d.m.natAbs - 1 : Nat) : Int) by unfold topD; omega]; simp
        rw [h8] at e3
        grind
    · -- it is so many times the last bit
      have h1 : dv r = ((lev r (d.e + (o : Int)) * 2 ^ o : Int) : Rat) * p2 d.e := by
        rw [← p2_shift]; exact lev_dv he
      rw [h1] at h ⊢
      unfold dv at h
      rw [mul_p2_le] at h ⊢
      have h2 := Rat.intCast_le_intCast.1 h
      refine Rat.intCast_le_intCast.2 (Int.mul_le_mul_of_nonneg_right ?_ (Int.le_of_lt (pow2_posI o)))
      exact (Int.le_ediv_iff_mul_le (pow2_posI o)).2 h2
theorem rd_mono {b : Nat} {c d : Dy} (hb : 1 ≤ b) (h : dv c ≤ dv d) : dv (rdD b c) ≤ dv (rdD b d) := few_below hb (rd_few hb) (Rat.le_trans (rd_le b c) h)
theorem ru_mono {b : Nat} {c d : Dy} (hb : 1 ≤ b) (h : dv c ≤ dv d) : dv (ruD b c) ≤ dv (ruD b d) := by
  have := rd_mono (b := b) (c := negD d) (d := negD c) hb (by rw [negD_dv, negD_dv]; grind)
  unfold ruD
  rw [negD_dv, negD_dv]
  grind
end Go.Proofs.YtnncfbmddpijcaaGreatDoor
