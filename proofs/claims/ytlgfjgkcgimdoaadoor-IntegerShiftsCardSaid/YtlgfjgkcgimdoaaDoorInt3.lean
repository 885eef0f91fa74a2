/- Whole numbers: the order of two, and what may be. -/
import Derived.Test.YtlgfjgkcgimdoaaDoorInt
namespace Go.Proofs.YtlgfjgkcgimdoaaDoor
open Go Go.RowKit Go.Shelf
attribute [local go_sem ↓] Go.wp_at_zero Go.wp_at_succ

/-- The order of two whole numbers. -/
def ordI (x y : Int) : Int := if x < y then -1 else if y < x then 1 else 0
theorem ordI_less {x y : Int} (h : sign3 x < sign3 y) : ordI x y = -1 := by
  unfold sign3 at h; unfold ordI; rw [if_pos]
  split at h
  · split at h
    · omega
    · split at h <;> omega
  · split at h
    · split at h
      · omega
      · split at h <;> omega
    · split at h
      · omega
      · split at h <;> omega
theorem ordI_more {x y : Int} (h : sign3 y < sign3 x) : ordI x y = 1 := by
  have := ordI_less h
  unfold ordI at this ⊢
  split at this
  · rw [if_neg (by omega), if_pos (by assumption)]
  · split at this <;> omega
theorem ordI_neg {x y : Int} (h1 : ¬ sign3 x < sign3 y) (h2 : ¬ sign3 y < sign3 x) (h : sign3 x < 0) : ordI x y = ord3 y.natAbs x.natAbs := by
  have hx : x < 0 := by
    unfold sign3 at h
    split at h
    · assumption
    · split at h <;> omega
  have hy : y < 0 := by
    have e : sign3 y < 0 := by omega
    unfold sign3 at e
    split at e
    · assumption
    · split at e <;> omega
  unfold ordI ord3
  by_cases a : x < y
  · rw [if_pos a, if_pos (by omega)]
  · rw [if_neg a]
    by_cases b : y < x
    · rw [if_pos b, if_neg (by omega), if_pos (by omega)]
    · rw [if_neg b, if_neg (by omega), if_neg (by omega)]
theorem ordI_pos {x y : Int} (h1 : ¬ sign3 x < sign3 y) (h2 : ¬ sign3 y < sign3 x) (h : ¬ sign3 x < 0) : ordI x y = ord3 x.natAbs y.natAbs := by
  have hx : 0 ≤ x := by
    unfold sign3 at h
    split at h
    · omega
    · omega
  have hy : 0 ≤ y := by
    have e : ¬ sign3 y < 0 := by omega
    unfold sign3 at e
    split at e
    · omega
    · omega
  unfold ordI ord3
  by_cases a : x < y
  · rw [if_pos a, if_pos (by omega)]
  · rw [if_neg a]
    by_cases b : y < x
    · rw [if_pos b, if_neg (by omega), if_pos (by omega)]
    · rw [if_neg b, if_neg (by omega), if_neg (by omega)]

/-- Two boxed arguments, whatever is made behind them. -/
def Two (w : World) (g : Nat) (a1 b1 a2 b2 : Value) (wr : World) : Prop := BoxI wr g a1 b1 ∧ BoxI wr (g + 1) a2 b2 ∧ Below w.heap.size w wr
theorem Two.new (w : World) (a1 b1 a2 b2 : Value) : Two w w.heap.size a1 b1 a2 b2 ((w.alloc (.cells #[a1, b1] 25)).alloc (.cells #[a2, b2] 25)) := by
  have h := BoxI.new (w.alloc (.cells #[a1, b1] 25)) a2 b2
  rw [alloc_size] at h
  exact ⟨(BoxI.new w a1 b1).below (box_below _ a2 b2), h, below_trans (box_below w a1 b1) (box_below _ a2 b2)⟩
theorem Two.below {w wr w' : World} {g : Nat} {a1 b1 a2 b2 : Value} (h : Two w g a1 b1 a2 b2 wr) (hb : Below wr.heap.size wr w') : Two w g a1 b1 a2 b2 w' := ⟨h.1.below hb, h.2.1.below hb, below_trans h.2.2 hb⟩

set_option maxRecDepth 100000 in
set_option maxHeartbeats 4000000 in
theorem cmpInt_c (w : World) (v1 v2 : Value) (z1 z2 : Int) (hv1 : Im w v1 z1) (hv2 : Im w v2 z2) : Calls Tryd.prog 24 #[v1, v2] w fun e w' => e = .returned (.int .i64 (ordI z1 z2)) ∧ Below w.heap.size w w' := by
  obtain ⟨m1, A1, c1, n1, rfl, hm1, h1⟩ := hv1.cases
  obtain ⟨m2, A2, c2, n2, rfl, hm2, h2⟩ := hv2.cases
  have HT := Lib.hid ((Two.new w (.bool m1) (.slice A1 n1 c1) (.bool m2) (.slice A2 n2 c2)).below (Below.drew (Below.refl _ _)))
  have HI := Lib.hid (And.intro (And.intro (hv1.below HT.out.2.2) (hv2.below HT.out.2.2)) HT.out)
  have HV := Lib.hid (And.intro h1 h2)
  obtain ⟨a0, a1, _, _⟩ := (show BoxI ((w.alloc (.cells #[.bool m1, .slice A1 n1 c1] 25)).alloc (.cells #[.bool m2, .slice A2 n2 c2] 25)) _ _ _ from HT.out.1).cells
  obtain ⟨b0, b1, _, _⟩ := (show BoxI ((w.alloc (.cells #[.bool m1, .slice A1 n1 c1] 25)).alloc (.cells #[.bool m2, .slice A2 n2 c2] 25)) _ _ _ from HT.out.2.1).cells
  clear hv1 hv2 h1 h2 hm1 hm2 HT
  go_enter Tryd.func24, Tryd.ntmps24
  go_wp2_with fail
  go_region_held3 (fun w' => w'.cell? ⟨w.heap.size, 0, none⟩ = some (.bool m1) ∧ w'.cell? ⟨w.heap.size, 1, none⟩ = some (.slice A1 n1 c1) ∧ w'.cell? ⟨w.heap.size + 1, 0, none⟩ = some (.bool m2) ∧ w'.cell? ⟨w.heap.size + 1, 1, none⟩ = some (.slice A2 n2 c2)) (first | go_keep | (exact ⟨by assumption, by assumption, by assumption, by assumption⟩))
    (first
      | ((with_reducible refine (sign_c _ (.agg #[.bool m1, .slice A1 n1 c1]) z1 HI.out.1.1).mono ?_); rintro e w3 ⟨rfl, hb⟩; have HJ := Lib.hid (And.intro (And.intro (HI.out.1.1.below hb) (HI.out.1.2.below hb)) (HI.out.2.below hb)); clear HI hb a0 a1 b0 b1; have HI := HJ; clear HJ; obtain ⟨a0, a1, _, _⟩ := HI.out.2.1.cells; obtain ⟨b0, b1, _, _⟩ := HI.out.2.2.1.cells)
      | ((with_reducible refine (sign_c _ (.agg #[.bool m2, .slice A2 n2 c2]) z2 HI.out.1.2).mono ?_); rintro e w3 ⟨rfl, hb⟩; have HJ := Lib.hid (And.intro (And.intro (HI.out.1.1.below hb) (HI.out.1.2.below hb)) (HI.out.2.below hb)); clear HI hb a0 a1 b0 b1; have HI := HJ; clear HJ; obtain ⟨a0, a1, _, _⟩ := HI.out.2.1.cells; obtain ⟨b0, b1, _, _⟩ := HI.out.2.2.1.cells))
  all_goals
    by_cases k1 : sign3 z1 < sign3 z2
    · have HO := Lib.hid (ordI_less k1)
      have d1 : decide (sign3 z1 < sign3 z2) = true := decide_eq_true k1
      clear k1
      go_wp2_with fail
      go_ret
      exact ⟨by rw [HO.out]; rfl, HI.out.2.2.2⟩
    have d1 : decide (sign3 z1 < sign3 z2) = false := decide_eq_false k1
    by_cases k2 : sign3 z2 < sign3 z1
    · have HO := Lib.hid (ordI_more k2)
      have d2 : decide (sign3 z1 > sign3 z2) = true := decide_eq_true k2
      clear k1
      go_wp2_with fail
      go_ret
      exact ⟨by rw [HO.out]; rfl, HI.out.2.2.2⟩
    have d2 : decide (sign3 z1 > sign3 z2) = false := decide_eq_false k2
    by_cases k3 : sign3 z1 < 0
    · have HO := Lib.hid (ordI_neg k1 k2 k3)
      have d3 : decide (sign3 z1 < 0) = true := decide_eq_true k3
      clear k1 k2
      go_wp2_with fail
      refine (cmp_n (HV.out.2.below HI.out.2.2.2) (HV.out.1.below HI.out.2.2.2)).mono ?_
      rintro e w5 ⟨rfl, hb⟩
      have H5 := Lib.hid (below_trans HI.out.2.2.2 hb)
      clear hb
      go_wp2_with fail
      go_ret
      exact ⟨by rw [HO.out]; rfl, H5.out⟩
    · have HO := Lib.hid (ordI_pos k1 k2 k3)
      have d3 : decide (sign3 z1 < 0) = false := decide_eq_false k3
      clear k1 k2
      go_wp2_with fail
      refine (cmp_n (HV.out.1.below HI.out.2.2.2) (HV.out.2.below HI.out.2.2.2)).mono ?_
      rintro e w5 ⟨rfl, hb⟩
      have H5 := Lib.hid (below_trans HI.out.2.2.2 hb)
      clear hb
      go_wp2_with fail
      go_ret
      exact ⟨by rw [HO.out]; rfl, H5.out⟩

theorem ordI_zero (x y : Int) : (ordI x y == 0) = decide (x = y) := by
  unfold ordI
  by_cases a : x < y
  · rw [if_pos a, decide_eq_false (by omega)]; rfl
  · rw [if_neg a]
    by_cases b : y < x
    · rw [if_pos b, decide_eq_false (by omega)]; rfl
    · rw [if_neg b, decide_eq_true (by omega)]; rfl
set_option maxRecDepth 100000 in
theorem same_c (w : World) (v1 v2 : Value) (z1 z2 : Int) (hv1 : Im w v1 z1) (hv2 : Im w v2 z2) : Calls Tryd.prog 14 #[v1, v2] w fun e w' => e = .returned (.bool (decide (z1 = z2))) ∧ Below w.heap.size w w' := by
  obtain ⟨m1, A1, c1, n1, rfl, hm1, h1⟩ := id hv1.cases
  obtain ⟨m2, A2, c2, n2, rfl, hm2, h2⟩ := id hv2.cases
  have HT := Lib.hid (Two.new w (.bool m1) (.slice A1 n1 c1) (.bool m2) (.slice A2 n2 c2))
  have HI := Lib.hid (And.intro (hv1.below HT.out.2.2) (hv2.below HT.out.2.2))
  obtain ⟨a0, a1, _, _⟩ := HT.out.1.cells
  obtain ⟨b0, b1, _, _⟩ := HT.out.2.1.cells
  clear hv1 hv2 h1 h2 hm1 hm2
  go_enter Tryd.func14, Tryd.ntmps14
  go_wp2_with fail
  refine (cmpInt_c _ _ _ z1 z2 HI.out.1 HI.out.2).mono ?_
  rintro e w3 ⟨rfl, hb⟩
  have H3 := Lib.hid (below_trans HT.out.2.2 hb)
  have hz := ordI_zero z1 z2
  obtain ⟨q, hq⟩ : ∃ q, ordI z1 z2 = q := ⟨_, rfl⟩
  rw [hq] at hz ⊢
  obtain ⟨b, hbb⟩ : ∃ b, decide (z1 = z2) = b := ⟨_, rfl⟩
  rw [hbb] at hz
  have HBB := Lib.hid hbb
  clear hb hq hbb
  go_wp2_with fail
  go_ret
  exact ⟨by rw [HBB.out]; rfl, H3.out⟩
end Go.Proofs.YtlgfjgkcgimdoaaDoor
