/- Whole numbers: together, less, times. -/
import Derived.Test.YtlgfjgkcgimdoaaDoorInt3
import Derived.Test.YtlgfjgkcgimdoaaDoorHeldC
namespace Go.Proofs.YtlgfjgkcgimdoaaDoor
open Go Go.RowKit Go.Shelf
attribute [local go_sem ↓] Go.wp_at_zero Go.wp_at_succ

/-- Two boxed arguments, and the result's variable. -/
def Three (w : World) (g : Nat) (a1 b1 a2 b2 : Value) (wr : World) : Prop := BoxI wr g a1 b1 ∧ BoxI wr (g + 1) a2 b2 ∧ BoxI wr (g + 2) (.bool false) (.slice none 0 0) ∧ Below w.heap.size w wr
theorem Three.new (w : World) (a1 b1 a2 b2 : Value) : Three w w.heap.size a1 b1 a2 b2 (((w.alloc (.cells #[a1, b1] 25)).alloc (.cells #[a2, b2] 25)).alloc (.cells #[.bool false, .slice none 0 0] 25)) := by
  have h := Two.new w a1 b1 a2 b2
  have h3 := BoxI.new ((w.alloc (.cells #[a1, b1] 25)).alloc (.cells #[a2, b2] 25)) (.bool false) (.slice none 0 0)
  rw [alloc_size, alloc_size] at h3
  have hb := box_below ((w.alloc (.cells #[a1, b1] 25)).alloc (.cells #[a2, b2] 25)) (.bool false) (.slice none 0 0)
  exact ⟨h.1.below hb, h.2.1.below hb, h3, below_trans h.2.2 hb⟩
theorem Three.below {w wr w' : World} {g : Nat} {a1 b1 a2 b2 : Value} (h : Three w g a1 b1 a2 b2 wr) (hb : Below wr.heap.size wr w') : Three w g a1 b1 a2 b2 w' :=
  ⟨h.1.below hb, h.2.1.below hb, h.2.2.1.below hb, below_trans h.2.2.2 hb⟩
theorem BoxI.far {w : World} {g : Nat} {a b : Value} (h : BoxI w g a b) {p : Addr} (hp : g ≠ p.block) (u : Value) : BoxI (w.setCell p u) g a b := (Below.heap_setCell w p u g hp).trans h
/-- The two exchanged. -/
theorem Three.swap {w wr : World} {a1 b1 a2 b2 : Value} (h : Three w w.heap.size a1 b1 a2 b2 wr) :
    Three w w.heap.size a2 b2 a1 b1 ((((wr.setCell ⟨w.heap.size, 0, none⟩ a2).setCell ⟨w.heap.size, 1, none⟩ b2).setCell ⟨w.heap.size + 1, 0, none⟩ a1).setCell ⟨w.heap.size + 1, 1, none⟩ b1) := by
  refine ⟨?_, ?_, ?_, ?_⟩
  · exact (((h.1.set0 a2).set1 b2).far (p := ⟨w.heap.size + 1, 0, none⟩) (by simp) a1).far (p := ⟨w.heap.size + 1, 1, none⟩) (by simp) b1
  · exact (((h.2.1.far (p := ⟨w.heap.size, 0, none⟩) (by simp) a2).far (p := ⟨w.heap.size, 1, none⟩) (by simp) b2).set0 a1).set1 b1
  · exact (((h.2.2.1.far (p := ⟨w.heap.size, 0, none⟩) (by simp) a2).far (p := ⟨w.heap.size, 1, none⟩) (by simp) b2).far (p := ⟨w.heap.size + 1, 0, none⟩) (by simp) a1).far (p := ⟨w.heap.size + 1, 1, none⟩) (by simp) b1
  · exact (((h.2.2.2.setCell (p := ⟨w.heap.size, 0, none⟩) (Nat.le_refl _) a2).setCell (p := ⟨w.heap.size, 1, none⟩) (Nat.le_refl _) b2).setCell (p := ⟨w.heap.size + 1, 0, none⟩) (Nat.le_succ _) a1).setCell (p := ⟨w.heap.size + 1, 1, none⟩) (Nat.le_succ _) b1
theorem Three.nm_swap {w wr : World} {a1 b1 a2 b2 v : Value} {x : Nat} (h : Three w w.heap.size a1 b1 a2 b2 wr) (ha1 : notNum a1 = true) (hb1 : notNum b1 = true) (ha2 : notNum a2 = true) (hb2 : notNum b2 = true) (hn : Nm wr v x) :
    Nm ((((wr.setCell ⟨w.heap.size, 0, none⟩ a2).setCell ⟨w.heap.size, 1, none⟩ b2).setCell ⟨w.heap.size + 1, 0, none⟩ a1).setCell ⟨w.heap.size + 1, 1, none⟩ b1) v x :=
  (hn.put h.1 ha1 hb1 ha2).put ((h.2.1.far (p := ⟨w.heap.size, 0, none⟩) (by simp) a2).far (p := ⟨w.heap.size, 1, none⟩) (by simp) b2) ha2 hb2 ha1

theorem sg_same {z1 z2 : Int} (h : decide (z1 < 0) = decide (z2 < 0)) : sg (decide (z1 < 0)) (z1.natAbs + z2.natAbs) = z1 + z2 := by
  rw [decide_eq_decide] at h
  by_cases a : z1 < 0
  · rw [decide_eq_true a]; have := h.1 a; simp only [sg, if_true]; omega
  · rw [decide_eq_false a]; have : ¬ z2 < 0 := fun b => a (h.2 b); simp only [sg, Bool.false_eq_true, if_false]; omega
theorem sg_diff {z1 z2 : Int} (h : decide (z1 < 0) ≠ decide (z2 < 0)) (hle : z2.natAbs ≤ z1.natAbs) : sg (decide (z1 < 0)) (z1.natAbs - z2.natAbs) = z1 + z2 := by
  by_cases a : z1 < 0
  · rw [decide_eq_true a] at h ⊢
    have : ¬ z2 < 0 := fun b => h (decide_eq_true b).symm
    simp only [sg, if_true]; omega
  · rw [decide_eq_false a] at h ⊢
    have : z2 < 0 := by
      rcases Int.lt_or_le z2 0 with b | b
      · exact b
      · exact absurd (decide_eq_false (by omega : ¬ z2 < 0)).symm h
    simp only [sg, Bool.false_eq_true, if_false]; omega
theorem sg_mul (z1 z2 : Int) : sg (decide (z1 < 0) != decide (z2 < 0)) (z1.natAbs * z2.natAbs) = z1 * z2 := by
  rcases Int.lt_or_le z1 0 with a | a
  · obtain ⟨x, rfl⟩ : ∃ x : Nat, z1 = -(x : Int) := ⟨z1.natAbs, by omega⟩
    rcases Int.lt_or_le z2 0 with b | b
    · obtain ⟨y, rfl⟩ : ∃ y : Nat, z2 = -(y : Int) := ⟨z2.natAbs, by omega⟩
      rw [decide_eq_true a, decide_eq_true b, Int.neg_mul_neg]; simp [sg]
    · obtain ⟨y, rfl⟩ : ∃ y : Nat, z2 = (y : Int) := ⟨z2.natAbs, by omega⟩
      rw [decide_eq_true a, decide_eq_false (by omega)]; simp [sg, Int.neg_mul]
  · obtain ⟨x, rfl⟩ : ∃ x : Nat, z1 = (x : Int) := ⟨z1.natAbs, by omega⟩
    rcases Int.lt_or_le z2 0 with b | b
    · obtain ⟨y, rfl⟩ : ∃ y : Nat, z2 = -(y : Int) := ⟨z2.natAbs, by omega⟩
      rw [decide_eq_false (by omega), decide_eq_true b]; simp [sg, Int.mul_neg]
    · obtain ⟨y, rfl⟩ : ∃ y : Nat, z2 = (y : Int) := ⟨z2.natAbs, by omega⟩
      rw [decide_eq_false (by omega), decide_eq_false (by omega)]; simp [sg]

/-- A number of no more digits than may be. -/
def LimI (z : Int) : Prop := z.natAbs < Lim

set_option maxRecDepth 100000 in
set_option maxHeartbeats 4000000 in
theorem addInt_c (w : World) (v1 v2 : Value) (z1 z2 : Int) (hv1 : Im w v1 z1) (hv2 : Im w v2 z2) (h1 : LimI z1) (h2 : LimI z2) (hs : LimI (z1 + z2)) : Calls Tryd.prog 20 #[v1, v2] w (RetI0 w (z1 + z2)) := by
  obtain ⟨m1, A1, c1, n1, rfl, hm1, k1⟩ := hv1.cases
  obtain ⟨m2, A2, c2, n2, rfl, hm2, k2⟩ := hv2.cases
  have HT := Lib.hid (Three.new w (.bool m1) (.slice A1 n1 c1) (.bool m2) (.slice A2 n2 c2))
  have HI := Lib.hid (And.intro (k1.below HT.out.2.2.2) (k2.below HT.out.2.2.2))
  have HL := Lib.hid (And.intro h1 (And.intro h2 hs))
  have HM := Lib.hid (And.intro hm1 hm2)
  obtain ⟨a0, a1, _, _⟩ := HT.out.1.cells
  obtain ⟨b0, b1, _, _⟩ := HT.out.2.1.cells
  obtain ⟨r0, r1, _, _⟩ := HT.out.2.2.1.cells
  clear hv1 hv2 h1 h2 hs hm1 hm2 k1 k2
  by_cases hmm : m1 = m2
  · subst hmm
    have hadd : z1.natAbs + z2.natAbs = (z1 + z2).natAbs := by
      have := sg_same (z1 := z1) (z2 := z2) (HM.out.1.trans HM.out.2.symm)
      rw [← this, sg_natAbs]
    have hsg := sg_same (z1 := z1) (z2 := z2) (HM.out.1.trans HM.out.2.symm)
    rw [HM.out.1] at hsg
    have HA := Lib.hid (And.intro hadd hsg)
    clear hadd hsg
    go_enter Tryd.func20, Tryd.ntmps20
    go_wp2_with fail
    refine (add_n HI.out.1 HI.out.2 (by rw [HA.out.1]; exact HL.out.2.2)).mono ?_
    rintro e w3 ⟨v3, rfl, hv3, hb⟩
    have H3 := Lib.hid (And.intro hv3 (HT.out.below hb))
    clear hv3 hb a0 a1 b0 b1 r0 r1
    obtain ⟨a0, a1, _, _⟩ := H3.out.2.1.cells
    go_wp2_with fail
    refine (answer_ok w3 m1 v3 _ H3.out.1).mono ?_
    rintro e w4 ⟨v4, rfl, hv4, hb⟩
    rw [HA.out.2] at hv4
    obtain ⟨m4, A4, c4, n4, rfl, hm4, h4⟩ := hv4.cases
    have H4 := Lib.hid (And.intro h4 (And.intro (H3.out.2.below hb) hm4))
    clear hv4 hb h4 hm4 a0 a1
    obtain ⟨r0, r1, g0, g1⟩ := H4.out.2.1.2.2.1.cells
    go_wp2_with fail
    exact bodyPost_ret (v := .tuple #[.agg #[.bool m4, .slice A4 n4 c4], .int .i64 0]) (by simp [results, Tryd.results20, go_sem, r0, r1]) rfl (retI0_put H4.out.2.2 H4.out.2.1.2.2.1 rfl rfl (by omega) H4.out.1 H4.out.2.1.2.2.2)
  · have hbm : (m1 == m2) = false := by rw [beq_eq_false_iff_ne]; exact hmm
    have Hmm := Lib.hid (show decide (z1 < 0) ≠ decide (z2 < 0) by rw [HM.out.1, HM.out.2]; exact hmm)
    clear hmm
    go_enter Tryd.func20, Tryd.ntmps20
    go_wp2_with fail
    refine (cmp_n HI.out.1 HI.out.2).mono ?_
    rintro e w3 ⟨rfl, hb⟩
    have H3 := Lib.hid (And.intro (And.intro (HI.out.1.below hb) (HI.out.2.below hb)) (HT.out.below hb))
    clear hb a0 a1 b0 b1 r0 r1
    obtain ⟨a0, a1, _, _⟩ := H3.out.2.1.cells
    obtain ⟨b0, b1, _, _⟩ := H3.out.2.2.1.cells
    by_cases hlt : z1.natAbs < z2.natAbs
    · have ho : ord3 z1.natAbs z2.natAbs = -1 := ord3_lt hlt
      rw [ho]
      obtain ⟨_, _, f0, f1⟩ := H3.out.2.1.cells
      obtain ⟨_, _, g0, g1⟩ := H3.out.2.2.1.cells
      have hsg := sg_diff (z1 := z2) (z2 := z1) (fun e => Hmm.out e.symm) (by omega)
      rw [HM.out.2, Int.add_comm] at hsg
      have HA := Lib.hid (And.intro hsg (Nat.le_of_lt hlt))
      have HS := Lib.hid (And.intro (And.intro (H3.out.2.nm_swap rfl rfl rfl rfl H3.out.1.1) (H3.out.2.nm_swap rfl rfl rfl rfl H3.out.1.2)) H3.out.2.swap)
      clear ho hsg hlt
      go_wp2_with fail
      refine (sub_n HS.out.1.2 HS.out.1.1 HA.out.2 HL.out.2.1).mono ?_
      rintro e w5 ⟨v5, rfl, hv5, hb⟩
      clear f0 f1 g0 g1
      have H5 := Lib.hid (And.intro hv5 (HS.out.2.below hb))
      clear hv5 hb a0 a1 b0 b1
      obtain ⟨a0, a1, _, _⟩ := H5.out.2.1.cells
      go_wp2_with fail
      refine (answer_ok w5 m2 v5 _ H5.out.1).mono ?_
      rintro e w6 ⟨v6, rfl, hv6, hb⟩
      rw [HA.out.1] at hv6
      obtain ⟨m4, A4, c4, n4, rfl, hm4, h4⟩ := hv6.cases
      have H6 := Lib.hid (And.intro h4 (And.intro (H5.out.2.below hb) hm4))
      clear hv6 hb h4 hm4 a0 a1
      obtain ⟨r0, r1, g0, g1⟩ := H6.out.2.1.2.2.1.cells
      go_wp2_with fail
      exact bodyPost_ret (v := .tuple #[.agg #[.bool m4, .slice A4 n4 c4], .int .i64 0]) (by simp [results, Tryd.results20, go_sem, r0, r1]) rfl (retI0_put H6.out.2.2 H6.out.2.1.2.2.1 rfl rfl (by omega) H6.out.1 H6.out.2.1.2.2.2)
    · have ho : decide (ord3 z1.natAbs z2.natAbs < 0) = false := by
        rw [decide_eq_false_iff_not]; unfold ord3; rw [if_neg hlt]; split <;> omega
      generalize ord3 z1.natAbs z2.natAbs = oo at ho ⊢
      have ho2 : ¬ oo < 0 := of_decide_eq_false ho
      have hsg := sg_diff (z1 := z1) (z2 := z2) Hmm.out (by omega)
      rw [HM.out.1] at hsg
      have HA := Lib.hid (And.intro hsg (Nat.le_of_not_lt hlt))
      have HS := Lib.hid H3.out
      clear hsg hlt
      go_wp2_with fail
      refine (sub_n HS.out.1.1 HS.out.1.2 HA.out.2 HL.out.1).mono ?_
      rintro e w5 ⟨v5, rfl, hv5, hb⟩
      have H5 := Lib.hid (And.intro hv5 (HS.out.2.below hb))
      clear hv5 hb a0 a1 b0 b1
      obtain ⟨a0, a1, _, _⟩ := H5.out.2.1.cells
      go_wp2_with fail
      refine (answer_ok w5 m1 v5 _ H5.out.1).mono ?_
      rintro e w6 ⟨v6, rfl, hv6, hb⟩
      rw [HA.out.1] at hv6
      obtain ⟨m4, A4, c4, n4, rfl, hm4, h4⟩ := hv6.cases
      have H6 := Lib.hid (And.intro h4 (And.intro (H5.out.2.below hb) hm4))
      clear hv6 hb h4 hm4 a0 a1
      obtain ⟨r0, r1, g0, g1⟩ := H6.out.2.1.2.2.1.cells
      go_wp2_with fail
      exact bodyPost_ret (v := .tuple #[.agg #[.bool m4, .slice A4 n4 c4], .int .i64 0]) (by simp [results, Tryd.results20, go_sem, r0, r1]) rfl (retI0_put H6.out.2.2 H6.out.2.1.2.2.1 rfl rfl (by omega) H6.out.1 H6.out.2.1.2.2.2)

set_option maxRecDepth 100000 in
set_option maxHeartbeats 4000000 in
theorem mulInt_c (w : World) (v1 v2 : Value) (z1 z2 : Int) (hv1 : Im w v1 z1) (hv2 : Im w v2 z2) (hs : LimI (z1 * z2)) : Calls Tryd.prog 11 #[v1, v2] w (RetI0 w (z1 * z2)) := by
  obtain ⟨m1, A1, c1, n1, rfl, hm1, k1⟩ := hv1.cases
  obtain ⟨m2, A2, c2, n2, rfl, hm2, k2⟩ := hv2.cases
  have HT := Lib.hid (Three.new w (.bool m1) (.slice A1 n1 c1) (.bool m2) (.slice A2 n2 c2))
  have HI := Lib.hid (And.intro (k1.below HT.out.2.2.2) (k2.below HT.out.2.2.2))
  have hsg := sg_mul z1 z2
  rw [hm1, hm2] at hsg
  have HA := Lib.hid (And.intro hsg (show z1.natAbs * z2.natAbs < Lim by rw [← Int.natAbs_mul]; exact hs))
  obtain ⟨a0, a1, _, _⟩ := HT.out.1.cells
  obtain ⟨b0, b1, _, _⟩ := HT.out.2.1.cells
  obtain ⟨r0, r1, _, _⟩ := HT.out.2.2.1.cells
  clear hv1 hv2 hs hm1 hm2 k1 k2 hsg
  go_enter Tryd.func11, Tryd.ntmps11
  go_wp2_with fail
  refine (mul_n HI.out.1 HI.out.2 HA.out.2).mono ?_
  rintro e w3 ⟨v3, rfl, hv3, hb⟩
  have H3 := Lib.hid (And.intro hv3 (HT.out.below hb))
  clear hv3 hb a0 a1 b0 b1 r0 r1
  obtain ⟨a0, a1, _, _⟩ := H3.out.2.1.cells
  obtain ⟨b0, b1, _, _⟩ := H3.out.2.2.1.cells
  go_wp2_with fail
  refine (answer_ok w3 (m1 != m2) v3 _ H3.out.1).mono ?_
  rintro e w4 ⟨v4, rfl, hv4, hb⟩
  rw [HA.out.1] at hv4
  obtain ⟨m4, A4, c4, n4, rfl, hm4, h4⟩ := hv4.cases
  have H4 := Lib.hid (And.intro h4 (And.intro (H3.out.2.below hb) hm4))
  clear hv4 hb h4 hm4 a0 a1 b0 b1
  obtain ⟨r0, r1, g0, g1⟩ := H4.out.2.1.2.2.1.cells
  go_wp2_with fail
  exact bodyPost_ret (v := .tuple #[.agg #[.bool m4, .slice A4 n4 c4], .int .i64 0]) (by simp [results, Tryd.results11, go_sem, r0, r1]) rfl (retI0_put H4.out.2.2 H4.out.2.1.2.2.1 rfl rfl (by omega) H4.out.1 H4.out.2.1.2.2.2)
end Go.Proofs.YtlgfjgkcgimdoaaDoor

/- Whole numbers: less, shifted, divided, of small ones. -/
namespace Go.Proofs.YtlgfjgkcgimdoaaDoor
open Go Go.RowKit Go.Shelf
attribute [local go_sem ↓] Go.wp_at_zero Go.wp_at_succ

set_option maxRecDepth 100000 in
set_option maxHeartbeats 4000000 in
theorem subInt_c (w : World) (v1 v2 : Value) (z1 z2 : Int) (hv1 : Im w v1 z1) (hv2 : Im w v2 z2) (h1 : LimI z1) (h2 : LimI z2) (hs : LimI (z1 - z2)) : Calls Tryd.prog 21 #[v1, v2] w (RetI0 w (z1 - z2)) := by
  obtain ⟨m1, A1, c1, n1, rfl, _, _⟩ := hv1.cases
  obtain ⟨m2, A2, c2, n2, rfl, _, _⟩ := hv2.cases
  have HT := Lib.hid (Three.new w (.bool m1) (.slice A1 n1 c1) (.bool m2) (.slice A2 n2 c2))
  have HT2 := Lib.hid (HT.out.below (Below.drew (Below.refl _ _)))
  have HI := Lib.hid (And.intro (And.intro (hv1.below HT2.out.2.2.2) (hv2.below HT2.out.2.2.2)) HT2.out)
  have HL := Lib.hid (And.intro h1 (And.intro (show LimI (-z2) by unfold LimI at h2 ⊢; rw [Int.natAbs_neg]; exact h2) (show LimI (z1 + -z2) from hs)))
  obtain ⟨a0, a1, _, _⟩ := HT.out.1.cells
  obtain ⟨b0, b1, _, _⟩ := HT.out.2.1.cells
  clear hv1 hv2 h1 h2 hs HT2
  have hne1 : ¬ (w.heap.size = w.heap.size + 1 + 1) := by omega
  go_enter Tryd.func21, Tryd.ntmps21
  go_wp2_with fail
  go_region_held3 (fun w' => w'.cell? ⟨w.heap.size, 0, none⟩ = some (.bool m1) ∧ w'.cell? ⟨w.heap.size, 1, none⟩ = some (.slice A1 n1 c1) ∧ w'.cell? ⟨w.heap.size + 1, 0, none⟩ = some (.bool m2) ∧ w'.cell? ⟨w.heap.size + 1, 1, none⟩ = some (.slice A2 n2 c2)) (first | (exact ⟨by assumption, by assumption, by assumption, by assumption⟩) | ((try dsimp only); refine ⟨?_, ?_, ?_, ?_⟩ <;> (rw [World.cell?_setCell_far, World.cell?_setCell_far] <;> first | assumption | (dsimp only; omega))) | go_keep)
    (first
      | ((with_reducible refine (turned_c _ (.agg #[.bool m2, .slice A2 n2 c2]) z2 HI.out.1.2).mono ?_); rintro e w3 ⟨v3, rfl, hv3, hb⟩; have H3 := Lib.hid (And.intro (And.intro (HI.out.1.1.below hb) hv3) (HI.out.2.below hb)); clear hb hv3 a0 a1 b0 b1; obtain ⟨a0, a1, _, _⟩ := H3.out.2.1.cells; obtain ⟨b0, b1, _, _⟩ := H3.out.2.2.1.cells)
      | ((with_reducible refine (addInt_c _ (.agg #[.bool m1, .slice A1 n1 c1]) _ z1 (-z2) H3.out.1.1 H3.out.1.2 HL.out.1 HL.out.2.1 HL.out.2.2).mono ?_); rintro e w4 ⟨v4, rfl, hv4, hb⟩; obtain ⟨m4, A4, c4, n4, rfl, hm4, h4⟩ := hv4.cases; have H4 := Lib.hid (And.intro h4 (And.intro (H3.out.2.below hb) hm4)); clear hv4 hb h4 hm4 a0 a1 b0 b1; obtain ⟨a0, a1, _, _⟩ := H4.out.2.1.1.cells; obtain ⟨b0, b1, _, _⟩ := H4.out.2.1.2.1.cells; obtain ⟨r0, r1, g0, g1⟩ := H4.out.2.1.2.2.1.cells))
  all_goals
    go_wp2_with fail
    exact bodyPost_ret (v := .tuple #[.agg #[.bool m4, .slice A4 n4 c4], .int .i64 0]) (by simp [results, Tryd.results21, go_sem, r0, r1]) rfl (retI0_put (z := z1 - z2) H4.out.2.2 H4.out.2.1.2.2.1 rfl rfl (by omega) H4.out.1 H4.out.2.1.2.2.2)

/-- One boxed argument, and the result's variable. -/
def OneR (w : World) (g : Nat) (a1 b1 : Value) (wr : World) : Prop := BoxI wr g a1 b1 ∧ BoxI wr (g + 1) (.bool false) (.slice none 0 0) ∧ Below w.heap.size w wr
theorem OneR.new (w : World) (a1 b1 : Value) : OneR w w.heap.size a1 b1 ((w.alloc (.cells #[a1, b1] 25)).alloc (.cells #[.bool false, .slice none 0 0] 25)) := by
  have h := Two.new w a1 b1 (.bool false) (.slice none 0 0)
  exact h
theorem OneR.below {w wr w' : World} {g : Nat} {a1 b1 : Value} (h : OneR w g a1 b1 wr) (hb : Below wr.heap.size wr w') : OneR w g a1 b1 w' := ⟨h.1.below hb, h.2.1.below hb, below_trans h.2.2 hb⟩
theorem left_nm {w : World} {va : Value} {x : Nat} (n : Nat) (ha : Nm w va x) (hn : n ≤ 9223372036854775807) (hx : x * 2 ^ n < Lim) : Calls Tryd.prog 7 #[va, .int .i64 n] w (RetN0 w (x * 2 ^ n)) := by
  obtain ⟨A, c, xs, rfl, h1, rfl⟩ := ha
  refine (left_c w _ xs n h1.1 h1.2.1.1 h1.2.2 (by omega) (by omega)).mono fun _ _ h => ?_
  rcases h with ⟨h, _⟩ | ⟨_, hb, (⟨h, _⟩ | ⟨_, v, rfl, hN⟩)⟩
  · omega
  · simp only [Int.toNat_natCast] at h; omega
  · simp only [Int.toNat_natCast] at hN; exact ⟨v, rfl, Nm.of_numV hx hN, hb⟩
theorem right_nm {w : World} {va : Value} {x : Nat} (n : Nat) (ha : Nm w va x) (hn : n ≤ 9223372036854775807) (hx : x < Lim) : Calls Tryd.prog 32 #[va, .int .i64 n] w (RetN0 w (x / 2 ^ n)) := by
  obtain ⟨A, c, xs, rfl, h1, rfl⟩ := ha
  have hq : val 4294967296 xs / 2 ^ n < Lim := Nat.lt_of_le_of_lt (Nat.div_le_self _ _) hx
  refine (right_c w _ xs n h1.1 h1.2.1.1 h1.2.2 (by omega) (by omega) (by rw [Hid, Int.toNat_natCast]; exact hq)).mono fun _ _ h => ?_
  rcases h with ⟨h, _⟩ | ⟨_, hb, v, rfl, hN⟩
  · omega
  · simp only [Int.toNat_natCast] at hN; exact ⟨v, rfl, Nm.of_numV hq hN, hb⟩
theorem tail_nm {w : World} {va : Value} {x : Nat} (hT : Tab w) (ha : Nm w va x) : Calls Tryd.prog 33 #[va] w fun e w' => ∃ n : Nat, e = .returned (.int .i64 (n : Int)) ∧ IsTail n x ∧ w = w' := by
  obtain ⟨A, c, xs, rfl, h1, rfl⟩ := ha
  exact (tail_c w hT _ xs h1.1 h1.2.1.1 h1.2.2).mono fun _ _ ⟨hw, n, he, hn⟩ => ⟨n, he, hn, hw⟩
theorem sg_left (z : Int) (n : Nat) : sg (decide (z < 0)) (z.natAbs * 2 ^ n) = z * 2 ^ n := by
  have hp : (2 : Int) ^ n = ((2 ^ n : Nat) : Int) := by simp
  rcases Int.lt_or_le z 0 with a | a
  · obtain ⟨x, rfl⟩ : ∃ x : Nat, z = -(x : Int) := ⟨z.natAbs, by omega⟩
    rw [decide_eq_true a, hp]; simp [sg, Int.neg_mul]
  · obtain ⟨x, rfl⟩ : ∃ x : Nat, z = (x : Int) := ⟨z.natAbs, by omega⟩
    rw [decide_eq_false (by omega), hp]; simp [sg]

set_option maxRecDepth 100000 in
set_option maxHeartbeats 4000000 in
theorem leftInt_c (w : World) (v : Value) (z : Int) (n : Nat) (hv : Im w v z) (hn : n ≤ 9223372036854775807) (hs : LimI (z * 2 ^ n)) : Calls Tryd.prog 9 #[v, .int .i64 n] w (RetI0 w (z * 2 ^ n)) := by
  obtain ⟨m, A, c, k, rfl, hm, h1⟩ := hv.cases
  have HT := Lib.hid (OneR.new w (.bool m) (.slice A k c))
  have hsg := sg_left z n
  have hlim : z.natAbs * 2 ^ n < Lim := by have := hs; unfold LimI at this; rwa [← hsg, sg_natAbs] at this
  rw [hm] at hsg
  have HA := Lib.hid (And.intro hsg (And.intro hlim (h1.below HT.out.2.2)))
  obtain ⟨a0, a1, _, _⟩ := HT.out.1.cells
  obtain ⟨r0, r1, _, _⟩ := HT.out.2.1.cells
  clear hv hs hm h1 hsg hlim
  go_enter Tryd.func9, Tryd.ntmps9
  go_wp2_with fail
  refine (left_nm n HA.out.2.2 hn HA.out.2.1).mono ?_
  rintro e w3 ⟨v3, rfl, hv3, hb⟩
  have H3 := Lib.hid (And.intro hv3 (HT.out.below hb))
  clear hv3 hb a0 a1 r0 r1
  obtain ⟨a0, a1, _, _⟩ := H3.out.2.1.cells
  go_wp2_with fail
  refine (answer_ok w3 m v3 _ H3.out.1).mono ?_
  rintro e w4 ⟨v4, rfl, hv4, hb⟩
  rw [HA.out.1] at hv4
  obtain ⟨m4, A4, c4, n4, rfl, hm4, h4⟩ := hv4.cases
  have H4 := Lib.hid (And.intro h4 (And.intro (H3.out.2.below hb) hm4))
  clear hv4 hb h4 hm4 a0 a1
  obtain ⟨r0, r1, g0, g1⟩ := H4.out.2.1.2.1.cells
  go_wp2_with fail
  exact bodyPost_ret (v := .tuple #[.agg #[.bool m4, .slice A4 n4 c4], .int .i64 0]) (by simp [results, Tryd.results9, go_sem, r0, r1]) rfl (retI0_put H4.out.2.2 H4.out.2.1.2.1 rfl rfl (by omega) H4.out.1 H4.out.2.1.2.2)
end Go.Proofs.YtlgfjgkcgimdoaaDoor
