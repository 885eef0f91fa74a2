/- Whole numbers: less, shifted, divided, of small ones. -/
import Derived.Test.YtdaoechbaejjmaaDoorInt4
import Derived.Test.YtdaoechbaejjmaaDoorHeldC
namespace Go.Proofs.YtdaoechbaejjmaaDoor
open Go Go.RowKit Go.Shelf
attribute [local go_sem ↓] Go.wp_at_zero Go.wp_at_succ

set_option maxRecDepth 100000 in
set_option maxHeartbeats 4000000 in
theorem subInt_c (w : World) (v1 v2 : Value) (z1 z2 : Int) (hv1 : Im w v1 z1) (hv2 : Im w v2 z2) (h1 : LimI z1) (h2 : LimI z2) (hs : LimI (z1 - z2)) : Calls Tryd.prog 46 #[v1, v2] w (RetI0 w (z1 - z2)) := by
  obtain ⟨m1, A1, c1, n1, rfl, _, _⟩ := hv1.cases
  obtain ⟨m2, A2, c2, n2, rfl, _, _⟩ := hv2.cases
  have HT := Lib.hid (Three.new w (.bool m1) (.slice A1 n1 c1) (.bool m2) (.slice A2 n2 c2))
  have HT2 := Lib.hid (HT.out.below (Below.drew (Below.refl _ _)))
  have HI := Lib.hid (And.intro (And.intro (hv1.below HT2.out.2.2.2) (hv2.below HT2.out.2.2.2)) HT2.out)
  have HL := Lib.hid (And.intro h1 (And.intro (show LimI (-z2) by unfold LimI at h2 ⊢; rw [Int.natAbs_neg]; exact h2) (show LimI (z1 + -z2) from hs)))
  obtain ⟨a0, a1, _, _⟩ := HT.out.1.cells
  obtain ⟨b0, b1, _, _⟩ := HT.out.2.1.cells
  clear hv1 hv2 h1 h2 hs HT2
  have hne1 : ¬ (w.heap.size = w.heap.size + 1 + 1) := by omega
  go_enter Tryd.func46, Tryd.ntmps46
  go_wp2_with fail
  go_region_held3 (fun w' => w'.cell? ⟨w.heap.size, 0, none⟩ = some (.bool m1) ∧ w'.cell? ⟨w.heap.size, 1, none⟩ = some (.slice A1 n1 c1) ∧ w'.cell? ⟨w.heap.size + 1, 0, none⟩ = some (.bool m2) ∧ w'.cell? ⟨w.heap.size + 1, 1, none⟩ = some (.slice A2 n2 c2)) (first | (exact ⟨by assumption, by assumption, by assumption, by assumption⟩) | ((try dsimp only); refine ⟨?_, ?_, ?_, ?_⟩ <;> (rw [World.cell?_setCell_far, World.cell?_setCell_far] <;> first | assumption | (dsimp only; omega))) | go_keep)
    (first
      | ((with_reducible refine (turned_c _ (.agg #[.bool m2, .slice A2 n2 c2]) z2 HI.out.1.2).mono ?_); rintro e w3 ⟨v3, rfl, hv3, hb⟩; have H3 := Lib.hid (And.intro (And.intro (HI.out.1.1.below hb) hv3) (HI.out.2.below hb)); clear hb hv3 a0 a1 b0 b1; obtain ⟨a0, a1, _, _⟩ := H3.out.2.1.cells; obtain ⟨b0, b1, _, _⟩ := H3.out.2.2.1.cells)
      | ((with_reducible refine (addInt_c _ (.agg #[.bool m1, .slice A1 n1 c1]) _ z1 (-z2) H3.out.1.1 H3.out.1.2 HL.out.1 HL.out.2.1 HL.out.2.2).mono ?_); rintro e w4 ⟨v4, rfl, hv4, hb⟩; obtain ⟨m4, A4, c4, n4, rfl, hm4, h4⟩ := hv4.cases; have H4 := Lib.hid (And.intro h4 (And.intro (H3.out.2.below hb) hm4)); clear hv4 hb h4 hm4 a0 a1 b0 b1; obtain ⟨a0, a1, _, _⟩ := H4.out.2.1.1.cells; obtain ⟨b0, b1, _, _⟩ := H4.out.2.1.2.1.cells; obtain ⟨r0, r1, g0, g1⟩ := H4.out.2.1.2.2.1.cells))
  all_goals
    go_wp2_with fail
    exact bodyPost_ret (v := .tuple #[.agg #[.bool m4, .slice A4 n4 c4], .int .i64 0]) (by simp [results, Tryd.results46, go_sem, r0, r1]) rfl (retI0_put (z := z1 - z2) H4.out.2.2 H4.out.2.1.2.2.1 rfl rfl (by omega) H4.out.1 H4.out.2.1.2.2.2)

/-- One boxed argument, and the result's variable. -/
def OneR (w : World) (g : Nat) (a1 b1 : Value) (wr : World) : Prop := BoxI wr g a1 b1 ∧ BoxI wr (g + 1) (.bool false) (.slice none 0 0) ∧ Below w.heap.size w wr
theorem OneR.new (w : World) (a1 b1 : Value) : OneR w w.heap.size a1 b1 ((w.alloc (.cells #[a1, b1] 59)).alloc (.cells #[.bool false, .slice none 0 0] 59)) := by
  have h := Two.new w a1 b1 (.bool false) (.slice none 0 0)
  exact h
theorem OneR.below {w wr w' : World} {g : Nat} {a1 b1 : Value} (h : OneR w g a1 b1 wr) (hb : Below wr.heap.size wr w') : OneR w g a1 b1 w' := ⟨h.1.below hb, h.2.1.below hb, below_trans h.2.2 hb⟩
theorem left_nm {w : World} {va : Value} {x : Nat} (n : Nat) (ha : Nm w va x) (hn : n ≤ 9223372036854775807) (hx : x * 2 ^ n < Lim) : Calls Tryd.prog 32 #[va, .int .i64 n] w (RetN0 w (x * 2 ^ n)) := by
  obtain ⟨A, c, xs, rfl, h1, rfl⟩ := ha
  refine (left_c w _ xs n h1.1 h1.2.1.1 h1.2.2 (by omega) (by omega)).mono fun _ _ h => ?_
  rcases h with ⟨h, _⟩ | ⟨_, hb, (⟨h, _⟩ | ⟨_, v, rfl, hN⟩)⟩
  · omega
  · simp only [Int.toNat_natCast] at h; omega
  · simp only [Int.toNat_natCast] at hN; exact ⟨v, rfl, Nm.of_numV hx hN, hb⟩
theorem right_nm {w : World} {va : Value} {x : Nat} (n : Nat) (ha : Nm w va x) (hn : n ≤ 9223372036854775807) (hx : x < Lim) : Calls Tryd.prog 85 #[va, .int .i64 n] w (RetN0 w (x / 2 ^ n)) := by
  obtain ⟨A, c, xs, rfl, h1, rfl⟩ := ha
  have hq : val 4294967296 xs / 2 ^ n < Lim := Nat.lt_of_le_of_lt (Nat.div_le_self _ _) hx
  refine (right_c w _ xs n h1.1 h1.2.1.1 h1.2.2 (by omega) (by omega) (by rw [Hid, Int.toNat_natCast]; exact hq)).mono fun _ _ h => ?_
  rcases h with ⟨h, _⟩ | ⟨_, hb, v, rfl, hN⟩
  · omega
  · simp only [Int.toNat_natCast] at hN; exact ⟨v, rfl, Nm.of_numV hq hN, hb⟩
theorem tail_nm {w : World} {va : Value} {x : Nat} (hT : Tab w) (ha : Nm w va x) : Calls Tryd.prog 86 #[va] w fun e w' => ∃ n : Nat, e = .returned (.int .i64 (n : Int)) ∧ IsTail n x ∧ w = w' := by
  obtain ⟨A, c, xs, rfl, h1, rfl⟩ := ha
  exact (tail_c w hT _ xs h1.1 h1.2.1.1 h1.2.2).mono fun _ _ ⟨hw, n, he, hn⟩ => ⟨n, he, hn, hw⟩
theorem sg_left (z : Int) (n : Nat) : sg (decide (z < 0)) (z.natAbs * 2 ^ n) = z * 2 ^ n := by
  have hp : (2 : Int) ^ n = ((2 ^ n : Nat) : Int) := by simp
  rcases Int.lt_or_le z 0 with a | a
  · obtain ⟨x, rfl⟩ : ∃ x : Nat, z = -(x : Int) := ⟨z.natAbs, by omega⟩
    rw [decide_eq_true a, hp]; simp [sg, Int.neg_mul]
  · obtain ⟨x, rfl⟩ : ∃ x : Nat, z = (x : Int) := ⟨z.natAbs, by omega⟩
    rw [decide_eq_false (by omega), hp]; simp [sg]

set_option maxRecDepth 100000 in
set_option maxHeartbeats 4000000 in
theorem leftInt_c (w : World) (v : Value) (z : Int) (n : Nat) (hv : Im w v z) (hn : n ≤ 9223372036854775807) (hs : LimI (z * 2 ^ n)) : Calls Tryd.prog 43 #[v, .int .i64 n] w (RetI0 w (z * 2 ^ n)) := by
  obtain ⟨m, A, c, k, rfl, hm, h1⟩ := hv.cases
  have HT := Lib.hid (OneR.new w (.bool m) (.slice A k c))
  have hsg := sg_left z n
  have hlim : z.natAbs * 2 ^ n < Lim := by have := hs; unfold LimI at this; rwa [← hsg, sg_natAbs] at this
  rw [hm] at hsg
  have HA := Lib.hid (And.intro hsg (And.intro hlim (h1.below HT.out.2.2)))
  obtain ⟨a0, a1, _, _⟩ := HT.out.1.cells
  obtain ⟨r0, r1, _, _⟩ := HT.out.2.1.cells
  clear hv hs hm h1 hsg hlim
  go_enter Tryd.func43, Tryd.ntmps43
  go_wp2_with fail
  refine (left_nm n HA.out.2.2 hn HA.out.2.1).mono ?_
  rintro e w3 ⟨v3, rfl, hv3, hb⟩
  have H3 := Lib.hid (And.intro hv3 (HT.out.below hb))
  clear hv3 hb a0 a1 r0 r1
  obtain ⟨a0, a1, _, _⟩ := H3.out.2.1.cells
  go_wp2_with fail
  refine (answer_ok w3 m v3 _ H3.out.1).mono ?_
  rintro e w4 ⟨v4, rfl, hv4, hb⟩
  rw [HA.out.1] at hv4
  obtain ⟨m4, A4, c4, n4, rfl, hm4, h4⟩ := hv4.cases
  have H4 := Lib.hid (And.intro h4 (And.intro (H3.out.2.below hb) hm4))
  clear hv4 hb h4 hm4 a0 a1
  obtain ⟨r0, r1, g0, g1⟩ := H4.out.2.1.2.1.cells
  go_wp2_with fail
  exact bodyPost_ret (v := .tuple #[.agg #[.bool m4, .slice A4 n4 c4], .int .i64 0]) (by simp [results, Tryd.results43, go_sem, r0, r1]) rfl (retI0_put H4.out.2.2 H4.out.2.1.2.1 rfl rfl (by omega) H4.out.1 H4.out.2.1.2.2)
end Go.Proofs.YtdaoechbaejjmaaDoor
