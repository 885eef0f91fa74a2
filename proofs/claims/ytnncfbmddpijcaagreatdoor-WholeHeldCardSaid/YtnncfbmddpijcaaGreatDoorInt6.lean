
/- Whole numbers: divided, rounded down. -/
import Derived.Test.YtnncfbmddpijcaaGreatDoorInt
import Derived.Test.YtnncfbmddpijcaaGreatDoorParse
namespace Go.Proofs.YtnncfbmddpijcaaGreatDoor
open Go Go.RowKit Go.Shelf
attribute [local go_sem ↓] Go.wp_at_zero Go.wp_at_succ

theorem tail_less {t x n : Nat} (h : IsTail t x) (hx : 0 < x) : decide ((t : Int) < (n : Int)) = decide (x % 2 ^ n ≠ 0) := by
  obtain ⟨h1, h2⟩ := isTail_mod h hx
  rw [decide_eq_decide]
  constructor
  · intro hlt h0
    exact h2 (Nat.mod_eq_zero_of_dvd (Nat.dvd_trans (Nat.pow_dvd_pow 2 (by omega)) (Nat.dvd_of_mod_eq_zero h0)))
  · intro h0
    rcases Nat.lt_or_ge t n with a | a
    · omega
    · exact absurd (Nat.mod_eq_zero_of_dvd (Nat.dvd_trans (Nat.pow_dvd_pow 2 a) (Nat.dvd_of_mod_eq_zero h1))) h0
theorem pos_div (x y : Nat) : (x : Int) / (y : Int) = ((x / y : Nat) : Int) ∧ (x : Int) % (y : Int) = ((x % y : Nat) : Int) := by simp
theorem neg_div {x y k r : Nat} (hy : 0 < y) (e : y * k + r = x) (hr : r < y) :
    (r = 0 → (-(x : Int)) / (y : Int) = -(k : Int) ∧ (-(x : Int)) % (y : Int) = 0) ∧ (r ≠ 0 → (-(x : Int)) / (y : Int) = -((k + 1 : Nat) : Int) ∧ (-(x : Int)) % (y : Int) = ((y - r : Nat) : Int)) := by
  have e2 : (x : Int) = (y : Int) * (k : Int) + (r : Int) := by rw [← e]; simp
  constructor
  · intro h0
    refine (Int.ediv_emod_unique (by omega)).2 ⟨?_, by omega, by omega⟩
    rw [e2, Int.mul_neg]; omega
  · intro h0
    refine (Int.ediv_emod_unique (by omega)).2 ⟨?_, by omega, by omega⟩
    rw [e2, Int.mul_neg, Int.natCast_add, Int.mul_add, Int.natCast_one, Int.mul_one]; omega
theorem neg_div0 {x y : Nat} (hy : 0 < y) (h : x % y = 0) : (-(x : Int)) / (y : Int) = -((x / y : Nat) : Int) ∧ (-(x : Int)) % (y : Int) = 0 :=
  (neg_div hy (Nat.div_add_mod x y) (Nat.mod_lt _ hy)).1 h
theorem neg_div1 {x y : Nat} (hy : 0 < y) (h : x % y ≠ 0) : (-(x : Int)) / (y : Int) = -((x / y + 1 : Nat) : Int) ∧ (-(x : Int)) % (y : Int) = ((y - x % y : Nat) : Int) :=
  (neg_div hy (Nat.div_add_mod x y) (Nat.mod_lt _ hy)).2 h
/-- There is room for one more. -/
theorem more_room {x y : Nat} (hy : 0 < y) (h : x % y ≠ 0) : x / y + 1 ≤ x := by
  have e := Nat.div_add_mod x y
  have hr := Nat.mod_lt x hy
  have h2 : 2 * (x / y) ≤ y * (x / y) := Nat.mul_le_mul_right _ (by omega)
  omega

theorem sg_right0 {z : Int} {n : Nat} (h : 0 ≤ z) : sg (decide (z < 0)) (z.natAbs / 2 ^ n) = z / 2 ^ n := by
  obtain ⟨x, rfl⟩ : ∃ x : Nat, z = (x : Int) := ⟨z.natAbs, by omega⟩
  have hp : (2 : Int) ^ n = ((2 ^ n : Nat) : Int) := by simp
  rw [decide_eq_false (by omega), hp, (pos_div x (2 ^ n)).1]; simp [sg]
theorem sg_right1 {z : Int} {n : Nat} (h : z < 0) (h0 : z.natAbs % 2 ^ n = 0) : sg (decide (z < 0)) (z.natAbs / 2 ^ n) = z / 2 ^ n := by
  obtain ⟨x, rfl⟩ : ∃ x : Nat, z = -(x : Int) := ⟨z.natAbs, by omega⟩
  have hp : (2 : Int) ^ n = ((2 ^ n : Nat) : Int) := by simp
  rw [Int.natAbs_neg, Int.natAbs_natCast] at h0 ⊢
  rw [decide_eq_true h, hp, (neg_div0 (Nat.pow_pos (by omega)) h0).1]; simp [sg]
theorem sg_right2 {z : Int} {n : Nat} (h : z < 0) (h0 : z.natAbs % 2 ^ n ≠ 0) : sg (decide (z < 0)) (z.natAbs / 2 ^ n + 1) = z / 2 ^ n := by
  obtain ⟨x, rfl⟩ : ∃ x : Nat, z = -(x : Int) := ⟨z.natAbs, by omega⟩
  have hp : (2 : Int) ^ n = ((2 ^ n : Nat) : Int) := by simp
  rw [Int.natAbs_neg, Int.natAbs_natCast] at h0 ⊢
  rw [decide_eq_true h, hp, (neg_div1 (Nat.pow_pos (by omega)) h0).1]; simp [sg]

set_option maxRecDepth 100000 in
set_option maxHeartbeats 4000000 in
theorem rightInt_c (w : World) (hT : Tab w) (v : Value) (z : Int) (n : Nat) (hv : Im w v z) (hn : n ≤ 9223372036854775807) (hs : LimI z) : Calls Tryz.prog 64 #[v, .int .i64 n] w (RetI0 w (z / 2 ^ n)) := by
  have HV := Lib.hid hv
  obtain ⟨m, A, c, k, rfl, hm, h1⟩ := hv.cases
  have HT := Lib.hid (OneR.new w (.bool m) (.slice A k c))
  have HB := Lib.hid (And.intro hT (And.intro hs hm))
  have HA := Lib.hid (h1.below HT.out.2.2)
  obtain ⟨a0, a1, _, _⟩ := HT.out.1.cells
  obtain ⟨r0, r1, _, _⟩ := HT.out.2.1.cells
  clear hv hs hm h1 hT
  go_enter Tryz.func64, Tryz.ntmps64
  go_wp2_with fail
  refine (right_nm n HA.out hn HB.out.2.1).mono ?_
  rintro e w3 ⟨v3, rfl, hv3, hb⟩
  have H3 := Lib.hid (And.intro (And.intro hv3 (HA.out.below hb)) (HT.out.below hb))
  clear hv3 hb a0 a1 r0 r1
  obtain ⟨a0, a1, _, _⟩ := H3.out.2.1.cells
  go_wp2_with fail
  refine (sign_c w3 (.agg #[.bool m, .slice A k c]) z (HV.out.below H3.out.2.2.2)).mono ?_
  rintro e w4 ⟨rfl, hb⟩
  have H4 := Lib.hid (And.intro (And.intro (H3.out.1.1.below hb) (H3.out.1.2.below hb)) (H3.out.2.below hb))
  clear hb a0 a1
  obtain ⟨a0, a1, _, _⟩ := H4.out.2.1.cells
  by_cases hz : z < 0
  · have hsz : sign3 z = -1 := by unfold sign3; rw [if_pos hz]
    rw [hsz]
    have Hz := Lib.hid hz
    clear hsz hz
    go_wp2_with fail
    refine (tail_nm (HB.out.1.below H4.out.2.2.2) H4.out.1.2).mono ?_
    rintro e w5 ⟨t, rfl, ht, rfl⟩
    have hd := tail_less (n := n) ht (by have := Hz.out; omega)
    clear ht
    by_cases h0 : z.natAbs % 2 ^ n ≠ 0
    · have hd2 : decide ((t : Int) < (n : Int)) = true := by rw [hd]; exact decide_eq_true h0
      have hd3 : t < n := by have := of_decide_eq_true hd2; omega
      have hroom := more_room (Nat.pow_pos (by omega)) h0
      have hsg := sg_right2 Hz.out h0
      rw [HB.out.2.2] at hsg
      have HS := Lib.hid (And.intro hsg hroom)
      clear hd h0 hroom hsg
      go_wp2_with fail
      refine (of_n w4 1 (by omega)).mono ?_
      rintro e w5 ⟨v5, rfl, hv5, hb⟩
      have H5 := Lib.hid (And.intro (And.intro (H4.out.1.1.below hb) hv5) (H4.out.2.below hb))
      clear hv5 hb a0 a1
      obtain ⟨a0, a1, _, _⟩ := H5.out.2.1.cells
      go_wp2_with fail
      refine (add_n H5.out.1.1 H5.out.1.2 (Nat.lt_of_le_of_lt HS.out.2 HB.out.2.1)).mono ?_
      rintro e w6 ⟨v6, rfl, hv6, hb⟩
      have H6 := Lib.hid (And.intro hv6 (H5.out.2.below hb))
      clear hv6 hb a0 a1
      obtain ⟨a0, a1, _, _⟩ := H6.out.2.1.cells
      go_wp2_with fail
      refine (answer_ok w6 m v6 _ H6.out.1).mono ?_
      rintro e w7 ⟨v7, rfl, hv7, hb⟩
      rw [HS.out.1] at hv7
      obtain ⟨m4, A4, c4, n4, rfl, hm4, h4⟩ := hv7.cases
      have H7 := Lib.hid (And.intro h4 (And.intro (H6.out.2.below hb) hm4))
      clear hv7 hb h4 hm4 a0 a1
      obtain ⟨r0, r1, g0, g1⟩ := H7.out.2.1.2.1.cells
      go_wp2_with fail
      exact bodyPost_ret (v := .tuple #[.agg #[.bool m4, .slice A4 n4 c4], .int .i64 0]) (by simp [results, Tryz.results64, go_sem, r0, r1]) rfl (retI0_put H7.out.2.2 H7.out.2.1.2.1 rfl rfl (by omega) H7.out.1 H7.out.2.1.2.2)
    · have hd2 : decide ((t : Int) < (n : Int)) = false := by rw [hd]; exact decide_eq_false h0
      have hd3 : ¬ t < n := by have := of_decide_eq_false hd2; omega
      have hsg := sg_right1 (n := n) Hz.out (by omega)
      rw [HB.out.2.2] at hsg
      have HS := Lib.hid hsg
      clear hd h0 hsg
      go_wp2_with fail
      refine (answer_ok w4 m v3 _ H4.out.1.1).mono ?_
      rintro e w7 ⟨v7, rfl, hv7, hb⟩
      rw [HS.out] at hv7
      obtain ⟨m4, A4, c4, n4, rfl, hm4, h4⟩ := hv7.cases
      have H7 := Lib.hid (And.intro h4 (And.intro (H4.out.2.below hb) hm4))
      clear hv7 hb h4 hm4 a0 a1
      obtain ⟨r0, r1, g0, g1⟩ := H7.out.2.1.2.1.cells
      go_wp2_with fail
      exact bodyPost_ret (v := .tuple #[.agg #[.bool m4, .slice A4 n4 c4], .int .i64 0]) (by simp [results, Tryz.results64, go_sem, r0, r1]) rfl (retI0_put H7.out.2.2 H7.out.2.1.2.1 rfl rfl (by omega) H7.out.1 H7.out.2.1.2.2)
  · have hsz : decide (sign3 z < 0) = false := by rw [decide_eq_false_iff_not]; unfold sign3; rw [if_neg hz]; split <;> omega
    generalize sign3 z = sz at hsz ⊢
    have hsg := sg_right0 (n := n) (by omega : 0 ≤ z)
    rw [HB.out.2.2] at hsg
    have HS := Lib.hid hsg
    clear hsg hz
    go_wp2_with fail
    refine (answer_ok w4 m v3 _ H4.out.1.1).mono ?_
    rintro e w7 ⟨v7, rfl, hv7, hb⟩
    rw [HS.out] at hv7
    obtain ⟨m4, A4, c4, n4, rfl, hm4, h4⟩ := hv7.cases
    have H7 := Lib.hid (And.intro h4 (And.intro (H4.out.2.below hb) hm4))
    clear hv7 hb h4 hm4 a0 a1
    obtain ⟨r0, r1, g0, g1⟩ := H7.out.2.1.2.1.cells
    go_wp2_with fail
    exact bodyPost_ret (v := .tuple #[.agg #[.bool m4, .slice A4 n4 c4], .int .i64 0]) (by simp [results, Tryz.results64, go_sem, r0, r1]) rfl (retI0_put H7.out.2.2 H7.out.2.1.2.1 rfl rfl (by omega) H7.out.1 H7.out.2.1.2.2)

set_option maxRecDepth 100000 in
theorem upwards_c (w : World) (v1 v2 v3 : Value) (k r y : Nat) (h1 : Nm w v1 k) (h2 : Nm w v2 r) (h3 : Nm w v3 y) (hk : k + 1 < Lim) (hr : r ≤ y) (hy : y < Lim) :
    Calls Tryz.prog 101 #[v1, v2, v3] w fun e w' => ∃ u1 u2, e = .returned (.tuple #[u1, u2, .int .i64 0]) ∧ Nm w' u1 (k + 1) ∧ Nm w' u2 (y - r) ∧ Below w.heap.size w w' := by
  have H := Lib.hid (And.intro h1 (And.intro h2 h3))
  clear h1 h2 h3
  go_enter Tryz.func101, Tryz.ntmps101
  go_wp2_with fail
  refine (of_n w 1 (by omega)).mono ?_
  rintro e w5 ⟨v5, rfl, hv5, hb⟩
  have H5 := Lib.hid (And.intro (And.intro (H.out.1.below hb) (And.intro (H.out.2.1.below hb) (And.intro (H.out.2.2.below hb) hv5))) hb)
  clear hv5 hb
  go_wp2_with fail
  refine (add_n H5.out.1.1 H5.out.1.2.2.2 hk).mono ?_
  rintro e w6 ⟨v6, rfl, hv6, hb⟩
  have H6 := Lib.hid (And.intro (And.intro hv6 (And.intro (H5.out.1.2.1.below hb) (H5.out.1.2.2.1.below hb))) (below_trans H5.out.2 hb))
  clear hv6 hb
  go_wp2_with fail
  refine (sub_n H6.out.1.2.2 H6.out.1.2.1 hr hy).mono ?_
  rintro e w7 ⟨v7, rfl, hv7, hb⟩
  have H7 := Lib.hid (And.intro (And.intro (H6.out.1.1.below hb) hv7) (below_trans H6.out.2 hb))
  clear hv7 hb
  go_wp2_with fail
  exact bodyPost_ret (v := .tuple #[v6, v7, .int .i64 0]) (by simp [results, Tryz.results101, go_sem]) rfl ⟨_, _, rfl, H7.out.1.1, H7.out.1.2, H7.out.2⟩

theorem sg_div0 {x y : Nat} {z1 z2 : Int} (hx : z1.natAbs = x) (hy : z2.natAbs = y) (h0 : 0 < y) (h : ¬ (z1 < 0 ∧ x % y ≠ 0)) : sg (decide (z1 < 0) != decide (z2 < 0)) (x / y) = z1 / z2 ∧ ((x % y : Nat) : Int) = z1 % z2 := by
  rcases Int.lt_or_le z1 0 with a | a
  · obtain rfl : z1 = -(x : Int) := by omega
    have hr : x % y = 0 := by
      rcases Nat.eq_zero_or_pos (x % y) with e | e
      · exact e
      · exact absurd ⟨a, by omega⟩ h
    have hd := neg_div0 h0 hr
    rcases Int.lt_or_le z2 0 with b | b
    · obtain rfl : z2 = -(y : Int) := by omega
      rw [decide_eq_true a, decide_eq_true b, Int.ediv_neg, Int.emod_neg, hd.1, hd.2, hr]; simp [sg]
    · obtain rfl : z2 = (y : Int) := by omega
      rw [decide_eq_true a, decide_eq_false (by omega), hd.1, hd.2, hr]; simp [sg]
  · obtain rfl : z1 = (x : Int) := by omega
    have hd := pos_div x y
    rcases Int.lt_or_le z2 0 with b | b
    · obtain rfl : z2 = -(y : Int) := by omega
      rw [decide_eq_false (by omega), decide_eq_true b, Int.ediv_neg, Int.emod_neg, hd.1, hd.2]; simp [sg]
    · obtain rfl : z2 = (y : Int) := by omega
      rw [decide_eq_false (by omega), decide_eq_false (by omega), hd.1, hd.2]; simp [sg]
theorem sg_div1 {x y : Nat} {z1 z2 : Int} (hx : z1.natAbs = x) (hy : z2.natAbs = y) (h0 : 0 < y) (a : z1 < 0) (hr : x % y ≠ 0) : sg (decide (z1 < 0) != decide (z2 < 0)) (x / y + 1) = z1 / z2 ∧ ((y - x % y : Nat) : Int) = z1 % z2 := by
  obtain rfl : z1 = -(x : Int) := by omega
  have hd := neg_div1 h0 hr
  rcases Int.lt_or_le z2 0 with b | b
  · obtain rfl : z2 = -(y : Int) := by omega
    rw [decide_eq_true a, decide_eq_true b, Int.ediv_neg, Int.emod_neg, hd.1, hd.2]; simp [sg]
  · obtain rfl : z2 = (y : Int) := by omega
    rw [decide_eq_true a, decide_eq_false (by omega), hd.1, hd.2]; simp [sg]

/-- Two boxed arguments, and the two results' variables. -/
def Four (w : World) (g : Nat) (a1 b1 a2 b2 : Value) (wr : World) : Prop := Three w g a1 b1 a2 b2 wr ∧ BoxI wr (g + 3) (.bool false) (.slice none 0 0)
theorem Four.new (w : World) (a1 b1 a2 b2 : Value) : Four w w.heap.size a1 b1 a2 b2 ((((w.alloc (.cells #[a1, b1] 25)).alloc (.cells #[a2, b2] 25)).alloc (.cells #[.bool false, .slice none 0 0] 25)).alloc (.cells #[.bool false, .slice none 0 0] 25)) := by
  have h := Three.new w a1 b1 a2 b2
  have h3 := BoxI.new (((w.alloc (.cells #[a1, b1] 25)).alloc (.cells #[a2, b2] 25)).alloc (.cells #[.bool false, .slice none 0 0] 25)) (.bool false) (.slice none 0 0)
  have hb := box_below (((w.alloc (.cells #[a1, b1] 25)).alloc (.cells #[a2, b2] 25)).alloc (.cells #[.bool false, .slice none 0 0] 25)) (.bool false) (.slice none 0 0)
  rw [alloc_size, alloc_size, alloc_size] at h3
  exact ⟨h.below hb, h3⟩
theorem Four.below {w wr w' : World} {g : Nat} {a1 b1 a2 b2 : Value} (h : Four w g a1 b1 a2 b2 wr) (hb : Below wr.heap.size wr w') : Four w g a1 b1 a2 b2 w' := ⟨h.1.below hb, h.2.below hb⟩
theorem BoxI.put {w : World} {g : Nat} {a b a' b' : Value} (h : BoxI w g a b) : BoxI ((w.setCell ⟨g, 0, none⟩ a').setCell ⟨g, 1, none⟩ b') g a' b' := (h.set0 a').set1 b'
theorem BoxI.apart {w : World} {g g' : Nat} {a b a' b' : Value} (h : BoxI w g a b) (hg : g ≠ g') : BoxI ((w.setCell ⟨g', 0, none⟩ a').setCell ⟨g', 1, none⟩ b') g a b := (h.far (p := ⟨g', 0, none⟩) hg a').far (p := ⟨g', 1, none⟩) hg b'

def RetDivI (w : World) (q r : Int) (e : Ending) (w' : World) : Prop := ∃ v1 v2, e = .returned (.tuple #[v1, v2, .int .i64 0]) ∧ Im w' v1 q ∧ Im w' v2 r ∧ Below w.heap.size w w'
theorem retDivI_put {w w2 : World} {A A' : Option Addr} {c n c' n' g g' : Nat} {q r : Int} {m m' : Bool} {a b a' b' : Value} (hm : decide (q < 0) = m) (hm' : decide (r < 0) = m') (hB : BoxI w2 g a b) (hB' : BoxI w2 g' a' b') (hgg : g' ≠ g) (ha : notNum a = true) (hb : notNum b = true) (ha' : notNum a' = true) (hb' : notNum b' = true) (hg : w.heap.size ≤ g) (hg' : w.heap.size ≤ g') (h1 : Nm w2 (.slice A n c) q.natAbs) (h2 : Nm w2 (.slice A' n' c') r.natAbs) (hw : Below w.heap.size w w2) :
    RetDivI w q r (.returned (.tuple #[.agg #[.bool m, .slice A n c], .agg #[.bool m', .slice A' n' c'], .int .i64 0])) ((((w2.setCell ⟨g, 0, none⟩ (.bool m)).setCell ⟨g, 1, none⟩ (.slice A n c)).setCell ⟨g', 0, none⟩ (.bool m')).setCell ⟨g', 1, none⟩ (.slice A' n' c')) := by
  subst hm hm'
  exact ⟨_, _, rfl, ⟨A, c, n, rfl, (h1.put hB ha hb rfl).put (hB'.apart hgg) ha' hb' rfl⟩, ⟨A', c', n', rfl, (h2.put hB ha hb rfl).put (hB'.apart hgg) ha' hb' rfl⟩, (hw.trans (below_put hg)).trans (below_put hg')⟩

set_option maxRecDepth 100000 in
set_option maxHeartbeats 8000000 in
theorem divInt_c (w : World) (v1 v2 : Value) (z1 z2 : Int) (hv1 : Im w v1 z1) (hv2 : Im w v2 z2) (h1 : LimI z1) (h2 : LimI z2) (h0 : z2 ≠ 0) : Calls Tryz.prog 86 #[v1, v2] w (RetDivI w (z1 / z2) (z1 % z2)) := by
  obtain ⟨m1, A1, c1, n1, rfl, hm1, k1⟩ := hv1.cases
  obtain ⟨m2, A2, c2, n2, rfl, hm2, k2⟩ := hv2.cases
  have HT := Lib.hid (Four.new w (.bool m1) (.slice A1 n1 c1) (.bool m2) (.slice A2 n2 c2))
  rcases Bool.eq_false_or_eq_true m2 with e2 | e2
  all_goals
    subst e2
    obtain ⟨x, hx⟩ : ∃ x, z1.natAbs = x := ⟨_, rfl⟩
    obtain ⟨y, hy⟩ : ∃ y, z2.natAbs = y := ⟨_, rfl⟩
    unfold LimI at h1 h2
    rw [hx] at k1 h1
    rw [hy] at k2 h2
    have HL := Lib.hid (And.intro h1 (And.intro h2 (And.intro (show 0 < y by omega) (And.intro hm1 hm2))))
    have HX := Lib.hid (And.intro hx hy)
    have HI := Lib.hid (And.intro (k1.below HT.out.1.2.2.2) (k2.below HT.out.1.2.2.2))
    obtain ⟨a0, a1, _, _⟩ := HT.out.1.1.cells
    obtain ⟨b0, b1, _, _⟩ := HT.out.1.2.1.cells
    clear hv1 hv2 hx hy h1 h2 h0 hm1 hm2 k1 k2
    go_enter Tryz.func86, Tryz.ntmps86
    go_wp2_with fail
    refine (div_n HI.out.1 HI.out.2 HL.out.2.2.1 HL.out.1).mono ?_
    rintro e w3 ⟨q3, r3, rfl, hq, hr, hb⟩
    obtain ⟨Ar, cr, nr, rfl, hpos, _⟩ := hr.slice
    have H3 := Lib.hid (And.intro (And.intro hq (And.intro hr (HI.out.2.below hb))) (HT.out.below hb))
    have HP := Lib.hid hpos
    clear hq hr hb hpos a0 a1 b0 b1
    obtain ⟨a0, a1, _, _⟩ := H3.out.2.1.1.cells
    obtain ⟨b0, b1, _, _⟩ := H3.out.2.1.2.1.cells
    by_cases hc : z1 < 0 ∧ x % y ≠ 0
    · obtain rfl : m1 = true := by rw [← HL.out.2.2.2.1]; exact decide_eq_true hc.1
      have hlen : decide ((nr : Int) > 0) = true := by rw [HP.out]; exact decide_eq_true (by have := hc.2; omega)
      have hlen3 : 0 < nr := by have := of_decide_eq_true hlen; omega
      have hroom := more_room HL.out.2.2.1 hc.2
      have hsg := sg_div1 HX.out.1 HX.out.2 HL.out.2.2.1 hc.1 hc.2
      rw [HL.out.2.2.2.1, HL.out.2.2.2.2] at hsg
      have HS := Lib.hid (And.intro hsg hroom)
      clear hc hroom hsg
      go_wp2_with fail
      refine (upwards_c w3 q3 _ _ _ _ _ H3.out.1.1 H3.out.1.2.1 H3.out.1.2.2 (Nat.lt_of_le_of_lt HS.out.2 HL.out.1) (Nat.le_of_lt (Nat.mod_lt _ HL.out.2.2.1)) HL.out.2.1).mono ?_
      rintro e w4 ⟨u1, u2, rfl, hq, hr, hb⟩
      have H4 := Lib.hid (And.intro (And.intro hq hr) (H3.out.2.below hb))
      clear hq hr hb a0 a1 b0 b1
      obtain ⟨a0, a1, _, _⟩ := H4.out.2.1.1.cells
      obtain ⟨b0, b1, _, _⟩ := H4.out.2.1.2.1.cells
      go_wp2_with fail
      refine (signed_c w4 _ u1 _ H4.out.1.1).mono ?_
      rintro e w5 ⟨v5, rfl, hv5, hb⟩
      have H5 := Lib.hid (And.intro (And.intro hv5 (H4.out.1.2.below hb)) (H4.out.2.below hb))
      clear hv5 hb a0 a1 b0 b1
      go_wp2_with fail
      refine (signed_c w5 false u2 _ H5.out.1.2).mono ?_
      rintro e w6 ⟨v6, rfl, hv6, hb⟩
      have hv5 : Im w6 v5 (z1 / z2) := Eq.mp (congrArg (Im w6 v5) HS.out.1.1) (H5.out.1.1.below hb)
      rw [show sg false (y - x % y) = z1 % z2 from HS.out.1.2] at hv6
      obtain ⟨m5, A5, c5, n5, rfl, hm5, k5⟩ := hv5.cases
      obtain ⟨m6, A6, c6, n6, rfl, hm6, k6⟩ := hv6.cases
      have H6 := Lib.hid (And.intro (And.intro k5 (And.intro k6 (And.intro hm5 hm6))) (H5.out.2.below hb))
      clear hv5 hv6 k5 k6 hm5 hm6 hb
      obtain ⟨r0, r1, f0, f1⟩ := H6.out.2.1.2.2.1.cells
      obtain ⟨s0, s1, g0, g1⟩ := H6.out.2.2.cells
      go_wp2_with fail
      exact bodyPost_ret (v := .tuple #[.agg #[.bool m5, .slice A5 n5 c5], .agg #[.bool m6, .slice A6 n6 c6], .int .i64 0]) (by simp [results, Tryz.results86, go_sem, r0, r1, s0, s1, World.cell?_setCell_far]) rfl (retDivI_put H6.out.1.2.2.1 H6.out.1.2.2.2 H6.out.2.1.2.2.1 H6.out.2.2 (by omega) rfl rfl rfl rfl (by omega) (by omega) H6.out.1.1 H6.out.1.2.1 H6.out.2.1.2.2.2)
    · have hlen : m1 = true → decide ((nr : Int) > 0) = false := by
        intro e
        rw [HP.out]
        refine decide_eq_false fun h => hc ⟨?_, by omega⟩
        have := HL.out.2.2.2.1; rw [e] at this; exact of_decide_eq_true this
      have hsg := sg_div0 HX.out.1 HX.out.2 HL.out.2.2.1 hc
      rw [HL.out.2.2.2.1, HL.out.2.2.2.2] at hsg
      have HS := Lib.hid hsg
      clear hc hsg
      rcases Bool.eq_false_or_eq_true m1 with em | em
      all_goals
        subst em
        first | (have hlen := hlen rfl; have hlen3 : ¬ 0 < nr := by have := of_decide_eq_false hlen; omega) | clear hlen
        go_wp2_with fail
        refine (signed_c w3 _ q3 _ H3.out.1.1).mono ?_
        rintro e w5 ⟨v5, rfl, hv5, hb⟩
        have H5 := Lib.hid (And.intro (And.intro hv5 (H3.out.1.2.1.below hb)) (H3.out.2.below hb))
        clear hv5 hb a0 a1 b0 b1
        go_wp2_with fail
        refine (signed_c w5 false _ _ H5.out.1.2).mono ?_
        rintro e w6 ⟨v6, rfl, hv6, hb⟩
        have hv5 : Im w6 v5 (z1 / z2) := Eq.mp (congrArg (Im w6 v5) HS.out.1) (H5.out.1.1.below hb)
        rw [show sg false (x % y) = z1 % z2 from HS.out.2] at hv6
        obtain ⟨m5, A5, c5, n5, rfl, hm5, k5⟩ := hv5.cases
        obtain ⟨m6, A6, c6, n6, rfl, hm6, k6⟩ := hv6.cases
        have H6 := Lib.hid (And.intro (And.intro k5 (And.intro k6 (And.intro hm5 hm6))) (H5.out.2.below hb))
        clear hv5 hv6 k5 k6 hm5 hm6 hb
        obtain ⟨r0, r1, f0, f1⟩ := H6.out.2.1.2.2.1.cells
        obtain ⟨s0, s1, g0, g1⟩ := H6.out.2.2.cells
        go_wp2_with fail
        exact bodyPost_ret (v := .tuple #[.agg #[.bool m5, .slice A5 n5 c5], .agg #[.bool m6, .slice A6 n6 c6], .int .i64 0]) (by simp [results, Tryz.results86, go_sem, r0, r1, s0, s1, World.cell?_setCell_far]) rfl (retDivI_put H6.out.1.2.2.1 H6.out.1.2.2.2 H6.out.2.1.2.2.1 H6.out.2.2 (by omega) rfl rfl rfl rfl (by omega) (by omega) H6.out.1.1 H6.out.1.2.1 H6.out.2.1.2.2.2)
end Go.Proofs.YtnncfbmddpijcaaGreatDoor

/- Whole numbers: of small ones, small ones of them, what may be, texts. -/
namespace Go.Proofs.YtnncfbmddpijcaaGreatDoor
open Go Go.RowKit Go.Shelf
attribute [local go_sem ↓] Go.wp_at_zero Go.wp_at_succ

set_option maxRecDepth 100000 in
theorem divInt_zero (w : World) (v1 v2 : Value) (z1 : Int) (hv1 : Im w v1 z1) (hv2 : Im w v2 0) : Calls Tryz.prog 86 #[v1, v2] w fun e w' => e = .returned (.tuple #[.agg #[.bool false, .slice none 0 0], .agg #[.bool false, .slice none 0 0], .int .i64 10]) ∧ Below w.heap.size w w' := by
  obtain ⟨m1, A1, c1, n1, rfl, hm1, k1⟩ := hv1.cases
  obtain ⟨m2, A2, c2, n2, rfl, hm2, k2⟩ := hv2.cases
  have HT := Lib.hid (Four.new w (.bool m1) (.slice A1 n1 c1) (.bool m2) (.slice A2 n2 c2))
  have HI := Lib.hid (And.intro (k1.below HT.out.1.2.2.2) (k2.below HT.out.1.2.2.2))
  obtain ⟨a0, a1, _, _⟩ := HT.out.1.1.cells
  obtain ⟨b0, b1, _, _⟩ := HT.out.1.2.1.cells
  clear hv1 hv2 hm1 hm2 k1 k2
  go_enter Tryz.func86, Tryz.ntmps86
  go_wp2_with fail
  refine (div_zero_n HI.out.1 HI.out.2).mono ?_
  rintro e w3 ⟨rfl, hb⟩
  have H3 := Lib.hid (HT.out.below hb)
  clear hb a0 a1 b0 b1
  obtain ⟨a0, a1, _, _⟩ := H3.out.1.1.cells
  obtain ⟨r0, r1, f0, f1⟩ := H3.out.1.2.2.1.cells
  obtain ⟨s0, s1, g0, g1⟩ := H3.out.2.cells
  go_wp2_with fail
  exact bodyPost_ret (v := .tuple #[.agg #[.bool false, .slice none 0 0], .agg #[.bool false, .slice none 0 0], .int .i64 10]) (by simp [results, Tryz.results86, go_sem, r0, r1, s0, s1, World.cell?_setCell_far]) rfl ⟨rfl, (H3.out.1.2.2.2.trans (below_put (by omega))).trans (below_put (by omega))⟩

theorem wrap_u64 (n : Int) : IntKind.u64.wrap n = n % 18446744073709551616 := by simp [IntKind.wrap, IntKind.bits, IntKind.signed]
theorem wrap_i64 (n : Int) : IntKind.i64.wrap n = if n % 18446744073709551616 ≥ 9223372036854775808 then n % 18446744073709551616 - 18446744073709551616 else n % 18446744073709551616 := by simp [IntKind.wrap, IntKind.bits, IntKind.signed]
theorem wrap_u {n : Int} (h : n < 0) (hlo : -9223372036854775808 ≤ n) : IntKind.u64.wrap n = n + 18446744073709551616 := by
  rw [wrap_u64]; omega
theorem wrap_up {n : Int} (h : 0 ≤ n) (hhi : n < 18446744073709551616) : IntKind.u64.wrap n = n := by
  rw [wrap_u64]; omega

set_option maxRecDepth 100000 in
theorem ofInt_c (w : World) (n : Int) (hlo : -9223372036854775808 ≤ n) (hhi : n ≤ 9223372036854775807) : Calls Tryz.prog 24 #[.int .i64 n] w (RetI w n) := by
  have HN := Lib.hid (BoxI.new w (.bool false) (.slice none 0 0))
  have HW := Lib.hid (box_below w (.bool false) (.slice none 0 0))
  go_enter Tryz.func24, Tryz.ntmps24
  by_cases hn : n < 0
  · obtain ⟨m, hm⟩ : ∃ m : Nat, -n = m := ⟨(-n).toNat, by omega⟩
    have hd : decide (n < 0) = true := decide_eq_true hn
    have e1 := wrap_u hn hlo
    have e2 : IntKind.u64.wrap (-(n + 18446744073709551616)) = (m : Int) := by rw [wrap_u64]; omega
    have HM := Lib.hid (And.intro hm hn)
    clear hm hn
    go_wp2_with fail
    refine (of_n _ m (by have := HM.out; omega)).mono ?_
    rintro e w3 ⟨v3, rfl, hv3, hb⟩
    have H3 := Lib.hid (And.intro hv3 (And.intro (HN.out.below hb) (below_trans HW.out hb)))
    clear hv3 hb
    go_wp2_with fail
    refine (signed_c w3 true v3 m H3.out.1).mono ?_
    rintro e w4 ⟨v4, rfl, hv4, hb⟩
    rw [show sg true m = n by unfold sg; rw [if_pos rfl]; have := HM.out; omega] at hv4
    obtain ⟨m4, A4, c4, n4, rfl, hm4, h4⟩ := hv4.cases
    have H4 := Lib.hid (And.intro h4 (And.intro (H3.out.2.1.below hb) (And.intro (below_trans H3.out.2.2 hb) hm4)))
    clear hv4 hb h4 hm4
    obtain ⟨r0, r1, g0, g1⟩ := H4.out.2.1.cells
    go_wp2_with fail
    exact bodyPost_ret (v := .agg #[.bool m4, .slice A4 n4 c4]) (by simp [results, Tryz.results24, go_sem, r0, r1]) rfl (retI_put H4.out.2.2.2 H4.out.2.1 rfl rfl (by omega) H4.out.1 H4.out.2.2.1)
  · obtain ⟨m, rfl⟩ : ∃ m : Nat, n = m := ⟨n.toNat, by omega⟩
    have hd : decide ((m : Int) < 0) = false := decide_eq_false hn
    have e1 : IntKind.u64.wrap (m : Int) = (m : Int) := wrap_up (by omega) (by omega)
    have HM := Lib.hid (And.intro hhi hn)
    clear hn
    go_wp2_with fail
    refine (of_n _ m (by omega)).mono ?_
    rintro e w3 ⟨v3, rfl, hv3, hb⟩
    have H3 := Lib.hid (And.intro hv3 (And.intro (HN.out.below hb) (below_trans HW.out hb)))
    clear hv3 hb
    go_wp2_with fail
    refine (signed_c w3 false v3 m H3.out.1).mono ?_
    rintro e w4 ⟨v4, rfl, hv4, hb⟩
    rw [show sg false m = (m : Int) from rfl] at hv4
    obtain ⟨m4, A4, c4, n4, rfl, hm4, h4⟩ := hv4.cases
    have H4 := Lib.hid (And.intro h4 (And.intro (H3.out.2.1.below hb) (And.intro (below_trans H3.out.2.2 hb) hm4)))
    clear hv4 hb h4 hm4
    obtain ⟨r0, r1, g0, g1⟩ := H4.out.2.1.cells
    go_wp2_with fail
    exact bodyPost_ret (v := .agg #[.bool m4, .slice A4 n4 c4]) (by simp [results, Tryz.results24, go_sem, r0, r1]) rfl (retI_put H4.out.2.2.2 H4.out.2.1 rfl rfl (by omega) H4.out.1 H4.out.2.2.1)

def inI64 (z : Int) : Prop := -9223372036854775808 ≤ z ∧ z ≤ 9223372036854775807
/-- What Small makes of a sign and of a size that has room. -/
def smallOf (m : Bool) (x : Nat) : Int := if m then IntKind.i64.wrap (-(IntKind.i64.wrap (x : Int))) else IntKind.i64.wrap (x : Int)
theorem small_in {z : Int} (h : inI64 z) : smallOf (decide (z < 0)) z.natAbs = z := by
  unfold smallOf inI64 at *
  by_cases hz : z < 0
  · rw [decide_eq_true hz, if_pos rfl]; simp only [wrap_i64]; omega
  · rw [decide_eq_false hz, if_neg (by simp)]; simp only [wrap_i64]; omega
theorem small_out {z : Int} (h : ¬ inI64 z) (hx : z.natAbs < 18446744073709551616) : smallOf (decide (z < 0)) z.natAbs ≠ 0 ∧ decide (z < 0) ≠ decide (smallOf (decide (z < 0)) z.natAbs < 0) := by
  have h' : z < -9223372036854775808 ∨ 9223372036854775807 < z := by unfold inI64 at h; omega
  by_cases hz : z < 0
  · have e : smallOf (decide (z < 0)) z.natAbs = z + 18446744073709551616 := by
      unfold smallOf; rw [decide_eq_true hz, if_pos rfl]; simp only [wrap_i64]; omega
    rw [e, decide_eq_true hz, decide_eq_false (by omega)]
    exact ⟨by omega, by simp⟩
  · have e : smallOf (decide (z < 0)) z.natAbs = z - 18446744073709551616 := by
      unfold smallOf; rw [decide_eq_false hz, if_neg (by simp)]; simp only [wrap_i64]; omega
    rw [e, decide_eq_false hz, decide_eq_true (by omega)]
    exact ⟨by omega, by simp⟩

def RetSm (w : World) (z : Int) (e : Ending) (w' : World) : Prop := ((inI64 z ∧ e = .returned (.tuple #[.int .i64 z, .int .i64 0])) ∨ (¬ inI64 z ∧ e = .returned (.tuple #[.int .i64 0, .int .i64 11]))) ∧ Below w.heap.size w w'
end Go.Proofs.YtnncfbmddpijcaaGreatDoor

/- Whole numbers: what may be, texts there and back, sums. -/
namespace Go.Proofs.YtnncfbmddpijcaaGreatDoor
open Go Go.RowKit Go.Shelf
attribute [local go_sem ↓] Go.wp_at_zero Go.wp_at_succ

/-- What Check makes of a sign and of digits. -/
def checkI (m : Bool) (zs : List Nat) : Int := if checkOf zs = 0 then (if m = true ∧ zs.length = 0 then 2 else 0) else checkOf zs
set_option maxRecDepth 100000 in
theorem checkInt_c (w : World) (m : Bool) (A : Option Addr) (c n : Nat) (zs : List Nat) (hR : Rd .u32 w (.slice A n c) zs) : Calls Tryz.prog 28 #[.agg #[.bool m, .slice A n c]] w fun e w' => e = .returned (.int .i64 (checkI m zs)) ∧ Below w.heap.size w w' := by
  have hn : n = zs.length := by obtain ⟨_, _, e, _⟩ := hR; injection e
  have HW := Lib.hid (box_below w (.bool m) (.slice A n c))
  have HN := Lib.hid (BoxI.new w (.bool m) (.slice A n c))
  have H1 := Lib.hid (And.intro (hR.below HW.out) hn)
  obtain ⟨c0, c1, _, _⟩ := HN.out.cells
  clear hR hn
  go_enter Tryz.func28, Tryz.ntmps28
  go_wp2_with fail
  refine (check_c _ _ zs H1.out.1).mono ?_
  rintro e w2 ⟨rfl, rfl⟩
  by_cases hok : checkOf zs = 0
  · rw [hok]
    by_cases hc : m = true ∧ zs.length = 0
    · have e : checkI m zs = 2 := by unfold checkI; rw [if_pos hok, if_pos hc]
      obtain rfl : m = true := hc.1
      obtain rfl : n = 0 := H1.out.2.trans hc.2
      have HE := Lib.hid e
      clear e hok hc
      go_wp2_with fail
      go_ret
      exact ⟨by rw [HE.out]; rfl, HW.out⟩
    · have e : checkI m zs = 0 := by unfold checkI; rw [if_pos hok, if_neg hc]
      have HE := Lib.hid e
      cases m with
      | true =>
        have hn0 : ¬ n = 0 := fun h => hc ⟨rfl, by rw [← H1.out.2]; exact h⟩
        have hb : ((n : Int) == 0) = false := by rw [beq_eq_false_iff_ne]; omega
        clear e hok hc
        go_wp2_with fail
        go_ret
        exact ⟨by rw [HE.out]; rfl, HW.out⟩
      | false =>
        clear e hok hc
        go_wp2_with fail
        go_ret
        exact ⟨by rw [HE.out]; rfl, HW.out⟩
  · have e : checkI m zs = checkOf zs := by unfold checkI; rw [if_neg hok]
    have HE := Lib.hid e
    obtain ⟨k, hk⟩ : ∃ k, checkOf zs = k := ⟨_, rfl⟩
    rw [hk] at hok HE ⊢
    have hb1 : (k != 0) = true := by rw [bne_iff_ne]; exact hok
    have hb2 : (k == 0) = false := by rw [beq_eq_false_iff_ne]; exact hok
    clear e hk
    go_wp2_with fail
    go_ret
    exact ⟨by rw [HE.out]; rfl, HW.out⟩

theorem Im.zs {w : World} {v : Value} {z : Int} (h : Im w v z) (hs : LimI z) : ∃ A c n zs, v = .agg #[.bool (decide (z < 0)), .slice A n c] ∧ Rd .u32 w (.slice A n c) zs ∧ checkI (decide (z < 0)) zs = 0 := by
  obtain ⟨A, c, n, rfl, A', cap, zs, hsl, ho, hv⟩ := h
  rw [hsl]
  refine ⟨A', cap, zs.length, zs, rfl, ho.1, ?_⟩
  have hk : checkOf zs = 0 := checkOf_ok (by have := len_of_lim ho.2.1 (by rw [hv]; exact hs); omega) ho.2.1.2
  unfold checkI
  rw [if_pos hk, if_neg]
  rintro ⟨h1, h2⟩
  have hz : z < 0 := of_decide_eq_true h1
  obtain rfl : zs = [] := List.eq_nil_of_length_eq_zero h2
  simp at hv
  omega
theorem checkInt_im (w : World) (v : Value) (z : Int) (hv : Im w v z) (hs : LimI z) : Calls Tryz.prog 28 #[v] w fun e w' => e = .returned (.int .i64 0) ∧ Below w.heap.size w w' := by
  obtain ⟨A, c, n, zs, rfl, hR, hk⟩ := hv.zs hs
  exact (checkInt_c w _ A c n zs hR).mono fun _ _ h => ⟨by rw [h.1, hk], h.2⟩

def p5120 : Nat := 5120
theorem lim_ten : Lim ≤ 10 ^ p5120 := of_decide_eq_true (by kernel_rfl)
/-- The digits of a whole number, a - ahead of those below nothing. -/
def DecI (z : Int) (l : List UInt8) : Prop := ∃ d, Dec z.natAbs d ∧ l = (if z < 0 then 45 :: d else d)
theorem DecI.eq {z : Int} {l m : List UInt8} (h : DecI z l) (k : DecI z m) : l = m := by
  obtain ⟨d, hd, rfl⟩ := h
  obtain ⟨d', hd', rfl⟩ := k
  rw [hd.eq hd']
theorem dash_append (s : ByteArray) : ((⟨#[45]⟩ : ByteArray) ++ s).data.toList = 45 :: s.data.toList := by simp
theorem dash_cut (m : Bool) (d : List UInt8) (hD : AllD d) (h0 : d ≠ []) : Lib.trimPrefix (if m then 45 :: d else d) [45] = d ∧ Lib.hasPrefix (if m then 45 :: d else d) [45] = m := by
  cases m with
  | true => exact ⟨rfl, rfl⟩
  | false =>
    obtain ⟨x, l, rfl⟩ := List.exists_cons_of_ne_nil h0
    have hx : Lib.hasPrefix (x :: l) [45] = false := by
      have := hD x (List.mem_cons_self ..)
      unfold Lib.hasPrefix
      have hne : (45 == x) = false := by
        rw [beq_eq_false_iff_ne]; rintro rfl; exact absurd this (by decide)
      simp [List.isPrefixOf, hne]
    refine ⟨?_, hx⟩
    show Lib.trimPrefix (x :: l) [45] = x :: l
    unfold Lib.trimPrefix
    rw [if_neg (by rw [hx]; simp)]

theorem decI_parse {z : Int} {l : List UInt8} (h : DecI z l) : ∃ d, l = (if decide (z < 0) then 45 :: d else d) ∧ AllD d ∧ d ≠ [] ∧ sg (decide (z < 0)) (decv d) = z := by
  obtain ⟨d, hd, rfl⟩ := h
  refine ⟨d, by simp, hd.1, hd.2.2.1, ?_⟩
  rw [hd.2.1, sg_of]
end Go.Proofs.YtnncfbmddpijcaaGreatDoor

/- Whole numbers: variables, rows, sums. -/
namespace Go.Proofs.YtnncfbmddpijcaaGreatDoor
open Go Go.RowKit Go.Shelf
attribute [local go_sem ↓] Go.wp_at_zero Go.wp_at_succ

/-- A variable that holds a whole number. -/
def VarI (w : World) (g : Nat) (a b : Value) (z : Int) : Prop := BoxI w g a b ∧ Im w (.agg #[a, b]) z
theorem VarI.below {w w' : World} {g : Nat} {a b : Value} {z : Int} (h : VarI w g a b z) (hb : Below w.heap.size w w') : VarI w' g a b z := ⟨h.1.below hb, h.2.below hb⟩
theorem VarI.new {w : World} {m : Bool} {A : Option Addr} {n c : Nat} {z : Int} (h : Im w (.agg #[.bool m, .slice A n c]) z) : VarI (w.alloc (.cells #[.bool m, .slice A n c] 25)) w.heap.size (.bool m) (.slice A n c) z ∧ Below w.heap.size w (w.alloc (.cells #[.bool m, .slice A n c] 25)) :=
  ⟨⟨BoxI.new w _ _, h.below (box_below w _ _)⟩, box_below w _ _⟩

/-- A row of whole numbers. -/
def RowI (w : World) (g : Nat) (zs : List Int) : Prop := g < w.heap.size ∧ ∀ (k : Nat) (z : Int), zs[k]? = some z → ∃ m A n c, w.cell? ⟨g, k * 2, none⟩ = some (.bool m) ∧ w.cell? ⟨g, k * 2 + 1, none⟩ = some (.slice A n c) ∧ Im w (.agg #[.bool m, .slice A n c]) z
theorem RowI.below {w w' : World} {g : Nat} {zs : List Int} (h : RowI w g zs) (hb : Below w.heap.size w w') : RowI w' g zs :=
  ⟨Nat.lt_of_lt_of_le h.1 (Below.size hb), fun k z hk => by
    obtain ⟨m, A, n, c, h1, h2, h3⟩ := h.2 k z hk
    exact ⟨m, A, n, c, (World.cell?_of_block (hb.block g h.1)).trans h1, (World.cell?_of_block (hb.block g h.1)).trans h2, h3.below hb⟩⟩
theorem sum_take {zs : List Int} {k : Nat} {z : Int} (h : zs[k]? = some z) : (zs.take (k + 1)).sum = (zs.take k).sum + z := by
  rw [List.take_add_one, h]; simp
theorem below_zero (w : World) : ((w.alloc (.cells #[.bool false, .slice none 0 0] 25)).alloc (.cells #[.bool false, .slice none 0 0] 25)).heap.size = w.heap.size + 1 + 1 := by simp

end Go.Proofs.YtnncfbmddpijcaaGreatDoor
