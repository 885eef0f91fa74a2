/- Whole numbers: made, told, turned, compared. -/
import Derived.Test.YtdaoechbaejjmaaDoorInt
namespace Go.Proofs.YtdaoechbaejjmaaDoor
open Go Go.RowKit Go.Shelf
attribute [local go_sem ↓] Go.wp_at_zero Go.wp_at_succ

def sign3 (z : Int) : Int := if z < 0 then -1 else if z = 0 then 0 else 1
/-- The world with a boxed argument. -/
theorem box_below (w : World) (a b : Value) : Below w.heap.size w (w.alloc (.cells #[a, b] 59)) := (Below.refl _ w).alloc (Nat.le_refl _) _

set_option maxRecDepth 100000 in
theorem sign_c (w : World) (v : Value) (z : Int) (hv : Im w v z) : Calls Tryd.prog 36 #[v] w fun e w' => e = .returned (.int .i64 (sign3 z)) ∧ Below w.heap.size w w' := by
  obtain ⟨m, A, c, n, rfl, hm, h1⟩ := hv.cases
  have H1 := Lib.hid (And.intro h1 hm)
  clear hv h1 hm
  go_enter Tryd.func36, Tryd.ntmps36
  have HW := Lib.hid (box_below w (.bool m) (.slice A n c))
  have HN := Lib.hid (BoxI.new w (.bool m) (.slice A n c))
  go_wp2_with fail
  refine (bits_n (H1.out.1.below HW.out)).mono ?_
  rintro e w2 ⟨nb, rfl, hnb, hb⟩
  obtain ⟨c0, c1, f0, f1⟩ := (HN.out.below hb).cells
  have H2 := Lib.hid (And.intro hnb (below_trans HW.out hb))
  clear hnb hb f0 f1 c1
  rcases Nat.eq_zero_or_pos z.natAbs with hz | hz
  · have h0 : nb = 0 := isBits_none (by have := H2.out.1; rwa [hz] at this)
    subst h0
    have hs : sign3 z = 0 := by unfold sign3; rw [if_neg (by omega), if_pos (by omega)]
    have HS := Lib.hid hs
    clear hz hs
    go_wp2_with fail
    go_ret
    exact ⟨by rw [HS.out]; rfl, H2.out.2⟩
  · have h0 : 0 < nb := isBits_some H2.out.1 hz
    have hb0 : ((nb : Int) == 0) = false := by rw [beq_eq_false_iff_ne]; omega
    cases m with
    | false =>
      have hs : sign3 z = 1 := by
        have := H1.out.2; rw [decide_eq_false_iff_not] at this
        unfold sign3; rw [if_neg this, if_neg (by omega)]
      have HS := Lib.hid hs
      clear hz hs
      go_wp2_with fail
      go_ret
      exact ⟨by rw [HS.out]; rfl, H2.out.2⟩
    | true =>
      have hs : sign3 z = -1 := by
        have := H1.out.2; rw [decide_eq_true_iff] at this
        unfold sign3; rw [if_pos this]
      have HS := Lib.hid hs
      clear hz hs
      go_wp2_with fail
      go_ret
      exact ⟨by rw [HS.out]; rfl, H2.out.2⟩

set_option maxRecDepth 100000 in
theorem natInt_c (w : World) (va : Value) (x : Nat) (ha : Nm w va x) : Calls Tryd.prog 45 #[va] w (RetI w (x : Int)) := by
  have HA := Lib.hid ha
  clear ha
  go_enter Tryd.func45, Tryd.ntmps45
  have HW := Lib.hid (box_below w (.bool false) (.slice none 0 0))
  have HN := Lib.hid (BoxI.new w (.bool false) (.slice none 0 0))
  go_wp2_with fail
  refine (clone_n (HA.out.below HW.out)).mono ?_
  rintro e w2 ⟨v2, rfl, hv2, hb2⟩
  have H2 := Lib.hid (And.intro hv2 (And.intro (HN.out.below hb2) (below_trans HW.out hb2)))
  clear hv2 hb2
  go_wp2_with fail
  refine (signed_c w2 false v2 x H2.out.1).mono ?_
  rintro e w3 ⟨v3, rfl, hv3, hb3⟩
  obtain ⟨m3, A, c, n, rfl, hm3, h1⟩ := hv3.cases
  have HB := Lib.hid (H2.out.2.1.below hb3)
  obtain ⟨c0, c1, f0, f1⟩ := HB.out.cells
  have H3 := Lib.hid (And.intro h1 (And.intro (below_trans H2.out.2.2 hb3) hm3))
  clear h1 hb3 hv3 hm3
  go_wp2_with fail
  exact bodyPost_ret (v := .agg #[.bool m3, .slice A n c]) (by simp [results, Tryd.results45, go_sem, c0, c1]) rfl (retI_put H3.out.2.2 HB.out rfl rfl (Nat.le_refl _) H3.out.1 H3.out.2.1)

set_option maxRecDepth 100000 in
theorem absInt_c (w : World) (v : Value) (z : Int) (hv : Im w v z) : Calls Tryd.prog 41 #[v] w (RetI w (z.natAbs : Int)) := by
  obtain ⟨m, A, c, n, rfl, hm, h1⟩ := hv.cases
  have H1 := Lib.hid (And.intro h1 hm)
  clear hv h1 hm
  go_enter Tryd.func41, Tryd.ntmps41
  have HW := Lib.hid (box_below w (.bool m) (.slice A n c))
  have HW2 := Lib.hid (box_below (w.alloc (.cells #[.bool m, .slice A n c] 59)) (.bool false) (.slice none 0 0))
  have HN := Lib.hid (BoxI.new (w.alloc (.cells #[.bool m, .slice A n c] 59)) (.bool false) (.slice none 0 0))
  have hsz : (w.alloc (.cells #[.bool m, .slice A n c] 59)).heap.size = w.heap.size + 1 := by simp
  rw [hsz] at HN
  clear hsz
  go_wp2_with fail
  refine (natInt_c _ _ _ ((H1.out.1.below HW.out).below HW2.out)).mono ?_
  rintro e w3 ⟨v3, rfl, hv3, hb3⟩
  obtain ⟨m3, A', c', n', rfl, hm3, h1⟩ := hv3.cases
  have HB := Lib.hid (HN.out.below hb3)
  obtain ⟨c0, c1, f0, f1⟩ := HB.out.cells
  have H3 := Lib.hid (And.intro h1 (And.intro (below_trans HW.out (below_trans HW2.out hb3)) hm3))
  clear h1 hb3 hv3 hm3
  go_wp2_with fail
  exact bodyPost_ret (v := .agg #[.bool m3, .slice A' n' c']) (by simp [results, Tryd.results41, go_sem, c0, c1]) rfl (retI_put H3.out.2.2 HB.out rfl rfl (by omega) H3.out.1 H3.out.2.1)

theorem sg_not (z : Int) : sg (!decide (z < 0)) z.natAbs = -z := by
  by_cases h : z < 0
  · rw [decide_eq_true h]; simp only [sg, Bool.not_true, Bool.false_eq_true, if_false]; omega
  · rw [decide_eq_false h]; simp only [sg, Bool.not_false, if_true]; omega
theorem alloc_size (w : World) (o : Obj) : (w.alloc o).heap.size = w.heap.size + 1 := by simp

set_option maxRecDepth 100000 in
set_option maxHeartbeats 2000000 in
theorem turned_c (w : World) (v : Value) (z : Int) (hv : Im w v z) : Calls Tryd.prog 87 #[v] w (RetI w (-z)) := by
  obtain ⟨m, A, c, n, rfl, hm, h1⟩ := hv.cases
  have H1 := Lib.hid (And.intro h1 hm)
  clear hv h1 hm
  have HW := Lib.hid (box_below w (.bool m) (.slice A n c))
  have HW2 := Lib.hid (box_below (w.alloc (.cells #[.bool m, .slice A n c] 59)) (.bool false) (.slice none 0 0))
  have HN := Lib.hid (BoxI.new (w.alloc (.cells #[.bool m, .slice A n c] 59)) (.bool false) (.slice none 0 0))
  have hsz := alloc_size w (.cells #[.bool m, .slice A n c] 59)
  rw [hsz] at HN
  clear hsz
  go_enter Tryd.func87, Tryd.ntmps87
  go_wp2_with fail
  refine (signed_c _ (!m) _ _ ((H1.out.1.below HW.out).below HW2.out)).mono ?_
  rintro e w3 ⟨v3, rfl, h3, hb3⟩
  rw [← H1.out.2, sg_not] at h3
  obtain ⟨m3, A', c', n', rfl, hm3, h1⟩ := h3.cases
  have HB := Lib.hid (HN.out.below hb3)
  obtain ⟨c0, c1, f0, f1⟩ := HB.out.cells
  have H3 := Lib.hid (And.intro h1 (And.intro (below_trans HW.out (below_trans HW2.out hb3)) hm3))
  clear h1 hb3 h3 hm3
  go_wp2_with fail
  exact bodyPost_ret (v := .agg #[.bool m3, .slice A' n' c']) (by simp [results, Tryd.results87, go_sem, c0, c1]) rfl (retI_put H3.out.2.2 HB.out rfl rfl (by omega) H3.out.1 H3.out.2.1)

set_option maxRecDepth 100000 in
set_option maxHeartbeats 4000000 in
theorem negInt_c (w : World) (v : Value) (z : Int) (hv : Im w v z) : Calls Tryd.prog 47 #[v] w (RetI w (-z)) := by
  obtain ⟨m, A, c, n, rfl, hm, h1⟩ := hv.cases
  have H1 := Lib.hid (And.intro h1 hm)
  clear hv h1 hm
  have HW := Lib.hid (box_below w (.bool m) (.slice A n c))
  have HW2 := Lib.hid (box_below (w.alloc (.cells #[.bool m, .slice A n c] 59)) (.bool false) (.slice none 0 0))
  have HN := Lib.hid (BoxI.new (w.alloc (.cells #[.bool m, .slice A n c] 59)) (.bool false) (.slice none 0 0))
  have hsz := alloc_size w (.cells #[.bool m, .slice A n c] 59)
  rw [hsz] at HN
  clear hsz
  obtain ⟨c0, c1, _, _⟩ := ((BoxI.new w (.bool m) (.slice A n c)).below HW2.out).cells
  go_enter Tryd.func47, Tryd.ntmps47
  go_wp2_with fail
  have HD := Lib.hid (Below.drew HW2.out)
  have HC := Lib.hid (clone_n ((H1.out.1.below HW.out).below HD.out))
  have HK := Lib.hid ((BoxI.new w (.bool m) (.slice A n c)).below HD.out)
  have HN2 := Lib.hid (show BoxI ((w.alloc (.cells #[.bool m, .slice A n c] 59)).alloc (.cells #[.bool false, .slice none 0 0] 59)).drew (w.heap.size + 1) (.bool false) (.slice none 0 0) from HN.out)
  have HW3 := Lib.hid (below_trans HW.out HD.out)
  clear HN
  go_region_held3 (fun w' => w'.cell? ⟨w.heap.size, 0, none⟩ = some (.bool m) ∧ w'.cell? ⟨w.heap.size, 1, none⟩ = some (.slice A n c)) (first | go_keep | (exact ⟨by assumption, by assumption⟩))
    (first
      | (refine HC.out.mono ?_; rintro e w3 ⟨v3, rfl, hv3, hb3⟩; obtain ⟨k0, k1, _, _⟩ := (HK.out.below hb3).cells; have H3 := Lib.hid (And.intro hv3 (And.intro (HK.out.below hb3) (And.intro (HN2.out.below hb3) (below_trans HW3.out hb3)))); clear hv3 hb3 c0 c1)
      | (refine (signed_c _ (!m) _ _ H3.out.1).mono ?_; rintro e w4 ⟨v4, rfl, hv4, hb4⟩; rw [← H1.out.2, sg_not] at hv4; obtain ⟨m4, A4, c4, n4, rfl, hm4, h4⟩ := hv4.cases; obtain ⟨k0', k1', _, _⟩ := (H3.out.2.1.below hb4).cells; have HB := Lib.hid (H3.out.2.2.1.below hb4); obtain ⟨r0, r1, g0, g1⟩ := HB.out.cells; have H4 := Lib.hid (And.intro h4 (And.intro (below_trans H3.out.2.2.2 hb4) hm4)); clear hv4 hb4 h4 hm4 k0 k1))
  all_goals
    go_wp2_with fail
    exact bodyPost_ret (v := .agg #[.bool m4, .slice A4 n4 c4]) (by simp [results, Tryd.results47, go_sem, r0, r1]) rfl (retI_put H4.out.2.2 HB.out rfl rfl (by omega) H4.out.1 H4.out.2.1)
end Go.Proofs.YtdaoechbaejjmaaDoor
