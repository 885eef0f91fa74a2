/- LimbsShifts: the walk. -/
import Derived.Test.YtefnhhkhdpihdaaDoorRefH2
import Derived.Test.YtefnhhkhdpihdaaDoorHeldB
namespace Go.Proofs.YtefnhhkhdpihdaaDoor
open Go Go.RowKit Go.Shelf

set_option maxRecDepth 100000 in
set_option maxHeartbeats 4000000 in
theorem shifts_law (w : World) (hT : Tab w) (v0 : Value) (xs : List Nat) (n : Int) (hlo : -9223372036854775808 ≤ n) (hhi : n ≤ 9223372036854775807) (h0 : Arg w v0 xs) (b0 : ∀ x ∈ xs, x < 4294967296) :
    Calls Tryd.prog 6 #[v0, .int .i64 n] w fun e w' => e = .returned (.bool true) ∧ Below w.heap.size w w' := by
  obtain ⟨⟨A0, c0, rfl⟩, _⟩ := id h0
  have HR := Lib.hid (h0)
  have HX := Lib.hid (b0)
  have HT := Lib.hid hT
  clear hT h0 b0
  go_enter Tryd.func6, Tryd.ntmps6
  go_wp2_with fail
  refine (reckons_c w HT.out).mono ?_
  rintro e w1 ⟨rfl, B⟩
  have HB1 := Lib.hid B
  clear B
  go_wp2_with fail
  have HB5 := Lib.hid (HB1.out.alloc (Below.size HB1.out) (.cells #[.slice A0 xs.length c0] 23))
  have HC5 := Lib.hid (lay_cells w1 [.slice A0 xs.length c0] 23)
  generalize w1.alloc (.cells #[.slice A0 xs.length c0] 23) = w5 at *
  have HR5 := Lib.hid ((HR.out.below HB5.out (Nat.le_refl _)))
  refine (fit_law w5 w1.heap.size 1 [.slice A0 xs.length c0] [xs] rfl (by simp) HC5.out ?_).mono ?_
  · intro i u us hu hy
    match i, hu, hy with
    | 0, hu, hy => injection hu with hu; injection hy with hy; subst hu; subst hy; exact HR5.out
  rintro e w6 ⟨rfl, rfl⟩
  clear HC5 HB1
  by_cases hf : FitOne xs
  case neg =>
    have hfa : fitAll [xs] = false := by
      exact fitAll_false (k := 0) rfl hf
    rw [hfa]
    clear hfa hf
    go_wp2_with fail
    go_ret
    exact ⟨rfl, HB5.out⟩
  have f0 := hf
  have hfa : fitAll [xs] = true := fitAll_true fun j us hj hy => by
    match j, hy with
    | 0, hy => injection hy with hy; subst hy; exact f0
  rw [hfa]
  have H := Lib.hid (show Held w w5 [N32 (.slice A0 xs.length c0) xs] from ⟨HB5.out, fun m hm => by
    simp only [List.mem_cons, List.not_mem_nil, or_false] at hm
    rcases hm with rfl
    exact ⟨HR5.out.2 f0.1, f0.can (k := .u32) HX.out, Nat.le_trans f0.1 (by omega)⟩⟩)
  have HL := Lib.hid ((And.intro f0.1 (fit_lt f0 HX.out)))
  clear hfa hf f0 HR5 HX HR HB5
  by_cases hneg : n < 0
  · go_wp2_with fail
    refine (left_neg_h H.out 0 rfl n hneg hlo).mono ?_
    rintro e w6 ⟨rfl, h⟩
    have H6 := Lib.hid h
    clear H h
    go_wp2_with fail
    refine (right_neg_h H6.out 0 rfl n hneg hlo (fit_lim HL.out.2)).mono ?_
    rintro e w7 ⟨rfl, h⟩
    have H7 := Lib.hid h
    clear H6 h
    go_wp2_with fail
    go_ret
    exact ⟨rfl, H7.out.1⟩
  obtain ⟨m, rfl⟩ : ∃ m : Nat, n = (m : Int) := ⟨n.toNat, by omega⟩
  clear hneg
  have hm63 : m ≤ 9223372036854775807 := by omega
  clear hlo hhi
  by_cases h0 : xs.length = 0
  · obtain rfl : xs = [] := List.eq_nil_of_length_eq_zero h0
    go_wp2_with fail
    refine (left_h H.out 0 rfl m hm63 (by rw [val_nil, Nat.zero_mul]; exact Nat.lt_of_le_of_lt (Nat.zero_le _) (fit_lim HL.out.2))).mono ?_
    rintro e w6 ⟨B0, d0, ls, rfl, hl, h⟩
    obtain rfl : ls = [] := (N32.ok h 1 rfl).2.1.nil_of (by omega) (by rw [hl]; simp)
    have H6 := Lib.hid h
    clear H h hl
    go_wp2_with fail
    refine (right_h H6.out 0 rfl m hm63 (fit_lim HL.out.2)).mono ?_
    rintro e w7 ⟨B1, d1, rs, rfl, hr, h⟩
    obtain rfl : rs = [] := (N32.ok h 2 rfl).2.1.nil_of (by omega) (by rw [hr]; simp)
    have H7 := Lib.hid h
    clear H6 h hr
    go_wp2_with fail
    go_ret
    exact ⟨rfl, H7.out.1⟩
  have hpos : 0 < val 4294967296 xs := (N32.ok H.out 0 rfl).2.1.pos (by omega) (by intro e; rw [e] at h0; exact h0 rfl)
  have hd0 : ((xs.length : Int) == 0) = false := by rw [beq_eq_false_iff_ne]; omega
  have Hpos := Lib.hid hpos
  have hl40 := HL.out.1
  clear hpos h0
  by_cases hbig : 2000 < m
  · have hlen32 : ¬ (m : Int) < 32 * (xs.length : Int) := by omega
    have hright : val 4294967296 xs / 2 ^ m = 0 := Nat.div_eq_of_lt (Nat.lt_of_lt_of_le (fit_bits HL.out.2) (Nat.pow_le_pow_right (by omega) (by unfold e1280; omega)))
    have Hright := Lib.hid hright
    clear hright
    rcases Nat.lt_or_ge (val 4294967296 xs * 2 ^ m) Lim with hfit | hfit
    · have Hfit := Lib.hid hfit
      clear hfit
      go_wp2_with fail
      refine (left_h H.out 0 rfl m hm63 Hfit.out).mono ?_
      rintro e w6 ⟨B0, d0, ls, rfl, hl, h⟩
      have H6 := Lib.hid h
      clear H h hl
      go_wp2_with fail
      refine (right_h H6.out 0 rfl m hm63 (fit_lim HL.out.2)).mono ?_
      rintro e w7 ⟨B1, d1, rs, rfl, hr, h⟩
      obtain rfl : rs = [] := (N32.ok h 2 rfl).2.1.nil_of (by omega) (by rw [hr]; exact Hright.out)
      have H7 := Lib.hid h
      clear H6 h hr
      have hm16 : m ≤ 16384 := by
        rcases Nat.lt_or_ge 16384 m with h | h
        · have h1 : Lim ≤ val 4294967296 xs * 2 ^ m := by
            rw [lim_pow]
            exact Nat.le_trans (Nat.pow_le_pow_right (by omega) (show maxB ≤ m by unfold maxB; omega)) (Nat.le_mul_of_pos_left _ Hpos.out)
          have := Hfit.out
          omega
        · exact h
      go_wp2_with fail
      refine (bits_h H7.out 0 rfl).mono ?_
      rintro e w8 ⟨b, rfl, hb, h⟩
      have hb0 := isBits_pos hb Hpos.out
      have hb1280 : b ≤ 1280 := bits_1280 hb HL.out.2
      have hsum : b + m ≤ 16384 := by
        rcases Nat.lt_or_ge 16384 (b + m) with h | h
        · have := isBits_lim_gt hb (by omega) (n := m) (by omega)
          have := Hfit.out
          omega
        · exact h
      have H8 := Lib.hid h
      clear H7 h hb
      go_wp2_with fail
      go_ret
      exact ⟨rfl, H8.out.1⟩
    · have Hfit := Lib.hid hfit
      clear hfit
      go_wp2_with fail
      refine (left_big_h H.out 0 rfl m hm63 Hfit.out).mono ?_
      rintro e w6 ⟨rfl, h⟩
      have H6 := Lib.hid h
      clear H h
      go_wp2_with fail
      refine (right_h H6.out 0 rfl m hm63 (fit_lim HL.out.2)).mono ?_
      rintro e w7 ⟨B1, d1, rs, rfl, hr, h⟩
      obtain rfl : rs = [] := (N32.ok h 1 rfl).2.1.nil_of (by omega) (by rw [hr]; exact Hright.out)
      have H7 := Lib.hid h
      clear H6 h hr
      by_cases hm16 : m ≤ 16384
      · go_wp2_with fail
        refine (bits_h H7.out 0 rfl).mono ?_
        rintro e w8 ⟨b, rfl, hb, h⟩
        have hb0 := isBits_pos hb Hpos.out
        have hb1280 : b ≤ 1280 := bits_1280 hb HL.out.2
        have hsum : 16384 < b + m := by
          rcases Nat.lt_or_ge 16384 (b + m) with h | h
          · exact h
          · have := isBits_lim_le hb (n := m) (by omega)
            have := Hfit.out
            omega
        have hsd : decide ((b : Int) + (m : Int) ≤ 16384) = false := by rw [decide_eq_false_iff_not]; omega
        have H8 := Lib.hid h
        clear H7 h hb
        go_wp2_with fail
        go_ret
        exact ⟨rfl, H8.out.1⟩
      · go_wp2_with fail
        go_ret
        exact ⟨rfl, H7.out.1⟩
  have hsm : m ≤ 2000 := by omega
  have hlx : val 4294967296 xs * 2 ^ m < Lim := by
    have h1 := fit_bits HL.out.2
    rw [lim_pow]
    refine Nat.lt_of_lt_of_le (Nat.mul_lt_mul_of_pos_right h1 (Nat.pow_pos (by omega))) ?_
    rw [← Nat.pow_add]
    exact Nat.pow_le_pow_right (by omega) (by unfold maxB e1280; omega)
  have Hlx := Lib.hid hlx
  clear hlx
  go_wp2_with fail
  refine (left_h H.out 0 rfl m hm63 Hlx.out).mono ?_
  rintro e w6 ⟨B0, d0, ls, rfl, hl, h⟩
  have Hl := Lib.hid hl
  have H6 := Lib.hid h
  clear H h hl
  go_wp2_with fail
  refine (right_h H6.out 0 rfl m hm63 (fit_lim HL.out.2)).mono ?_
  rintro e w7 ⟨B1, d1, rs, rfl, hr, h⟩
  have Hr := Lib.hid hr
  have H7 := Lib.hid h
  clear H6 h hr
  go_wp2_with fail
  refine (refPow_h H7.out m (by omega)).mono ?_
  rintro e w8 ⟨B2, d2, ps, rfl, hp, lp, h⟩
  have Hp := Lib.hid (And.intro hp lp)
  have H8 := Lib.hid h
  clear H7 hp lp h
  go_wp2_with fail
  refine (refOf_h H8.out 0 rfl (by omega)).mono ?_
  rintro e w9 ⟨B3, d3, us, rfl, hu, lu, h⟩
  have Hu := Lib.hid (And.intro hu lu)
  have H9 := Lib.hid h
  clear H8 hu lu h
  go_wp2_with fail
  refine (refDiv_h H9.out 4 3 rfl rfl (by have := Hu.out.2; omega) (by have := Hp.out.2; omega) (by rw [Hp.out.1]; exact Nat.pow_pos (by omega))).mono ?_
  rintro e w10 ⟨B4, d4, qs, B5, d5, os, rfl, hq, _, _, _, _, _, h⟩
  have Hq := Lib.hid hq
  have H10 := Lib.hid h
  clear H9 hq h
  go_wp2_with fail
  refine (refMul_h H10.out 4 3 rfl rfl (by have := Hu.out.2; omega) (by have := Hp.out.2; omega)).mono ?_
  rintro e w11 ⟨B6, d6, ms, rfl, hm, _, h⟩
  have Hm := Lib.hid hm
  have H11 := Lib.hid h
  clear H10 hm h
  go_wp2_with fail
  refine (is_h H11.out 1 7 rfl rfl (len_of_lim (N32.ok H11.out 1 rfl).2.1 (by rw [Hl.out]; exact Hlx.out)) (by rw [Hl.out, Hm.out, Hu.out.1, Hp.out.1])).mono ?_
  rintro e w12 ⟨rfl, h⟩
  have H12 := Lib.hid h
  clear H11 h
  go_wp2_with fail
  refine (is_h H12.out 2 5 rfl rfl (len_of_lim (N32.ok H12.out 2 rfl).2.1 (by rw [Hr.out]; exact Nat.lt_of_le_of_lt (Nat.div_le_self _ _) (fit_lim HL.out.2))) (by rw [Hr.out, Hq.out, Hu.out.1, Hp.out.1])).mono ?_
  rintro e w13 ⟨rfl, h⟩
  have H13 := Lib.hid h
  clear H12 h
  go_wp2_with fail
  refine (right_h H13.out 1 rfl m hm63 (by rw [Hl.out]; exact Hlx.out)).mono ?_
  rintro e w14 ⟨B7, d7, bs, rfl, hb, h⟩
  have Hb := Lib.hid (show val 4294967296 bs = val 4294967296 xs by rw [hb, Hl.out, Nat.mul_div_cancel _ (Nat.pow_pos (by omega))])
  have H14 := Lib.hid h
  clear H13 hb h
  go_wp2_with fail
  refine (equal_h H14.out 8 0 rfl rfl).mono ?_
  rintro e w15 ⟨rfl, h⟩
  rw [decide_eq_true Hb.out]
  have H15 := Lib.hid h
  clear H14 h
  go_wp2_with fail
  refine (bits_h H15.out 1 rfl).mono ?_
  rintro e w16 ⟨b1, rfl, hb1, h⟩
  have H16 := Lib.hid h
  have Hb1 := Lib.hid hb1
  clear H15 h hb1
  go_wp2_with fail
  refine (bits_h H16.out 0 rfl).mono ?_
  rintro e w17 ⟨b, rfl, hb, h⟩
  have hb1280 : b ≤ 1280 := bits_1280 hb HL.out.2
  obtain rfl : b1 = b + m := by
    have h1 := Hb1.out
    rw [Hl.out] at h1
    exact h1.eq (isBits_mul hb Hpos.out)
  have H17 := Lib.hid h
  clear H16 h hb Hb1
  go_wp2_with fail
  refine (tail_h HT.out H17.out 1 rfl).mono ?_
  rintro e w18 ⟨t1, rfl, ht1, h⟩
  have H18 := Lib.hid h
  have Ht1 := Lib.hid ht1
  clear H17 h ht1
  go_wp2_with fail
  refine (tail_h HT.out H18.out 0 rfl).mono ?_
  rintro e w19 ⟨t, rfl, ht, h⟩
  have ht1280 : t < 1280 := tail_1280 ht Hpos.out HL.out.2
  obtain rfl : t1 = t + m := by
    have h1 := Ht1.out
    rw [Hl.out] at h1
    exact h1.eq (isTail_mul ht Hpos.out)
  have H19 := Lib.hid h
  clear H18 h ht Ht1
  go_wp2_with fail
  go_ret
  exact ⟨rfl, H19.out.1⟩
end Go.Proofs.YtefnhhkhdpihdaaDoor
