/- WholeShifts: the walk. -/
import Derived.Test.YtdaoechbaejjmaaDoorLongLaw
namespace Go.Proofs.YtdaoechbaejjmaaDoor
open Go Go.RowKit Go.Shelf

theorem left_n {w : World} {va : Value} {x : Nat} (n : Nat) (ha : Nm w va x) (hn : n ≤ 9223372036854775807) (hx : x * 2 ^ n < Lim) : Calls Tryd.prog 32 #[va, .int .i64 n] w (RetN0 w (x * 2 ^ n)) := by
  obtain ⟨A, c, xs, rfl, h1, rfl⟩ := ha
  refine (left_c w _ xs n h1.1 h1.2.1.1 h1.2.2 (by omega) (by omega)).mono fun _ _ h => ?_
  rcases h with ⟨h, _⟩ | ⟨_, hb, (⟨h, _⟩ | ⟨_, v, rfl, hN⟩)⟩
  · omega
  · simp only [Int.toNat_natCast] at h; omega
  · simp only [Int.toNat_natCast] at hN; exact ⟨v, rfl, Nm.of_numV hx hN, hb⟩
theorem two_lim {n : Nat} (h : n ≤ 16000) : 2 ^ n < Lim := by
  have e : Lim = 2 ^ (maxL * 32) := by unfold Lim; exact pow_B _
  rw [e]
  exact Nat.pow_lt_pow_right (by omega) (show n < maxL * 32 by unfold maxL; omega)
set_option maxRecDepth 100000 in
theorem power_c (w : World) (n : Nat) (hn : n ≤ 16000) : Calls Tryd.prog 31 #[.int .i64 n] w (RetN w (2 ^ n)) := by
  go_enter Tryd.func31, Tryd.ntmps31
  go_wp2_with fail
  refine (of_n w 1 (by omega)).mono ?_
  rintro e w1 ⟨v1, rfl, hv, hb⟩
  have H1 := Lib.hid (And.intro hv hb)
  clear hv hb
  go_wp2_with fail
  refine (left_n n H1.out.1 (by omega) (by rw [Nat.one_mul]; exact two_lim hn)).mono ?_
  rintro e w2 ⟨v2, rfl, hv, hb⟩
  rw [Nat.one_mul] at hv
  have H2 := Lib.hid (And.intro hv (below_trans H1.out.2 hb))
  clear hv hb
  go_wp2_with fail
  go_ret
  exact ⟨_, rfl, H2.out.1, H2.out.2⟩
theorem ten_div (n : Nat) : 10 ^ n / 2 ^ n = 5 ^ n := by
  rw [show 10 = 5 * 2 from rfl, Nat.mul_pow, Nat.mul_div_cancel _ (Nat.pow_pos (by omega))]
theorem ten_B (n : Nat) : 10 ^ n < 4294967296 ^ (n + 1) := by
  rw [Nat.pow_succ]
  have h1 : 10 ^ n ≤ 4294967296 ^ n := Nat.pow_le_pow_left (by omega) n
  have h2 : 0 < 4294967296 ^ n := Nat.pow_pos (by omega)
  omega

set_option maxRecDepth 100000 in
set_option maxHeartbeats 8000000 in
theorem top1_law (w : World) (hT : Tab10 w) (v : Value) (zs : List Nat) (n : Int) (hlo : -9223372036854775808 ≤ n) (hhi : n ≤ 9223372036854775807) (h : Arg w v zs) (hb : ∀ x ∈ zs, x < 4294967296) :
    Calls Tryd.prog 9 #[v, .int .i64 n] w fun e w' => e = .returned (.bool true) ∧ Below w.heap.size w w' := by
  obtain ⟨⟨A, c, rfl⟩, _⟩ := id h
  have HT := Lib.hid hT
  have HA := Lib.hid (And.intro h hb)
  clear hT h hb
  go_enter Tryd.func9, Tryd.ntmps9
  go_wp2_with fail
  refine (of_n w 5 (by omega)).mono ?_
  rintro e w0 ⟨v5, rfl, hv5, hb5⟩
  have H0 := Lib.hid (And.intro hv5 hb5)
  clear hv5 hb5
  go_wp2_with fail
  refine (text_is w0 (HT.out.below H0.out.2) _ 5 ⟨#[53]⟩ (by decide) H0.out.1 (small_lim (by omega))).mono ?_
  rintro e w1 ⟨rfl, hb⟩
  have H1 := Lib.hid (below_trans H0.out.2 hb)
  clear hb
  by_cases h30 : 20 < zs.length
  · have hg : decide ((zs.length : Int) > 20) = true := by rw [decide_eq_true_iff]; omega
    go_wp2_with fail
    go_ret
    exact ⟨rfl, H1.out⟩
  have hg : decide ((zs.length : Int) > 20) = false := by rw [decide_eq_false_iff_not]; omega
  have HR := Lib.hid (HA.out.1.below H1.out (Nat.le_refl _))
  go_wp2_with fail
  refine (check_c w1 _ zs (HR.out.2 (by omega))).mono ?_
  rintro e w2 ⟨rfl, rfl⟩
  by_cases hok : checkOf zs = 0
  case neg =>
    obtain ⟨k, hk⟩ : ∃ k, checkOf zs = k := ⟨_, rfl⟩
    rw [hk] at hok ⊢
    have hb1 : (k != 0) = true := by rw [bne_iff_ne]; exact hok
    have hb2 : (k == 0) = false := by rw [beq_eq_false_iff_ne]; exact hok
    clear hk hok
    go_wp2_with fail
    go_ret
    exact ⟨rfl, H1.out⟩
  have HN := Lib.hid (nm_arg HR.out HA.out.2 (n := 20) (by omega) (by omega) hok)
  rw [hok]
  clear hok
  obtain ⟨x, hx⟩ : ∃ x, val 4294967296 zs = x := ⟨_, rfl⟩
  rw [hx] at HN
  clear hx
  by_cases hn0 : n < 0
  · have hg2 : decide (n < 0) = true := decide_eq_true hn0
    go_wp2_with fail
    go_ret
    exact ⟨rfl, H1.out⟩
  have hg2 : decide (n < 0) = false := decide_eq_false hn0
  by_cases hn5 : 200 < n
  · have hg3 : decide (n > 200) = true := decide_eq_true hn5
    go_wp2_with fail
    go_ret
    exact ⟨rfl, H1.out⟩
  have hg3 : decide (n > 200) = false := decide_eq_false hn5
  obtain ⟨m, rfl⟩ : ∃ m : Nat, n = m := ⟨n.toNat, by omega⟩
  have hxl : x < Lim := lim_of HN.out.2.1 (by omega)
  have hpl : x * 10 ^ m < Lim := lim_of (mul_pow_lt HN.out.2.1 (ten_B m)) (by omega)
  have hq : x * 5 ^ m * 2 ^ m = x * 10 ^ m := by rw [Nat.mul_assoc, ← Nat.mul_pow]
  have hql : x * 5 ^ m < Lim := by
    have h1 : x * 5 ^ m * 1 ≤ x * 5 ^ m * 2 ^ m := Nat.mul_le_mul_left _ (Nat.pow_pos (by omega))
    omega
  have HL := Lib.hid (And.intro hxl (And.intro hpl (And.intro hq hql)))
  clear hxl hpl hq hql
  go_wp2_with fail
  refine (ten_n w1 m (by omega)).mono ?_
  rintro e w2 ⟨v2, rfl, hv, hb⟩
  have H2 := Lib.hid (And.intro hv (And.intro hb (below_trans H1.out hb)))
  clear hv hb
  go_wp2_with fail
  refine (mul_n (HN.out.1.below H2.out.2.1) H2.out.1 HL.out.2.1).mono ?_
  rintro e w3 ⟨v3, rfl, hv, hb⟩
  have H3 := Lib.hid (And.intro (And.intro (H2.out.1.below hb) hv) (And.intro (below_trans H2.out.2.1 hb) (below_trans H2.out.2.2 hb)))
  clear hv hb
  go_wp2_with fail
  refine (power_c w3 m (by omega)).mono ?_
  rintro e w4 ⟨v4, rfl, hv, hb⟩
  have H4 := Lib.hid (And.intro (And.intro (H3.out.1.1.below hb) (And.intro (H3.out.1.2.below hb) hv)) (And.intro (below_trans H3.out.2.1 hb) (below_trans H3.out.2.2 hb)))
  clear hv hb
  go_wp2_with fail
  refine (div_n H4.out.1.1 H4.out.1.2.2 (Nat.pow_pos (by omega)) (ten_lim (by omega))).mono ?_
  rintro e w5 ⟨v5', v6, rfl, hv, _, hb⟩
  rw [ten_div] at hv
  have H5 := Lib.hid (And.intro (And.intro (H4.out.1.2.1.below hb) hv) (And.intro (below_trans H4.out.2.1 hb) (below_trans H4.out.2.2 hb)))
  clear hv hb
  go_wp2_with fail
  refine (mul_n (HN.out.1.below H5.out.2.1) H5.out.1.2 HL.out.2.2.2).mono ?_
  rintro e w6 ⟨v7, rfl, hv, hb⟩
  have H6 := Lib.hid (And.intro (And.intro (H5.out.1.1.below hb) hv) (And.intro (below_trans H5.out.2.1 hb) (below_trans H5.out.2.2 hb)))
  clear hv hb
  go_wp2_with fail
  refine (left_n m H6.out.1.2 (by omega) (by rw [HL.out.2.2.1]; exact HL.out.2.1)).mono ?_
  rintro e w7 ⟨v8, rfl, hv, hb⟩
  rw [HL.out.2.2.1] at hv
  have H7 := Lib.hid (And.intro (And.intro (H6.out.1.1.below hb) hv) (And.intro (below_trans H6.out.2.1 hb) (below_trans H6.out.2.2 hb)))
  clear hv hb
  go_wp2_with fail
  refine (text_s w7 (HT.out.below H7.out.2.2) _ x (HN.out.1.below H7.out.2.1) HL.out.1).mono ?_
  rintro e w8 ⟨s, rfl, hd, hb⟩
  have hsl : s.size ≤ 10 * 20 := by rw [← size_list]; exact len_of hd HN.out.2.1 (by omega)
  have HD := Lib.hid hd
  have H8 := Lib.hid (And.intro (And.intro (H7.out.1.1.below hb) (H7.out.1.2.below hb)) (below_trans H7.out.2.2 hb))
  clear hd hb
  go_wp2_with fail
  refine (repeat_c m (by omega) w8).mono ?_
  rintro e w9 ⟨rfl, hb⟩
  obtain ⟨no, hno⟩ : ∃ no : ByteArray, ⟨(noughts m).toArray⟩ = no := ⟨_, rfl⟩
  have hns : no.size = m := by rw [← hno, byte_size, noughts_length]
  have hsum : ¬ 9223372036854775807 < s.size + no.size := by omega
  have hnl : no.data.toList = noughts m := by rw [← hno]
  rw [hno]
  have H9 := Lib.hid (And.intro (And.intro (H8.out.1.1.below hb) (H8.out.1.2.below hb)) (below_trans H8.out.2 hb))
  have HC := Lib.hid hnl
  clear hno hns hnl hb
  rcases Nat.eq_zero_or_pos x with hx0 | hxp
  · have hz : ((zs.length : Int) == 0) = true := by rw [HN.out.2.2 hx0]; rfl
    have Hx := Lib.hid hx0
    clear hx0
    go_wp2_with fail
    refine (text_is w9 (HT.out.below H9.out.2) _ (x * 10 ^ m) ⟨#[48]⟩ (by rw [Hx.out, Nat.zero_mul]; decide) H9.out.1.1 HL.out.2.1).mono ?_
    rintro e w10 ⟨rfl, hb⟩
    have H10 := Lib.hid (And.intro (And.intro (H9.out.1.1.below hb) (H9.out.1.2.below hb)) (below_trans H9.out.2 hb))
    clear hb
    go_wp2_with fail
    refine (cmp_n H10.out.1.1 H10.out.1.2).mono ?_
    rintro e w11 ⟨rfl, hb⟩
    rw [ord3_eq]
    have H11 := Lib.hid (below_trans H10.out.2 hb)
    clear hb
    go_wp2_with fail
    go_ret
    exact ⟨rfl, H11.out⟩
  · have hz : ((zs.length : Int) == 0) = false := by
      rw [beq_eq_false_iff_ne]
      intro e
      have : zs = [] := List.eq_nil_of_length_eq_zero (by omega)
      have h0 := HN.out.1
      obtain ⟨A', c', us, he, ho, hu⟩ := h0
      injection he with _ hlen _
      rw [this] at hlen
      have hus : us = [] := List.eq_nil_of_length_eq_zero hlen.symm
      rw [hus] at hu
      simp at hu
      omega
    have Hx := Lib.hid hxp
    clear hxp
    go_wp2_with fail
    refine (text_s w9 (HT.out.below H9.out.2) _ (x * 10 ^ m) H9.out.1.1 HL.out.2.1).mono ?_
    rintro e w10 ⟨s2, rfl, hd2, hb⟩
    have heq : (s2.toList == (s ++ no).toList) = true := by
      rw [beq_iff_eq, bytes_append, ByteArray.toList_eq, hd2.eq (HD.out.shift Hx.out m), HC.out]
    have H10 := Lib.hid (And.intro (And.intro (H9.out.1.1.below hb) (H9.out.1.2.below hb)) (below_trans H9.out.2 hb))
    clear hb hd2
    go_wp2_with fail
    refine (cmp_n H10.out.1.1 H10.out.1.2).mono ?_
    rintro e w11 ⟨rfl, hb⟩
    rw [ord3_eq]
    have H11 := Lib.hid (below_trans H10.out.2 hb)
    clear hb
    go_wp2_with fail
    go_ret
    exact ⟨rfl, H11.out⟩
end Go.Proofs.YtdaoechbaejjmaaDoor
