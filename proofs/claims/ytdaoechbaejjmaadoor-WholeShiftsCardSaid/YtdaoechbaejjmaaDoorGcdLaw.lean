/- DigitsGcd: the walk. -/
import Derived.Test.YtdaoechbaejjmaaDoorPlacesLaw
namespace Go.Proofs.YtdaoechbaejjmaaDoor
open Go Go.RowKit Go.Shelf

theorem Nm.form {w : World} {v : Value} {x : Nat} (h : Nm w v x) : ∃ A c n, v = .slice A n c ∧ ((n : Int) == 0) = decide (x = 0) ∧ ((n : Int) != 0) = !decide (x = 0) := by
  obtain ⟨A, c, zs, rfl, ho, rfl⟩ := h
  have e : ((zs.length : Int) == 0) = decide (val 4294967296 zs = 0) := by
    rw [Bool.eq_iff_iff, beq_iff_eq, decide_eq_true_iff]
    refine ⟨fun h => ?_, fun h => ?_⟩
    · have : zs = [] := List.eq_nil_of_length_eq_zero (by omega)
      rw [this]; rfl
    · rw [ho.2.1.nil_of (by omega) h]; rfl
  exact ⟨A, c, zs.length, rfl, e, by rw [bne, e]⟩
theorem nm_arg10 {w : World} {v : Value} {zs : List Nat} (hR : Arg w v zs) (hb : ∀ x ∈ zs, x < 4294967296) (hl : zs.length ≤ 10) (hk : checkOf zs = 0) :
    Nm w v (val 4294967296 zs) ∧ val 4294967296 zs < 4294967296 ^ 10 := by
  obtain ⟨⟨A, c, rfl⟩, _⟩ := id hR
  have := nm_arg hR hb hl (by omega) hk
  exact ⟨this.1, this.2.1⟩

theorem gcd_lt {x y L : Nat} (hx : x < L) (hy : y < L) : Nat.gcd x y < L := by
  rcases Nat.eq_zero_or_pos x with rfl | h
  · rw [Nat.gcd_zero_left]; exact hy
  · exact Nat.lt_of_le_of_lt (Nat.gcd_le_left _ h) hx
/-- The sizes, and what divides. -/
theorem gcd_facts {a b c : Nat} (hx : ¬ (a * c = 0 ∧ b * c = 0)) : 0 < Nat.gcd (a * c) (b * c) ∧ a * c % Nat.gcd (a * c) (b * c) = 0 ∧ b * c % Nat.gcd (a * c) (b * c) = 0 ∧
    Nat.gcd (a * c / Nat.gcd (a * c) (b * c)) (b * c / Nat.gcd (a * c) (b * c)) = 1 ∧ Nat.gcd (a * c) (b * c) % c = 0 ∧ 0 < c := by
  have hp : 0 < Nat.gcd (a * c) (b * c) := by
    rcases Nat.eq_zero_or_pos (a * c) with h | h
    · exact Nat.gcd_pos_of_pos_right _ (by rcases Nat.eq_zero_or_pos (b * c) with h2 | h2; exact absurd ⟨h, h2⟩ hx; exact h2)
    · exact Nat.gcd_pos_of_pos_left _ h
  refine ⟨hp, Nat.mod_eq_zero_of_dvd (Nat.gcd_dvd_left _ _), Nat.mod_eq_zero_of_dvd (Nat.gcd_dvd_right _ _), ?_, ?_, ?_⟩
  · rcases Nat.eq_zero_or_pos (a * c) with h | h
    · rcases Nat.eq_zero_or_pos (b * c) with h2 | h2
      · exact absurd ⟨h, h2⟩ hx
      · exact Nat.gcd_div_gcd_div_gcd_of_pos_right h2
    · exact Nat.gcd_div_gcd_div_gcd_of_pos_left h
  · exact Nat.mod_eq_zero_of_dvd (Nat.dvd_gcd (Nat.dvd_mul_left _ _) (Nat.dvd_mul_left _ _))
  · rcases Nat.eq_zero_or_pos c with h | h
    · subst h; exact absurd ⟨by simp, by simp⟩ hx
    · exact h

set_option maxRecDepth 100000 in
set_option maxHeartbeats 8000000 in
theorem gcd_law (w : World) (hT : Tab10 w) (v0 v1 v2 : Value) (xs ys zs : List Nat) (h0 : Arg w v0 xs) (b0 : ∀ x ∈ xs, x < 4294967296) (h1 : Arg w v1 ys) (b1 : ∀ x ∈ ys, x < 4294967296) (h2 : Arg w v2 zs) (b2 : ∀ x ∈ zs, x < 4294967296) :
    Calls Tryd.prog 5 #[v0, v1, v2] w fun e w' => e = .returned (.bool true) ∧ Below w.heap.size w w' := by
  obtain ⟨⟨A0, c0, rfl⟩, _⟩ := id h0
  obtain ⟨⟨A1, c1, rfl⟩, _⟩ := id h1
  obtain ⟨⟨A2, c2, rfl⟩, _⟩ := id h2
  have HR := Lib.hid (And.intro h0 (And.intro h1 h2))
  have HX := Lib.hid (And.intro b0 (And.intro b1 b2))
  have HT := Lib.hid hT
  clear hT h0 b0 h1 b1 h2 b2
  go_enter Tryd.func5, Tryd.ntmps5
  go_wp2_with fail
  refine (writes_c w HT.out).mono ?_
  rintro e w1 ⟨rfl, hb⟩
  have HB1 := Lib.hid hb
  clear hb
  go_wp2_with fail
  have HB5 := Lib.hid (HB1.out.alloc (Below.size HB1.out) (.cells #[.slice A0 xs.length c0, .slice A1 ys.length c1, .slice A2 zs.length c2] 24))
  have HC5 := Lib.hid (lay_cells w1 [.slice A0 xs.length c0, .slice A1 ys.length c1, .slice A2 zs.length c2] 24)
  obtain ⟨g, hg⟩ : ∃ g, w1.heap.size = g := ⟨_, rfl⟩
  rw [hg] at HC5
  generalize w1.alloc (.cells #[.slice A0 xs.length c0, .slice A1 ys.length c1, .slice A2 zs.length c2] 24) = w5 at *
  have HR5 := Lib.hid (And.intro (HR.out.1.below HB5.out (Nat.le_refl _)) (And.intro (HR.out.2.1.below HB5.out (Nat.le_refl _)) (HR.out.2.2.below HB5.out (Nat.le_refl _))))
  have HL := Lib.hid (show ∀ k : Nat, k < 3 → ∃ (A : Option Addr) (n d : Nat) (us : List Nat), us.length = n ∧ w5.cell? ⟨g, k, none⟩ = some (.slice A n d) ∧ ([xs, ys, zs] : List (List Nat))[k]? = some us ∧ Arg w5 (.slice A n d) us from fun k hk => by
    match k, hk with
    | 0, _ => exact ⟨A0, xs.length, c0, xs, rfl, HC5.out 0 _ rfl, rfl, HR5.out.1⟩
    | 1, _ => exact ⟨A1, ys.length, c1, ys, rfl, HC5.out 1 _ rfl, rfl, HR5.out.2.1⟩
    | 2, _ => exact ⟨A2, zs.length, c2, zs, rfl, HC5.out 2 _ rfl, rfl, HR5.out.2.2⟩)
  rw [hg]
  have Hg := Lib.hid hg
  clear HB1 HC5 hg
  go_wp2_with fail
  go_loop [30] (fun i => ∃ k : Nat, k ≤ 3 ∧ i = .int .i64 k ∧ Hid (∀ (j : Nat) (us : List Nat), j < k → ([xs, ys, zs] : List (List Nat))[j]? = some us → us.length ≤ 10 ∧ checkOf us = 0)) (fun i => 3 - (intOf i).toNat)
  case atStart => exact ⟨0, Nat.zero_le _, rfl, fun j us h _ => absurd h (by omega)⟩
  case round =>
    obtain ⟨k, hk, rfl, hz⟩ := hrel
    by_cases hlt : k < 3
    · obtain ⟨A, n, d, us, hn, hc, hus, har⟩ := HL.out k hlt
      have hki : (k : Int) < 3 := by omega
      have Hus := Lib.hid (And.intro hus (And.intro hn har))
      clear hus hn har
      by_cases h10 : 10 < n
      · have hgd : decide ((n : Int) > 10) = true := by rw [decide_eq_true_iff]; omega
        go_wp2_with fail
        go_ret
        exact ⟨rfl, HB5.out⟩
      · have hgd : decide ((n : Int) > 10) = false := by rw [decide_eq_false_iff_not]; omega
        have HCK := Lib.hid (check_c w5 (.slice A n d) us (Hus.out.2.2.2 (by rw [Hus.out.2.1]; omega)))
        by_cases hok : checkOf us = 0
        · have Hk := Lib.hid hok
          clear hok
          go_wp2_with fail
          refine HCK.out.mono ?_
          rintro e w6 ⟨rfl, rfl⟩
          rw [Hk.out]
          go_wp2_with fail
          go_round
          case rel =>
            refine ⟨k + 1, by omega, by go_num, fun j vs hj hv => ?_⟩
            by_cases e : j = k
            · subst e
              rw [Hus.out.1] at hv
              injection hv with hv
              subst hv
              exact ⟨by rw [Hus.out.2.1]; omega, Hk.out⟩
            · exact hz.out j vs (by omega) hv
          case measure => simp [intOf]; omega
        · obtain ⟨q, hq⟩ : ∃ q, checkOf us = q := ⟨_, rfl⟩
          rw [hq] at HCK hok
          have hb1 : (q != 0) = true := by rw [bne_iff_ne]; exact hok
          have hb2 : (q == 0) = false := by rw [beq_eq_false_iff_ne]; exact hok
          clear hq hok
          go_wp2_with fail
          refine HCK.out.mono ?_
          rintro e w6 ⟨rfl, rfl⟩
          go_wp2_with fail
          go_ret
          exact ⟨rfl, HB5.out⟩
    · obtain rfl : k = 3 := by omega
      have f0 := hz.out 0 xs (by omega) rfl
      have f1 := hz.out 1 ys (by omega) rfl
      have f2 := hz.out 2 zs (by omega) rfl
      have n0 := nm_arg10 HR5.out.1 HX.out.1 f0.1 f0.2
      have n1 := nm_arg10 HR5.out.2.1 HX.out.2.1 f1.1 f1.2
      have n2 := nm_arg10 HR5.out.2.2 HX.out.2.2 f2.1 f2.2
      have hz2 := n2.1.form
      generalize val 4294967296 xs = a at n0
      generalize val 4294967296 ys = b at n1
      generalize val 4294967296 zs = c at n2 hz2
      obtain ⟨A2', c2', l2, he2, hl2, hl2'⟩ := hz2
      injection he2 with he2a he2b he2c
      subst he2a; subst he2b; subst he2c
      have hac : a * c < Lim := lim_of (mul_pow_lt n0.2 n2.2) (by omega)
      have hbc : b * c < Lim := lim_of (mul_pow_lt n1.2 n2.2) (by omega)
      have HN := Lib.hid (And.intro n0.1 (And.intro n1.1 n2.1))
      have HP := Lib.hid (And.intro hac hbc)
      have HZ2 := Lib.hid hl2
      clear f0 f1 f2 n0 n1 n2 hac hbc hl2 hl2' hz HL HR5 HX HR
      go_wp2_with fail
      refine (mul_n HN.out.1 HN.out.2.2 HP.out.1).mono ?_
      rintro e w6 ⟨u6, rfl, hv, hb⟩
      have H6 := Lib.hid (And.intro hv (And.intro hb (below_trans HB5.out hb)))
      clear hv hb
      go_wp2_with fail
      refine (mul_n (HN.out.2.1.below H6.out.2.1) (HN.out.2.2.below H6.out.2.1) HP.out.2).mono ?_
      rintro e w7 ⟨u7, rfl, hv, hb⟩
      have H7 := Lib.hid (And.intro (And.intro (H6.out.1.below hb) hv) (And.intro ((HN.out.2.2.below H6.out.2.1).below hb) (below_trans H6.out.2.2 hb)))
      clear hv hb
      go_wp2_with fail
      refine (gcd_c w7 _ _ (a * c) (b * c) H7.out.1.1 H7.out.1.2 HP.out.1 HP.out.2).mono ?_
      rintro e w8 ⟨u8, rfl, hv, hb⟩
      obtain ⟨B6, d6, l6, rfl, e6, e6'⟩ := H7.out.1.1.form
      obtain ⟨B7, d7, l7, rfl, e7, e7'⟩ := H7.out.1.2.form
      obtain ⟨B8, d8, l8, rfl, e8, e8'⟩ := hv.form
      have H8 := Lib.hid (And.intro (And.intro (H7.out.1.1.below hb) (H7.out.1.2.below hb)) (And.intro hv (And.intro (H7.out.2.1.below hb) (below_trans H7.out.2.2 hb))))
      clear hv hb
      by_cases hz : a * c = 0 ∧ b * c = 0
      · have hg0 : Nat.gcd (a * c) (b * c) = 0 := by rw [hz.1, hz.2]; rfl
        have t6 : ((l6 : Int) == 0) = true := by rw [e6]; exact decide_eq_true hz.1
        have t7 : ((l7 : Int) == 0) = true := by rw [e7]; exact decide_eq_true hz.2
        have t8 : ((l8 : Int) == 0) = true := by rw [e8]; exact decide_eq_true hg0
        clear e6 e6' e7 e7' e8 e8' hz hg0
        go_wp2_with fail
        go_ret
        exact ⟨rfl, H8.out.2.2.2⟩
      · have HF := Lib.hid (gcd_facts hz)
        have Hz := Lib.hid hz
        have HE := Lib.hid (And.intro e6 e7)
        clear e6 e6' e7 e7' e8 e8' hz
        have hcase : ((l6 : Int) == 0) = false ∨ (((l6 : Int) == 0) = true ∧ ((l7 : Int) == 0) = false) := by
          by_cases h : a * c = 0
          · exact .inr ⟨by rw [HE.out.1]; exact decide_eq_true h, by rw [HE.out.2]; exact decide_eq_false fun h' => Hz.out ⟨h, h'⟩⟩
          · exact .inl (by rw [HE.out.1]; exact decide_eq_false h)
        rcases hcase with hc6 | ⟨hc6, hc7⟩
        all_goals
          go_wp2_with fail
          refine (div_n H8.out.1.1 H8.out.2.1 HF.out.1 HP.out.1).mono ?_
          rintro e w9 ⟨p1, r1, rfl, hp1, hr1, hb⟩
          rw [HF.out.2.1] at hr1
          obtain ⟨B9, d9, l9, rfl, e9, e9'⟩ := hr1.form
          have t9 : ((l9 : Int) != 0) = false := e9'
          have H9 := Lib.hid (And.intro hp1 (And.intro hb (below_trans H8.out.2.2.2 hb)))
          clear hp1 hr1 hb e9 e9'
          go_wp2_with fail
          refine (div_n (H8.out.1.2.below H9.out.2.1) (H8.out.2.1.below H9.out.2.1) HF.out.1 HP.out.2).mono ?_
          rintro e w10 ⟨p2, r2, rfl, hp2, hr2, hb⟩
          rw [HF.out.2.2.1] at hr2
          obtain ⟨B10, d10, l10, rfl, e10, e10'⟩ := hr2.form
          have t10 : ((l10 : Int) != 0) = false := e10'
          have H10 := Lib.hid (And.intro (And.intro (H9.out.1.below hb) hp2) (And.intro (below_trans H9.out.2.1 hb) (below_trans H9.out.2.2 hb)))
          clear hp2 hr2 hb e10 e10'
          go_wp2_with fail
          refine (gcd_c w10 _ _ _ _ H10.out.1.1 H10.out.1.2 (Nat.lt_of_le_of_lt (Nat.div_le_self _ _) HP.out.1) (Nat.lt_of_le_of_lt (Nat.div_le_self _ _) HP.out.2)).mono ?_
          rintro e w11 ⟨u11, rfl, hv, hb⟩
          rw [HF.out.2.2.2.1] at hv
          have H11 := Lib.hid (And.intro hv (And.intro (below_trans H10.out.2.1 hb) (below_trans H10.out.2.2 hb)))
          clear hv hb
          go_wp2_with fail
          refine (of_n w11 1 (by omega)).mono ?_
          rintro e w12 ⟨u12, rfl, hv, hb⟩
          have H12 := Lib.hid (And.intro (And.intro (H11.out.1.below hb) hv) (And.intro (below_trans H11.out.2.1 hb) (below_trans H11.out.2.2 hb)))
          clear hv hb
          go_wp2_with fail
          refine (equal_n H12.out.1.1 H12.out.1.2).mono ?_
          rintro e w13 ⟨rfl, hb⟩
          have h11 : decide ((1 : Nat) = 1) = true := rfl
          rw [h11]
          have H13 := Lib.hid (And.intro (below_trans H12.out.2.1 hb) (below_trans H12.out.2.2 hb))
          have tl2 : ((zs.length : Int) == 0) = false := by rw [HZ2.out]; exact decide_eq_false (by have := HF.out.2.2.2.2.2; omega)
          clear hb h11
          go_wp2_with fail
          refine (div_n (H8.out.2.1.below H13.out.1) (H8.out.2.2.1.below H13.out.1) HF.out.2.2.2.2.2 (gcd_lt HP.out.1 HP.out.2)).mono ?_
          rintro e w14 ⟨p3, r3, rfl, hp3, hr3, hb⟩
          rw [HF.out.2.2.2.2.1] at hr3
          obtain ⟨B14, d14, l14, rfl, e14, e14'⟩ := hr3.form
          have t14 : ((l14 : Int) == 0) = true := e14
          have H14 := Lib.hid (And.intro (below_trans H13.out.1 hb) (below_trans H13.out.2 hb))
          clear hp3 hr3 hb e14 e14'
          go_wp2_with fail
          refine (gcd_c w14 _ _ _ _ (H8.out.1.2.below H14.out.1) (H8.out.1.1.below H14.out.1) HP.out.2 HP.out.1).mono ?_
          rintro e w15 ⟨u15, rfl, hv, hb⟩
          rw [Nat.gcd_comm] at hv
          have H15 := Lib.hid (And.intro (And.intro ((H8.out.2.1.below H14.out.1).below hb) hv) (below_trans H14.out.2 hb))
          clear hv hb
          go_wp2_with fail
          refine (equal_n H15.out.1.1 H15.out.1.2).mono ?_
          rintro e w16 ⟨rfl, hb⟩
          have hgg : decide (Nat.gcd (a * c) (b * c) = Nat.gcd (a * c) (b * c)) = true := decide_eq_true rfl
          rw [hgg]
          have H16 := Lib.hid (below_trans H15.out.2 hb)
          clear hb hgg
          go_wp2_with fail
          go_ret
          exact ⟨rfl, H16.out⟩
end Go.Proofs.YtdaoechbaejjmaaDoor
