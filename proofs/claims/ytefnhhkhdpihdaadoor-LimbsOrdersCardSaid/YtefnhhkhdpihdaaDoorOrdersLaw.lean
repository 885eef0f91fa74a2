/- LimbsOrders: the walk. -/
import Derived.Test.YtefnhhkhdpihdaaDoorRefH2
import Derived.Test.YtefnhhkhdpihdaaDoorHeldB
namespace Go.Proofs.YtefnhhkhdpihdaaDoor
open Go Go.RowKit Go.Shelf

set_option maxRecDepth 100000 in
set_option maxHeartbeats 4000000 in
theorem orders_law (w : World) (hT : Tab w) (v0 : Value) (v1 : Value) (xs ys : List Nat) (h0 : Arg w v0 xs) (b0 : ∀ x ∈ xs, x < 4294967296) (h1 : Arg w v1 ys) (b1 : ∀ x ∈ ys, x < 4294967296) :
    Calls Tryd.prog 7 #[v0, v1] w fun e w' => e = .returned (.bool true) ∧ Below w.heap.size w w' := by
  obtain ⟨⟨A0, c0, rfl⟩, _⟩ := id h0
  obtain ⟨⟨A1, c1, rfl⟩, _⟩ := id h1
  have HR := Lib.hid (And.intro h0 h1)
  have HX := Lib.hid (And.intro b0 b1)
  have HT := Lib.hid hT
  clear hT h0 b0 h1 b1
  go_enter Tryd.func7, Tryd.ntmps7
  go_wp2_with fail
  refine (reckons_c w HT.out).mono ?_
  rintro e w1 ⟨rfl, B⟩
  have HB1 := Lib.hid B
  clear B
  go_wp2_with fail
  have HB5 := Lib.hid (HB1.out.alloc (Below.size HB1.out) (.cells #[.slice A0 xs.length c0, .slice A1 ys.length c1] 23))
  have HC5 := Lib.hid (lay_cells w1 [.slice A0 xs.length c0, .slice A1 ys.length c1] 23)
  generalize w1.alloc (.cells #[.slice A0 xs.length c0, .slice A1 ys.length c1] 23) = w5 at *
  have HR5 := Lib.hid (And.intro (HR.out.1.below HB5.out (Nat.le_refl _)) (HR.out.2.below HB5.out (Nat.le_refl _)))
  refine (fit_law w5 w1.heap.size 2 [.slice A0 xs.length c0, .slice A1 ys.length c1] [xs, ys] rfl (by simp) HC5.out ?_).mono ?_
  · intro i u us hu hy
    match i, hu, hy with
    | 0, hu, hy => injection hu with hu; injection hy with hy; subst hu; subst hy; exact HR5.out.1
    | 1, hu, hy => injection hu with hu; injection hy with hy; subst hu; subst hy; exact HR5.out.2
  rintro e w6 ⟨rfl, rfl⟩
  clear HC5 HB1
  by_cases hf : FitOne xs ∧ FitOne ys
  case neg =>
    have hfa : fitAll [xs, ys] = false := by
      by_cases g0 : FitOne xs
      · exact fitAll_false (k := 1) rfl (fun g1 => hf ⟨g0, g1⟩)
      · exact fitAll_false (k := 0) rfl g0
    rw [hfa]
    clear hfa hf
    go_wp2_with fail
    go_ret
    exact ⟨rfl, HB5.out⟩
  obtain ⟨f0, f1⟩ := hf
  have hfa : fitAll [xs, ys] = true := fitAll_true fun j us hj hy => by
    match j, hy with
    | 0, hy => injection hy with hy; subst hy; exact f0
    | 1, hy => injection hy with hy; subst hy; exact f1
  rw [hfa]
  have H := Lib.hid (show Held w w5 [N32 (.slice A0 xs.length c0) xs, N32 (.slice A1 ys.length c1) ys] from ⟨HB5.out, fun m hm => by
    simp only [List.mem_cons, List.not_mem_nil, or_false] at hm
    rcases hm with rfl | rfl
    · exact ⟨HR5.out.1.2 f0.1, f0.can (k := .u32) HX.out.1, Nat.le_trans f0.1 (by omega)⟩
    · exact ⟨HR5.out.2.2 f1.1, f1.can (k := .u32) HX.out.2, Nat.le_trans f1.1 (by omega)⟩⟩)
  have HL := Lib.hid (And.intro (And.intro f0.1 (fit_lt f0 HX.out.1)) (And.intro f1.1 (fit_lt f1 HX.out.2)))
  clear hfa f0 f1 HR5 HX HR HB5
  go_wp2_with fail
  refine (refOf_h H.out 0 rfl (by have := HL.out.1.1; omega)).mono ?_
  rintro e w6 ⟨B0, d0, us, rfl, hu, lu, h⟩
  have Hu := Lib.hid (And.intro hu lu)
  have H6 := Lib.hid h
  clear H hu lu h
  go_wp2_with fail
  refine (refOf_h H6.out 1 rfl (by have := HL.out.2.1; omega)).mono ?_
  rintro e w7 ⟨B1, d1, vs, rfl, hv, lv, h⟩
  have Hv := Lib.hid (And.intro hv lv)
  have H7 := Lib.hid h
  clear H6 hv lv h
  obtain ⟨c, hc⟩ : ∃ c, c = ord3 (val 4294967296 xs) (val 4294967296 ys) := ⟨_, rfl⟩
  have hcr := ord3_range (val 4294967296 xs) (val 4294967296 ys)
  rw [← hc] at hcr
  have Hc := Lib.hid hc
  clear hc
  go_wp2_with fail
  refine (compare_h H7.out 0 1 rfl rfl).mono ?_
  rintro e w8 ⟨rfl, h⟩
  rw [← Hc.out]
  have H8 := Lib.hid h
  clear H7 h
  go_wp2_with fail
  refine (refCmp_h H8.out 2 3 rfl rfl).mono ?_
  rintro e w9 ⟨rfl, h⟩
  rw [Hu.out.1, Hv.out.1, ← Hc.out]
  have H9 := Lib.hid h
  clear H8 h
  go_wp2_with fail
  refine (compare_h H9.out 1 0 rfl rfl).mono ?_
  rintro e w10 ⟨rfl, h⟩
  rw [ord3_neg (val 4294967296 xs) (val 4294967296 ys), ← Hc.out]
  have H10 := Lib.hid h
  clear H9 h
  go_wp2_with fail
  refine (equal_h H10.out 0 1 rfl rfl).mono ?_
  rintro e w11 ⟨rfl, h⟩
  rw [ord3_zero, ← Hc.out]
  have H11 := Lib.hid h
  clear H10 h
  go_wp2_with fail
  refine (bits_h H11.out 0 rfl).mono ?_
  rintro e w12 ⟨n, rfl, hn, h⟩
  have hn1280 : n ≤ 1280 := bits_1280 hn HL.out.1.2
  have Hn := Lib.hid hn
  have H12 := Lib.hid h
  clear H11 h hn
  go_wp2_with fail
  refine (tail_h HT.out H12.out 0 rfl).mono ?_
  rintro e w13 ⟨t, rfl, ht, h⟩
  have Ht := Lib.hid ht
  have H13 := Lib.hid h
  clear H12 h ht
  by_cases h0 : xs.length = 0
  · obtain rfl : xs = [] := List.eq_nil_of_length_eq_zero h0
    have e1 : n = 0 := by
      rcases Hn.out.2 with h | h
      · exact h
      · have h1 := Nat.pow_pos (n := n - 1) (show 0 < 2 by omega)
        rw [val_nil] at h
        omega
    have e2 : t = 0 := by
      rcases Ht.out with h | ⟨m, h⟩
      · exact h.2
      · have h1 := Nat.mul_pos (Nat.pow_pos (n := t) (show 0 < 2 by omega)) (show 0 < 2 * m + 1 by omega)
        rw [val_nil] at h
        omega
    subst e1
    subst e2
    go_wp2_with fail
    go_ret
    exact ⟨rfl, H13.out.1⟩
  have hpos : 0 < val 4294967296 xs := (N32.ok H13.out 0 rfl).2.1.pos (by omega) (by intro e; rw [e] at h0; exact h0 rfl)
  have hn1 := isBits_pos Hn.out hpos
  have hd0 : ((xs.length : Int) == 0) = false := by rw [beq_eq_false_iff_ne]; omega
  have ht1280 : t < 1280 := tail_1280 Ht.out hpos HL.out.1.2
  have Hpos := Lib.hid hpos
  clear hpos h0
  go_wp2_with fail
  refine (refPow_h H13.out t (by omega)).mono ?_
  rintro e w14 ⟨B2, d2, ps, rfl, hp, lp, h⟩
  have Hp := Lib.hid (And.intro hp lp)
  have H14 := Lib.hid h
  clear H13 hp lp h
  go_wp2_with fail
  refine (refDiv_h H14.out 2 4 rfl rfl (by have := Hu.out.2; have := HL.out.1.1; omega) (by have := Hp.out.2; omega) (by rw [Hp.out.1]; exact Nat.pow_pos (by omega))).mono ?_
  rintro e w15 ⟨B3, d3, qs, B4, d4, rs, rfl, _, hr, _, _, _, cr, h⟩
  have hrs : rs = [] := cr.nil_of (by omega) (by rw [hr, Hu.out.1, Hp.out.1]; exact (isTail_mod Ht.out Hpos.out).1)
  subst hrs
  have H15 := Lib.hid h
  clear H14 hr cr h
  go_wp2_with fail
  refine (refPow_h H15.out (t + 1) (by omega)).mono ?_
  rintro e w16 ⟨B5, d5, ps2, rfl, hp, lp, h⟩
  have Hp2 := Lib.hid (And.intro hp lp)
  have H16 := Lib.hid h
  clear H15 hp lp h
  go_wp2_with fail
  refine (refDiv_h H16.out 2 7 rfl rfl (by have := Hu.out.2; have := HL.out.1.1; omega) (by have := Hp2.out.2; omega) (by rw [Hp2.out.1]; exact Nat.pow_pos (by omega))).mono ?_
  rintro e w17 ⟨B6, d6, qs2, B7, d7, rs2, rfl, _, hr, _, _, _, cr, h⟩
  have hrs : rs2.length ≠ 0 := fun e => by
    obtain rfl : rs2 = [] := List.eq_nil_of_length_eq_zero e
    rw [Hu.out.1, Hp2.out.1] at hr
    exact (isTail_mod Ht.out Hpos.out).2 hr.symm
  have hrs2 : ((rs2.length : Int) != 0) = true := by rw [bne_iff_ne]; omega
  have H17 := Lib.hid h
  clear H16 hr cr h hrs
  go_wp2_with fail
  refine (refPow_h H17.out n (by omega)).mono ?_
  rintro e w18 ⟨B8, d8, ps3, rfl, hp, lp, h⟩
  have Hp3 := Lib.hid (And.intro hp lp)
  have H18 := Lib.hid h
  clear H17 hp lp h
  go_wp2_with fail
  refine (refCmp_h H18.out 2 10 rfl rfl).mono ?_
  rintro e w19 ⟨rfl, h⟩
  rw [show ord3 (val 256 us) (val 256 ps3) = -1 from ord3_lt (by rw [Hu.out.1, Hp3.out.1]; exact Hn.out.1)]
  have H19 := Lib.hid h
  clear H18 h
  obtain ⟨n1, hn1e⟩ : ∃ n1, n = n1 + 1 := ⟨n - 1, by omega⟩
  have en1 : (n : Int) - 1 = (n1 : Int) := by omega
  have Hn1 := Lib.hid hn1e
  clear hn1e
  go_wp2_with fail
  refine (refPow_h H19.out n1 (by have := Hn1.out; omega)).mono ?_
  rintro e w20 ⟨B9, d9, ps4, rfl, hp, lp, h⟩
  have Hp4 := Lib.hid (And.intro hp lp)
  have H20 := Lib.hid h
  clear H19 hp lp h
  go_wp2_with fail
  refine (refCmp_h H20.out 2 11 rfl rfl).mono ?_
  rintro e w21 ⟨rfl, h⟩
  have hge := ord3_ge (x := val 256 us) (y := val 256 ps4)
  rw [decide_eq_true (show val 256 ps4 ≤ val 256 us by
    rw [Hu.out.1, Hp4.out.1]
    rcases Hn.out.2 with h | h
    · omega
    · rwa [show n - 1 = n1 by have := Hn1.out; omega] at h)] at hge
  have hge2 : 0 ≤ ord3 (val 256 us) (val 256 ps4) := of_decide_eq_true hge
  generalize ord3 (val 256 us) (val 256 ps4) = oo at hge hge2 ⊢
  have H21 := Lib.hid h
  clear H20 h
  go_wp2_with fail
  go_ret
  exact ⟨rfl, H21.out.1⟩
end Go.Proofs.YtefnhhkhdpihdaaDoor
