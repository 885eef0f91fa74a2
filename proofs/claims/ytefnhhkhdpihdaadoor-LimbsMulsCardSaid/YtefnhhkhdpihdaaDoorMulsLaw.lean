/- LimbsMuls: the walk. -/
import Derived.Test.YtefnhhkhdpihdaaDoorRefH2
namespace Go.Proofs.YtefnhhkhdpihdaaDoor
open Go Go.RowKit Go.Shelf

set_option maxRecDepth 100000 in
set_option maxHeartbeats 4000000 in
theorem muls_law (w : World) (hT : Tab w) (v0 : Value) (v1 : Value) (xs ys : List Nat) (h0 : Arg w v0 xs) (b0 : ∀ x ∈ xs, x < 4294967296) (h1 : Arg w v1 ys) (b1 : ∀ x ∈ ys, x < 4294967296) :
    Calls Tryd.prog 4 #[v0, v1] w fun e w' => e = .returned (.bool true) ∧ Below w.heap.size w w' := by
  obtain ⟨⟨A0, c0, rfl⟩, _⟩ := id h0
  obtain ⟨⟨A1, c1, rfl⟩, _⟩ := id h1
  have HR := Lib.hid (And.intro h0 h1)
  have HX := Lib.hid (And.intro b0 b1)
  have HT := Lib.hid hT
  clear hT h0 b0 h1 b1
  go_enter Tryd.func4, Tryd.ntmps4
  go_wp2_with fail
  refine (reckons_c w HT.out).mono ?_
  rintro e w1 ⟨rfl, B⟩
  have HB1 := Lib.hid B
  clear B
  go_wp2_with fail
  have HB5 := Lib.hid (HB1.out.alloc (Below.size HB1.out) (.cells #[.slice A0 xs.length c0, .slice A1 ys.length c1] 23))
  have HC5 := Lib.hid (lay_cells w1 [.slice A0 xs.length c0, .slice A1 ys.length c1] 23)
  generalize w1.alloc (.cells #[.slice A0 xs.length c0, .slice A1 ys.length c1] 23) = w5 at *
  have HR5 := Lib.hid (And.intro (HR.out.1.below HB5.out (Nat.le_refl _)) (HR.out.2.below HB5.out (Nat.le_refl _)))
  refine (fit_law w5 w1.heap.size 2 [.slice A0 xs.length c0, .slice A1 ys.length c1] [xs, ys] rfl (by simp) HC5.out ?_).mono ?_
  · intro i u us hu hy
    match i, hu, hy with
    | 0, hu, hy => injection hu with hu; injection hy with hy; subst hu; subst hy; exact HR5.out.1
    | 1, hu, hy => injection hu with hu; injection hy with hy; subst hu; subst hy; exact HR5.out.2
  rintro e w6 ⟨rfl, rfl⟩
  clear HC5 HB1
  by_cases hf : FitOne xs ∧ FitOne ys
  case neg =>
    have hfa : fitAll [xs, ys] = false := by
      by_cases g0 : FitOne xs
      · exact fitAll_false (k := 1) rfl (fun g1 => hf ⟨g0, g1⟩)
      · exact fitAll_false (k := 0) rfl g0
    rw [hfa]
    clear hfa hf
    go_wp2_with fail
    go_ret
    exact ⟨rfl, HB5.out⟩
  obtain ⟨f0, f1⟩ := hf
  have hfa : fitAll [xs, ys] = true := fitAll_true fun j us hj hy => by
    match j, hy with
    | 0, hy => injection hy with hy; subst hy; exact f0
    | 1, hy => injection hy with hy; subst hy; exact f1
  rw [hfa]
  have H := Lib.hid (show Held w w5 [N32 (.slice A0 xs.length c0) xs, N32 (.slice A1 ys.length c1) ys] from ⟨HB5.out, fun m hm => by
    simp only [List.mem_cons, List.not_mem_nil, or_false] at hm
    rcases hm with rfl | rfl
    · exact ⟨HR5.out.1.2 f0.1, f0.can (k := .u32) HX.out.1, Nat.le_trans f0.1 (by omega)⟩
    · exact ⟨HR5.out.2.2 f1.1, f1.can (k := .u32) HX.out.2, Nat.le_trans f1.1 (by omega)⟩⟩)
  have HL := Lib.hid (And.intro (And.intro f0.1 (fit_lt f0 HX.out.1)) (And.intro f1.1 (fit_lt f1 HX.out.2)))
  clear hfa f0 f1 HR5 HX HR HB5
  go_wp2_with fail
  refine (mul_h H.out 0 1 rfl rfl (fit_mul HL.out.1.2 HL.out.2.2)).mono ?_
  rintro e w6 ⟨B0, d0, ps, rfl, hp, h⟩
  have Hp := Lib.hid hp
  have H6 := Lib.hid h
  clear H hp h
  go_wp2_with fail
  refine (mul_h H6.out 1 0 rfl rfl (fit_mul HL.out.2.2 HL.out.1.2)).mono ?_
  rintro e w7 ⟨B1, d1, qs, rfl, hq, h⟩
  have Hq := Lib.hid hq
  have H7 := Lib.hid h
  clear H6 hq h
  go_wp2_with fail
  refine (refOf_h H7.out 0 rfl (by have := HL.out.1.1; omega)).mono ?_
  rintro e w8 ⟨B2, d2, us, rfl, hu, lu, h⟩
  have Hu := Lib.hid (And.intro hu lu)
  have H8 := Lib.hid h
  clear H7 hu lu h
  go_wp2_with fail
  refine (refOf_h H8.out 1 rfl (by have := HL.out.2.1; omega)).mono ?_
  rintro e w9 ⟨B3, d3, vs, rfl, hv, lv, h⟩
  have Hv := Lib.hid (And.intro hv lv)
  have H9 := Lib.hid h
  clear H8 hv lv h
  go_wp2_with fail
  refine (refMul_h H9.out 4 5 rfl rfl (by have := Hu.out.2; have := HL.out.1.1; omega) (by have := Hv.out.2; have := HL.out.2.1; omega)).mono ?_
  rintro e w10 ⟨B4, d4, ms, rfl, hm, lm, h⟩
  have Hm := Lib.hid hm
  have H10 := Lib.hid h
  clear H9 hm lm h
  go_wp2_with fail
  refine (is_h H10.out 2 6 rfl rfl (len_of_lim (N32.ok H10.out 2 rfl).2.1 (by rw [Hp.out]; exact fit_mul HL.out.1.2 HL.out.2.2)) (by rw [Hp.out, Hm.out, Hu.out.1, Hv.out.1])).mono ?_
  rintro e w11 ⟨rfl, h⟩
  have H11 := Lib.hid h
  clear H10 h
  go_wp2_with fail
  refine (equal_h H11.out 2 3 rfl rfl).mono ?_
  rintro e w12 ⟨rfl, h⟩
  rw [decide_eq_true (show val 4294967296 ps = val 4294967296 qs by rw [Hp.out, Hq.out, Nat.mul_comm])]
  have H12 := Lib.hid h
  clear H11 h
  go_wp2_with fail
  go_ret
  exact ⟨rfl, H12.out.1⟩
end Go.Proofs.YtefnhhkhdpihdaaDoor
