/- LimbsDivs: the walk. -/
import Derived.Test.YtefnhhkhdpihdaaDoorRefH2
import Derived.Test.YtefnhhkhdpihdaaDoorLong
namespace Go.Proofs.YtefnhhkhdpihdaaDoor
open Go Go.RowKit Go.Shelf

section
variable {w0 w : World} {L : List Num} {va vb : Value} {xs ys : List Nat}
def DivNumH (w0 : World) (L : List Num) (x y : Nat) (e : Ending) (w' : World) : Prop :=
  ∃ A cap qs A2 cap2 rs, e = .returned (.tuple #[.slice A qs.length cap, .slice A2 rs.length cap2, .int .i64 0]) ∧ val 4294967296 qs = x / y ∧ val 4294967296 rs = x % y ∧
    Held w0 w' (L ++ [N32 (.slice A qs.length cap) qs, N32 (.slice A2 rs.length cap2) rs])
theorem numV_ok {w : World} {v : Value} {x : Nat} (hx : x < Lim) (h : NumV w v x) : ∃ A cap zs, v = .slice A zs.length cap ∧ val 4294967296 zs = x ∧ Ok w (.slice A zs.length cap) zs := by
  obtain ⟨zs, h1, h2, h3⟩ := h
  obtain ⟨A, cap, rfl, _⟩ := h1.form
  have hl := h2.len_le (n := maxL) (by omega) (by rw [h3]; exact hx)
  exact ⟨A, cap, zs, rfl, h3, h1, h2, by unfold maxL at hl; omega⟩
theorem div_h (H : Held w0 w L) (i j : Nat) (hi : L[i]? = some (N32 va xs)) (hj : L[j]? = some (N32 vb ys)) (hp : 0 < val 4294967296 ys) (hx : val 4294967296 xs < Lim) :
    Calls Tryd.prog 25 #[va, vb] w (DivNumH w0 L (val 4294967296 xs) (val 4294967296 ys)) :=
  (div_c w va vb xs ys (N32.ok H i hi).1 (N32.ok H j hj).1 (N32.ok H i hi).2.1.1 (N32.ok H j hj).2.1.1 (N32.ok H i hi).2.2 (N32.ok H j hj).2.2 (fun _ => divideLong_c)).mono fun _ _ h => by
    obtain ⟨hb, (⟨h, _⟩ | ⟨_, h, _⟩ | ⟨_, _, v1, v2, rfl, h1, h2⟩)⟩ := h
    · omega
    · omega
    · obtain ⟨A, cap, qs, rfl, e1, o1⟩ := numV_ok (Nat.lt_of_le_of_lt (Nat.div_le_self _ _) hx) h1
      obtain ⟨A2, cap2, rs, rfl, e2, o2⟩ := numV_ok (Nat.lt_of_le_of_lt (Nat.mod_le _ _) hx) h2
      refine ⟨A, cap, qs, A2, cap2, rs, rfl, e1, e2, ?_⟩
      have := ((H.step hb).add (N32.of_ok o1)).add (N32.of_ok o2)
      rwa [List.append_assoc] at this
theorem div_zero_h (H : Held w0 w L) (i j : Nat) (hi : L[i]? = some (N32 va xs)) (hj : L[j]? = some (N32 vb ys)) (hp : val 4294967296 ys = 0) :
    Calls Tryd.prog 25 #[va, vb] w fun e w' => e = .returned (.tuple #[.slice none 0 0, .slice none 0 0, .int .i64 10]) ∧ Held w0 w' L :=
  (div_c w va vb xs ys (N32.ok H i hi).1 (N32.ok H j hj).1 (N32.ok H i hi).2.1.1 (N32.ok H j hj).2.1.1 (N32.ok H i hi).2.2 (N32.ok H j hj).2.2 (fun _ => divideLong_c)).mono fun _ _ h => by
    obtain ⟨hb, (⟨_, h⟩ | ⟨h, _⟩ | ⟨h, _⟩)⟩ := h
    · exact ⟨h, H.step hb⟩
    · omega
    · omega
end

set_option maxRecDepth 100000 in
set_option maxHeartbeats 4000000 in
theorem divs_law (w : World) (hT : Tab w) (v0 : Value) (v1 : Value) (xs ys : List Nat) (h0 : Arg w v0 xs) (b0 : ∀ x ∈ xs, x < 4294967296) (h1 : Arg w v1 ys) (b1 : ∀ x ∈ ys, x < 4294967296) :
    Calls Tryd.prog 5 #[v0, v1] w fun e w' => e = .returned (.bool true) ∧ Below w.heap.size w w' := by
  obtain ⟨⟨A0, c0, rfl⟩, _⟩ := id h0
  obtain ⟨⟨A1, c1, rfl⟩, _⟩ := id h1
  have HR := Lib.hid (And.intro h0 h1)
  have HX := Lib.hid (And.intro b0 b1)
  have HT := Lib.hid hT
  clear hT h0 b0 h1 b1
  go_enter Tryd.func5, Tryd.ntmps5
  go_wp2_with fail
  refine (reckons_c w HT.out).mono ?_
  rintro e w1 ⟨rfl, B⟩
  have HB1 := Lib.hid B
  clear B
  go_wp2_with fail
  have HB5 := Lib.hid (HB1.out.alloc (Below.size HB1.out) (.cells #[.slice A0 xs.length c0, .slice A1 ys.length c1] 23))
  have HC5 := Lib.hid (lay_cells w1 [.slice A0 xs.length c0, .slice A1 ys.length c1] 23)
  generalize w1.alloc (.cells #[.slice A0 xs.length c0, .slice A1 ys.length c1] 23) = w5 at *
  have HR5 := Lib.hid (And.intro (HR.out.1.below HB5.out (Nat.le_refl _)) (HR.out.2.below HB5.out (Nat.le_refl _)))
  refine (fit_law w5 w1.heap.size 2 [.slice A0 xs.length c0, .slice A1 ys.length c1] [xs, ys] rfl (by simp) HC5.out ?_).mono ?_
  · intro i u us hu hy
    match i, hu, hy with
    | 0, hu, hy => injection hu with hu; injection hy with hy; subst hu; subst hy; exact HR5.out.1
    | 1, hu, hy => injection hu with hu; injection hy with hy; subst hu; subst hy; exact HR5.out.2
  rintro e w6 ⟨rfl, rfl⟩
  clear HC5 HB1
  by_cases hf : FitOne xs ∧ FitOne ys
  case neg =>
    have hfa : fitAll [xs, ys] = false := by
      by_cases g0 : FitOne xs
      · exact fitAll_false (k := 1) rfl (fun g1 => hf ⟨g0, g1⟩)
      · exact fitAll_false (k := 0) rfl g0
    rw [hfa]
    clear hfa hf
    go_wp2_with fail
    go_ret
    exact ⟨rfl, HB5.out⟩
  obtain ⟨f0, f1⟩ := hf
  have hfa : fitAll [xs, ys] = true := fitAll_true fun j us hj hy => by
    match j, hy with
    | 0, hy => injection hy with hy; subst hy; exact f0
    | 1, hy => injection hy with hy; subst hy; exact f1
  rw [hfa]
  have H := Lib.hid (show Held w w5 [N32 (.slice A0 xs.length c0) xs, N32 (.slice A1 ys.length c1) ys] from ⟨HB5.out, fun m hm => by
    simp only [List.mem_cons, List.not_mem_nil, or_false] at hm
    rcases hm with rfl | rfl
    · exact ⟨HR5.out.1.2 f0.1, f0.can (k := .u32) HX.out.1, Nat.le_trans f0.1 (by omega)⟩
    · exact ⟨HR5.out.2.2 f1.1, f1.can (k := .u32) HX.out.2, Nat.le_trans f1.1 (by omega)⟩⟩)
  have HL := Lib.hid (And.intro (And.intro f0.1 (fit_lt f0 HX.out.1)) (And.intro f1.1 (fit_lt f1 HX.out.2)))
  clear hfa f0 f1 HR5 HX HR HB5
  by_cases h0 : ys.length = 0
  · obtain rfl : ys = [] := List.eq_nil_of_length_eq_zero h0
    go_wp2_with fail
    refine (div_zero_h H.out 0 1 rfl rfl rfl).mono ?_
    rintro e w6 ⟨rfl, h⟩
    have H6 := Lib.hid h
    clear H h
    go_wp2_with fail
    go_ret
    exact ⟨rfl, H6.out.1⟩
  have hpos : 0 < val 4294967296 ys := (N32.ok H.out 1 rfl).2.1.pos (by omega) (by intro e; rw [e] at h0; exact h0 rfl)
  have hd0 : ((ys.length : Int) == 0) = false := by rw [beq_eq_false_iff_ne]; omega
  have Hpos := Lib.hid hpos
  clear hpos h0
  go_wp2_with fail
  refine (div_h H.out 0 1 rfl rfl Hpos.out (fit_lim HL.out.1.2)).mono ?_
  rintro e w6 ⟨B0, d0, qs, B1, d1, rs, rfl, hq, hr, h⟩
  have Hq := Lib.hid hq
  have Hr := Lib.hid hr
  have H6 := Lib.hid h
  clear H hq hr h
  go_wp2_with fail
  refine (refOf_h H6.out 0 rfl (by have := HL.out.1.1; omega)).mono ?_
  rintro e w7 ⟨B2, d2, us, rfl, hu, lu, h⟩
  have Hu := Lib.hid (And.intro hu lu)
  have H7 := Lib.hid h
  clear H6 hu lu h
  go_wp2_with fail
  refine (refOf_h H7.out 1 rfl (by have := HL.out.2.1; omega)).mono ?_
  rintro e w8 ⟨B3, d3, vs, rfl, hv, lv, h⟩
  have Hv := Lib.hid (And.intro hv lv)
  have H8 := Lib.hid h
  clear H7 hv lv h
  go_wp2_with fail
  refine (refDiv_h H8.out 4 5 rfl rfl (by have := Hu.out.2; have := HL.out.1.1; omega) (by have := Hv.out.2; have := HL.out.2.1; omega) (by rw [Hv.out.1]; exact Hpos.out)).mono ?_
  rintro e w9 ⟨B4, d4, ps, B5, d5, os, rfl, hp, ho, _, _, _, _, h⟩
  have Hp := Lib.hid (And.intro hp ho)
  have H9 := Lib.hid h
  clear H8 hp ho h
  go_wp2_with fail
  refine (is_h H9.out 2 6 rfl rfl (len_of_lim (N32.ok H9.out 2 rfl).2.1 (by rw [Hq.out]; exact Nat.lt_of_le_of_lt (Nat.div_le_self _ _) (fit_lim HL.out.1.2))) (by rw [Hq.out, Hp.out.1, Hu.out.1, Hv.out.1])).mono ?_
  rintro e w10 ⟨rfl, h⟩
  have H10 := Lib.hid h
  clear H9 h
  go_wp2_with fail
  refine (is_h H10.out 3 7 rfl rfl (len_of_lim (N32.ok H10.out 3 rfl).2.1 (by rw [Hr.out]; exact Nat.lt_of_le_of_lt (Nat.mod_le _ _) (fit_lim HL.out.1.2))) (by rw [Hr.out, Hp.out.2, Hu.out.1, Hv.out.1])).mono ?_
  rintro e w11 ⟨rfl, h⟩
  have H11 := Lib.hid h
  clear H10 h
  go_wp2_with fail
  refine (compare_h H11.out 3 1 rfl rfl).mono ?_
  rintro e w12 ⟨rfl, h⟩
  rw [show ord3 (val 4294967296 rs) (val 4294967296 ys) = -1 from ord3_lt (by rw [Hr.out]; exact Nat.mod_lt _ Hpos.out)]
  have H12 := Lib.hid h
  clear H11 h
  have hqy : val 4294967296 qs * val 4294967296 ys + val 4294967296 rs = val 4294967296 xs := by rw [Hq.out, Hr.out, Nat.mul_comm]; exact Nat.div_add_mod _ _
  have Hqy := Lib.hid hqy
  clear hqy
  go_wp2_with fail
  refine (mul_h H12.out 2 1 rfl rfl (Nat.lt_of_le_of_lt (by have := Hqy.out; omega) (fit_lim HL.out.1.2))).mono ?_
  rintro e w13 ⟨B6, d6, ms, rfl, hm, h⟩
  have Hm := Lib.hid hm
  have H13 := Lib.hid h
  clear H12 hm h
  go_wp2_with fail
  refine (add_h H13.out 8 3 rfl rfl (by rw [Hm.out, Hqy.out]; exact fit_lim HL.out.1.2)).mono ?_
  rintro e w14 ⟨B7, d7, ts, rfl, ht, h⟩
  have Ht := Lib.hid ht
  have H14 := Lib.hid h
  clear H13 ht h
  go_wp2_with fail
  refine (equal_h H14.out 9 0 rfl rfl).mono ?_
  rintro e w15 ⟨rfl, h⟩
  rw [decide_eq_true (show val 4294967296 ts = val 4294967296 xs by rw [Ht.out, Hm.out, Hqy.out])]
  have H15 := Lib.hid h
  clear H14 h
  go_wp2_with fail
  go_ret
  exact ⟨rfl, H15.out.1⟩
end Go.Proofs.YtefnhhkhdpihdaaDoor
