/- Whole numbers: of small ones, small ones of them, what may be, texts. -/
import Derived.Test.YtdaoechbaejjmaaDoorInt6
import Derived.Test.YtdaoechbaejjmaaDoorWrites
namespace Go.Proofs.YtdaoechbaejjmaaDoor
open Go Go.RowKit Go.Shelf
attribute [local go_sem ↓] Go.wp_at_zero Go.wp_at_succ

set_option maxRecDepth 100000 in
theorem divInt_zero (w : World) (v1 v2 : Value) (z1 : Int) (hv1 : Im w v1 z1) (hv2 : Im w v2 0) : Calls Tryd.prog 35 #[v1, v2] w fun e w' => e = .returned (.tuple #[.agg #[.bool false, .slice none 0 0], .agg #[.bool false, .slice none 0 0], .int .i64 10]) ∧ Below w.heap.size w w' := by
  obtain ⟨m1, A1, c1, n1, rfl, hm1, k1⟩ := hv1.cases
  obtain ⟨m2, A2, c2, n2, rfl, hm2, k2⟩ := hv2.cases
  have HT := Lib.hid (Four.new w (.bool m1) (.slice A1 n1 c1) (.bool m2) (.slice A2 n2 c2))
  have HI := Lib.hid (And.intro (k1.below HT.out.1.2.2.2) (k2.below HT.out.1.2.2.2))
  obtain ⟨a0, a1, _, _⟩ := HT.out.1.1.cells
  obtain ⟨b0, b1, _, _⟩ := HT.out.1.2.1.cells
  clear hv1 hv2 hm1 hm2 k1 k2
  go_enter Tryd.func35, Tryd.ntmps35
  go_wp2_with fail
  refine (div_zero_n HI.out.1 HI.out.2).mono ?_
  rintro e w3 ⟨rfl, hb⟩
  have H3 := Lib.hid (HT.out.below hb)
  clear hb a0 a1 b0 b1
  obtain ⟨a0, a1, _, _⟩ := H3.out.1.1.cells
  obtain ⟨r0, r1, f0, f1⟩ := H3.out.1.2.2.1.cells
  obtain ⟨s0, s1, g0, g1⟩ := H3.out.2.cells
  go_wp2_with fail
  exact bodyPost_ret (v := .tuple #[.agg #[.bool false, .slice none 0 0], .agg #[.bool false, .slice none 0 0], .int .i64 10]) (by simp [results, Tryd.results35, go_sem, r0, r1, s0, s1, World.cell?_setCell_far]) rfl ⟨rfl, (H3.out.1.2.2.2.trans (below_put (by omega))).trans (below_put (by omega))⟩

theorem wrap_u64 (n : Int) : IntKind.u64.wrap n = n % 18446744073709551616 := by simp [IntKind.wrap, IntKind.bits, IntKind.signed]
theorem wrap_i64 (n : Int) : IntKind.i64.wrap n = if n % 18446744073709551616 ≥ 9223372036854775808 then n % 18446744073709551616 - 18446744073709551616 else n % 18446744073709551616 := by simp [IntKind.wrap, IntKind.bits, IntKind.signed]
theorem wrap_u {n : Int} (h : n < 0) (hlo : -9223372036854775808 ≤ n) : IntKind.u64.wrap n = n + 18446744073709551616 := by
  rw [wrap_u64]; omega
theorem wrap_up {n : Int} (h : 0 ≤ n) (hhi : n < 18446744073709551616) : IntKind.u64.wrap n = n := by
  rw [wrap_u64]; omega

set_option maxRecDepth 100000 in
theorem ofInt_c (w : World) (n : Int) (hlo : -9223372036854775808 ≤ n) (hhi : n ≤ 9223372036854775807) : Calls Tryd.prog 75 #[.int .i64 n] w (RetI w n) := by
  have HN := Lib.hid (BoxI.new w (.bool false) (.slice none 0 0))
  have HW := Lib.hid (box_below w (.bool false) (.slice none 0 0))
  go_enter Tryd.func75, Tryd.ntmps75
  by_cases hn : n < 0
  · obtain ⟨m, hm⟩ : ∃ m : Nat, -n = m := ⟨(-n).toNat, by omega⟩
    have hd : decide (n < 0) = true := decide_eq_true hn
    have e1 := wrap_u hn hlo
    have e2 : IntKind.u64.wrap (-(n + 18446744073709551616)) = (m : Int) := by rw [wrap_u64]; omega
    have HM := Lib.hid (And.intro hm hn)
    clear hm hn
    go_wp2_with fail
    refine (of_n _ m (by have := HM.out; omega)).mono ?_
    rintro e w3 ⟨v3, rfl, hv3, hb⟩
    have H3 := Lib.hid (And.intro hv3 (And.intro (HN.out.below hb) (below_trans HW.out hb)))
    clear hv3 hb
    go_wp2_with fail
    refine (signed_c w3 true v3 m H3.out.1).mono ?_
    rintro e w4 ⟨v4, rfl, hv4, hb⟩
    rw [show sg true m = n by unfold sg; rw [if_pos rfl]; have := HM.out; omega] at hv4
    obtain ⟨m4, A4, c4, n4, rfl, hm4, h4⟩ := hv4.cases
    have H4 := Lib.hid (And.intro h4 (And.intro (H3.out.2.1.below hb) (And.intro (below_trans H3.out.2.2 hb) hm4)))
    clear hv4 hb h4 hm4
    obtain ⟨r0, r1, g0, g1⟩ := H4.out.2.1.cells
    go_wp2_with fail
    exact bodyPost_ret (v := .agg #[.bool m4, .slice A4 n4 c4]) (by simp [results, Tryd.results75, go_sem, r0, r1]) rfl (retI_put H4.out.2.2.2 H4.out.2.1 rfl rfl (by omega) H4.out.1 H4.out.2.2.1)
  · obtain ⟨m, rfl⟩ : ∃ m : Nat, n = m := ⟨n.toNat, by omega⟩
    have hd : decide ((m : Int) < 0) = false := decide_eq_false hn
    have e1 : IntKind.u64.wrap (m : Int) = (m : Int) := wrap_up (by omega) (by omega)
    have HM := Lib.hid (And.intro hhi hn)
    clear hn
    go_wp2_with fail
    refine (of_n _ m (by omega)).mono ?_
    rintro e w3 ⟨v3, rfl, hv3, hb⟩
    have H3 := Lib.hid (And.intro hv3 (And.intro (HN.out.below hb) (below_trans HW.out hb)))
    clear hv3 hb
    go_wp2_with fail
    refine (signed_c w3 false v3 m H3.out.1).mono ?_
    rintro e w4 ⟨v4, rfl, hv4, hb⟩
    rw [show sg false m = (m : Int) from rfl] at hv4
    obtain ⟨m4, A4, c4, n4, rfl, hm4, h4⟩ := hv4.cases
    have H4 := Lib.hid (And.intro h4 (And.intro (H3.out.2.1.below hb) (And.intro (below_trans H3.out.2.2 hb) hm4)))
    clear hv4 hb h4 hm4
    obtain ⟨r0, r1, g0, g1⟩ := H4.out.2.1.cells
    go_wp2_with fail
    exact bodyPost_ret (v := .agg #[.bool m4, .slice A4 n4 c4]) (by simp [results, Tryd.results75, go_sem, r0, r1]) rfl (retI_put H4.out.2.2.2 H4.out.2.1 rfl rfl (by omega) H4.out.1 H4.out.2.2.1)

def inI64 (z : Int) : Prop := -9223372036854775808 ≤ z ∧ z ≤ 9223372036854775807
/-- What Small makes of a sign and of a size that has room. -/
def smallOf (m : Bool) (x : Nat) : Int := if m then IntKind.i64.wrap (-(IntKind.i64.wrap (x : Int))) else IntKind.i64.wrap (x : Int)
theorem small_in {z : Int} (h : inI64 z) : smallOf (decide (z < 0)) z.natAbs = z := by
  unfold smallOf inI64 at *
  by_cases hz : z < 0
  · rw [decide_eq_true hz, if_pos rfl]; simp only [wrap_i64]; omega
  · rw [decide_eq_false hz, if_neg (by simp)]; simp only [wrap_i64]; omega
theorem small_out {z : Int} (h : ¬ inI64 z) (hx : z.natAbs < 18446744073709551616) : smallOf (decide (z < 0)) z.natAbs ≠ 0 ∧ decide (z < 0) ≠ decide (smallOf (decide (z < 0)) z.natAbs < 0) := by
  have h' : z < -9223372036854775808 ∨ 9223372036854775807 < z := by unfold inI64 at h; omega
  by_cases hz : z < 0
  · have e : smallOf (decide (z < 0)) z.natAbs = z + 18446744073709551616 := by
      unfold smallOf; rw [decide_eq_true hz, if_pos rfl]; simp only [wrap_i64]; omega
    rw [e, decide_eq_true hz, decide_eq_false (by omega)]
    exact ⟨by omega, by simp⟩
  · have e : smallOf (decide (z < 0)) z.natAbs = z - 18446744073709551616 := by
      unfold smallOf; rw [decide_eq_false hz, if_neg (by simp)]; simp only [wrap_i64]; omega
    rw [e, decide_eq_false hz, decide_eq_true (by omega)]
    exact ⟨by omega, by simp⟩

def RetSm (w : World) (z : Int) (e : Ending) (w' : World) : Prop := ((inI64 z ∧ e = .returned (.tuple #[.int .i64 z, .int .i64 0])) ∨ (¬ inI64 z ∧ e = .returned (.tuple #[.int .i64 0, .int .i64 11]))) ∧ Below w.heap.size w w'
set_option maxRecDepth 100000 in
set_option maxHeartbeats 4000000 in
theorem smallInt_c (w : World) (v : Value) (z : Int) (hv : Im w v z) : Calls Tryd.prog 78 #[v] w (RetSm w z) := by
  obtain ⟨m, A, c, n, rfl, hm, h1⟩ := hv.cases
  have HW := Lib.hid (box_below w (.bool m) (.slice A n c))
  have HN := Lib.hid (BoxI.new w (.bool m) (.slice A n c))
  obtain ⟨x, hx⟩ : ∃ x, z.natAbs = x := ⟨_, rfl⟩
  rw [hx] at h1
  have H1 := Lib.hid (And.intro (h1.below HW.out) (And.intro hm hx))
  obtain ⟨c0, c1, _, _⟩ := HN.out.cells
  clear hv h1 hm
  go_enter Tryd.func78, Tryd.ntmps78
  by_cases hbig : x < 18446744073709551616
  · have hI := @small_in z
    have hO := @small_out z
    rw [H1.out.2.1, hx] at hI hO
    have HS := Lib.hid (And.intro hI (fun a => hO a hbig))
    clear hI hO hx
    go_wp2_with fail
    refine (small_n H1.out.1 hbig).mono ?_
    rintro e w2 ⟨rfl, hb⟩
    have H2 := Lib.hid (And.intro (HN.out.below hb) (below_trans HW.out hb))
    clear hb c0 c1
    obtain ⟨c0, c1, _, _⟩ := H2.out.1.cells
    by_cases hin : inI64 z
    · have e := HS.out.1 hin
      have Hin := Lib.hid hin
      clear hin
      cases m with
      | true =>
        obtain ⟨u, hu⟩ : ∃ u, IntKind.i64.wrap (x : Int) = u := ⟨_, rfl⟩
        have hu2 : IntKind.i64.wrap (-u) = z := by rw [← hu]; exact e
        have hz : z < 0 := of_decide_eq_true H1.out.2.1
        have hz1 : (z != 0) = true := by rw [bne_iff_ne]; omega
        have hz2 : decide (z < 0) = true := decide_eq_true hz
        have hz3 : ¬ z = 0 := by omega
        clear e
        go_wp2_with fail
        exact bodyPost_ret (v := .tuple #[.int .i64 z, .int .i64 0]) (by simp [results, Tryd.results78, go_sem]) rfl ⟨Or.inl ⟨Hin.out, rfl⟩, H2.out.2⟩
      | false =>
        have hu : IntKind.i64.wrap (x : Int) = z := e
        have hz : ¬ z < 0 := of_decide_eq_false H1.out.2.1
        have hz2 : decide (z < 0) = false := decide_eq_false hz
        clear e
        by_cases h0 : z = 0
        · subst h0
          go_wp2_with fail
          exact bodyPost_ret (v := .tuple #[.int .i64 0, .int .i64 0]) (by simp [results, Tryd.results78, go_sem]) rfl ⟨Or.inl ⟨Hin.out, rfl⟩, H2.out.2⟩
        · go_wp2_with fail
          exact bodyPost_ret (v := .tuple #[.int .i64 z, .int .i64 0]) (by simp [results, Tryd.results78, go_sem]) rfl ⟨Or.inl ⟨Hin.out, rfl⟩, H2.out.2⟩
    · have e := HS.out.2 hin
      have Hin := Lib.hid hin
      clear hin
      cases m with
      | true =>
        obtain ⟨u, hu⟩ : ∃ u, IntKind.i64.wrap (x : Int) = u := ⟨_, rfl⟩
        obtain ⟨t, ht⟩ : ∃ t, IntKind.i64.wrap (-u) = t := ⟨_, rfl⟩
        have et : smallOf true x = t := by rw [← ht, ← hu]; rfl
        rw [et] at e
        have hz : ¬ t < 0 := fun a => e.2 (decide_eq_true a).symm
        have hz1 : (t != 0) = true := by rw [bne_iff_ne]; exact e.1
        have hz2 : decide (t < 0) = false := decide_eq_false hz
        have hz3 : ¬ t = 0 := e.1
        clear e et
        go_wp2_with fail
        exact bodyPost_ret (v := .tuple #[.int .i64 0, .int .i64 11]) (by simp [results, Tryd.results78, go_sem]) rfl ⟨Or.inr ⟨Hin.out, rfl⟩, H2.out.2⟩
      | false =>
        obtain ⟨t, ht⟩ : ∃ t, IntKind.i64.wrap (x : Int) = t := ⟨_, rfl⟩
        have et : smallOf false x = t := ht
        rw [et] at e
        have hz : t < 0 := by
          rcases Int.lt_or_le t 0 with a | a
          · exact a
          · exact absurd (decide_eq_false (by omega)).symm e.2
        have hz1 : (t != 0) = true := by rw [bne_iff_ne]; exact e.1
        have hz2 : decide (t < 0) = true := decide_eq_true hz
        have hz3 : ¬ t = 0 := e.1
        clear e et
        go_wp2_with fail
        exact bodyPost_ret (v := .tuple #[.int .i64 0, .int .i64 11]) (by simp [results, Tryd.results78, go_sem]) rfl ⟨Or.inr ⟨Hin.out, rfl⟩, H2.out.2⟩
  · have hno : ¬ inI64 z := by unfold inI64; omega
    have Hin := Lib.hid hno
    clear hno hx
    go_wp2_with fail
    refine (small_big_n H1.out.1 (by omega)).mono ?_
    rintro e w2 ⟨rfl, hb⟩
    have H2 := Lib.hid (below_trans HW.out hb)
    clear hb c0 c1
    go_wp2_with fail
    exact bodyPost_ret (v := .tuple #[.int .i64 0, .int .i64 11]) (by simp [results, Tryd.results78, go_sem]) rfl ⟨Or.inr ⟨Hin.out, rfl⟩, H2.out⟩
end Go.Proofs.YtdaoechbaejjmaaDoor
