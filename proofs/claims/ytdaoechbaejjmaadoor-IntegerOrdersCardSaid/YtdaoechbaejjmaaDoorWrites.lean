/- Layer 2's own numbers in words. -/
import Derived.Test.YtdaoechbaejjmaaDoorText
import Derived.Test.YtdaoechbaejjmaaDoorParse
import Derived.Test.YtdaoechbaejjmaaDoorGcd
import Derived.Test.YtdaoechbaejjmaaDoorMade
namespace Go.Proofs.YtdaoechbaejjmaaDoor
open Go Go.RowKit Go.Shelf

instance (n : Nat) (l : List UInt8) : Decidable (Dec n l) := by unfold Dec; exact inferInstance
theorem text_is (w : World) (hT : Tab10 w) (va : Value) (n : Nat) (s : ByteArray) (hs : Dec n s.data.toList) (ha : Nm w va n) (hn : n < Lim) :
    Calls Tryd.prog 15 #[va] w fun e w' => e = .returned (.string s) ∧ Below w.heap.size w w' :=
  (text_c w hT va n ha hn).mono fun _ _ h => by
    obtain ⟨l, rfl, hd, hb⟩ := h
    rw [hd.eq hs]
    exact ⟨by cases s; rfl, hb⟩
theorem parse_is (w : World) (s : ByteArray) (n : Nat) (hD : AllD s.data.toList) (h0 : s.data.toList ≠ []) (hv : decv s.data.toList = n) (hl : s.size ≤ 4900) : Calls Tryd.prog 24 #[.string s] w (RetN0 w n) := by
  rw [← hv]; exact parse_ok w s hD h0 hl
theorem ten_n (w : World) (n : Nat) (hn : n ≤ 4900) : Calls Tryd.prog 14 #[.int .i64 n] w (RetN0 w (10 ^ n)) :=
  (ten_c n (by omega) w).mono fun _ _ h => by
    rcases h with ⟨_, h⟩ | ⟨h, _⟩
    · exact h
    · have := ten_lim hn; omega
/-- A number's digits, as they are written out. -/
theorem Nm.lit {w : World} {v : Value} {x : Nat} (h : Nm w v x) (zs : List Nat) (hC : Can 4294967296 zs) (hv : val 4294967296 zs = x) : ∃ A cap, v = .slice A zs.length cap ∧ Rd .u32 w (.slice A zs.length cap) zs := by
  obtain ⟨A, cap, us, rfl, h1, h2⟩ := h
  have e : us = zs := Can.eq h1.2.1 hC (by rw [h2, hv])
  subst e
  exact ⟨A, cap, rfl, h1.1⟩

set_option maxRecDepth 100000 in
set_option maxHeartbeats 4000000 in
theorem writes_c (w : World) (hT : Tab10 w) : Calls Tryd.prog 13 #[] w fun e w' => e = .returned (.bool true) ∧ Below w.heap.size w w' := by
  have HT := Lib.hid hT
  clear hT
  go_enter Tryd.func13, Tryd.ntmps13
  go_wp2_with fail
  refine (parse_is _ _ 18446744073709551616 (by decide) (by decide) (by decide) (by decide)).mono ?_
  rintro e w1 ⟨v1, rfl, hv1, hb1⟩
  have H1 := Lib.hid (And.intro hv1 hb1)
  clear hv1 hb1
  go_wp2_with fail
  refine (ten_n w1 20 (by omega)).mono ?_
  rintro e w2 ⟨v2, rfl, hv2, hb2⟩
  have H2 := Lib.hid (And.intro hv2 (And.intro hb2 (below_trans H1.out.2 hb2)))
  clear hv2 hb2
  go_wp2_with fail
  refine (parse_bad w2 _ (by decide)).mono ?_
  rintro e w3 ⟨rfl, hb3⟩
  have HA := Lib.hid ((H1.out.1.below H2.out.2.1).below hb3)
  have HV := Lib.hid (H2.out.1.below hb3)
  have HB := Lib.hid (below_trans H2.out.2.2 hb3)
  clear hb3
  obtain ⟨A, c, rfl, hr⟩ := HA.out.lit [0, 0, 1] (can_of rfl rfl) (by decide)
  obtain ⟨b, off, rfl, _⟩ := hr.addr (by simp)
  have hc := hr.cell (j := 2) (x := 1) rfl
  clear hr
  go_wp2_with fail
  refine (text_is w3 (HT.out.below HB.out) _ 18446744073709551616 ⟨#[49, 56, 52, 52, 54, 55, 52, 52, 48, 55, 51, 55, 48, 57, 53, 53, 49, 54, 49, 54]⟩ (by decide) HA.out (lim_of (n := 3) (by decide) (by omega))).mono ?_
  rintro e w4 ⟨rfl, hb4⟩
  have H4 := Lib.hid (And.intro hb4 (below_trans HB.out hb4))
  clear hb4 hc
  go_wp2_with fail
  refine (text_is w4 (HT.out.below H4.out.2) _ (10 ^ 20) ⟨#[49, 48, 48, 48, 48, 48, 48, 48, 48, 48, 48, 48, 48, 48, 48, 48, 48, 48, 48, 48, 48]⟩ (by decide) (HV.out.below H4.out.1) (ten_lim (by omega))).mono ?_
  rintro e w5 ⟨rfl, hb5⟩
  have H5 := Lib.hid (below_trans H4.out.2 hb5)
  clear hb5
  go_wp2_with fail
  refine (text_is w5 (HT.out.below H5.out) _ 0 ⟨#[48]⟩ (by decide) (Nm.nil w5) (small_lim (by omega))).mono ?_
  rintro e w6 ⟨rfl, hb6⟩
  have H6 := Lib.hid (below_trans H5.out hb6)
  clear hb6
  go_wp2_with fail
  refine (of_n w6 12 (by omega)).mono ?_
  rintro e w7 ⟨v7, rfl, hv7, hb7⟩
  have H7 := Lib.hid (And.intro hv7 (below_trans H6.out hb7))
  clear hv7 hb7
  go_wp2_with fail
  refine (of_n w7 18 (by omega)).mono ?_
  rintro e w8 ⟨v8, rfl, hv8, hb8⟩
  have H8 := Lib.hid (And.intro (And.intro (H7.out.1.below hb8) hv8) (below_trans H7.out.2 hb8))
  clear hv8 hb8
  go_wp2_with fail
  refine (gcd_c w8 _ _ 12 18 H8.out.1.1 H8.out.1.2 (small_lim (by omega)) (small_lim (by omega))).mono ?_
  rintro e w9 ⟨v9, rfl, hv9, hb9⟩
  have H9 := Lib.hid (And.intro hv9 (below_trans H8.out.2 hb9))
  clear hv9 hb9
  go_wp2_with fail
  refine (of_n w9 6 (by omega)).mono ?_
  rintro e w10 ⟨v10, rfl, hv10, hb10⟩
  have H10 := Lib.hid (And.intro (And.intro (H9.out.1.below hb10) hv10) (below_trans H9.out.2 hb10))
  clear hv10 hb10
  go_wp2_with fail
  refine (equal_n H10.out.1.1 H10.out.1.2).mono ?_
  rintro e w11 ⟨rfl, hb11⟩
  have H11 := Lib.hid (below_trans H10.out.2 hb11)
  clear hb11
  have hg : decide (Nat.gcd 12 18 = 6) = true := by decide
  rw [hg]
  clear hg
  go_wp2_with fail
  go_ret
  exact ⟨rfl, H11.out⟩
end Go.Proofs.YtdaoechbaejjmaaDoor
