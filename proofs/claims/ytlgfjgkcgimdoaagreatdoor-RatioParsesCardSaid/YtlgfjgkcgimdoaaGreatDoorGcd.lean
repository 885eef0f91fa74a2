/- What divides two numbers. -/
import Derived.Test.YtlgfjgkcgimdoaaGreatDoorNm
import Derived.Deep.LoopGhost
namespace Go.Proofs.YtlgfjgkcgimdoaaGreatDoor
open Go Go.RowKit Go.Shelf

theorem gcd_step (x y : Nat) : Nat.gcd y (x % y) = Nat.gcd x y := by rw [Nat.gcd_comm x y, Nat.gcd_rec y x, Nat.gcd_comm]

set_option maxRecDepth 100000 in
set_option maxHeartbeats 1000000 in
theorem gcdSmall_c (w : World) (x y : Nat) (hx : x < two64) (hy : y < two64) :
    Calls Tryz.prog 113 #[.int .u64 x, .int .u64 y] w fun e w' => e = .returned (.int .u64 (Nat.gcd x y : Nat)) ∧ Below w.heap.size w w' := by
  have HX := Lib.hid (And.intro hx hy)
  clear hx hy
  go_enter Tryz.func113, Tryz.ntmps113
  go_wp2_with fail
  go_loopw [0, 1] (fun a b wr => ∃ u v nq : Nat, a = .int .u64 u ∧ b = .int .u64 v ∧ wr = w.drewN nq ∧ Hid (Nat.gcd u v = Nat.gcd x y ∧ u < two64 ∧ v < two64)) (fun _ b _ => (intOf b).toNat)
  case atStart => exact ⟨x, y, 0, rfl, rfl, rfl, rfl, HX.out⟩
  case round =>
    obtain ⟨u, v, nq, rfl, rfl, hw, H⟩ := hrel
    have hu := H.out.2.1
    have hv := H.out.2.2
    unfold two64 at hu hv
    have HW := Lib.hid hw
    clear hw
    rcases Nat.eq_zero_or_pos v with rfl | hp
    · have hfin : u = Nat.gcd x y := by rw [← H.out.1, Nat.gcd_zero_right]
      have HF := Lib.hid hfin
      clear hfin
      go_wp2_with fail
      go_ret
      refine ⟨?_, ?_⟩
      · show Ending.returned (.int .u64 (u : Int)) = _
        rw [HF.out]
      · rw [HW.out]; exact ⟨rfl, rfl, rfl, Nat.le_refl _, fun _ _ => rfl⟩
    · have hv0 : ¬ (v : Int) = 0 := by omega
      have hvb : ((v : Int) == 0) = false := by rw [beq_eq_false_iff_ne]; omega
      have hmi : (u : Int) % (v : Int) = ((u % v : Nat) : Int) := (Int.natCast_emod u v).symm
      have hml : u % v < v := Nat.mod_lt _ hp
      obtain ⟨r, hr⟩ : ∃ r, u % v = r := ⟨_, rfl⟩
      rw [hr] at hmi hml
      have Hr := Lib.hid hr
      clear hr
      go_wp2_with fail
      go_region
      all_goals
        go_wp2_with fail
        go_roundw
        case rel =>
          refine ⟨v, r, nq + 1, rfl, by rw [hmi], by rw [HW.out]; rfl, ?_, H.out.2.2, Nat.lt_trans hml H.out.2.2⟩
          rw [← Hr.out, gcd_step]; exact H.out.1
        case measure => simp [intOf]; omega

set_option maxRecDepth 100000 in
set_option maxHeartbeats 4000000 in
theorem gcd_c (w : World) (va vb : Value) (x y : Nat) (ha : Nm w va x) (hb : Nm w vb y) (hx : x < Lim) (hy : y < Lim) : Calls Tryz.prog 81 #[va, vb] w (RetN w (Nat.gcd x y)) := by
  have HA := Lib.hid (And.intro (And.intro ha hb) (And.intro hx hy))
  clear ha hb hx hy
  go_enter Tryz.func81, Tryz.ntmps81
  go_wp2_with fail
  go_loopg [0, 1] y (fun g a b wr => ∃ u : Nat, Hid (Nm wr a u ∧ Nm wr b g ∧ u < Lim ∧ g < Lim ∧ Nat.gcd u g = Nat.gcd x y ∧ Below w.heap.size w wr))
  case atStart => exact ⟨x, HA.out.1.1, HA.out.1.2, HA.out.2.1, HA.out.2.2, rfl, Below.refl _ _⟩
  case round =>
    obtain ⟨u, HR⟩ := hrel
    go_wp2_with fail
    refine (bits_n HR.out.2.1).mono ?_
    rintro e w1 ⟨nb, rfl, hnb, hb1⟩
    have H1 := Lib.hid (And.intro hnb hb1)
    clear hnb hb1
    rcases Nat.eq_zero_or_pos gk with hz | hp
    · have h0 : nb = 0 := isBits_none (by have := H1.out.1; rwa [hz] at this)
      subst h0
      have HZ := Lib.hid hz
      clear hz
      go_wp2_with fail
      refine (clone_n (HR.out.1.below H1.out.2)).mono ?_
      rintro e w2 ⟨v2, rfl, hv2, hb2⟩
      have H2 := Lib.hid (And.intro hv2 hb2)
      clear hv2 hb2
      go_wp2_with fail
      go_ret
      refine ⟨_, rfl, ?_, below_trans (below_trans HR.out.2.2.2.2.2 H1.out.2) H2.out.2⟩
      have := HR.out.2.2.2.2.1
      rw [HZ.out, Nat.gcd_zero_right] at this
      rw [← this]; exact H2.out.1
    · have h0 : 0 < nb := isBits_some H1.out.1 hp
      have hbp : decide ((nb : Int) > 0) = true := by rw [decide_eq_true_iff]; omega
      go_wp2_with fail
      refine (div_n (HR.out.1.below H1.out.2) (HR.out.2.1.below H1.out.2) hp HR.out.2.2.1).mono ?_
      rintro e w2 ⟨v2, v3, rfl, hv2, hv3, hb2⟩
      have H2 := Lib.hid (And.intro hv2 (And.intro hv3 hb2))
      clear hv2 hv3 hb2
      have hm : u % gk < gk := Nat.mod_lt _ hp
      have HM := Lib.hid hm
      clear hm
      rcases Nat.lt_or_ge gk 18446744073709551616 with hs | hs
      · have HS := Lib.hid hs
        clear hs
        go_wp2_with fail
        refine (small_n ((HR.out.2.1.below H1.out.2).below H2.out.2.2) HS.out).mono ?_
        rintro e w3 ⟨rfl, hb3⟩
        have H3 := Lib.hid hb3
        clear hb3
        go_wp2_with fail
        refine (small_n (H2.out.2.1.below H3.out) (Nat.lt_trans HM.out HS.out)).mono ?_
        rintro e w4 ⟨rfl, hb4⟩
        have H4 := Lib.hid hb4
        clear hb4
        go_wp2_with fail
        refine (gcdSmall_c w4 gk (u % gk) HS.out (Nat.lt_trans HM.out HS.out)).mono ?_
        rintro e w5 ⟨rfl, hb5⟩
        have H5 := Lib.hid hb5
        clear hb5
        have hg : Nat.gcd gk (u % gk) = Nat.gcd x y := by rw [gcd_step]; exact HR.out.2.2.2.2.1
        have hgl : Nat.gcd gk (u % gk) < 18446744073709551616 := Nat.lt_of_le_of_lt (Nat.gcd_le_left _ hp) HS.out
        have HG := Lib.hid (And.intro hg hgl)
        clear hg hgl
        go_wp2_with fail
        refine (of_n w5 _ HG.out.2).mono ?_
        rintro e w6 ⟨v6, rfl, hv6, hb6⟩
        have H6 := Lib.hid (And.intro hv6 hb6)
        clear hv6 hb6
        go_wp2_with fail
        go_ret
        refine ⟨_, rfl, by rw [← HG.out.1]; exact H6.out.1, ?_⟩
        exact below_trans (below_trans (below_trans (below_trans (below_trans (below_trans HR.out.2.2.2.2.2 H1.out.2) H2.out.2.2) H3.out) H4.out) H5.out) H6.out.2
      · have HS := Lib.hid hs
        clear hs
        go_wp2_with fail
        refine (small_big_n ((HR.out.2.1.below H1.out.2).below H2.out.2.2) HS.out).mono ?_
        rintro e w3 ⟨rfl, hb3⟩
        have H3 := Lib.hid hb3
        clear hb3
        go_wp2_with fail
        go_roundg (u % gk)
        case rel =>
          exact ⟨gk, ((HR.out.2.1.below H1.out.2).below H2.out.2.2).below H3.out, H2.out.2.1.below H3.out, HR.out.2.2.2.1, Nat.lt_trans HM.out HR.out.2.2.2.1, by rw [gcd_step]; exact HR.out.2.2.2.2.1, below_trans (below_trans (below_trans HR.out.2.2.2.2.2 H1.out.2) H2.out.2.2) H3.out⟩
        case measure => exact HM.out
end Go.Proofs.YtlgfjgkcgimdoaaGreatDoor
