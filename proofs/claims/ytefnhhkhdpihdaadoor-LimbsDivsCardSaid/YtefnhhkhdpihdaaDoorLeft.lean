/- Times a power of 2. -/
import Derived.Test.YtefnhhkhdpihdaaDoorShift
namespace Go.Proofs.YtefnhhkhdpihdaaDoor
open Go Go.RowKit

/-- None and ErrRange, or what it is. -/
def LeftPost (w : World) (x : Nat) (n : Int) (e : Ending) (w' : World) : Prop :=
  (n < 0 ∧ e = .returned (.tuple #[.slice none 0 0, .int .i64 1]) ∧ Below w.heap.size w w') ∨ (0 ≤ n ∧ Below w.heap.size w w' ∧
    ((Lim ≤ x * 2 ^ n.toNat ∧ e = .returned (.tuple #[.slice none 0 0, .int .i64 11])) ∨ (x * 2 ^ n.toNat < Lim ∧ ∃ v, e = .returned (.tuple #[v, .int .i64 0]) ∧ NumV w' v (x * 2 ^ n.toNat))))

def maxB : Nat := 16384
theorem lim_pow : Lim = 2 ^ maxB := by
  unfold Lim
  rw [pow_B, show maxL * 32 = maxB from rfl]
theorem isBits_lim_gt {b x n : Nat} (h : IsBits b x) (h0 : b ≠ 0) (hn : 16384 < n + b) : Lim ≤ x * 2 ^ n := by
  rcases h.2 with e | e
  · exact absurd e h0
  · have h1 := Nat.mul_le_mul_right (2 ^ n) e
    rw [← Nat.pow_add] at h1
    rw [lim_pow]
    exact Nat.le_trans (Nat.pow_le_pow_right (by omega) (show maxB ≤ b - 1 + n by unfold maxB; omega)) h1
theorem isBits_lim_le {b x n : Nat} (h : IsBits b x) (hn : n + b ≤ 16384) : x * 2 ^ n < Lim := by
  have h1 := Nat.mul_lt_mul_of_pos_right h.1 (show 0 < 2 ^ n from Nat.pow_pos (by omega))
  rw [← Nat.pow_add] at h1
  rw [lim_pow]
  exact Nat.lt_of_lt_of_le h1 (Nat.pow_le_pow_right (by omega) (show b + n ≤ maxB by unfold maxB; omega))

set_option maxRecDepth 100000 in
set_option maxHeartbeats 2000000 in
theorem left_c (w : World) (v : Value) (zs : List Nat) (n : Int) (hR : Rd .u32 w v zs) (hzb : ∀ x ∈ zs, x < 4294967296) (hlen : zs.length ≤ 1000000) (hlo : -9223372036854775808 ≤ n) (hhi : n ≤ 9223372036854775807) :
    Calls Tryd.prog 28 #[v, .int .i64 n] w (LeftPost w (val 4294967296 zs) n) := by
  have hbits := bits_c w v zs hR hzb hlen
  by_cases hn : n < 0
  · clear hbits
    go_enter Tryd.func28, Tryd.ntmps28
    go_wp2_with fail
    go_ret2
    exact .inl ⟨hn, rfl, Below.refl _ _⟩
  · obtain ⟨m, rfl⟩ : ∃ m : Nat, n = (m : Int) := ⟨n.toNat, by omega⟩
    go_enter Tryd.func28, Tryd.ntmps28
    go_wp2_with fail
    refine hbits.mono ?_
    rintro e w1 ⟨hB1, b, rfl, hb⟩
    clear hbits
    have hbl : b ≤ 32000000 := by
      rcases Nat.lt_or_ge 32000000 b with h | h
      · exfalso
        have h1 := val_lt hzb
        rw [pow_B] at h1
        rcases hb.2 with e | e
        · omega
        · have := Nat.pow_le_pow_right (show 0 < 2 by omega) (show zs.length * 32 ≤ b - 1 by omega)
          omega
      · exact h
    by_cases hb0 : b = 0
    · have hx0 : val 4294967296 zs = 0 := by have := hb.1; rw [hb0] at this; simp at this; exact this
      have hb0' : ((b : Int) == 0) = true := by rw [beq_iff_eq]; omega
      have Hb0 := Lib.hid hb0
      clear hb0
      go_wp2_with fail
      go_ret2
      refine .inr ⟨by omega, hB1, .inr ⟨?_, _, rfl, ?_⟩⟩
      · rw [hx0, Nat.zero_mul]; exact Nat.pow_pos (by omega)
      · rw [hx0, Nat.zero_mul]; exact NumV.nil _
    · have hb0' : ((b : Int) == 0) = false := by rw [beq_eq_false_iff_ne]; omega
      by_cases hbig : 16384 < m + b
      · have hbig' : decide ((16384 : Int) - (b : Int) < (m : Int)) = true := by rw [decide_eq_true_iff]; omega
        have hl := isBits_lim_gt hb hb0 hbig
        have Hl := Lib.hid hl
        clear hl
        go_wp2_with fail
        go_ret2
        exact .inr ⟨by omega, hB1, .inl ⟨Hl.out, rfl⟩⟩
      · have hbig' : decide ((16384 : Int) - (b : Int) < (m : Int)) = false := by rw [decide_eq_false_iff_not]; omega
        have hl := isBits_lim_le hb (show m + b ≤ 16384 by omega)
        have Hl := Lib.hid hl
        have ht := trim_num w1 v zs (hR.below hB1) hzb
        clear hl
        go_wp2_with fail
        refine ht.mono ?_
        rintro e w2 ⟨v2, us, rfl, hR2, hC2, hv2, hl2, hB2⟩
        have hB12 := below_trans hB1 hB2
        have hs := shifted_c w2 v2 us m hR2 hC2.1 (by omega) (by omega)
        have Hv2 := Lib.hid hv2
        clear ht hv2
        go_wp2_with fail
        refine hs.mono ?_
        rintro e w3 ⟨hB3, g, ss, rfl, hg, hsl, hsb, hsv, hO⟩
        have hB13 := below_trans hB12 hB3
        have hRs := hO.whole (by omega)
        have hfit := fit_c _ _ _ hRs hsb
        rw [hsl] at hfit
        have e2 : val 4294967296 ss = val 4294967296 zs * 2 ^ m := by rw [hsv, Hv2.out]
        rw [e2] at hfit
        have HF := Lib.hid hfit
        clear hs hRs hfit e2 hsl hsv
        go_wp2_with fail
        refine HF.out.mono ?_
        rintro e w' ⟨hBf, hF⟩
        have hBf' := below_trans hB13 hBf
        rcases hF with ⟨hlim, v, rfl, hN⟩ | ⟨hlim, rfl⟩
        · go_wp2_with fail
          go_ret2
          exact .inr ⟨by omega, hBf', .inr ⟨hlim, v, rfl, hN⟩⟩
        · exact absurd Hl.out (Nat.not_lt.2 hlim)
end Go.Proofs.YtefnhhkhdpihdaaDoor
