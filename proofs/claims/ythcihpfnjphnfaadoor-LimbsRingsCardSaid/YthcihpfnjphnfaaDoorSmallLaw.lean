/- LimbsSmall. -/
import Derived.Test.YthcihpfnjphnfaaDoorReck
import Derived.Test.YthcihpfnjphnfaaDoorLawFit
namespace Go.Proofs.YthcihpfnjphnfaaDoor
open Go Go.RowKit Go.Shelf

theorem pow2 : (4294967296 : Nat) ^ 2 = 18446744073709551616 := by decide

set_option maxRecDepth 100000 in
set_option maxHeartbeats 2000000 in
theorem small_law (w : World) (hT : Tab w) (n : Nat) (hn : n < 18446744073709551616) (v : Value) (zs : List Nat) (hR : Arg w v zs) (hzb : ∀ x ∈ zs, x < 4294967296) :
    Calls Tryd.prog 9 #[.int .u64 n, v] w fun e w' => e = .returned (.bool true) ∧ Below w.heap.size w w' := by
  obtain ⟨⟨A, cap, rfl⟩, _⟩ := id hR
  have HR := Lib.hid (And.intro hR hzb)
  have Hn := Lib.hid hn
  have HT := Lib.hid hT
  clear hR hzb hn hT
  go_enter Tryd.func9, Tryd.ntmps9
  go_wp2_with fail
  refine (reckons_c w HT.out).mono ?_
  rintro e w1 ⟨rfl, B⟩
  have HB1 := Lib.hid B
  clear B
  go_wp2_with fail
  refine (of_c w1 n Hn.out).mono ?_
  rintro e w2 ⟨B, v2, rfl, hN⟩
  obtain ⟨ys, hRy, hCy, hvy⟩ := hN
  have hly : ys.length ≤ 2 := hCy.len_le (by omega) (by rw [hvy, pow2]; exact Hn.out)
  have HB2 := Lib.hid (HB1.out.trans (B.mono (Below.size HB1.out)))
  have HY := Lib.hid (And.intro hRy (And.intro hCy (And.intro hvy hly)))
  clear HB1 B hRy hCy hvy hly
  go_wp2_with fail
  refine (small_c w2 v2 ys HY.out.1 HY.out.2.1.1 (by have := HY.out.2.2.2; omega)).mono ?_
  rintro e w3 ⟨B, (⟨_, rfl⟩ | ⟨h, _⟩)⟩
  case inr => exact absurd h (by rw [HY.out.2.2.1]; have := Hn.out; unfold two64; omega)
  have HB3 := Lib.hid (HB2.out.trans (B.mono (Below.size HB2.out)))
  have hvy := HY.out.2.2.1
  rw [hvy]
  clear HB2 B HY hvy
  go_wp2_with fail
  refine (of_c w3 n Hn.out).mono ?_
  rintro e w4 ⟨B, v4, rfl, hN⟩
  obtain ⟨us, hRu, hCu, hvu⟩ := hN
  have hlu : us.length ≤ 2 := hCu.len_le (by omega) (by rw [hvu, pow2]; exact Hn.out)
  have hku : checkOf us = 0 := checkOf_ok (by omega) hCu.2
  have HB4 := Lib.hid (HB3.out.trans (B.mono (Below.size HB3.out)))
  have HU := Lib.hid hRu
  have Hk := Lib.hid hku
  clear HB3 B hRu hCu hvu hlu hku
  go_wp2_with fail
  refine (check_c w4 v4 us HU.out).mono ?_
  rintro e w5 ⟨rfl, rfl⟩
  have hku := Hk.out
  rw [hku]
  clear hku Hk HU
  go_wp2_with fail
  have HB5 := Lib.hid (HB4.out.alloc (Below.size HB4.out) (.cells #[.slice A zs.length cap] 23))
  have hc5 : (w4.alloc (.cells #[.slice A zs.length cap] 23)).cell? ⟨w4.heap.size, 0, none⟩ = some (.slice A zs.length cap) := (Boxed.new w4 23 (.slice A zs.length cap)).cell
  generalize w4.alloc (.cells #[.slice A zs.length cap] 23) = w5 at *
  have hR5 := HR.out.1.below HB5.out (Nat.le_refl _)
  refine (fit_law w5 w4.heap.size 1 [.slice A zs.length cap] [zs] rfl (by simp) ?_ ?_).mono ?_
  · intro i u hu
    match i, hu with
    | 0, hu => injection hu with hu; subst hu; exact hc5
  · intro i u ys hu hy
    match i, hu, hy with
    | 0, hu, hy => injection hu with hu; injection hy with hy; subst hu; subst hy; exact hR5
  rintro e w6 ⟨rfl, rfl⟩
  have HR5 := Lib.hid hR5
  clear hR5 hc5 HB4
  by_cases hf : FitOne zs
  case neg =>
    have hfa : fitAll [zs] = false := fitAll_false (k := 0) rfl hf
    rw [hfa]
    clear hfa hf
    go_wp2_with fail
    go_ret
    exact ⟨rfl, HB5.out⟩
  have hfa : fitAll [zs] = true := fitAll_true fun j ys hj hy => by
    match j, hy with
    | 0, hy => injection hy with hy; subst hy; exact hf
  rw [hfa]
  have HC := Lib.hid (hf.can (k := .u32) HR.out.2)
  have h40 := hf.1
  have HR5' := Lib.hid (HR5.out.2 h40)
  clear hfa hf HR5
  have HR5 := Lib.hid HR5'.out
  clear HR5'
  go_wp2_with fail
  refine (small_c w5 _ zs HR5.out HR.out.2 (by omega)).mono ?_
  have hsz := HC.out
  by_cases h2 : 2 < zs.length
  · have hge : two64 ≤ val 4294967296 zs := by
      have := hsz.ge (by intro e; rw [e] at h2; simp at h2)
      refine Nat.le_trans ?_ this
      have : (4294967296 : Nat) ^ 2 ≤ 4294967296 ^ (zs.length - 1) := Nat.pow_le_pow_right (by omega) (by omega)
      rw [pow2] at this
      exact this
    have hg : decide ((zs.length : Int) > 2) = true := by rw [decide_eq_true_iff]; omega
    rintro e w7 ⟨B, (⟨h, _⟩ | ⟨_, rfl⟩)⟩
    · omega
    have HB7 := Lib.hid (HB5.out.trans (B.mono (Below.size HB5.out)))
    clear hge hsz B HB5
    go_wp2_with fail
    go_ret
    exact ⟨rfl, HB7.out⟩
  · have hlt : val 4294967296 zs < 18446744073709551616 := by
      have := val_lt hsz.1
      have h3 : (4294967296 : Nat) ^ zs.length ≤ 4294967296 ^ 2 := Nat.pow_le_pow_right (by omega) (by omega)
      rw [pow2] at h3
      omega
    have hg : decide ((zs.length : Int) > 2) = false := by rw [decide_eq_false_iff_not]; omega
    rintro e w7 ⟨B, (⟨_, rfl⟩ | ⟨h, _⟩)⟩
    case inr => exact absurd h (by unfold two64; omega)
    have HB7 := Lib.hid (HB5.out.trans (B.mono (Below.size HB5.out)))
    have HR7 := Lib.hid (HR5.out.below B)
    obtain ⟨x, hx⟩ : ∃ x, val 4294967296 zs = x := ⟨_, rfl⟩
    rw [hx] at hlt
    simp only [hx]
    have Hx := Lib.hid hx
    have Hlt := Lib.hid hlt
    clear hsz B HB5 HR5 hx hlt
    go_wp2_with fail
    refine (of_c w7 x Hlt.out).mono ?_
    rintro e w8 ⟨B, v8, rfl, hN⟩
    have hr8 := hN.rd HC.out Hx.out
    have HB8 := Lib.hid (HB7.out.trans (B.mono (Below.size HB7.out)))
    have HR8 := Lib.hid (And.intro hr8 (HR7.out.below B))
    clear hN hr8 B HB7 HR7
    go_wp2_with fail
    refine (equal_nat w8 _ _ _ _ HR8.out.1 HR8.out.2).mono ?_
    rintro e w9 ⟨rfl, nq, rfl⟩
    have hel : eqL zs zs = true := eqL_true rfl
    rw [hel]
    have HB9 := Lib.hid (HB8.out.trans (below_drewN _ w8 nq))
    generalize w8.drewN nq = w9 at *
    clear hel HB8 HR8
    go_wp2_with fail
    go_ret
    exact ⟨rfl, HB9.out⟩
end Go.Proofs.YthcihpfnjphnfaaDoor
