/- What is answered: digits without noughts at the end, if they are not too many. -/
import Derived.Test.YtefnhhkhdpihdaaDoorTrim
import Derived.Test.YtefnhhkhdpihdaaDoorDigit
namespace Go.Proofs.YtefnhhkhdpihdaaDoor
open Go Go.RowKit

/-- The number x stands in v. -/
def NumV (w : World) (v : Value) (x : Nat) : Prop := ∃ zs, Rd .u32 w v zs ∧ Can 4294967296 zs ∧ val 4294967296 zs = x
theorem NumV.below {w w' : World} {v : Value} {x : Nat} (h : NumV w v x) (hb : Below w.heap.size w w') : NumV w' v x := by
  obtain ⟨zs, h1, h2, h3⟩ := h
  exact ⟨zs, h1.below hb, h2, h3⟩
theorem NumV.nil (w : World) : NumV w (.slice none 0 0) 0 := ⟨[], Rd.nil _ _ _, Can.nil _, rfl⟩

def TrimNum (w : World) (zs : List Nat) (e : Ending) (w' : World) : Prop :=
  ∃ v zs', e = .returned v ∧ Rd .u32 w' v zs' ∧ Can 4294967296 zs' ∧ val 4294967296 zs' = val 4294967296 zs ∧ zs'.length ≤ zs.length ∧ Below w.heap.size w w'

theorem trim_num (w : World) (v : Value) (zs : List Nat) (hR : Rd .u32 w v zs) (hb : ∀ x ∈ zs, x < 4294967296) : Calls Tryd.prog 56 #[v] w (TrimNum w zs) := by
  refine (trim_c w v zs hR).mono ?_
  rintro e w' ⟨v', n, rfl, hn, hz, h0, hR', hB, _⟩
  exact ⟨v', zs.take n, rfl, hR', Can.take hb hn hz, val_take_zeros hn h0, by simp; omega, hB⟩

def TrimNil (w : World) (zs : List Nat) (e : Ending) (w' : World) : Prop :=
  ∃ v zs', e = .returned v ∧ Rd .u32 w' v zs' ∧ Can 4294967296 zs' ∧ val 4294967296 zs' = val 4294967296 zs ∧ zs'.length ≤ zs.length ∧ Below w.heap.size w w' ∧ (zs'.length = 0 → v = .slice none 0 0)

theorem trim_nil (w : World) (v : Value) (zs : List Nat) (hR : Rd .u32 w v zs) (hb : ∀ x ∈ zs, x < 4294967296) : Calls Tryd.prog 56 #[v] w (TrimNil w zs) := by
  refine (trim_c w v zs hR).mono ?_
  rintro e w' ⟨v', n, rfl, hn, hz, h0, hR', hB, hnil⟩
  exact ⟨v', zs.take n, rfl, hR', Can.take hb hn hz, val_take_zeros hn h0, by simp; omega, hB, fun hl => hnil (by rw [List.length_take] at hl; omega)⟩

/-- Numbers of at most MaxLimbs digits are less than this. -/
def maxL : Nat := 512
def Lim : Nat := 4294967296 ^ maxL
theorem len_of_lim {zs : List Nat} (h : Can 4294967296 zs) (hv : val 4294967296 zs < Lim) : zs.length ≤ 512 := h.len_le (n := maxL) (by omega) hv
theorem lim_of_len {zs : List Nat} (h : ∀ x ∈ zs, x < 4294967296) (hl : zs.length ≤ 512) : val 4294967296 zs < Lim :=
  Nat.lt_of_lt_of_le (val_lt h) (Nat.pow_le_pow_right (by omega) hl)
theorem lim_le_of_len {zs : List Nat} (h : Can 4294967296 zs) (hl : 512 < zs.length) : Lim ≤ val 4294967296 zs :=
  Nat.le_trans (Nat.pow_le_pow_right (by omega) (show maxL ≤ zs.length - 1 by unfold maxL; omega)) (h.ge (by intro e; rw [e] at hl; simp at hl))

/-- A number and no error, or none and ErrLimbs. -/
def Fitted (w : World) (x : Nat) (e : Ending) (w' : World) : Prop :=
  Below w.heap.size w w' ∧ ((x < Lim ∧ ∃ v, e = .returned (.tuple #[v, .int .i64 0]) ∧ NumV w' v x) ∨ (Lim ≤ x ∧ e = .returned (.tuple #[.slice none 0 0, .int .i64 11])))

set_option maxHeartbeats 400000 in
theorem fit_c (w : World) (v : Value) (zs : List Nat) (hR : Rd .u32 w v zs) (hb : ∀ x ∈ zs, x < 4294967296) : Calls Tryd.prog 59 #[v] w (Fitted w (val 4294967296 zs)) := by
  have ht := trim_num w v zs hR hb
  go_enter Tryd.func59, Tryd.ntmps59
  go_wp2_with fail
  refine ht.mono ?_
  rintro e w1 ⟨v1, ys, rfl, hR1, hC, hv, hl, hB⟩
  obtain ⟨A, cap, rfl, h1, h2, h3⟩ := id hR1
  have Hv := Lib.hid hv
  clear ht hv h3
  by_cases hlt : 512 < ys.length
  · go_wp2
    go_ret2
    exact ⟨hB, .inr ⟨by rw [← Hv.out]; exact lim_le_of_len hC hlt, rfl⟩⟩
  · go_wp2
    go_ret2
    exact ⟨hB, .inl ⟨by rw [← Hv.out]; exact lim_of_len hC.1 (by omega), _, rfl, ys, hR1, hC, Hv.out⟩⟩
end Go.Proofs.YtefnhhkhdpihdaaDoor
