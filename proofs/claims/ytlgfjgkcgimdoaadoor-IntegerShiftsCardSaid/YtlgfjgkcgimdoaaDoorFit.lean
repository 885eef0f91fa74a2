/- What is answered: digits without noughts at the end, if they are not too many. -/
import Derived.Test.YtlgfjgkcgimdoaaDoorTrim
import Derived.Test.YtlgfjgkcgimdoaaDoorMem
namespace Go.Proofs.YtlgfjgkcgimdoaaDoor
open Go Go.RowKit

/-- The number x stands in v. -/
def NumV (w : World) (v : Value) (x : Nat) : Prop := ∃ zs, Rd .u32 w v zs ∧ Can 4294967296 zs ∧ val 4294967296 zs = x
theorem NumV.below {w w' : World} {v : Value} {x : Nat} (h : NumV w v x) (hb : Below w.heap.size w w') : NumV w' v x := by
  obtain ⟨zs, h1, h2, h3⟩ := h
  exact ⟨zs, h1.below hb, h2, h3⟩
theorem NumV.nil (w : World) : NumV w (.slice none 0 0) 0 := ⟨[], Rd.nil _ _ _, Can.nil _, rfl⟩

def TrimNum (w : World) (zs : List Nat) (e : Ending) (w' : World) : Prop :=
  ∃ v zs', e = .returned v ∧ Rd .u32 w' v zs' ∧ Can 4294967296 zs' ∧ val 4294967296 zs' = val 4294967296 zs ∧ zs'.length ≤ zs.length ∧ Below w.heap.size w w'

theorem trim_num (w : World) (v : Value) (zs : List Nat) (hR : Rd .u32 w v zs) (hb : ∀ x ∈ zs, x < 4294967296) : Calls Tryd.prog 30 #[v] w (TrimNum w zs) := by
  refine (trim_c w v zs hR).mono ?_
  rintro e w' ⟨v', n, rfl, hn, hz, h0, hR', hB, _⟩
  exact ⟨v', zs.take n, rfl, hR', Can.take hb hn hz, val_take_zeros hn h0, by simp; omega, hB⟩

def TrimNil (w : World) (zs : List Nat) (e : Ending) (w' : World) : Prop :=
  ∃ v zs', e = .returned v ∧ Rd .u32 w' v zs' ∧ Can 4294967296 zs' ∧ val 4294967296 zs' = val 4294967296 zs ∧ zs'.length ≤ zs.length ∧ Below w.heap.size w w' ∧ (zs'.length = 0 → v = .slice none 0 0)

theorem trim_nil (w : World) (v : Value) (zs : List Nat) (hR : Rd .u32 w v zs) (hb : ∀ x ∈ zs, x < 4294967296) : Calls Tryd.prog 30 #[v] w (TrimNil w zs) := by
  refine (trim_c w v zs hR).mono ?_
  rintro e w' ⟨v', n, rfl, hn, hz, h0, hR', hB, hnil⟩
  exact ⟨v', zs.take n, rfl, hR', Can.take hb hn hz, val_take_zeros hn h0, by simp; omega, hB, fun hl => hnil (by rw [List.length_take] at hl; omega)⟩

/-- Numbers of at most MaxLimbs digits are less than this. -/
def maxL : Nat := 512
def Lim : Nat := 4294967296 ^ maxL
theorem len_of_lim {zs : List Nat} (h : Can 4294967296 zs) (hv : val 4294967296 zs < Lim) : zs.length ≤ 512 := h.len_le (n := maxL) (by omega) hv
theorem lim_of_len {zs : List Nat} (h : ∀ x ∈ zs, x < 4294967296) (hl : zs.length ≤ 512) : val 4294967296 zs < Lim :=
  Nat.lt_of_lt_of_le (val_lt h) (Nat.pow_le_pow_right (by omega) hl)
theorem lim_le_of_len {zs : List Nat} (h : Can 4294967296 zs) (hl : 512 < zs.length) : Lim ≤ val 4294967296 zs :=
  Nat.le_trans (Nat.pow_le_pow_right (by omega) (show maxL ≤ zs.length - 1 by unfold maxL; omega)) (h.ge (by intro e; rw [e] at hl; simp at hl))

/-- A number and no error, or none and ErrLimbs. -/
def Fitted (w : World) (x : Nat) (e : Ending) (w' : World) : Prop :=
  Below w.heap.size w w' ∧ ((x < Lim ∧ ∃ v, e = .returned (.tuple #[v, .int .i64 0]) ∧ NumV w' v x) ∨ (Lim ≤ x ∧ e = .returned (.tuple #[.slice none 0 0, .int .i64 11])))

set_option maxHeartbeats 400000 in
theorem fit_c (w : World) (v : Value) (zs : List Nat) (hR : Rd .u32 w v zs) (hb : ∀ x ∈ zs, x < 4294967296) : Calls Tryd.prog 28 #[v] w (Fitted w (val 4294967296 zs)) := by
  have ht := trim_num w v zs hR hb
  go_enter Tryd.func28, Tryd.ntmps28
  go_wp2_with fail
  refine ht.mono ?_
  rintro e w1 ⟨v1, ys, rfl, hR1, hC, hv, hl, hB⟩
  obtain ⟨A, cap, rfl, h1, h2, h3⟩ := id hR1
  have Hv := Lib.hid hv
  clear ht hv h3
  by_cases hlt : 512 < ys.length
  · go_wp2
    go_ret2
    exact ⟨hB, .inr ⟨by rw [← Hv.out]; exact lim_le_of_len hC hlt, rfl⟩⟩
  · go_wp2
    go_ret2
    exact ⟨hB, .inl ⟨by rw [← Hv.out]; exact lim_of_len hC.1 (by omega), _, rfl, ys, hR1, hC, Hv.out⟩⟩
end Go.Proofs.YtlgfjgkcgimdoaaDoor

/- May a number be? A small number. -/
namespace Go.Proofs.YtlgfjgkcgimdoaaDoor
open Go Go.RowKit

/-- What Check answers of digits. -/
def checkOf (zs : List Nat) : Int := if 512 < zs.length then 11 else if zs.getLast? = some 0 then 2 else 0
theorem checkOf_long {zs : List Nat} (h : 512 < zs.length) : checkOf zs = 11 := by unfold checkOf; rw [if_pos h]
theorem checkOf_form {zs : List Nat} (h : ¬ 512 < zs.length) (h' : zs.getLast? = some 0) : checkOf zs = 2 := by unfold checkOf; rw [if_neg h, if_pos h']
theorem checkOf_ok {zs : List Nat} (h : ¬ 512 < zs.length) (h' : zs.getLast? ≠ some 0) : checkOf zs = 0 := by unfold checkOf; rw [if_neg h, if_neg h']

set_option maxRecDepth 100000 in
set_option maxHeartbeats 400000 in
theorem check_c (w : World) (v : Value) (zs : List Nat) (hR : Rd .u32 w v zs) : Calls Tryd.prog 49 #[v] w fun e w' => e = .returned (.int .i64 (checkOf zs)) ∧ w = w' := by
  obtain ⟨A, cap, rfl, hl⟩ := hR.form
  by_cases h5 : 512 < zs.length
  · rw [checkOf_long h5]
    go_enter Tryd.func49, Tryd.ntmps49
    go_wp2
    go_ret
    exact ⟨rfl, rfl⟩
  · by_cases h0 : 0 < zs.length
    · obtain ⟨b, off, rfl, _⟩ := hR.addr h0
      have hx : zs[zs.length - 1]? = some zs[zs.length - 1] := List.getElem?_eq_getElem (by omega)
      obtain ⟨x, hxx⟩ : ∃ x, zs[zs.length - 1] = x := ⟨_, rfl⟩
      rw [hxx] at hx
      have hc := hR.cell hx
      have hlast : zs.getLast? = some x := by rw [List.getLast?_eq_getElem?]; exact hx
      clear hxx hx
      by_cases hx0 : x = 0
      · subst hx0
        rw [checkOf_form h5 hlast]
        clear hlast
        go_enter Tryd.func49, Tryd.ntmps49
        go_wp2
        go_ret
        exact ⟨rfl, rfl⟩
      · have hxb : ((x : Int) == 0) = false := by rw [beq_eq_false_iff_ne]; omega
        rw [checkOf_ok h5 (by rw [hlast]; simp; omega)]
        clear hlast
        go_enter Tryd.func49, Tryd.ntmps49
        go_wp2
        go_ret
        exact ⟨rfl, rfl⟩
    · have hz : zs = [] := List.eq_nil_of_length_eq_zero (by omega)
      subst hz
      rw [checkOf_ok h5 (by simp)]
      go_enter Tryd.func49, Tryd.ntmps49
      go_wp2
      go_ret
      exact ⟨rfl, rfl⟩

/-- A new number. -/
def NumNew (w : World) (x : Nat) (e : Ending) (w' : World) : Prop := Below w.heap.size w w' ∧ ∃ v, e = .returned v ∧ NumV w' v x

set_option maxHeartbeats 400000 in
theorem of_c (w : World) (n : Nat) (hn : n < 18446744073709551616) : Calls Tryd.prog 8 #[.int .u64 n] w (NumNew w n) := by
  go_enter Tryd.func8, Tryd.ntmps8
  go_wp2_with fail
  have e : (#[Value.int .u32 ((n : Int) % 4294967296), Value.int .u32 ((n : Int) / 4294967296)] : Array Value) = nums .u32 [n % 4294967296, n / 4294967296] := by simp [nums]
  rw [e]
  have hO := Own.new w .u32 57 [n % 4294967296, n / 4294967296]
  have hR := hO.whole (by simp)
  refine (trim_num _ _ _ hR (by intro x hx; simp at hx; omega)).mono ?_
  rintro e w' ⟨v, zs, rfl, hR', hC, hv, _, hB⟩
  have hB' := below_trans ((Below.refl _ w).alloc (Nat.le_refl _) _) hB
  have Hv := Lib.hid hv
  clear hv hO hR e
  go_wp2_with fail
  go_ret
  refine ⟨hB', v, rfl, zs, hR', hC, ?_⟩
  rw [Hv.out]
  simp; omega
end Go.Proofs.YtlgfjgkcgimdoaaDoor
