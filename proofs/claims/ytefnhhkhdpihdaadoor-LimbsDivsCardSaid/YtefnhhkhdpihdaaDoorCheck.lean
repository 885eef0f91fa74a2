/- May a number be? A small number. -/
import Derived.Test.YtefnhhkhdpihdaaDoorFit
namespace Go.Proofs.YtefnhhkhdpihdaaDoor
open Go Go.RowKit

/-- What Check answers of digits. -/
def checkOf (zs : List Nat) : Int := if 512 < zs.length then 11 else if zs.getLast? = some 0 then 2 else 0
theorem checkOf_long {zs : List Nat} (h : 512 < zs.length) : checkOf zs = 11 := by unfold checkOf; rw [if_pos h]
theorem checkOf_form {zs : List Nat} (h : ¬ 512 < zs.length) (h' : zs.getLast? = some 0) : checkOf zs = 2 := by unfold checkOf; rw [if_neg h, if_pos h']
theorem checkOf_ok {zs : List Nat} (h : ¬ 512 < zs.length) (h' : zs.getLast? ≠ some 0) : checkOf zs = 0 := by unfold checkOf; rw [if_neg h, if_neg h']

set_option maxRecDepth 100000 in
set_option maxHeartbeats 400000 in
theorem check_c (w : World) (v : Value) (zs : List Nat) (hR : Rd .u32 w v zs) : Calls Tryd.prog 33 #[v] w fun e w' => e = .returned (.int .i64 (checkOf zs)) ∧ w = w' := by
  obtain ⟨A, cap, rfl, hl⟩ := hR.form
  by_cases h5 : 512 < zs.length
  · rw [checkOf_long h5]
    go_enter Tryd.func33, Tryd.ntmps33
    go_wp2
    go_ret
    exact ⟨rfl, rfl⟩
  · by_cases h0 : 0 < zs.length
    · obtain ⟨b, off, rfl, _⟩ := hR.addr h0
      have hx : zs[zs.length - 1]? = some zs[zs.length - 1] := List.getElem?_eq_getElem (by omega)
      obtain ⟨x, hxx⟩ : ∃ x, zs[zs.length - 1] = x := ⟨_, rfl⟩
      rw [hxx] at hx
      have hc := hR.cell hx
      have hlast : zs.getLast? = some x := by rw [List.getLast?_eq_getElem?]; exact hx
      clear hxx hx
      by_cases hx0 : x = 0
      · subst hx0
        rw [checkOf_form h5 hlast]
        clear hlast
        go_enter Tryd.func33, Tryd.ntmps33
        go_wp2
        go_ret
        exact ⟨rfl, rfl⟩
      · have hxb : ((x : Int) == 0) = false := by rw [beq_eq_false_iff_ne]; omega
        rw [checkOf_ok h5 (by rw [hlast]; simp; omega)]
        clear hlast
        go_enter Tryd.func33, Tryd.ntmps33
        go_wp2
        go_ret
        exact ⟨rfl, rfl⟩
    · have hz : zs = [] := List.eq_nil_of_length_eq_zero (by omega)
      subst hz
      rw [checkOf_ok h5 (by simp)]
      go_enter Tryd.func33, Tryd.ntmps33
      go_wp2
      go_ret
      exact ⟨rfl, rfl⟩

/-- A new number. -/
def NumNew (w : World) (x : Nat) (e : Ending) (w' : World) : Prop := Below w.heap.size w w' ∧ ∃ v, e = .returned v ∧ NumV w' v x

set_option maxHeartbeats 400000 in
theorem of_c (w : World) (n : Nat) (hn : n < 18446744073709551616) : Calls Tryd.prog 44 #[.int .u64 n] w (NumNew w n) := by
  go_enter Tryd.func44, Tryd.ntmps44
  go_wp2_with fail
  have e : (#[Value.int .u32 ((n : Int) % 4294967296), Value.int .u32 ((n : Int) / 4294967296)] : Array Value) = nums .u32 [n % 4294967296, n / 4294967296] := by simp [nums]
  rw [e]
  have hO := Own.new w .u32 35 [n % 4294967296, n / 4294967296]
  have hR := hO.whole (by simp)
  refine (trim_num _ _ _ hR (by intro x hx; simp at hx; omega)).mono ?_
  rintro e w' ⟨v, zs, rfl, hR', hC, hv, _, hB⟩
  have hB' := below_trans ((Below.refl _ w).alloc (Nat.le_refl _) _) hB
  have Hv := Lib.hid hv
  clear hv hO hR e
  go_wp2_with fail
  go_ret
  refine ⟨hB', v, rfl, zs, hR', hC, ?_⟩
  rw [Hv.out]
  simp; omega
end Go.Proofs.YtefnhhkhdpihdaaDoor
