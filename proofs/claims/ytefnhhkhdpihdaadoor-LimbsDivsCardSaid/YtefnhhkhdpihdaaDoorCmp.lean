/- One order; the same digits. -/
import Derived.Test.YtefnhhkhdpihdaaDoorFit
import Derived.Deep.QuietTactic
import Derived.BigQuiet
namespace Go.Proofs.YtefnhhkhdpihdaaDoor
open Go Go.RowKit

/-- -1, 0, 1: less, the same, more. -/
def ord3 (x y : Nat) : Int := if x < y then -1 else if y < x then 1 else 0
theorem ord3_lt {x y : Nat} (h : x < y) : ord3 x y = -1 := by unfold ord3; rw [if_pos h]
theorem ord3_gt {x y : Nat} (h : y < x) : ord3 x y = 1 := by unfold ord3; rw [if_neg (by omega), if_pos h]
theorem ord3_eq (x : Nat) : ord3 x x = 0 := by unfold ord3; rw [if_neg (by omega), if_neg (by omega)]

theorem Rd.len_le {k : IntKind} {w : World} {v : Value} {zs : List Nat} (h : Rd k w v zs) : zs.length ≤ 70368744177664 := by
  obtain ⟨A, cap, _, h1, h2, _⟩ := h
  omega

def eqL (xs ys : List Nat) : Bool := decide (xs = ys)
def EqPost (w : World) (xs ys : List Nat) (e : Ending) (w' : World) : Prop := e = .returned (.bool (eqL xs ys)) ∧ ∃ nq, w' = w.drewN nq
theorem eqL_true {xs ys : List Nat} (h : xs = ys) : eqL xs ys = true := by simp [eqL, h]
theorem eqL_false {xs ys : List Nat} (h : xs ≠ ys) : eqL xs ys = false := by simp [eqL, h]
theorem EqPost.below {w w' : World} {xs ys : List Nat} {e : Ending} (h : EqPost w xs ys e w') : e = .returned (.bool (eqL xs ys)) ∧ Below w.heap.size w w' := by
  obtain ⟨rfl, nq, rfl⟩ := h
  exact ⟨rfl, below_drewN' _ _⟩

set_option maxHeartbeats 400000 in
theorem cmp_int (w : World) (x y : Nat) : Calls Tryd.prog 67 #[.int .i64 x, .int .i64 y] w fun e w' => e = .returned (.int .i64 (ord3 x y)) ∧ w = w' := by
  rcases Nat.lt_trichotomy x y with h | h | h
  · rw [ord3_lt h]
    go_enter Tryd.func67, Tryd.ntmps67
    go_wp2
    go_ret
    exact ⟨rfl, rfl⟩
  · subst h
    rw [ord3_eq]
    go_enter Tryd.func67, Tryd.ntmps67
    go_wp2
    go_ret
    exact ⟨rfl, rfl⟩
  · rw [ord3_gt h]
    go_enter Tryd.func67, Tryd.ntmps67
    go_wp2
    go_ret
    exact ⟨rfl, rfl⟩

set_option maxHeartbeats 400000 in
theorem cmp_u32 (w : World) (x y : Nat) : Calls Tryd.prog 69 #[.int .u32 x, .int .u32 y] w fun e w' => e = .returned (.int .i64 (ord3 x y)) ∧ w = w' := by
  rcases Nat.lt_trichotomy x y with h | h | h
  · rw [ord3_lt h]
    go_enter Tryd.func69, Tryd.ntmps69
    go_wp2
    go_ret
    exact ⟨rfl, rfl⟩
  · subst h
    rw [ord3_eq]
    go_enter Tryd.func69, Tryd.ntmps69
    go_wp2
    go_ret
    exact ⟨rfl, rfl⟩
  · rw [ord3_gt h]
    go_enter Tryd.func69, Tryd.ntmps69
    go_wp2
    go_ret
    exact ⟨rfl, rfl⟩

set_option maxRecDepth 100000 in
set_option maxHeartbeats 1000000 in
theorem equal_nat (w : World) (va vb : Value) (xs ys : List Nat) (ha : Rd .u32 w va xs) (hb : Rd .u32 w vb ys) : Calls Tryd.prog 24 #[va, vb] w (EqPost w xs ys) := by
  obtain ⟨A1, c1, rfl, h1⟩ := ha.form
  obtain ⟨A2, c2, rfl, h2⟩ := hb.form
  have hm := ha.len_le
  by_cases hl : xs.length = ys.length
  · have hl' : ((xs.length : Int) != (ys.length : Int)) = false := by rw [bne_eq_false_iff_eq]; omega
    have hl1 : xs.length ≤ ys.length := by omega
    have hl2 : ys.length ≤ xs.length := by omega
    have Hl := Lib.hid hl
    clear hl
    go_enter Tryd.func24, Tryd.ntmps24
    go_wp2
    clear hl'
    go_loopw [13] (fun i wr => ∃ k nq : Nat, k ≤ xs.length ∧ i = .int .i64 k ∧ wr = w.drewN nq ∧ Hid (xs.take k = ys.take k)) (fun i _ => xs.length - (intOf i).toNat)
    case atStart => exact ⟨0, 0, Nat.zero_le _, rfl, rfl, by simp [Hid]⟩
    case round =>
      obtain ⟨k, nq, hk, rfl, rfl, ht⟩ := hrel
      by_cases hlt : k < xs.length
      · have hx : xs[k]? = some xs[k] := List.getElem?_eq_getElem hlt
        have hy : ys[k]? = some ys[k] := List.getElem?_eq_getElem (by omega)
        obtain ⟨x, hxx⟩ : ∃ x, xs[k] = x := ⟨_, rfl⟩
        obtain ⟨y, hyy⟩ : ∃ y, ys[k] = y := ⟨_, rfl⟩
        rw [hxx] at hx; rw [hyy] at hy
        clear hxx hyy
        obtain ⟨b, off, rfl, _⟩ := ha.addr (by omega)
        obtain ⟨b', off', rfl, _⟩ := hb.addr (by omega)
        have hcx := ha.cell hx
        have hcy := hb.cell hy
        have hi1 : (k : Int) < (xs.length : Int) := by omega
        have hi2 : (k : Int) < (ys.length : Int) := by omega
        have Hx := Lib.hid hx
        have Hy := Lib.hid hy
        clear hx hy
        by_cases hxy : x = y
        · have hne : ((x : Int) != (y : Int)) = false := by rw [bne_eq_false_iff_eq]; omega
          have Hxy := Lib.hid hxy
          clear hxy
          go_wp2
          go_quiet (fail)
          go_wp2
          go_roundw
          case rel => exact ⟨k + 1, _, by omega, by go_num, rfl, by rw [Hid, List.take_add_one, List.take_add_one, ht.out, Hx.out, Hy.out, Hxy.out]⟩
          case measure => simp [intOf]; omega
        · have hne : ((x : Int) != (y : Int)) = true := by rw [bne_iff_ne]; omega
          have he : eqL xs ys = false := eqL_false (fun e => hxy (by have h1 := Hx.out; rw [e, Hy.out] at h1; injection h1 with h1; exact h1.symm))
          have He := Lib.hid he
          clear he
          go_wp2
          go_quiet (fail)
          go_wp2
          go_ret
          exact ⟨by rw [He.out]; rfl, _, World.drewN_drewN _ _ _⟩
      · obtain rfl : k = xs.length := by omega
        have he : eqL xs ys = true := eqL_true (by have := ht.out; rwa [List.take_length, Hl.out, List.take_length] at this)
        have He := Lib.hid he
        clear he
        go_wp2
        go_ret
        exact ⟨by rw [He.out]; rfl, _, rfl⟩
  · have hl' : ((xs.length : Int) != (ys.length : Int)) = true := by rw [bne_iff_ne]; omega
    have he : eqL xs ys = false := eqL_false (fun e => hl (by rw [e]))
    have He := Lib.hid he
    clear he
    go_enter Tryd.func24, Tryd.ntmps24
    go_wp2
    go_ret
    exact ⟨by rw [He.out]; rfl, 0, rfl⟩

set_option maxRecDepth 100000 in
set_option maxHeartbeats 1000000 in
theorem equal_u32 (w : World) (va vb : Value) (xs ys : List Nat) (ha : Rd .u32 w va xs) (hb : Rd .u32 w vb ys) : Calls Tryd.prog 60 #[va, vb] w (EqPost w xs ys) := by
  obtain ⟨A1, c1, rfl, h1⟩ := ha.form
  obtain ⟨A2, c2, rfl, h2⟩ := hb.form
  have hm := ha.len_le
  by_cases hl : xs.length = ys.length
  · have hl' : ((xs.length : Int) != (ys.length : Int)) = false := by rw [bne_eq_false_iff_eq]; omega
    have hl1 : xs.length ≤ ys.length := by omega
    have hl2 : ys.length ≤ xs.length := by omega
    have Hl := Lib.hid hl
    clear hl
    go_enter Tryd.func60, Tryd.ntmps60
    go_wp2
    clear hl'
    go_loopw [13] (fun i wr => ∃ k nq : Nat, k ≤ xs.length ∧ i = .int .i64 k ∧ wr = w.drewN nq ∧ Hid (xs.take k = ys.take k)) (fun i _ => xs.length - (intOf i).toNat)
    case atStart => exact ⟨0, 0, Nat.zero_le _, rfl, rfl, by simp [Hid]⟩
    case round =>
      obtain ⟨k, nq, hk, rfl, rfl, ht⟩ := hrel
      by_cases hlt : k < xs.length
      · have hx : xs[k]? = some xs[k] := List.getElem?_eq_getElem hlt
        have hy : ys[k]? = some ys[k] := List.getElem?_eq_getElem (by omega)
        obtain ⟨x, hxx⟩ : ∃ x, xs[k] = x := ⟨_, rfl⟩
        obtain ⟨y, hyy⟩ : ∃ y, ys[k] = y := ⟨_, rfl⟩
        rw [hxx] at hx; rw [hyy] at hy
        clear hxx hyy
        obtain ⟨b, off, rfl, _⟩ := ha.addr (by omega)
        obtain ⟨b', off', rfl, _⟩ := hb.addr (by omega)
        have hcx := ha.cell hx
        have hcy := hb.cell hy
        have hi1 : (k : Int) < (xs.length : Int) := by omega
        have hi2 : (k : Int) < (ys.length : Int) := by omega
        have Hx := Lib.hid hx
        have Hy := Lib.hid hy
        clear hx hy
        by_cases hxy : x = y
        · have hne : ((x : Int) != (y : Int)) = false := by rw [bne_eq_false_iff_eq]; omega
          have Hxy := Lib.hid hxy
          clear hxy
          go_wp2
          go_quiet (fail)
          go_wp2
          go_roundw
          case rel => exact ⟨k + 1, _, by omega, by go_num, rfl, by rw [Hid, List.take_add_one, List.take_add_one, ht.out, Hx.out, Hy.out, Hxy.out]⟩
          case measure => simp [intOf]; omega
        · have hne : ((x : Int) != (y : Int)) = true := by rw [bne_iff_ne]; omega
          have he : eqL xs ys = false := eqL_false (fun e => hxy (by have h1 := Hx.out; rw [e, Hy.out] at h1; injection h1 with h1; exact h1.symm))
          have He := Lib.hid he
          clear he
          go_wp2
          go_quiet (fail)
          go_wp2
          go_ret
          exact ⟨by rw [He.out]; rfl, _, World.drewN_drewN _ _ _⟩
      · obtain rfl : k = xs.length := by omega
        have he : eqL xs ys = true := eqL_true (by have := ht.out; rwa [List.take_length, Hl.out, List.take_length] at this)
        have He := Lib.hid he
        clear he
        go_wp2
        go_ret
        exact ⟨by rw [He.out]; rfl, _, rfl⟩
  · have hl' : ((xs.length : Int) != (ys.length : Int)) = true := by rw [bne_iff_ne]; omega
    have he : eqL xs ys = false := eqL_false (fun e => hl (by rw [e]))
    have He := Lib.hid he
    clear he
    go_enter Tryd.func60, Tryd.ntmps60
    go_wp2
    go_ret
    exact ⟨by rw [He.out]; rfl, 0, rfl⟩
end Go.Proofs.YtefnhhkhdpihdaaDoor
