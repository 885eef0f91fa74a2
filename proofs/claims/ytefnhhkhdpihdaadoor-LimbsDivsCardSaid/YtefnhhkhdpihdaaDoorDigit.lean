/- The small calls: a digit at a place; 32 bits together and less, and divided. -/
import Derived.Test.YtefnhhkhdpihdaaDoorMem
import Derived.Laws.BitsAllLaws
import Derived.Deep.QuietTactic
import Derived.BigQuiet
namespace Go.Proofs.YtefnhhkhdpihdaaDoor
open Go Go.RowKit

set_option maxHeartbeats 400000 in
theorem digit_c (w : World) (v : Value) (zs : List Nat) (h : Rd .u32 w v zs) (i : Nat) :
    Calls Tryd.prog 58 #[v, .int .i64 i] w fun e w' => e = .returned (.int .u32 ((zs[i]?.getD 0 : Nat) : Int)) ∧ w = w' := by
  obtain ⟨A, cap, rfl, hl, hc, hz⟩ := h
  by_cases hlt : i < zs.length
  · obtain ⟨b, off, rfl, _, hcell⟩ := hz (by omega)
    have hx : zs[i]? = some zs[i] := List.getElem?_eq_getElem hlt
    have hci := hcell i _ hx
    have he : zs[i]?.getD 0 = zs[i] := by rw [hx]; rfl
    rw [he]
    clear hx he hz hcell
    go_enter Tryd.func58, Tryd.ntmps58
    go_wp2
    go_ret
    exact ⟨rfl, rfl⟩
  · have he : zs[i]?.getD 0 = 0 := by rw [List.getElem?_eq_none (by omega)]; rfl
    rw [he]
    clear he hz
    go_enter Tryd.func58, Tryd.ntmps58
    go_wp2
    go_ret
    exact ⟨rfl, rfl⟩

theorem ret_pair {k l : IntKind} {a b c d : Int} (h : a = c) (h' : b = d) : Ending.returned (.tuple #[.int k a, .int l b]) = .returned (.tuple #[.int k c, .int l d]) := by rw [h, h']

set_option maxHeartbeats 400000 in
theorem add32_c (w : World) (x y c : Nat) (hx : x < 4294967296) (hy : y < 4294967296) (hc : c ≤ 1) :
    Calls Tryd.prog 57 #[.int .u32 x, .int .u32 y, .int .u32 c] w fun e w' => e = .returned (.tuple #[.int .u32 (((x + y + c) % 4294967296 : Nat) : Int), .int .u32 (((x + y + c) / 4294967296 : Nat) : Int)]) ∧ w = w' := by
  go_enter Tryd.func57, Tryd.ntmps57
  go_wp2
  go_ret2
  exact ⟨rfl, rfl⟩

theorem top_bit {x : Nat} (h : x < 4294967296) : x.testBit 31 = decide (2147483648 ≤ x) := by
  rw [Nat.testBit_eq_decide_div_mod_eq, decide_eq_decide]; omega
theorem top_of {n : Nat} (h : n < 4294967296) : n / 2147483648 = (n.testBit 31).toNat := by
  rw [top_bit h]
  by_cases c : 2147483648 ≤ n
  · simp [c]; omega
  · simp [c]; omega

/-- What a difference borrows. -/
def bor (x y c : Nat) : Nat := if x < y + c then 1 else 0
/-- The borrow of a difference, by the highest bits. -/
theorem borrow32 {x y c d : Nat} (hx : x < 4294967296) (hy : y < 4294967296) (hc : c ≤ 1) (hd : d = (x + 8589934592 - y - c) % 4294967296) :
    ((((4294967295 ^^^ x) &&& y) ||| ((4294967295 ^^^ (x ^^^ y)) &&& d)) / 2147483648 : Nat) = bor x y c := by
  unfold bor
  have hd' : d < 4294967296 := by omega
  have h1 : ((4294967295 ^^^ x) &&& y) < 2 ^ 32 := Nat.and_lt_two_pow _ (by omega)
  have h2 : ((4294967295 ^^^ (x ^^^ y)) &&& d) < 2 ^ 32 := Nat.and_lt_two_pow _ (by omega)
  rw [top_of (Nat.or_lt_two_pow h1 h2)]
  have hp : (4294967295 : Nat).testBit 31 = true := by decide
  simp only [Nat.testBit_or, Nat.testBit_and, Nat.testBit_xor, hp, top_bit hx, top_bit hy, top_bit hd']
  by_cases a : 2147483648 ≤ x <;> by_cases b : 2147483648 ≤ y <;> by_cases e : 2147483648 ≤ d <;> by_cases f : x < y + c <;> simp [a, b, e, f] <;> omega

set_option maxHeartbeats 400000 in
theorem sub32_c (w : World) (x y c : Nat) (hx : x < 4294967296) (hy : y < 4294967296) (hc : c ≤ 1) :
    Calls Tryd.prog 62 #[.int .u32 x, .int .u32 y, .int .u32 c] w fun e w' => e = .returned (.tuple #[.int .u32 (((x + 8589934592 - y - c) % 4294967296 : Nat) : Int), .int .u32 ((bor x y c : Nat) : Int)]) ∧ w = w' := by
  go_enter Tryd.func62, Tryd.ntmps62
  go_wp2
  go_ret2
  refine ⟨ret_pair ?_ ?_, rfl⟩
  · omega
  · obtain ⟨d, hd⟩ : ∃ d, d = (x + 8589934592 - y - c) % 4294967296 := ⟨_, rfl⟩
    have hd' : d < 4294967296 := by omega
    have e1 : ((x : Int) - y - c) % 4294967296 = (d : Int) := by omega
    have em : IntKind.u32.max = ((4294967295 : Nat) : Int) := by decide
    have hp : (4294967295 : Nat) < 4294967296 := by omega
    have hxy : x ^^^ y < 2 ^ 32 := Nat.xor_lt_two_pow (by omega) (by omega)
    have h0 : 4294967295 ^^^ x < 2 ^ 32 := Nat.xor_lt_two_pow (by omega) (by omega)
    have h00 : 4294967295 ^^^ (x ^^^ y) < 2 ^ 32 := Nat.xor_lt_two_pow (by omega) hxy
    rw [e1, em, u32_xor_nat _ _ hp hx, u32_and_nat _ _ h0 hy, u32_xor_nat _ _ hx hy, u32_xor_nat _ _ hp hxy, u32_and_nat _ _ h00 hd',
      u32_or_nat _ _ (Nat.and_lt_two_pow (n := 32) _ (by omega)) (Nat.and_lt_two_pow (n := 32) _ (by omega)), ← borrow32 hx hy hc hd]
    rfl

theorem join_low {x y : Nat} (hy : y < 4294967296) : x * 4294967296 ||| y = x * 4294967296 + y := nat_join 32 _ _ (by simp) (by omega)
theorem div32_lt {x y c : Nat} (hc : 0 < c) (hh : x < c) (hy : y < 4294967296) : (x * 4294967296 + y) / c < 4294967296 := by
  rw [Nat.div_lt_iff_lt_mul hc]
  have : (x + 1) * 4294967296 ≤ c * 4294967296 := Nat.mul_le_mul_right _ hh
  omega

theorem wrap_u64' (n : Int) : IntKind.u64.wrap n = n % 18446744073709551616 := by simp [IntKind.wrap, IntKind.bits, IntKind.signed]
theorem below_drewN' (w : World) (n : Nat) : Below w.heap.size w (w.drewN n) := ⟨rfl, rfl, rfl, Nat.le_refl _, fun _ _ => rfl⟩

set_option maxHeartbeats 1000000 in
theorem div32_c (w : World) (x y c : Nat) (hx : x < 4294967296) (hy : y < 4294967296) (hc : c < 4294967296) (hh : x < c) :
    Calls Tryd.prog 81 #[.int .u32 x, .int .u32 y, .int .u32 c] w fun e w' =>
      e = .returned (.tuple #[.int .u32 (((x * 4294967296 + y) / c : Nat) : Int), .int .u32 (((x * 4294967296 + y) % c : Nat) : Int)]) ∧ Below w.heap.size w w' := by
  have hc0 : ((c : Int) == 0) = false := by rw [beq_eq_false_iff_ne]; omega
  have hc1 : ((c : Int) != 0) = true := by rw [bne_iff_ne]; omega
  have hcx : decide ((c : Int) ≤ x) = false := by rw [decide_eq_false_iff_not]; omega
  go_enter Tryd.func81, Tryd.ntmps81
  go_wp2
  go_quiet (fail)
  go_wp2
  go_ret2
  have e1 : bits BinOp.or IntKind.u64 ((x : Int) * 4294967296) (y : Int) = ((x * 4294967296 + y : Nat) : Int) := by
    rw [← join_low hy, ← u64_or_nat _ _ (by omega) (by omega)]; rfl
  refine ⟨ret_pair ?_ ?_, below_drewN' _ _⟩
  · rw [e1, ← Int.ofNat_tdiv, wrap_u64']
    have := div32_lt (by omega) hh hy
    obtain ⟨q, hq⟩ : ∃ q, (x * 4294967296 + y) / c = q := ⟨_, rfl⟩
    rw [hq] at this ⊢
    omega
  · rw [e1, ← Int.ofNat_tmod]
    have := Nat.mod_lt (x * 4294967296 + y) (show c > 0 by omega)
    obtain ⟨q, hq⟩ : ∃ q, (x * 4294967296 + y) % c = q := ⟨_, rfl⟩
    rw [hq] at this ⊢
    omega
end Go.Proofs.YtefnhhkhdpihdaaDoor
