/- The document's answer: 2 to the power of n. -/
import Derived.Test.YtefnhhkhdpihdaaDoorRefMul
namespace Go.Proofs.YtefnhhkhdpihdaaDoor
open Go Go.RowKit Go.Shelf

theorem one_get (q x : Nat) : (List.replicate q 0 ++ [x])[q]? = some x := by
  rw [List.getElem?_append_right (by simp)]; simp
theorem one_set (q x y : Nat) : (List.replicate q 0 ++ [x]).set q y = List.replicate q 0 ++ [y] := by
  rw [List.set_append_right _ _ (by simp)]; simp
theorem one_len (q x : Nat) : (List.replicate q 0 ++ [x]).length = q + 1 := by simp
theorem one_lt {q x : Nat} (hx : x < 256) : ∀ y ∈ List.replicate q 0 ++ [x], y < 256 := fun y hy => by
  rcases List.mem_append.1 hy with h | h
  · have := List.eq_of_mem_replicate h; omega
  · rw [List.mem_singleton.1 h]; exact hx
theorem one_val (q x : Nat) : val 256 (List.replicate q 0 ++ [x]) = 256 ^ q * x := by rw [val_push, val_replicate]; simp
theorem pow_256 (q r : Nat) : (256 : Nat) ^ q * 2 ^ r = 2 ^ (8 * q + r) := by rw [Nat.pow_add, Nat.pow_mul]
theorem pow_lt8 {i : Nat} (h : i < 8) : 2 ^ i < 256 := Nat.lt_of_lt_of_le (Nat.pow_lt_pow_right (by omega) h) (by decide)

set_option maxRecDepth 100000 in
set_option maxHeartbeats 2000000 in
theorem refPow_c (w : World) (n : Nat) (hn : n ≤ 100000) :
    Calls Tryd.prog 31 #[.int .i64 n] w (RefOut w (2 ^ n) (n / 8 + 1)) := by
  obtain ⟨q, hq⟩ : ∃ q, n / 8 = q := ⟨_, rfl⟩
  obtain ⟨r, hr⟩ : ∃ r, n % 8 = r := ⟨_, rfl⟩
  have e1 : (n : Int) / 8 = (q : Int) := by omega
  have e2 : (n : Int) % 8 = (r : Int) := by omega
  have hr8 : r < 8 := by omega
  have hqb : q ≤ 100000 := by omega
  have Hn := Lib.hid (show 8 * q + r = n by omega)
  rw [hq]
  have hmk := make_ref (q + 1) ((q : Int) + 1) (by omega) (by omega)
  clear hq hr hn
  have hO := Own.new w .i64 3 (List.replicate (q + 1) 0)
  have hcg := hO.cell (i := q) (x := 0) (by simp)
  have hfg := hO.frozen q
  have hO1 : Own .i64 3 (w.alloc (.cells ((nums .i64 (List.replicate (q + 1) 0)).setIfInBounds q (.int .i64 1)) 3)) w.heap.size (List.replicate q 0 ++ [2 ^ 0]) := by
    rw [show (Value.int .i64 1) = .int .i64 ((1 : Nat) : Int) from rfl, nums_set, List.replicate_succ', one_set]
    exact Own.new _ _ _ _
  have HO1 := Lib.hid (And.intro hO1 ((Below.refl w.heap.size w).alloc (Nat.le_refl _) (.cells ((nums .i64 (List.replicate (q + 1) 0)).setIfInBounds q (.int .i64 1)) 3)))
  clear hO hO1
  go_enter Tryd.func31, Tryd.ntmps31
  go_wp2_with fail
  clear hmk hcg hfg
  go_loopw [4] (fun i wr => ∃ k : Nat, k ≤ r ∧ i = .int .i64 k ∧ Hid (Own .i64 3 wr w.heap.size (List.replicate q 0 ++ [2 ^ k]) ∧ Below w.heap.size w wr)) (fun i _ => r - (intOf i).toNat)
  case atStart => exact ⟨0, by omega, rfl, HO1.out.1, HO1.out.2⟩
  case round =>
    obtain ⟨k, hk, rfl, H⟩ := hrel
    by_cases hlt : k < r
    · have hcg := H.out.1.cell (one_get q (2 ^ k))
      have hfg := H.out.1.frozen q
      have hb := pow_lt8 (show k < 8 by omega)
      obtain ⟨x, hx⟩ : ∃ x, x = 2 ^ k := ⟨_, rfl⟩
      rw [← hx] at hcg hb
      have Hx := Lib.hid hx
      clear hx HO1
      go_wp2_with fail
      go_roundw
      case rel =>
        have e3 : (x : Int) * 2 = ((2 ^ (k + 1) : Nat) : Int) := by rw [Nat.pow_succ, ← Hx.out]; omega
        rw [e3]
        refine ⟨k + 1, by omega, by go_num, ?_, H.out.2.setCell (Nat.le_refl _) _⟩
        have := H.out.1.set q (2 ^ (k + 1))
        rw [one_set] at this
        exact this
      case measure => simp [intOf]; omega
    · obtain rfl : k = r := by omega
      have hrd := H.out.1.whole (by rw [one_len]; omega)
      rw [one_len] at hrd
      have hb := pow_lt8 hr8
      have hcan : Can 256 (List.replicate q 0 ++ [2 ^ k]) := can_of_ge (one_lt hb) (.inr (by
        rw [one_len, one_val, Nat.add_sub_cancel]
        exact Nat.le_mul_of_pos_right _ (Nat.pow_pos (by omega))))
      have hv := one_val q (2 ^ k)
      rw [pow_256, Hn.out] at hv
      have hl := one_len q (2 ^ k)
      generalize List.replicate q 0 ++ [2 ^ k] = ls at *
      have HF := Lib.hid (And.intro hrd (And.intro hcan (And.intro hv hl)))
      clear hrd hcan hv hl HO1 hb
      go_wp2_with fail
      go_ret
      refine ⟨H.out.2, some ⟨w.heap.size, 0, none⟩, q + 1, ls, ?_, by rw [HF.out.2.2.2]; exact HF.out.1, HF.out.2.1, HF.out.2.2.1, Nat.le_of_eq HF.out.2.2.2, (fun e => by cases e), fun ad e => by injection e with e; subst e; exact Nat.le_refl _⟩
      rw [HF.out.2.2.2]
      rfl
end Go.Proofs.YtefnhhkhdpihdaaDoor
