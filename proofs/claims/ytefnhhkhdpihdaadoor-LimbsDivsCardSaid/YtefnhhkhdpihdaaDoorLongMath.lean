/- The long division: plain facts on lists and naturals. -/
import Derived.Test.YtefnhhkhdpihdaaDoorNum
namespace Go.Proofs.YtefnhhkhdpihdaaDoor

theorem long_init {B X Y s la lb n : Nat} (hX : X < B ^ la) (hY : B ^ (lb - 1) ≤ Y) (hn : n + (lb - 1) = la) : X * 2 ^ s < B ^ n * (Y * 2 ^ s) := by
  have h1 : B ^ la ≤ B ^ n * Y := by rw [← hn, Nat.pow_add]; exact Nat.mul_le_mul_left _ hY
  have h2 := Nat.mul_lt_mul_of_pos_right (Nat.lt_of_lt_of_le hX h1) (Nat.pow_pos (n := s) (show 0 < 2 by omega))
  rwa [Nat.mul_assoc] at h2
theorem three_split (xs : List Nat) (i n : Nat) : xs.take i ++ (xs.drop i).take n ++ xs.drop (i + n) = xs := by
  rw [List.append_assoc, ← List.drop_drop, List.take_append_drop, List.take_append_drop]
theorem val_three (B : Nat) (p m q : List Nat) : val B (p ++ m ++ q) = val B p + B ^ p.length * (val B m + B ^ m.length * val B q) := by
  rw [List.append_assoc, val_append, val_append]
/-- What lies beyond is nothing. -/
theorem long_high {B i lb V M Q P : Nat} (hV : V < B ^ lb) (h : P + B ^ i * (M + B ^ (lb + 1) * Q) < B ^ (i + 1) * V) : Q = 0 ∧ M < B * V := by
  have hB : 0 < B := by
    rcases Nat.eq_zero_or_pos B with rfl | h1
    · rw [Nat.pow_succ, Nat.mul_zero, Nat.zero_mul] at h; omega
    · exact h1
  have h1 : B ^ i * (M + B ^ (lb + 1) * Q) < B ^ i * (B * V) := by
    have e : B ^ (i + 1) * V = B ^ i * (B * V) := by rw [Nat.pow_succ, Nat.mul_assoc]
    rw [e] at h; omega
  have h2 : M + B ^ (lb + 1) * Q < B * V := Nat.lt_of_mul_lt_mul_left h1
  have h3 : B * V < B ^ (lb + 1) := by
    rw [Nat.pow_succ, Nat.mul_comm (B ^ lb)]
    exact Nat.mul_lt_mul_of_pos_left hV hB
  refine ⟨?_, by omega⟩
  rcases Nat.eq_zero_or_pos Q with h4 | h4
  · exact h4
  · have := Nat.le_mul_of_pos_right (B ^ (lb + 1)) h4
    omega
theorem long_low {B i V P M : Nat} (hP : P < B ^ i) (hM : M < V) : P + B ^ i * M < B ^ i * V := by
  have := Nat.mul_le_mul_left (B ^ i) (show M + 1 ≤ V from hM)
  rw [Nat.mul_add, Nat.mul_one] at this
  omega
theorem long_round {B i V P M M' o Q T : Nat} (h : Q * (B ^ (i + 1) * V) + (P + B ^ i * M) = T) (hm : M' + o * V = M) : (o + B * Q) * (B ^ i * V) + (P + B ^ i * M') = T := by
  rw [← h, ← hm, Nat.add_mul, Nat.mul_add, Nat.pow_succ]
  have e1 : Q * (B ^ i * B * V) = B * Q * (B ^ i * V) := by
    rw [Nat.mul_comm (B ^ i) B, Nat.mul_assoc B, ← Nat.mul_assoc Q, Nat.mul_comm Q B]
  have e2 : o * (B ^ i * V) = B ^ i * (o * V) := Nat.mul_left_comm _ _ _
  omega
theorem long_end {X Y s Q R : Nat} (h : Q * (Y * 2 ^ s) + R = X * 2 ^ s) (hR : R < Y * 2 ^ s) : X / Y = Q ∧ X % Y = R / 2 ^ s := by
  have hp : 0 < 2 ^ s := Nat.pow_pos (by omega)
  have hY : 0 < Y := by
    rcases Nat.eq_zero_or_pos Y with rfl | h1
    · rw [Nat.zero_mul] at hR; omega
    · exact h1
  rw [← Nat.mul_assoc] at h
  have hle : Q * Y ≤ X := by
    rcases Nat.lt_or_ge X (Q * Y) with h1 | h1
    · have := Nat.mul_lt_mul_of_pos_right h1 hp
      omega
    · exact h1
  obtain ⟨r, hr⟩ : ∃ r, X = Q * Y + r := ⟨X - Q * Y, by omega⟩
  have hRr : R = r * 2 ^ s := by rw [hr, Nat.add_mul] at h; omega
  have hrY : r < Y := by rw [hRr] at hR; exact Nat.lt_of_mul_lt_mul_right hR
  rw [hRr, Nat.mul_div_cancel _ hp, hr]
  constructor
  · rw [Nat.mul_comm Q Y, Nat.mul_add_div hY, Nat.div_eq_of_lt hrY, Nat.add_zero]
  · rw [Nat.mul_comm Q Y, Nat.mul_add_mod, Nat.mod_eq_of_lt hrY]
theorem take_val_zero {B n : Nat} {zs : List Nat} (hn : n ≤ zs.length) (h : ∀ (j x : Nat), n ≤ j → zs[j]? = some x → x = 0) : val B (zs.take n) = val B zs := val_take_zeros hn h
end Go.Proofs.YtefnhhkhdpihdaaDoor
