/- Digits beyond the last one are noughts: plain facts, of no program. -/
import Derived.Test.YtefnhhkhdpihdaaDoorNum
namespace Go.Proofs.YtefnhhkhdpihdaaDoor

/-- The digit at a place. -/
def dig (xs : List Nat) (i : Nat) : Nat := xs[i]?.getD 0
theorem dig_tail (xs : List Nat) (i : Nat) : dig xs (i + 1) = dig xs.tail i := by cases xs <;> simp [dig]
theorem val_head (B : Nat) (xs : List Nat) : val B xs = dig xs 0 + B * val B xs.tail := by cases xs <;> simp [dig]
theorem dig_of_get {xs : List Nat} {i x : Nat} (h : xs[i]? = some x) : dig xs i = x := by simp [dig, h]
theorem dig_ge {xs : List Nat} {i : Nat} (h : xs.length ≤ i) : dig xs i = 0 := by simp [dig, List.getElem?_eq_none h]
theorem dig_lt {B : Nat} (hB : 0 < B) {xs : List Nat} (h : ∀ x ∈ xs, x < B) (i : Nat) : dig xs i < B := by
  unfold dig
  rcases hg : xs[i]? with _ | x
  · simpa using hB
  · exact h x (List.mem_of_getElem? hg)
theorem tail_lt {B : Nat} {xs : List Nat} (h : ∀ x ∈ xs, x < B) : ∀ x ∈ xs.tail, x < B := fun x hx => h x (List.mem_of_mem_tail hx)
theorem val_zero_of_dig {B : Nat} {ys : List Nat} (h : ∀ j, dig ys j = 0) : val B ys = 0 := by
  induction ys with
  | nil => rfl
  | cons y ys ih =>
    have h0 := h 0
    have h1 := ih fun j => by have := h (j + 1); rwa [dig_tail] at this
    simp [dig] at h0
    simp [h0, h1]
theorem val_eq_of_dig {B : Nat} : ∀ {xs ys : List Nat}, (∀ j, dig xs j = dig ys j) → val B xs = val B ys
  | [], ys, h => (val_zero_of_dig (ys := ys) fun j => (h j).symm.trans (by simp [dig])).symm
  | x :: xs, ys, h => by
    have h1 := val_eq_of_dig (B := B) (xs := xs) (ys := ys.tail) fun j => by have := h (j + 1); rwa [dig_tail, dig_tail] at this
    rw [val_head B (x :: xs), val_head B ys, h 0, ← h1]; rfl
theorem val_lt_of_dig {B : Nat} (hB : 0 < B) : ∀ {i : Nat} {xs ys : List Nat}, (∀ x ∈ xs, x < B) → (∀ j, i < j → dig xs j = dig ys j) → dig xs i < dig ys i → val B xs < val B ys
  | 0, xs, ys, _, h, h0 => by
    rw [val_head B xs, val_head B ys, val_eq_of_dig (xs := xs.tail) (ys := ys.tail) fun j => by have := h (j + 1) (by omega); rwa [dig_tail, dig_tail] at this]
    omega
  | i + 1, xs, ys, hx, h, h0 => by
    rw [dig_tail, dig_tail] at h0
    have ih := val_lt_of_dig hB (i := i) (xs := xs.tail) (ys := ys.tail) (tail_lt hx) (fun j hj => by have := h (j + 1) (by omega); rwa [dig_tail, dig_tail] at this) h0
    have hd := dig_lt hB hx 0
    rw [val_head B xs, val_head B ys]
    have := Nat.mul_le_mul_left B (show val B xs.tail + 1 ≤ val B ys.tail from ih)
    rw [Nat.mul_add, Nat.mul_one] at this
    omega

/-- One place more. -/
theorem val_take_dig (B : Nat) (zs : List Nat) (i : Nat) : val B (zs.take (i + 1)) = val B (zs.take i) + B ^ i * dig zs i := by
  unfold dig
  rcases hg : zs[i]? with _ | x
  · have : zs.length ≤ i := by simpa using hg
    rw [List.take_of_length_le (by omega), List.take_of_length_le this]; simp
  · exact val_take_succ hg
theorem val_push (B : Nat) (zs : List Nat) (x : Nat) : val B (zs ++ [x]) = val B zs + B ^ zs.length * x := by rw [val_append]; simp
theorem mem_push_lt {B x : Nat} {zs : List Nat} (h : ∀ y ∈ zs, y < B) (hx : x < B) : ∀ y ∈ zs ++ [x], y < B := fun y hy => by
  rcases List.mem_append.1 hy with h' | h'
  · exact h y h'
  · rw [List.mem_singleton.1 h']; exact hx

/-- Digits that come to enough have no nought at the end. -/
theorem can_of_ge {B : Nat} {xs : List Nat} (h : ∀ x ∈ xs, x < B) (hv : xs = [] ∨ B ^ (xs.length - 1) ≤ val B xs) : Can B xs := by
  refine ⟨h, fun hl => ?_⟩
  rcases hv with rfl | hv
  · simp at hl
  obtain ⟨ys, rfl⟩ := List.getLast?_eq_some_iff.1 hl
  have h1 := val_lt (xs := ys) fun x hx => h x (List.mem_append_left _ hx)
  rw [val_push] at hv
  simp at hv
  omega

/-- Four digits to the base 256 are one to the base 2^32. -/
theorem pow_four (j : Nat) : (4294967296 : Nat) ^ j = 256 ^ (4 * j) := by rw [Nat.pow_mul]
def four (xs : List Nat) (i : Nat) : Nat := dig xs i + 256 * (dig xs (i + 1) + 256 * (dig xs (i + 2) + 256 * dig xs (i + 3)))
theorem four_lt {xs : List Nat} (h : ∀ x ∈ xs, x < 256) (i : Nat) : four xs i < 4294967296 := by
  have h0 := dig_lt (by omega) h i
  have h1 := dig_lt (by omega) h (i + 1)
  have h2 := dig_lt (by omega) h (i + 2)
  have h3 := dig_lt (by omega) h (i + 3)
  unfold four; omega
theorem val_take_four (xs : List Nat) (i : Nat) : val 256 (xs.take (i + 4)) = val 256 (xs.take i) + 256 ^ i * four xs i := by
  rw [val_take_dig, val_take_dig, val_take_dig, val_take_dig, four]
  simp only [Nat.pow_succ, Nat.mul_add]
  generalize 256 ^ i = P
  simp only [← Nat.mul_assoc]
  omega

/-- One place more of what is the sum of both, and carried. -/
theorem sum_step {B i c x y s c' : Nat} {S X Y : Nat} (h : S + c * B ^ i = X + Y) (hs : s + c' * B = c + x + y) : S + B ^ i * s + c' * B ^ (i + 1) = (X + B ^ i * x) + (Y + B ^ i * y) := by
  have h1 := congrArg (B ^ i * ·) hs
  simp only [Nat.mul_add] at h1
  rw [Nat.pow_succ]
  have e1 : c' * (B ^ i * B) = B ^ i * (c' * B) := by rw [Nat.mul_comm (B ^ i) B, ← Nat.mul_assoc, Nat.mul_comm (c' * B)]
  have e3 : c * B ^ i = B ^ i * c := Nat.mul_comm _ _
  omega
/-- .. of what is less. -/
theorem rest_step {B i o x y s o' : Nat} {S X Y : Nat} (h : S + Y = X + o * B ^ i) (hs : s + y + o = x + o' * B) : S + B ^ i * s + (Y + B ^ i * y) = (X + B ^ i * x) + o' * B ^ (i + 1) := by
  have h1 := congrArg (B ^ i * ·) hs
  simp only [Nat.mul_add] at h1
  rw [Nat.pow_succ]
  have e1 : o' * (B ^ i * B) = B ^ i * (o' * B) := by rw [Nat.mul_comm (B ^ i) B, ← Nat.mul_assoc, Nat.mul_comm (o' * B)]
  have e3 : o * B ^ i = B ^ i * o := Nat.mul_comm _ _
  omega

/-- Something goes over from a place to the next one: nothing is lost. -/
theorem val_set2 {B i x y x' y' : Nat} {xs : List Nat} (hx : xs[i]? = some x) (hy : xs[i + 1]? = some y) (h : x' + B * y' = x + B * y) : val B ((xs.set i x').set (i + 1) y') = val B xs := by
  have hi := (List.getElem?_eq_some_iff.1 hy).1
  have h1 := val_set (B := B) (y := x') hx
  have hy' : (xs.set i x')[i + 1]? = some y := by rw [List.getElem?_set_ne (by omega)]; exact hy
  have h2 := val_set (B := B) (y := y') hy'
  have h3 := congrArg (B ^ i * ·) h
  simp only [Nat.mul_add] at h3
  rw [Nat.pow_succ, Nat.mul_assoc, Nat.mul_assoc] at h2
  omega
/-- .. and is added. -/
theorem val_set_add {B i x d : Nat} {xs : List Nat} (hx : xs[i]? = some x) : val B (xs.set i (x + d)) = val B xs + B ^ i * d := by
  have h1 := val_set (B := B) (y := x + d) hx
  rw [Nat.mul_add] at h1
  omega
end Go.Proofs.YtefnhhkhdpihdaaDoor
