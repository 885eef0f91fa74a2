/- The calls' contracts, over what is held. -/
import Derived.Test.YtlgfjgkcgimdoaaDoorMade
import Derived.Test.YtlgfjgkcgimdoaaDoorHeld
namespace Go.Proofs.YtlgfjgkcgimdoaaDoor
open Go Go.RowKit Go.Shelf

/-- A number to the base 2^32. -/
def N32 (v : Value) (zs : List Nat) : Num := ⟨.u32, 4294967296, v, zs⟩
def N8 (v : Value) (zs : List Nat) : Num := ⟨.i64, 256, v, zs⟩
theorem Held.add {w0 w : World} {L : List Num} (h : Held w0 w L) {n : Num} (hn : n.ok w) : Held w0 w (L ++ [n]) :=
  ⟨h.1, fun m hm => by rcases List.mem_append.1 hm with hm | hm; exact h.2 m hm; rw [List.mem_singleton.1 hm]; exact hn⟩
theorem N32.of_ok {w : World} {v : Value} {zs : List Nat} (h : Ok w v zs) : Num.ok w (N32 v zs) := h
theorem N32.ok {w0 w : World} {L : List Num} (h : Held w0 w L) (i : Nat) {v : Value} {zs : List Nat} (hi : L[i]? = some (N32 v zs)) : Ok w v zs := h.get i hi

/-- A number and no error, held. -/
def MadeH (w0 : World) (L : List Num) (x : Nat) (e : Ending) (w' : World) : Prop :=
  ∃ A cap zs, e = .returned (.tuple #[.slice A zs.length cap, .int .i64 0]) ∧ val 4294967296 zs = x ∧ Held w0 w' (L ++ [N32 (.slice A zs.length cap) zs])
theorem made_h {w0 w w' : World} {L : List Num} {x : Nat} {e : Ending} (H : Held w0 w L) (h : Made w x e w') : MadeH w0 L x e w' := by
  obtain ⟨A, cap, zs, rfl, ho, hv, hb⟩ := h
  exact ⟨A, cap, zs, rfl, hv, (H.step hb).add (N32.of_ok ho)⟩
section
variable {w0 w : World} {L : List Num} {va vb : Value} {xs ys : List Nat}
theorem add_h (H : Held w0 w L) (i j : Nat) (hi : L[i]? = some (N32 va xs)) (hj : L[j]? = some (N32 vb ys)) (hx : val 4294967296 xs + val 4294967296 ys < Lim) :
    Calls Tryd.prog 34 #[va, vb] w (MadeH w0 L (val 4294967296 xs + val 4294967296 ys)) :=
  (add_made w va vb xs ys (N32.ok H i hi) (N32.ok H j hj) hx).mono fun _ _ h => made_h H h
theorem mul_h (H : Held w0 w L) (i j : Nat) (hi : L[i]? = some (N32 va xs)) (hj : L[j]? = some (N32 vb ys)) (hx : val 4294967296 xs * val 4294967296 ys < Lim) :
    Calls Tryd.prog 35 #[va, vb] w (MadeH w0 L (val 4294967296 xs * val 4294967296 ys)) :=
  (mul_made w va vb xs ys (N32.ok H i hi) (N32.ok H j hj) hx).mono fun _ _ h => made_h H h
theorem sub_h (H : Held w0 w L) (i j : Nat) (hi : L[i]? = some (N32 va xs)) (hj : L[j]? = some (N32 vb ys)) (hle : val 4294967296 ys ≤ val 4294967296 xs) (hx : val 4294967296 xs < Lim) :
    Calls Tryd.prog 47 #[va, vb] w (MadeH w0 L (val 4294967296 xs - val 4294967296 ys)) :=
  (sub_made w va vb xs ys (N32.ok H i hi) (N32.ok H j hj) hle hx).mono fun _ _ h => made_h H h
theorem sub_less_h (H : Held w0 w L) (i j : Nat) (hi : L[i]? = some (N32 va xs)) (hj : L[j]? = some (N32 vb ys)) (hlt : val 4294967296 xs < val 4294967296 ys) :
    Calls Tryd.prog 47 #[va, vb] w fun e w' => e = .returned (.tuple #[.slice none 0 0, .int .i64 12]) ∧ Held w0 w' L :=
  (sub_c w va vb xs ys (N32.ok H i hi).1 (N32.ok H j hj).1 (N32.ok H i hi).2.1.1 (N32.ok H j hj).2.1.1 (N32.ok H i hi).2.2 (N32.ok H j hj).2.2).mono fun _ _ h => by
    rcases h with ⟨_, h, hb⟩ | ⟨h, _⟩
    · exact ⟨h, H.step hb⟩
    · omega
theorem compare_h (H : Held w0 w L) (i j : Nat) (hi : L[i]? = some (N32 va xs)) (hj : L[j]? = some (N32 vb ys)) :
    Calls Tryd.prog 46 #[va, vb] w fun e w' => e = .returned (.int .i64 (ord3 (val 4294967296 xs) (val 4294967296 ys))) ∧ Held w0 w' L :=
  (compare_c w va vb xs ys (N32.ok H i hi).1 (N32.ok H j hj).1 (N32.ok H i hi).2.1.1 (N32.ok H j hj).2.1.1 (N32.ok H i hi).2.2 (N32.ok H j hj).2.2).mono fun _ _ h => ⟨h.1, H.step h.2⟩
theorem eqL_val (hx : Can 4294967296 xs) (hy : Can 4294967296 ys) : eqL xs ys = decide (val 4294967296 xs = val 4294967296 ys) := by
  unfold eqL
  rw [decide_eq_decide]
  exact ⟨fun h => by rw [h], Can.eq hx hy⟩
theorem check_h (H : Held w0 w L) (i : Nat) (hi : L[i]? = some (N32 va xs)) (hl : xs.length ≤ 512) :
    Calls Tryd.prog 49 #[va] w fun e w' => e = .returned (.int .i64 0) ∧ Held w0 w' L :=
  (check_c w va xs (N32.ok H i hi).1).mono fun _ _ h => by
    obtain ⟨rfl, rfl⟩ := h
    exact ⟨by rw [checkOf_ok (by omega) (N32.ok H i hi).2.1.2], H⟩
/-- Two numbers of the laws' size: what comes of them is not too great. -/
theorem fit_add (hx : val 4294967296 xs < 4294967296 ^ 40) (hy : val 4294967296 ys < 4294967296 ^ 40) : val 4294967296 xs + val 4294967296 ys < Lim :=
  lim_of (add_pow_lt (by omega) hx hy) (by omega)
theorem fit_mul (hx : val 4294967296 xs < 4294967296 ^ 40) (hy : val 4294967296 ys < 4294967296 ^ 40) : val 4294967296 xs * val 4294967296 ys < Lim :=
  lim_of (mul_pow_lt hx hy) (by omega)
theorem fit_lim (hx : val 4294967296 xs < 4294967296 ^ 40) : val 4294967296 xs < Lim := lim_of hx (by omega)
end
end Go.Proofs.YtlgfjgkcgimdoaaDoor

/- Bits, noughts at the end, shifts, over what is held. -/
namespace Go.Proofs.YtlgfjgkcgimdoaaDoor
open Go Go.RowKit Go.Shelf
section
variable {w0 w : World} {L : List Num} {va : Value} {xs : List Nat}
theorem bits_h (H : Held w0 w L) (i : Nat) (hi : L[i]? = some (N32 va xs)) :
    Calls Tryd.prog 19 #[va] w fun e w' => ∃ n : Nat, e = .returned (.int .i64 (n : Int)) ∧ IsBits n (val 4294967296 xs) ∧ Held w0 w' L :=
  (bits_c w va xs (N32.ok H i hi).1 (N32.ok H i hi).2.1.1 (N32.ok H i hi).2.2).mono fun _ _ h => by
    obtain ⟨hb, n, rfl, hn⟩ := h
    exact ⟨n, rfl, hn, H.step hb⟩
theorem tail_h (hT : Tab w0) (H : Held w0 w L) (i : Nat) (hi : L[i]? = some (N32 va xs)) :
    Calls Tryd.prog 33 #[va] w fun e w' => ∃ n : Nat, e = .returned (.int .i64 (n : Int)) ∧ IsTail n (val 4294967296 xs) ∧ Held w0 w' L :=
  (tail_c w (hT.below H.1) va xs (N32.ok H i hi).1 (N32.ok H i hi).2.1.1 (N32.ok H i hi).2.2).mono fun _ _ h => by
    obtain ⟨rfl, n, rfl, hn⟩ := h
    exact ⟨n, rfl, hn, H⟩
theorem num_made {w w' : World} {v : Value} {x : Nat} (hb : Below w.heap.size w w') (hx : x < Lim) (h : NumV w' v x) : Made w x (.returned (.tuple #[v, .int .i64 0])) w' := by
  obtain ⟨zs, h1, h2, h3⟩ := h
  obtain ⟨A, cap, rfl, _⟩ := h1.form
  have hl := h2.len_le (n := maxL) (by omega) (by rw [h3]; exact hx)
  exact ⟨A, cap, zs, rfl, ⟨h1, h2, by unfold maxL at hl; omega⟩, h3, hb⟩
theorem left_h (H : Held w0 w L) (i : Nat) (hi : L[i]? = some (N32 va xs)) (n : Nat) (hn : n ≤ 9223372036854775807) (hx : val 4294967296 xs * 2 ^ n < Lim) :
    Calls Tryd.prog 7 #[va, .int .i64 n] w (MadeH w0 L (val 4294967296 xs * 2 ^ n)) :=
  (left_c w va xs n (N32.ok H i hi).1 (N32.ok H i hi).2.1.1 (N32.ok H i hi).2.2 (by omega) (by omega)).mono fun _ _ h => by
    rcases h with ⟨h, _⟩ | ⟨_, hb, (⟨h, _⟩ | ⟨_, v, rfl, hN⟩)⟩
    · omega
    · simp only [Int.toNat_natCast] at h; omega
    · simp only [Int.toNat_natCast] at hN; exact made_h H (num_made hb hx hN)
theorem left_big_h (H : Held w0 w L) (i : Nat) (hi : L[i]? = some (N32 va xs)) (n : Nat) (hn : n ≤ 9223372036854775807) (hx : Lim ≤ val 4294967296 xs * 2 ^ n) :
    Calls Tryd.prog 7 #[va, .int .i64 n] w fun e w' => e = .returned (.tuple #[.slice none 0 0, .int .i64 11]) ∧ Held w0 w' L :=
  (left_c w va xs n (N32.ok H i hi).1 (N32.ok H i hi).2.1.1 (N32.ok H i hi).2.2 (by omega) (by omega)).mono fun _ _ h => by
    rcases h with ⟨h, _⟩ | ⟨_, hb, (⟨_, h⟩ | ⟨h, _⟩)⟩
    · omega
    · exact ⟨h, H.step hb⟩
    · simp only [Int.toNat_natCast] at h; omega
theorem left_neg_h (H : Held w0 w L) (i : Nat) (hi : L[i]? = some (N32 va xs)) (n : Int) (hn : n < 0) (hlo : -9223372036854775808 ≤ n) :
    Calls Tryd.prog 7 #[va, .int .i64 n] w fun e w' => e = .returned (.tuple #[.slice none 0 0, .int .i64 1]) ∧ Held w0 w' L :=
  (left_c w va xs n (N32.ok H i hi).1 (N32.ok H i hi).2.1.1 (N32.ok H i hi).2.2 hlo (by omega)).mono fun _ _ h => by
    rcases h with ⟨_, h, hb⟩ | ⟨h, _⟩
    · exact ⟨h, H.step hb⟩
    · omega
theorem right_h (H : Held w0 w L) (i : Nat) (hi : L[i]? = some (N32 va xs)) (n : Nat) (hn : n ≤ 9223372036854775807) (hx : val 4294967296 xs < Lim) :
    Calls Tryd.prog 32 #[va, .int .i64 n] w (MadeH w0 L (val 4294967296 xs / 2 ^ n)) :=
  have hq : val 4294967296 xs / 2 ^ n < Lim := Nat.lt_of_le_of_lt (Nat.div_le_self _ _) hx
  (right_c w va xs n (N32.ok H i hi).1 (N32.ok H i hi).2.1.1 (N32.ok H i hi).2.2 (by omega) (by omega) (by rw [Hid, Int.toNat_natCast]; exact hq)).mono fun _ _ h => by
    rcases h with ⟨h, _⟩ | ⟨_, hb, v, rfl, hN⟩
    · omega
    · simp only [Int.toNat_natCast] at hN; exact made_h H (num_made hb hq hN)
theorem right_neg_h (H : Held w0 w L) (i : Nat) (hi : L[i]? = some (N32 va xs)) (n : Int) (hn : n < 0) (hlo : -9223372036854775808 ≤ n) (hx : val 4294967296 xs < Lim) :
    Calls Tryd.prog 32 #[va, .int .i64 n] w fun e w' => e = .returned (.tuple #[.slice none 0 0, .int .i64 1]) ∧ Held w0 w' L :=
  (right_c w va xs n (N32.ok H i hi).1 (N32.ok H i hi).2.1.1 (N32.ok H i hi).2.2 hlo (by omega) (Nat.lt_of_le_of_lt (Nat.div_le_self _ _) hx)).mono fun _ _ h => by
    rcases h with ⟨_, h, hb⟩ | ⟨h, _⟩
    · exact ⟨h, H.step hb⟩
    · omega
end
theorem ord3_neg (x y : Nat) : ord3 y x = -ord3 x y := by
  unfold ord3
  by_cases h : x < y
  · rw [if_neg (show ¬ y < x by omega), if_pos h, if_pos h]; rfl
  · rw [if_neg h, if_neg h]
    by_cases h2 : y < x
    · rw [if_pos h2, if_pos h2]
    · rw [if_neg h2, if_neg h2]; rfl
theorem ord3_range (x y : Nat) : -1 ≤ ord3 x y ∧ ord3 x y ≤ 1 := by
  unfold ord3
  split
  · omega
  · split <;> omega
theorem ord3_zero (x y : Nat) : decide (x = y) = (ord3 x y == 0) := by
  unfold ord3
  by_cases h : x < y
  · rw [if_pos h, decide_eq_false (by omega)]; rfl
  · rw [if_neg h]
    by_cases h2 : y < x
    · rw [if_pos h2, decide_eq_false (by omega)]; rfl
    · rw [if_neg h2, decide_eq_true (by omega)]; rfl
theorem isBits_le {n x m : Nat} (h : IsBits n x) (hx : x < 2 ^ m) : n ≤ m := by
  rcases h.2 with h | h
  · omega
  · rcases Nat.lt_or_ge m n with hlt | hge
    · have := Nat.pow_le_pow_right (n := 2) (by omega) (show m ≤ n - 1 by omega)
      omega
    · exact hge
theorem isBits_pos {n x : Nat} (h : IsBits n x) (hx : 0 < x) : 1 ≤ n := by
  rcases Nat.eq_zero_or_pos n with rfl | h1
  · have := h.1; simp at this; omega
  · exact h1
theorem isTail_mod {t x : Nat} (h : IsTail t x) (hx : 0 < x) : x % 2 ^ t = 0 ∧ x % 2 ^ (t + 1) ≠ 0 := by
  rcases h with ⟨h, _⟩ | ⟨m, rfl⟩
  · omega
  · refine ⟨Nat.mul_mod_right _ _, ?_⟩
    rw [Nat.pow_succ, Nat.mul_mod_mul_left]
    have : (2 * m + 1) % 2 = 1 := by omega
    rw [this, Nat.mul_one]
    exact Nat.ne_of_gt (Nat.pow_pos (by omega))
theorem isTail_le {t x m : Nat} (h : IsTail t x) (h0 : 0 < x) (hx : x < 2 ^ m) : t < m := by
  rcases h with ⟨h, _⟩ | ⟨a, rfl⟩
  · omega
  · refine (Nat.pow_lt_pow_iff_right (a := 2) (by omega)).1 (Nat.lt_of_le_of_lt ?_ hx)
    exact Nat.le_mul_of_pos_right _ (by omega)
theorem isTail_mul {t x n : Nat} (h : IsTail t x) (h0 : 0 < x) : IsTail (t + n) (x * 2 ^ n) := by
  rcases h with ⟨h, _⟩ | ⟨a, rfl⟩
  · omega
  · exact .inr ⟨a, by rw [Nat.pow_add, Nat.mul_right_comm]⟩
theorem isBits_mul {b x n : Nat} (h : IsBits b x) (h0 : 0 < x) : IsBits (b + n) (x * 2 ^ n) := by
  have h1 := isBits_pos h h0
  refine ⟨by rw [Nat.pow_add]; exact Nat.mul_lt_mul_of_pos_right h.1 (Nat.pow_pos (by omega)), .inr ?_⟩
  rcases h.2 with h2 | h2
  · omega
  · rw [show b + n - 1 = b - 1 + n by omega, Nat.pow_add]
    exact Nat.mul_le_mul_right _ h2
def e1280 : Nat := 1280
theorem bits_of_digits {x n m : Nat} (hm : m = n * 32) (h : x < 4294967296 ^ n) : x < 2 ^ m := by
  rw [hm, ← pow_B]; exact h
theorem fit_bits {x : Nat} (h : x < 4294967296 ^ 40) : x < 2 ^ e1280 := bits_of_digits (n := 40) rfl h
theorem bits_1280 {n x : Nat} (h : IsBits n x) (hx : x < 4294967296 ^ 40) : n ≤ 1280 := by
  have := isBits_le h (fit_bits hx)
  unfold e1280 at this
  exact this
theorem tail_1280 {n x : Nat} (h : IsTail n x) (h0 : 0 < x) (hx : x < 4294967296 ^ 40) : n < 1280 := by
  have := isTail_le h h0 (fit_bits hx)
  unfold e1280 at this
  exact this
end Go.Proofs.YtlgfjgkcgimdoaaDoor
