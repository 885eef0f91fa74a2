/- Numbers as lists of digits, the lowest first: plain facts on lists and naturals, of no program. -/
import Init
namespace Go.Proofs.YtefnhhkhdpihdaaDoor

/-- The number of digits to the base B, the lowest first. -/
def val (B : Nat) : List Nat → Nat
  | [] => 0
  | d :: ds => d + B * val B ds

@[simp] theorem val_nil (B : Nat) : val B [] = 0 := rfl
@[simp] theorem val_cons (B d : Nat) (ds : List Nat) : val B (d :: ds) = d + B * val B ds := rfl

theorem val_append (B : Nat) (xs ys : List Nat) : val B (xs ++ ys) = val B xs + B ^ xs.length * val B ys := by
  induction xs with
  | nil => simp
  | cons x xs ih => simp only [List.cons_append, val_cons, ih, List.length_cons, Nat.pow_succ, Nat.mul_add]; rw [Nat.mul_comm (B ^ xs.length) B, Nat.mul_assoc]; omega

theorem val_lt {B : Nat} {xs : List Nat} (h : ∀ x ∈ xs, x < B) : val B xs < B ^ xs.length := by
  induction xs with
  | nil => simp
  | cons x xs ih =>
    have h1 := ih fun y hy => h y (List.mem_cons_of_mem _ hy)
    have h2 := h x List.mem_cons_self
    simp only [val_cons, List.length_cons, Nat.pow_succ]
    have h3 : B * (val B xs + 1) ≤ B * B ^ xs.length := Nat.mul_le_mul_left _ h1
    rw [Nat.mul_add, Nat.mul_one] at h3
    rw [Nat.mul_comm (B ^ xs.length) B]
    omega

theorem val_replicate (B n : Nat) : val B (List.replicate n 0) = 0 := by
  induction n with
  | zero => rfl
  | succ n ih => simp [List.replicate_succ, ih]

theorem val_take_succ {B i x : Nat} {xs : List Nat} (h : xs[i]? = some x) : val B (xs.take (i + 1)) = val B (xs.take i) + B ^ i * x := by
  have hi : i < xs.length := by rw [List.getElem?_eq_some_iff] at h; exact h.1
  rw [List.take_add_one, h, val_append, List.length_take, Nat.min_eq_left (by omega)]
  simp

theorem val_split (B : Nat) (xs : List Nat) (i : Nat) (h : i ≤ xs.length) : val B xs = val B (xs.take i) + B ^ i * val B (xs.drop i) := by
  have := val_append B (xs.take i) (xs.drop i)
  rw [List.take_append_drop, List.length_take, Nat.min_eq_left h] at this
  exact this

theorem drop_of_get {i x : Nat} {xs : List Nat} (h : xs[i]? = some x) : xs.drop i = x :: xs.drop (i + 1) := by
  obtain ⟨hi, rfl⟩ := List.getElem?_eq_some_iff.1 h
  exact List.drop_eq_getElem_cons hi

theorem val_set {B i x y : Nat} {xs : List Nat} (h : xs[i]? = some x) : val B (xs.set i y) + B ^ i * x = val B xs + B ^ i * y := by
  have hi : i < xs.length := (List.getElem?_eq_some_iff.1 h).1
  have h1 := val_split B xs i (by omega)
  have h2 := val_split B (xs.set i y) i (by simp; omega)
  have h3 : (xs.set i y)[i]? = some y := by simp [hi]
  rw [drop_of_get h] at h1
  rw [drop_of_get h3, List.take_set_of_le (Nat.le_refl i), List.drop_set_of_lt (by omega)] at h2
  simp only [val_cons, Nat.mul_add] at h1 h2
  omega

theorem take_set_succ {B i y : Nat} {xs : List Nat} (h : i < xs.length) : val B ((xs.set i y).take (i + 1)) = val B (xs.take i) + B ^ i * y := by
  have h3 : (xs.set i y)[i]? = some y := by simp [h]
  rw [val_take_succ h3, List.take_set_of_le (Nat.le_refl i)]

theorem drop_set_succ {xs : List Nat} {i y : Nat} : (xs.set i y).drop (i + 1) = xs.drop (i + 1) := List.drop_set_of_lt (by omega)
theorem drop_succ_eq {xs ys : List Nat} {i : Nat} (h : xs.drop i = ys.drop i) : xs.drop (i + 1) = ys.drop (i + 1) := by
  rw [← List.drop_drop, ← List.drop_drop, h]
theorem get_of_drop {xs ys : List Nat} {i : Nat} (h : xs.drop i = ys.drop i) : xs[i]? = ys[i]? := by
  have := congrArg (fun l : List Nat => l[0]?) h
  simpa using this

/-- One place more of a product by one digit, added: what stands, and what is carried. -/
theorem times_step {B i s c' x y d cy : Nat} {S S' V Y : Nat} (h : S + cy * B ^ i = V + d * Y) (hs : s + c' * B = cy + (y * d + x)) (hS : S' = S + B ^ i * s) :
    S' + c' * B ^ (i + 1) = (V + B ^ i * x) + d * (Y + B ^ i * y) := by
  have h1 := congrArg (B ^ i * ·) hs
  simp only [Nat.mul_add] at h1
  rw [hS, Nat.pow_succ, Nat.mul_add]
  have e1 : c' * (B ^ i * B) = B ^ i * (c' * B) := by rw [Nat.mul_comm (B ^ i) B, ← Nat.mul_assoc, Nat.mul_comm (c' * B)]
  have e2 : d * (B ^ i * y) = B ^ i * (y * d) := by rw [Nat.mul_left_comm, Nat.mul_comm d y]
  have e3 : cy * B ^ i = B ^ i * cy := Nat.mul_comm _ _
  omega

/-- What is all noughts is nothing. -/
theorem val_zeros {B : Nat} {xs : List Nat} (h : ∀ x ∈ xs, x = 0) : val B xs = 0 := by
  induction xs with
  | nil => rfl
  | cons x xs ih => simp [h x List.mem_cons_self, ih fun y hy => h y (List.mem_cons_of_mem _ hy)]

theorem val_take_zeros {B n : Nat} {xs : List Nat} (hn : n ≤ xs.length) (h : ∀ j x, n ≤ j → xs[j]? = some x → x = 0) : val B (xs.take n) = val B xs := by
  rw [val_split B xs n hn, val_zeros (xs := xs.drop n)]
  · simp
  · intro x hx
    obtain ⟨j, hj⟩ := List.mem_iff_getElem?.1 hx
    rw [List.getElem?_drop] at hj
    exact h (n + j) x (by omega) hj

/-- Digits to the base B without noughts at the end. -/
def Can (B : Nat) (xs : List Nat) : Prop := (∀ x ∈ xs, x < B) ∧ xs.getLast? ≠ some 0

theorem Can.nil (B : Nat) : Can B [] := ⟨by simp, by simp⟩

theorem Can.tail {B x : Nat} {xs : List Nat} (h : Can B (x :: xs)) : Can B xs := by
  refine ⟨fun y hy => h.1 y (List.mem_cons_of_mem _ hy), fun hl => h.2 ?_⟩
  rw [List.getLast?_cons, hl]; rfl

theorem Can.ge {B : Nat} {xs : List Nat} (h : Can B xs) (hn : xs ≠ []) : B ^ (xs.length - 1) ≤ val B xs := by
  induction xs with
  | nil => exact absurd rfl hn
  | cons x xs ih =>
    rcases xs with _ | ⟨y, ys⟩
    · have : x ≠ 0 := fun e => h.2 (by simp [e])
      simp; omega
    · have := ih h.tail (by simp)
      simp only [List.length_cons, Nat.add_sub_cancel] at this ⊢
      rw [val_cons, Nat.pow_succ, Nat.mul_comm]
      exact Nat.le_trans (Nat.mul_le_mul_left _ this) (Nat.le_add_left _ _)

theorem Can.pos {B : Nat} (hB : 0 < B) {xs : List Nat} (h : Can B xs) (hn : xs ≠ []) : 0 < val B xs :=
  Nat.lt_of_lt_of_le (Nat.pow_pos hB) (h.ge hn)

theorem Can.nil_of {B : Nat} (hB : 0 < B) {xs : List Nat} (h : Can B xs) (hz : val B xs = 0) : xs = [] := by
  rcases xs with _ | ⟨x, xs⟩
  · rfl
  · have := h.pos hB (by simp); omega

theorem Can.eq {B : Nat} : ∀ {xs ys : List Nat}, Can B xs → Can B ys → val B xs = val B ys → xs = ys
  | [], [], _, _, _ => rfl
  | [], y :: ys, _, h, e => by
    have hB : 0 < B := Nat.lt_of_le_of_lt (Nat.zero_le _) (h.1 y List.mem_cons_self)
    have := h.pos hB (by simp); simp only [val_nil] at e; omega
  | x :: xs, [], h, _, e => by
    have hB : 0 < B := Nat.lt_of_le_of_lt (Nat.zero_le _) (h.1 x List.mem_cons_self)
    have := h.pos hB (by simp); simp only [val_nil] at e; omega
  | x :: xs, y :: ys, h, k, e => by
    have hx := h.1 x List.mem_cons_self
    have hy := k.1 y List.mem_cons_self
    simp only [val_cons] at e
    have e1 : x = y := by
      have := congrArg (· % B) e
      simpa [Nat.add_mul_mod_self_left, Nat.mod_eq_of_lt hx, Nat.mod_eq_of_lt hy] using this
    subst e1
    have e2 : val B xs = val B ys := Nat.eq_of_mul_eq_mul_left (by omega : 0 < B) (by omega)
    rw [Can.eq h.tail k.tail e2]

theorem Can.len_le {B n : Nat} (hB : 1 < B) {xs : List Nat} (h : Can B xs) (hv : val B xs < B ^ n) : xs.length ≤ n := by
  rcases xs with _ | ⟨x, xs⟩
  · simp
  · have := h.ge (by simp)
    have h2 : B ^ xs.length < B ^ n := by simpa using Nat.lt_of_le_of_lt this hv
    have := (Nat.pow_lt_pow_iff_right hB).1 h2
    simp; omega

theorem Can.lt_len {B n : Nat} (hB : 1 < B) {xs : List Nat} (h : Can B xs) (hv : B ^ n ≤ val B xs) : n < xs.length := by
  have := val_lt h.1
  exact (Nat.pow_lt_pow_iff_right hB).1 (Nat.lt_of_le_of_lt hv this)

theorem Can.take {B n : Nat} {xs : List Nat} (hb : ∀ x ∈ xs, x < B) (hn : n ≤ xs.length) (hz : n = 0 ∨ ∃ x, xs[n - 1]? = some x ∧ x ≠ 0) : Can B (xs.take n) := by
  refine ⟨fun x hx => hb x (List.mem_of_mem_take hx), ?_⟩
  rcases hz with rfl | ⟨x, hx, h0⟩
  · simp
  · rcases Nat.eq_zero_or_pos n with rfl | hp
    · simp
    · intro hl
      rw [List.getLast?_take, if_neg (by omega), hx] at hl
      simp at hl
      exact h0 hl
end Go.Proofs.YtefnhhkhdpihdaaDoor
