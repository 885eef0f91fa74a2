/- Odd numbers times powers of two: what they are, how they stand to each other, and how they are rounded. -/
import Derived.Test.YtnncfbmddpijcaaGreatDoorRatN
namespace Go.Proofs.YtnncfbmddpijcaaGreatDoor
open Go Go.RowKit Go.Shelf AM

/-! Odd numbers times powers of two. -/
/-- A number times a power of two. -/
structure Dy where
  m : Int
  e : Int
/-- It is odd, or nothing. -/
def Dy.Ok (d : Dy) : Prop := (d.m = 0 ∧ d.e = 0) ∨ d.m % 2 = 1
def p2 (e : Int) : Rat := (2 : Rat) ^ e
def dv (d : Dy) : Rat := (d.m : Rat) * p2 d.e
theorem p2_pos (e : Int) : 0 < p2 e := Rat.zpow_pos (by decide)
theorem p2_ne (e : Int) : p2 e ≠ 0 := by have := p2_pos e; grind
theorem p2_add (a b : Int) : p2 (a + b) = p2 a * p2 b := Rat.zpow_add (by decide) a b
theorem p2_zero : p2 0 = 1 := Rat.zpow_zero 2
theorem p2_nat (n : Nat) : p2 (n : Int) = ((2 ^ n : Nat) : Rat) := by
  unfold p2; rw [Rat.zpow_natCast, Rat.natCast_pow]; rfl
theorem p2_natI (n : Nat) : p2 (n : Int) = ((2 ^ n : Int) : Rat) := by
  rw [p2_nat, ← Rat.intCast_natCast, Int.natCast_pow]; rfl
theorem p2_neg (e : Int) : p2 (-e) * p2 e = 1 := by rw [← p2_add, Int.add_left_neg, p2_zero]
theorem p2_sub (a b : Int) : p2 (a - b) * p2 b = p2 a := by rw [← p2_add, Int.sub_add_cancel]

/-- How many noughts a number has at its end. -/
def tl (x : Nat) : Nat := if h : x % 2 = 0 ∧ x ≠ 0 then tl (x / 2) + 1 else 0
termination_by x
decreasing_by omega
theorem tl_is (x : Nat) : IsTail (tl x) x := by
  induction x using Nat.strongRecOn with
  | _ x ih =>
    unfold tl
    split
    · rename_i h
      rcases ih (x / 2) (by omega) with ⟨h1, h2⟩ | ⟨m, hm⟩
      · omega
      · refine .inr ⟨m, ?_⟩
        rw [Nat.pow_succ, Nat.mul_right_comm, ← hm]; omega
    · rename_i h
      rcases Nat.eq_zero_or_pos x with rfl | hx
      · exact .inl ⟨rfl, rfl⟩
      · exact .inr ⟨x / 2, by omega⟩
/-- A number times a power of two, made odd. -/
def mkD (m e : Int) : Dy := if m = 0 then ⟨0, 0⟩ else ⟨m / 2 ^ tl m.natAbs, e + (tl m.natAbs : Int)⟩
theorem pow2_cast (t : Nat) : ((2 ^ t : Nat) : Int) = 2 ^ t := by rw [Int.natCast_pow]; rfl
theorem pow2_posI (t : Nat) : (0 : Int) < 2 ^ t := by rw [← pow2_cast]; have := Nat.two_pow_pos t; omega
theorem tail_int {t : Nat} {m : Int} (h : IsTail t m.natAbs) (h0 : m ≠ 0) : ∃ k : Int, m = 2 ^ t * k ∧ k % 2 = 1 := by
  rcases h with ⟨h1, _⟩ | ⟨k, hk⟩
  · omega
  · rcases Int.lt_or_le m 0 with hm | hm
    · refine ⟨-(2 * k + 1), ?_, by omega⟩
      have : m = -(m.natAbs : Int) := by omega
      rw [this, hk, Int.natCast_mul, pow2_cast, Int.mul_neg]; rfl
    · refine ⟨2 * k + 1, ?_, by omega⟩
      have : m = (m.natAbs : Int) := by omega
      rw [this, hk, Int.natCast_mul, pow2_cast]; rfl
theorem tail_div {t : Nat} {m : Int} (h : IsTail t m.natAbs) (h0 : m ≠ 0) : m / 2 ^ t * 2 ^ t = m ∧ (m / 2 ^ t) % 2 = 1 := by
  obtain ⟨k, hk, ho⟩ := tail_int h h0
  have : m / 2 ^ t = k := by rw [hk]; exact Int.mul_ediv_cancel_left _ (by have := pow2_posI t; omega)
  rw [this]
  exact ⟨by rw [hk, Int.mul_comm], ho⟩
theorem mk_ok (m e : Int) : (mkD m e).Ok := by
  unfold mkD
  split
  · exact .inl ⟨rfl, rfl⟩
  · exact .inr (tail_div (tl_is _) (by assumption)).2
theorem p2_shift (m : Int) (e : Int) (t : Nat) : (m : Rat) * p2 (e + (t : Int)) = ((m * 2 ^ t : Int) : Rat) * p2 e := by
  rw [p2_add, p2_natI, Rat.intCast_mul]; grind
theorem mk_dv (m e : Int) : dv (mkD m e) = (m : Rat) * p2 e := by
  unfold mkD
  split
  · rename_i h; subst h; simp [dv]
  · rename_i h
    unfold dv
    dsimp only
    rw [p2_shift, (tail_div (tl_is _) h).1]
theorem dv_shift (d : Dy) (x : Int) (h : x ≤ d.e) : dv d = ((d.m * 2 ^ (d.e - x).toNat : Int) : Rat) * p2 x := by
  unfold dv
  rw [← p2_shift]
  congr 2; omega
theorem castI_inj {a b : Int} (h : (a : Rat) = (b : Rat)) : a = b := Rat.intCast_inj.1 h
theorem mul_p2_inj {a b : Int} {e : Int} (h : (a : Rat) * p2 e = (b : Rat) * p2 e) : a = b := by
  have h0 := p2_ne e
  refine castI_inj ?_
  rw [← Rat.mul_div_cancel (a := (a : Rat)) h0, h, Rat.mul_div_cancel h0]
theorem even_shift {m : Int} {k : Nat} (hk : 0 < k) : (m * 2 ^ k) % 2 = 0 := by
  obtain ⟨j, rfl⟩ : ∃ j, k = j + 1 := ⟨k - 1, by omega⟩
  rw [Int.pow_succ, ← Int.mul_assoc]; omega
theorem dv_le_inj {a b : Dy} (ha : a.Ok) (hb : b.Ok) (h : dv a = dv b) (hl : a.e ≤ b.e) (h0 : b.m ≠ 0) : a = b := by
  rw [dv_shift b a.e hl] at h
  have hm : a.m = b.m * 2 ^ (b.e - a.e).toNat := mul_p2_inj h
  have he : b.e = a.e := by
    rcases Nat.eq_zero_or_pos (b.e - a.e).toNat with h1 | h1
    · omega
    · have h2 := even_shift (m := b.m) h1
      rw [← hm] at h2
      rcases ha with ⟨h3, _⟩ | h3
      · rw [h3] at hm
        rcases Int.mul_eq_zero.1 hm.symm with h4 | h4
        · exact absurd h4 h0
        · have := pow2_posI (b.e - a.e).toNat; omega
      · omega
  obtain ⟨am, ae⟩ := a
  obtain ⟨bm, be⟩ := b
  dsimp only at *
  subst he
  rw [Int.sub_self] at hm
  simp at hm
  rw [hm]
theorem dv_zero {d : Dy} : dv d = 0 ↔ d.m = 0 := by
  unfold dv
  rw [Rat.mul_eq_zero]
  have := p2_ne d.e
  constructor
  · rintro (h | h)
    · exact castI_inj h
    · exact absurd h this
  · intro h; exact .inl (by rw [h]; rfl)
theorem Dy.Ok.zero {d : Dy} (h : d.Ok) (h0 : d.m = 0) : d = ⟨0, 0⟩ := by
  obtain ⟨m, e⟩ := d
  rcases h with ⟨h1, h2⟩ | h1
  · dsimp only at *; rw [h1, h2]
  · dsimp only at *; omega
theorem dv_inj {a b : Dy} (ha : a.Ok) (hb : b.Ok) (h : dv a = dv b) : a = b := by
  by_cases h0 : b.m = 0
  · have h1 : dv b = 0 := dv_zero.2 h0
    rw [h1] at h
    rw [ha.zero (dv_zero.1 h), hb.zero h0]
  · have h1 : a.m ≠ 0 := fun h1 => h0 (dv_zero.1 (by rw [← h]; exact dv_zero.2 h1))
    rcases Int.le_total a.e b.e with hl | hl
    · exact dv_le_inj ha hb h hl h0
    · exact (dv_le_inj hb ha h.symm hl h1).symm
theorem mk_self {d : Dy} (h : d.Ok) : mkD d.m d.e = d := dv_inj (mk_ok _ _) h (mk_dv _ _)
theorem mk_is {m e : Int} {d : Dy} (h : d.Ok) (hd : dv d = (m : Rat) * p2 e) : mkD m e = d := dv_inj (mk_ok _ _) h (by rw [mk_dv, hd])

/-! Their sizes. -/
/-- A number, times 2 to the power of 32 times k. -/
def sc (k : Nat) (d : Dy) : Int := d.m * 2 ^ (d.e + 32 * (k : Int)).toNat
/-- It is below 2 to the power of 32 times n, a whole number of parts of 2 to the power of 32 times k. -/
structure BD (n k : Nat) (d : Dy) : Prop where
  ok : d.Ok
  low : -(32 * (k : Int)) ≤ d.e
  top : (sc k d).natAbs < 4294967296 ^ (n + k)
theorem p32 (n : Nat) : 4294967296 ^ n = 2 ^ (32 * n) := by rw [Nat.pow_mul]
theorem natAbs_pow2 (z : Int) (t : Nat) : (z * 2 ^ t).natAbs = z.natAbs * 2 ^ t := by
  rw [Int.natAbs_mul, Int.natAbs_pow]; rfl
theorem sc_dv {k : Nat} {d : Dy} (h : -(32 * (k : Int)) ≤ d.e) : dv d = (sc k d : Rat) * p2 (-(32 * (k : Int))) := by
  rw [dv_shift d _ h]
  unfold sc
  rw [show (d.e - -(32 * (k : Int))) = d.e + 32 * (k : Int) by omega]
theorem sc_mk {k : Nat} {z x : Int} (hx : -(32 * (k : Int)) ≤ x) (h : -(32 * (k : Int)) ≤ (mkD z x).e) : sc k (mkD z x) = z * 2 ^ (x + 32 * (k : Int)).toNat := by
  refine mul_p2_inj (e := -(32 * (k : Int))) ?_
  rw [← sc_dv h, mk_dv, ← p2_shift]
  congr 2; omega
theorem mk_low {z x y : Int} (h : y ≤ x) (hy : y ≤ 0) : y ≤ (mkD z x).e := by
  unfold mkD
  split
  · exact hy
  · show y ≤ x + _
    omega
theorem BD.mono {n k n' k' : Nat} {d : Dy} (h : BD n k d) (hn : n ≤ n') (hk : k ≤ k') : BD n' k' d where
  ok := h.ok
  low := by have := h.low; omega
  top := by
    have h1 := h.top
    have hl := h.low
    unfold sc at *
    rw [natAbs_pow2] at *
    rw [p32] at *
    have e : (d.e + 32 * (k' : Int)).toNat = (d.e + 32 * (k : Int)).toNat + 32 * (k' - k) := by omega
    rw [e, Nat.pow_add, ← Nat.mul_assoc]
    calc _ < 2 ^ (32 * (n + k)) * 2 ^ (32 * (k' - k)) := Nat.mul_lt_mul_of_pos_right h1 (Nat.two_pow_pos _)
      _ = 2 ^ (32 * (n + k) + 32 * (k' - k)) := (Nat.pow_add ..).symm
      _ ≤ _ := Nat.pow_le_pow_right (by omega) (by omega)
theorem BD.man {n k : Nat} {d : Dy} (h : BD n k d) : d.m.natAbs < 4294967296 ^ (n + k) := by
  have h1 := h.top
  unfold sc at h1
  rw [natAbs_pow2] at h1
  exact Nat.lt_of_le_of_lt (Nat.le_mul_of_pos_right _ (Nat.two_pow_pos _)) h1
theorem BD.high {n k : Nat} {d : Dy} (h : BD n k d) : d.e ≤ 32 * (n : Int) := by
  rcases h.ok with ⟨_, h1⟩ | h1
  · omega
  · have h2 := h.top
    unfold sc at h2
    rw [natAbs_pow2, p32] at h2
    have h3 : 1 ≤ d.m.natAbs := by omega
    have h4 : 2 ^ (d.e + 32 * (k : Int)).toNat < 2 ^ (32 * (n + k)) := Nat.lt_of_le_of_lt (Nat.le_mul_of_pos_left _ (by omega)) h2
    have := (Nat.pow_lt_pow_iff_right (a := 2) (by omega)).1 h4
    omega
/-- At a lesser power of two. -/
def lev (d : Dy) (x : Int) : Int := d.m * 2 ^ (d.e - x).toNat
theorem lev_dv {d : Dy} {x : Int} (h : x ≤ d.e) : dv d = (lev d x : Rat) * p2 x := dv_shift d x h
theorem BD.lev {n k : Nat} {d : Dy} {x : Int} (h : BD n k d) (h1 : -(32 * (k : Int)) ≤ x) : (lev d x).natAbs < 4294967296 ^ (n + k) := by
  have ht := h.top
  unfold sc at ht
  unfold Go.Proofs.YtnncfbmddpijcaaGreatDoor.lev
  rw [natAbs_pow2] at *
  refine Nat.lt_of_le_of_lt (Nat.mul_le_mul_left _ (Nat.pow_le_pow_right (by omega) (by omega))) ht
theorem bd_mk {n k : Nat} {z x : Int} (hx : -(32 * (k : Int)) ≤ x) (h : (z * 2 ^ (x + 32 * (k : Int)).toNat).natAbs < 4294967296 ^ (n + k)) : BD n k (mkD z x) where
  ok := mk_ok _ _
  low := mk_low hx (by omega)
  top := by rw [sc_mk hx (mk_low hx (by omega))]; exact h
def addD (a b : Dy) : Dy := mkD (lev a (min a.e b.e) + lev b (min a.e b.e)) (min a.e b.e)
def subD (a b : Dy) : Dy := mkD (lev a (min a.e b.e) - lev b (min a.e b.e)) (min a.e b.e)
def mulD (a b : Dy) : Dy := mkD (a.m * b.m) (a.e + b.e)
def negD (a : Dy) : Dy := ⟨-a.m, a.e⟩
theorem addD_dv (a b : Dy) : dv (addD a b) = dv a + dv b := by
  unfold addD
  rw [mk_dv, Rat.intCast_add, Rat.add_mul, ← lev_dv (by omega), ← lev_dv (by omega)]
theorem subD_dv (a b : Dy) : dv (subD a b) = dv a - dv b := by
  unfold subD
  have h1 := lev_dv (d := a) (x := min a.e b.e) (by omega)
  have h2 := lev_dv (d := b) (x := min a.e b.e) (by omega)
  rw [mk_dv, Rat.intCast_sub, h1, h2]; grind
theorem mulD_dv (a b : Dy) : dv (mulD a b) = dv a * dv b := by
  unfold mulD dv
  rw [show ((mkD (a.m * b.m) (a.e + b.e)).m : Rat) * p2 (mkD (a.m * b.m) (a.e + b.e)).e = dv (mkD (a.m * b.m) (a.e + b.e)) from rfl, mk_dv, Rat.intCast_mul, p2_add]
  grind
theorem negD_dv (a : Dy) : dv (negD a) = -dv a := by
  unfold negD dv
  dsimp only
  rw [Rat.intCast_neg, Rat.neg_mul]
theorem Dy.Ok.neg {a : Dy} (h : a.Ok) : (negD a).Ok := by
  rcases h with ⟨h1, h2⟩ | h1
  · exact .inl ⟨by show -a.m = 0; omega, h2⟩
  · exact .inr (by show (-a.m) % 2 = 1; omega)
theorem sc_lev {k : Nat} {d : Dy} {x : Int} (hx : -(32 * (k : Int)) ≤ x) (h : x ≤ d.e) : lev d x * 2 ^ (x + 32 * (k : Int)).toNat = sc k d := by
  unfold Go.Proofs.YtnncfbmddpijcaaGreatDoor.lev sc
  rw [Int.mul_assoc, ← Int.pow_add]
  congr 2; omega
theorem two_pow32 {n : Nat} : 2 * 4294967296 ^ n ≤ 4294967296 ^ (n + 1) := by rw [Nat.pow_succ]; omega
section
variable {n k n' k' : Nat} {a b : Dy}
theorem bd_two (ha : BD n k a) (hb : BD n k b) {z : Int} (h : (z * 2 ^ (min a.e b.e + 32 * (k : Int)).toNat).natAbs ≤ (sc k a).natAbs + (sc k b).natAbs) : BD (n + 1) k (mkD z (min a.e b.e)) := by
  have h1 := ha.low
  have h2 := hb.low
  refine bd_mk (by omega) ?_
  have h3 := ha.top
  have h4 := hb.top
  have := two_pow32 (n := n + k)
  rw [show n + 1 + k = n + k + 1 by omega]
  omega
theorem BD.add (ha : BD n k a) (hb : BD n k b) : BD (n + 1) k (addD a b) := by
  have h1 := ha.low
  have h2 := hb.low
  refine bd_two ha hb ?_
  rw [Int.add_mul, sc_lev (by omega) (by omega), sc_lev (by omega) (by omega)]
  exact Int.natAbs_add_le _ _
theorem BD.sub (ha : BD n k a) (hb : BD n k b) : BD (n + 1) k (subD a b) := by
  have h1 := ha.low
  have h2 := hb.low
  refine bd_two ha hb ?_
  rw [Int.sub_mul, sc_lev (by omega) (by omega), sc_lev (by omega) (by omega)]
  omega
theorem BD.mul (ha : BD n k a) (hb : BD n' k' b) : BD (n + n') (k + k') (mulD a b) := by
  have h1 := ha.low
  have h2 := hb.low
  refine bd_mk (by rw [Int.natCast_add]; omega) ?_
  have e : (a.e + b.e + 32 * ((k + k' : Nat) : Int)).toNat = (a.e + 32 * (k : Int)).toNat + (b.e + 32 * (k' : Int)).toNat := by omega
  have h3 := ha.top
  have h4 := hb.top
  unfold sc at h3 h4
  rw [natAbs_pow2] at *
  rw [e, Nat.pow_add, Int.natAbs_mul]
  rw [show n + n' + (k + k') = (n + k) + (n' + k') by omega, Nat.pow_add]
  calc _ = (a.m.natAbs * 2 ^ (a.e + 32 * (k : Int)).toNat) * (b.m.natAbs * 2 ^ (b.e + 32 * (k' : Int)).toNat) := by
        simp only [Nat.mul_assoc, Nat.mul_left_comm]
    _ < _ := Nat.mul_lt_mul'' h3 h4
theorem BD.neg (ha : BD n k a) : BD n k (negD a) where
  ok := ha.ok.neg
  low := ha.low
  top := by
    have := ha.top
    unfold sc at *
    rw [natAbs_pow2] at *
    show (-a.m).natAbs * _ < _
    rw [Int.natAbs_neg]; exact this
theorem bd_of {m : Nat} {d : Dy} (h : d.Ok) (h1 : d.m.natAbs < 4294967296 ^ m) (h2 : -(32 * (k : Int)) ≤ d.e) (h3 : d.e ≤ 32 * (n : Int)) : BD (m + n) k d where
  ok := h
  low := h2
  top := by
    unfold sc
    rw [natAbs_pow2, show m + n + k = m + (n + k) by omega, Nat.pow_add]
    have : 2 ^ (d.e + 32 * (k : Int)).toNat ≤ 4294967296 ^ (n + k) := by rw [p32]; exact Nat.pow_le_pow_right (by omega) (by omega)
    calc _ < 4294967296 ^ m * 2 ^ (d.e + 32 * (k : Int)).toNat := Nat.mul_lt_mul_of_pos_right h1 (Nat.two_pow_pos _)
      _ ≤ _ := Nat.mul_le_mul_left _ this
end

/-! Their order. -/
def bt (x : Nat) : Nat := if x = 0 then 0 else Nat.log2 x + 1
theorem bt_is (x : Nat) : IsBits (bt x) x := by
  unfold bt
  split
  · rename_i h; subst h; simp [IsBits]
  · rename_i h
    exact ⟨(Nat.log2_lt (by omega)).1 (Nat.lt_succ_self _), .inr (Nat.log2_self_le (by omega))⟩
theorem bt_lt (x : Nat) : x < 2 ^ bt x := (bt_is x).1
theorem bt_ge {x : Nat} (h : x ≠ 0) : 2 ^ (bt x - 1) ≤ x := by
  rcases (bt_is x).2 with h1 | h1
  · have := bt_lt x; rw [h1] at this; omega
  · exact h1
theorem bt_pos {x : Nat} (h : x ≠ 0) : 0 < bt x := by unfold bt; rw [if_neg h]; omega
theorem bt_le {x n : Nat} (h : x < 2 ^ n) : bt x ≤ n := isBits_le (bt_is x) h
theorem bt_zero : bt 0 = 0 := rfl
def topD (d : Dy) : Int := (bt d.m.natAbs : Int) + d.e
def av (d : Dy) : Rat := (d.m.natAbs : Rat) * p2 d.e
theorem p2_mono {a b : Int} (h : a ≤ b) : p2 a ≤ p2 b := by
  have e : p2 b = p2 (b - a) * p2 a := (p2_sub b a).symm
  obtain ⟨n, hn⟩ : ∃ n : Nat, b - a = n := ⟨(b - a).toNat, by omega⟩
  rw [e, hn, p2_nat]
  have h1 : (1 : Rat) ≤ ((2 ^ n : Nat) : Rat) := by
    have : ((1 : Nat) : Rat) ≤ ((2 ^ n : Nat) : Rat) := Rat.natCast_le_natCast.2 (Nat.two_pow_pos n)
    exact this
  have h2 := p2_pos a
  have := Rat.mul_le_mul_of_nonneg_right h1 (Rat.le_of_lt h2)
  rw [Rat.one_mul] at this; exact this
theorem mul_p2_lt {a b : Rat} {e : Int} : a * p2 e < b * p2 e ↔ a < b := Rat.mul_lt_mul_right (p2_pos e)
theorem mul_p2_le {a b : Rat} {e : Int} : a * p2 e ≤ b * p2 e ↔ a ≤ b := by
  rw [← Rat.not_lt, ← Rat.not_lt, mul_p2_lt]
theorem av_lt (d : Dy) : av d < p2 (topD d) := by
  unfold av topD
  rw [p2_add, p2_nat, mul_p2_lt]
  exact Rat.natCast_lt_natCast.2 (bt_lt _)
theorem av_ge {d : Dy} (h : d.m ≠ 0) : p2 (topD d - 1) ≤ av d := by
  unfold av topD
  have h1 : d.m.natAbs ≠ 0 := by omega
  have h2 := bt_pos h1
  rw [show ((bt d.m.natAbs : Nat) : Int) + d.e - 1 = ((bt d.m.natAbs - 1 : Nat) : Int) + d.e by omega, p2_add, p2_nat, mul_p2_le]
  exact Rat.natCast_le_natCast.2 (bt_ge h1)
theorem dv_pos {d : Dy} (h : 0 < d.m) : dv d = av d := by
  unfold dv av
  have : ((d.m.natAbs : Nat) : Int) = d.m := by omega
  rw [← Rat.intCast_natCast, this]
theorem dv_neg {d : Dy} (h : d.m < 0) : dv d = -av d := by
  unfold dv av
  have : d.m = -((d.m.natAbs : Nat) : Int) := by omega
  conv => lhs; rw [this]
  rw [Rat.intCast_neg, Rat.intCast_natCast, Rat.neg_mul]
theorem av_pos {d : Dy} (h : d.m ≠ 0) : 0 < av d := by
  have := av_ge h
  have := p2_pos (topD d - 1)
  grind
theorem rat_tri (a b : Rat) : a < b ∨ a = b ∨ b < a := by
  by_cases h : a < b
  · exact .inl h
  · by_cases e : a = b
    · exact .inr (.inl e)
    · exact .inr (.inr (by grind))
theorem ordQ_ltI {p q : Rat} (h : p < q) : ordQ p q = -1 := by unfold ordQ; rw [if_pos h]
theorem ordQ_eqI {p q : Rat} (h : p = q) : ordQ p q = 0 := by subst h; unfold ordQ; rw [if_neg Rat.lt_irrefl, if_pos rfl]
theorem ordQ_gtI {p q : Rat} (h : q < p) : ordQ p q = 1 := by
  unfold ordQ
  rw [if_neg (by grind), if_neg (by grind)]
theorem ordQ_swap (p q : Rat) : ordQ (-p) (-q) = ordQ q p := by
  rcases rat_tri q p with h | h | h
  · rw [ordQ_ltI h, ordQ_ltI (by grind)]
  · rw [ordQ_eqI h, ordQ_eqI (by grind)]
  · rw [ordQ_gtI h, ordQ_gtI (by grind)]
theorem ordQ_anti (p q : Rat) : ordQ q p = -ordQ p q := by
  rcases rat_tri q p with h | h | h
  · rw [ordQ_ltI h, ordQ_gtI h]
  · rw [ordQ_eqI h, ordQ_eqI h.symm]; rfl
  · rw [ordQ_gtI h, ordQ_ltI h]; rfl
theorem sign_dv (d : Dy) : sign3 d.m = ordQ (dv d) 0 := by
  rcases Int.lt_trichotomy d.m 0 with h | h | h
  · rw [ordQ_ltI (by rw [dv_neg h]; have := av_pos (d := d) (by omega); grind)]
    unfold sign3; rw [if_pos h]
  · rw [ordQ_eqI (dv_zero.2 h), h]; rfl
  · rw [ordQ_gtI (by rw [dv_pos h]; exact av_pos (by omega))]
    unfold sign3; rw [if_neg (by omega), if_neg (by omega)]
theorem ord_signs {a b : Dy} {s t : Int} (hs : sign3 a.m = s) (ht : sign3 b.m = t) (h : s ≠ t) : ordI s t = ordQ (dv a) (dv b) := by
  subst hs; subst ht
  rw [sign_dv, sign_dv] at *
  rcases rat_tri (dv a) 0 with h1 | h1 | h1 <;> rcases rat_tri (dv b) 0 with h2 | h2 | h2
  · rw [ordQ_ltI h1, ordQ_ltI h2] at h; exact absurd rfl h
  · rw [ordQ_ltI h1, ordQ_eqI h2, ordQ_ltI (by grind)]; rfl
  · rw [ordQ_ltI h1, ordQ_gtI h2, ordQ_ltI (by grind)]; rfl
  · rw [ordQ_eqI h1, ordQ_ltI h2, ordQ_gtI (by grind)]; rfl
  · rw [ordQ_eqI h1, ordQ_eqI h2] at h; exact absurd rfl h
  · rw [ordQ_eqI h1, ordQ_gtI h2, ordQ_ltI (by grind)]; rfl
  · rw [ordQ_gtI h1, ordQ_ltI h2, ordQ_gtI (by grind)]; rfl
  · rw [ordQ_gtI h1, ordQ_eqI h2, ordQ_gtI (by grind)]; rfl
  · rw [ordQ_gtI h1, ordQ_gtI h2] at h; exact absurd rfl h
theorem sign3_cases (z : Int) : (sign3 z = -1 ∧ z < 0) ∨ (sign3 z = 0 ∧ z = 0) ∨ (sign3 z = 1 ∧ 0 < z) := by
  unfold sign3
  split
  · exact .inl ⟨rfl, by assumption⟩
  · split
    · exact .inr (.inl ⟨rfl, by assumption⟩)
    · exact .inr (.inr ⟨rfl, by omega⟩)
theorem av_top {a b : Dy} (hb : b.m ≠ 0) (h : topD a < topD b) : av a < av b := by
  have h1 := av_lt a
  have h2 := av_ge hb
  have h3 := p2_mono (show topD a ≤ topD b - 1 by omega)
  grind
theorem ordI_lt {x y : Int} (h : x < y) : ordI x y = -1 := by unfold ordI; rw [if_pos h]
theorem ordI_gt {x y : Int} (h : y < x) : ordI x y = 1 := by unfold ordI; rw [if_neg (by omega), if_pos h]
theorem ord_tops {a b : Dy} {s : Int} (oa : a.Ok) (ob : b.Ok) (hs : sign3 a.m = s) (ht : sign3 b.m = s) (h : topD a ≠ topD b) : s * ordI (topD a) (topD b) = ordQ (dv a) (dv b) := by
  have key : ∀ a b : Dy, a.Ok → b.Ok → sign3 a.m = sign3 b.m → topD a < topD b → sign3 a.m * -1 = ordQ (dv a) (dv b) ∧ sign3 a.m * 1 = ordQ (dv b) (dv a) := by
    intro a b oa ob hs h
    rcases sign3_cases a.m with ⟨h1, h2⟩ | ⟨h1, h2⟩ | ⟨h1, h2⟩ <;> rcases sign3_cases b.m with ⟨h3, h4⟩ | ⟨h3, h4⟩ | ⟨h3, h4⟩ <;> (try (exfalso; omega))
    · have := av_top (by omega) h
      rw [h1, dv_neg h2, dv_neg h4, ordQ_swap, ordQ_swap, ordQ_gtI this, ordQ_ltI this]; exact ⟨rfl, rfl⟩
    · rw [oa.zero h2, ob.zero h4] at h; exact absurd h (by decide)
    · have := av_top (by omega) h
      rw [h1, dv_pos h2, dv_pos h4, ordQ_ltI this, ordQ_gtI this]; exact ⟨rfl, rfl⟩
  subst hs
  rcases Int.lt_or_lt_of_ne h with h1 | h1
  · rw [ordI_lt h1]; exact (key a b oa ob ht.symm h1).1
  · rw [ordI_gt h1, ← ht]; exact (key b a ob oa ht h1).2
theorem ordQ_mul {a b : Rat} {e : Int} : ordQ (a * p2 e) (b * p2 e) = ordQ a b := by
  rcases rat_tri a b with h | h | h
  · rw [ordQ_ltI h, ordQ_ltI (mul_p2_lt.2 h)]
  · rw [ordQ_eqI h, h, ordQ_eqI rfl]
  · rw [ordQ_gtI h, ordQ_gtI (mul_p2_lt.2 h)]
theorem ordQ_int (a b : Int) : ordQ (a : Rat) (b : Rat) = ordI a b := by
  rcases Int.lt_trichotomy a b with h | h | h
  · rw [ordQ_ltI (Rat.intCast_lt_intCast.2 h), ordI_lt h]
  · subst h; rw [ordQ_eqI rfl]; unfold ordI; rw [if_neg (by omega), if_neg (by omega)]
  · rw [ordQ_gtI (Rat.intCast_lt_intCast.2 h), ordI_gt h]
theorem lev_sign {a : Dy} {x : Int} : (0 < a.m → 0 < lev a x) ∧ (a.m < 0 → lev a x < 0) ∧ (a.m = 0 → lev a x = 0) := by
  unfold lev
  have := pow2_posI (a.e - x).toNat
  refine ⟨fun h => Int.mul_pos h this, fun h => Int.mul_neg_of_neg_of_pos h this, fun h => by rw [h, Int.zero_mul]⟩
theorem ord_levs {a b : Dy} {s : Int} (hs : sign3 a.m = s) (ht : sign3 b.m = s) : s * ord3 (lev a (min a.e b.e)).natAbs (lev b (min a.e b.e)).natAbs = ordQ (dv a) (dv b) := by
  rw [lev_dv (d := a) (x := min a.e b.e) (by omega), lev_dv (d := b) (x := min a.e b.e) (by omega), ordQ_mul, ordQ_int]
  subst hs
  have ha := lev_sign (a := a) (x := min a.e b.e)
  have hb := lev_sign (a := b) (x := min a.e b.e)
  generalize lev a (min a.e b.e) = u at *
  generalize lev b (min a.e b.e) = v at *
  rcases sign3_cases a.m with ⟨h1, h2⟩ | ⟨h1, h2⟩ | ⟨h1, h2⟩ <;> rcases sign3_cases b.m with ⟨h3, h4⟩ | ⟨h3, h4⟩ | ⟨h3, h4⟩ <;> (try (exfalso; omega))
  · have := ha.2.1 h2
    have := hb.2.1 h4
    rw [h1]; unfold ord3 ordI
    split <;> split <;> (try split) <;> (try split) <;> omega
  · rw [ha.2.2 h2, hb.2.2 h4, h1]; rfl
  · have := ha.1 h2
    have := hb.1 h4
    rw [h1]; unfold ord3 ordI
    split <;> split <;> (try split) <;> (try split) <;> omega

/-! Rounded. -/
def rdD (b : Nat) (d : Dy) : Dy := if bt d.m.natAbs ≤ b then d else mkD (d.m / 2 ^ (bt d.m.natAbs - b)) (d.e + ((bt d.m.natAbs - b : Nat) : Int))
def ruD (b : Nat) (d : Dy) : Dy := negD (rdD b (negD d))
/-- It has no more than so many bits. -/
def Few (b : Nat) (d : Dy) : Prop := bt d.m.natAbs ≤ b
theorem neg_neg (d : Dy) : negD (negD d) = d := by
  obtain ⟨m, e⟩ := d
  unfold negD
  dsimp only
  rw [Int.neg_neg]
theorem few_neg {b : Nat} {d : Dy} : Few b (negD d) ↔ Few b d := by
  unfold Few negD
  dsimp only
  rw [Int.natAbs_neg]
theorem quo_lo (m : Int) (t : Nat) : m / 2 ^ t * 2 ^ t ≤ m := Int.ediv_mul_le _ (by have := pow2_posI t; omega)
theorem quo_hi (m : Int) (t : Nat) : m < (m / 2 ^ t + 1) * 2 ^ t := Int.lt_ediv_add_one_mul_self _ (pow2_posI t)
theorem quo_abs {m : Int} {t n : Nat} (h : m.natAbs ≤ 2 ^ (n + t)) : (m / 2 ^ t).natAbs ≤ 2 ^ n := by
  have hp := pow2_posI t
  have h2 : -(2 ^ n : Int) ≤ m / 2 ^ t := by
    rw [Int.le_ediv_iff_mul_le hp, Int.neg_mul, ← Int.pow_add]
    have : ((2 ^ (n + t) : Nat) : Int) = 2 ^ (n + t) := pow2_cast _
    omega
  have h3 : m / 2 ^ t ≤ 2 ^ n := by
    have h4 : m ≤ 2 ^ (n + t) := by
      have : ((2 ^ (n + t) : Nat) : Int) = 2 ^ (n + t) := pow2_cast _
      omega
    have h5 := Int.ediv_le_ediv hp h4
    rw [Int.pow_add, Int.mul_ediv_cancel _ (by omega)] at h5
    exact h5
  have : ((2 ^ n : Nat) : Int) = 2 ^ n := pow2_cast _
  omega
theorem few_mk {b : Nat} {z x : Int} (hb : 1 ≤ b) (h : z.natAbs ≤ 2 ^ b) : Few b (mkD z x) := by
  unfold Few mkD
  split
  · rw [show ((⟨0, 0⟩ : Dy).m).natAbs = 0 from rfl, bt_zero]; omega
  · rename_i h0
    dsimp only
    have h1 := tail_div (tl_is _) h0
    refine bt_le ?_
    generalize tl z.natAbs = t at *
    generalize z / 2 ^ t = q at *
    have h3 : q.natAbs * 2 ^ t = z.natAbs := by rw [← natAbs_pow2, h1.1]
    have h4 : q.natAbs ≤ 2 ^ b := Nat.le_trans (Nat.le_mul_of_pos_right _ (Nat.two_pow_pos t)) (by omega)
    rcases Nat.lt_or_eq_of_le h4 with h5 | h5
    · exact h5
    · exfalso
      obtain ⟨c, rfl⟩ : ∃ c, b = c + 1 := ⟨b - 1, by omega⟩
      rw [Nat.pow_succ] at h5
      have := h1.2
      omega
theorem rd_few {b : Nat} {d : Dy} (hb : 1 ≤ b) : Few b (rdD b d) := by
  unfold rdD
  split
  · assumption
  · rename_i h
    refine few_mk hb (quo_abs ?_)
    have := bt_lt d.m.natAbs
    rw [show b + (bt d.m.natAbs - b) = bt d.m.natAbs by omega]
    omega
theorem rd_ok {b : Nat} {d : Dy} (h : d.Ok) : (rdD b d).Ok := by
  unfold rdD
  split
  · exact h
  · exact mk_ok _ _
theorem rd_self {b : Nat} {d : Dy} (h : Few b d) : rdD b d = d := if_pos h
/-- What it is, rounded down. -/
theorem rd_dv (b : Nat) (d : Dy) : dv (rdD b d) = ((d.m / 2 ^ (bt d.m.natAbs - b) * 2 ^ (bt d.m.natAbs - b) : Int) : Rat) * p2 d.e := by
  unfold rdD
  split
  · rename_i h
    rw [show bt d.m.natAbs - b = 0 by omega]
    simp [dv]
  · rename_i h
    rw [mk_dv, p2_shift]
theorem rd_le (b : Nat) (d : Dy) : dv (rdD b d) ≤ dv d := by
  rw [rd_dv]
  unfold dv
  rw [mul_p2_le]
  exact Rat.intCast_le_intCast.2 (quo_lo _ _)
theorem rd_gap (b : Nat) (d : Dy) : dv d < dv (rdD b d) + p2 (d.e + ((bt d.m.natAbs - b : Nat) : Int)) := by
  rw [rd_dv]
  have h1 : p2 (d.e + ((bt d.m.natAbs - b : Nat) : Int)) = ((2 ^ (bt d.m.natAbs - b) : Int) : Rat) * p2 d.e := by
    have := p2_shift 1 d.e (bt d.m.natAbs - b)
    rw [Int.one_mul] at this
    rw [← this]; simp
  rw [h1, ← Rat.add_mul, ← Rat.intCast_add]
  unfold dv
  rw [mul_p2_lt]
  refine Rat.intCast_lt_intCast.2 ?_
  have := quo_hi d.m (bt d.m.natAbs - b)
  rw [Int.add_mul, Int.one_mul] at this
  exact this
theorem ru_ge (b : Nat) (d : Dy) : dv d ≤ dv (ruD b d) := by
  unfold ruD
  have := rd_le b (negD d)
  rw [negD_dv] at *
  grind
theorem ru_gap (b : Nat) (d : Dy) : dv (ruD b d) - p2 (d.e + ((bt d.m.natAbs - b : Nat) : Int)) < dv d := by
  unfold ruD
  have := rd_gap b (negD d)
  rw [negD_dv] at *
  have e : (negD d).e + ((bt (negD d).m.natAbs - b : Nat) : Int) = d.e + ((bt d.m.natAbs - b : Nat) : Int) := by
    unfold negD
    dsimp only
    rw [Int.natAbs_neg]
  rw [e] at this
  grind
theorem ru_few {b : Nat} {d : Dy} (hb : 1 ≤ b) : Few b (ruD b d) := by unfold ruD; exact few_neg.2 (rd_few hb)
theorem ru_self {b : Nat} {d : Dy} (h : Few b d) : ruD b d = d := by unfold ruD; rw [rd_self (few_neg.2 h), neg_neg]
theorem ru_ok {b : Nat} {d : Dy} (h : d.Ok) : (ruD b d).Ok := by unfold ruD; exact (rd_ok h.neg).neg
theorem rd_eq {b : Nat} {d : Dy} (hb : 1 ≤ b) (h : d.Ok) : dv (rdD b d) = dv d ↔ Few b d := by
  constructor
  · intro e
    have := rd_few (d := d) hb
    rw [dv_inj (rd_ok h) h e] at this
    exact this
  · intro e; rw [rd_self e]
theorem rd_low {b : Nat} {d : Dy} {y : Int} (h : y ≤ d.e) (hy : y ≤ 0) : y ≤ (rdD b d).e := by
  unfold rdD
  split
  · exact h
  · exact mk_low (by omega) hy
/-- The part that falls off is less than the number. -/
theorem over_le {b m : Nat} (hb : 1 ≤ b) : bt m - b = 0 ∨ 2 ^ (bt m - b) ≤ m := by
  rcases Nat.eq_zero_or_pos (bt m - b) with h | h
  · exact .inl h
  · have h1 : m ≠ 0 := by rintro rfl; rw [bt_zero] at h; omega
    exact .inr (Nat.le_trans (Nat.pow_le_pow_right (by omega) (by omega)) (bt_ge h1))
theorem BD.rd {n k b : Nat} {d : Dy} (hb : 1 ≤ b) (h : BD n k d) : BD (n + 1) k (rdD b d) := by
  by_cases hf : Few b d
  · rw [rd_self hf]; exact h.mono (by omega) (Nat.le_refl _)
  · rw [show rdD b d = mkD (d.m / 2 ^ (bt d.m.natAbs - b)) (d.e + ((bt d.m.natAbs - b : Nat) : Int)) from if_neg hf]
    have hl := h.low
    refine bd_mk (by omega) ?_
    have ht := h.top
    unfold sc at ht
    have e : (d.e + ((bt d.m.natAbs - b : Nat) : Int) + 32 * (k : Int)).toNat = (bt d.m.natAbs - b) + (d.e + 32 * (k : Int)).toNat := by omega
    rw [e, Int.pow_add, ← Int.mul_assoc, natAbs_pow2]
    rw [natAbs_pow2] at ht
    have h1 : (d.m / 2 ^ (bt d.m.natAbs - b) * 2 ^ (bt d.m.natAbs - b)).natAbs ≤ 2 * d.m.natAbs := by
      have h2 := quo_lo d.m (bt d.m.natAbs - b)
      have h3 := quo_hi d.m (bt d.m.natAbs - b)
      rw [Int.add_mul, Int.one_mul] at h3
      rcases over_le (m := d.m.natAbs) hb with h4 | h4
      · unfold Few at hf; omega
      · have := pow2_cast (bt d.m.natAbs - b)
        omega
    calc _ ≤ 2 * d.m.natAbs * 2 ^ (d.e + 32 * (k : Int)).toNat := Nat.mul_le_mul_right _ h1
      _ = 2 * (d.m.natAbs * 2 ^ (d.e + 32 * (k : Int)).toNat) := Nat.mul_assoc ..
      _ < 2 * 4294967296 ^ (n + k) := by omega
      _ ≤ _ := by rw [show n + 1 + k = n + k + 1 by omega]; exact two_pow32
theorem BD.ru {n k b : Nat} {d : Dy} (hb : 1 ≤ b) (h : BD n k d) : BD (n + 1) k (ruD b d) := (h.neg.rd hb).neg
/-- One in the last of so many bits further is beyond it. -/
def lastD (b : Nat) (d : Dy) : Dy := mkD 1 (d.e + (bt d.m.natAbs : Int) - (b : Int))
theorem rd_next {b : Nat} {d : Dy} (h : ¬ Few b d) : dv d < dv (addD (rdD b d) (lastD b d)) := by
  unfold Few at h
  rw [addD_dv]
  unfold lastD
  rw [mk_dv]
  have := rd_gap b d
  rw [show d.e + ((bt d.m.natAbs - b : Nat) : Int) = d.e + (bt d.m.natAbs : Int) - (b : Int) by omega] at this
  simpa using this
theorem ru_next {b : Nat} {d : Dy} (h : ¬ Few b d) : dv (subD (ruD b d) (lastD b d)) < dv d := by
  unfold Few at h
  rw [subD_dv]
  unfold lastD
  rw [mk_dv]
  have := ru_gap b d
  rw [show d.e + ((bt d.m.natAbs - b : Nat) : Int) = d.e + (bt d.m.natAbs : Int) - (b : Int) by omega] at this
  simpa using this

/-! As ratios. -/
theorem rat_of {q : Rat} {z : Int} {d : Nat} (h0 : d ≠ 0) (hg : Nat.gcd z.natAbs d = 1) (h : q = (z : Rat) / (d : Rat)) : q.num = z ∧ q.den = d := by
  have : q = Rat.normalize z d h0 := by rw [Rat.normalize_eq_mkRat, Rat.mkRat_eq_div, h]
  rw [this, Rat.normalize_eq]
  simp [hg]
theorem dv_up {d : Dy} {k : Nat} (h : d.e = k) : (dv d).num = d.m * 2 ^ k ∧ (dv d).den = 1 := by
  have e : dv d = ((d.m * 2 ^ k : Int) : Rat) := by
    unfold dv
    rw [h, p2_natI, Rat.intCast_mul]
  rw [e]
  exact ⟨Rat.num_intCast _, Rat.den_intCast _⟩
theorem odd_cop {z : Int} {k : Nat} (h : z % 2 = 1) : Nat.gcd z.natAbs (2 ^ k) = 1 := by
  have : Nat.Coprime z.natAbs 2 := by
    rw [Nat.coprime_comm]
    have h1 : z.natAbs % 2 = 1 := by omega
    unfold Nat.Coprime
    rw [Nat.gcd_rec, h1]; rfl
  exact Nat.Coprime.pow_right k this
theorem dv_down {d : Dy} {k : Nat} (ho : d.Ok) (h : d.e = -(k : Int)) : (dv d).num = d.m ∧ (dv d).den = 2 ^ k := by
  rcases ho with ⟨h1, h2⟩ | h1
  · have hk : k = 0 := by omega
    subst hk
    have := dv_up (d := d) (k := 0) (by omega)
    simp at this ⊢; exact this
  · refine rat_of (Nat.ne_of_gt (Nat.two_pow_pos k)) (odd_cop h1) ?_
    unfold dv
    rw [h]
    have h2 : p2 (-(k : Int)) * ((2 ^ k : Nat) : Rat) = 1 := by rw [← p2_nat]; exact p2_neg k
    have h3 : ((2 ^ k : Nat) : Rat) ≠ 0 := by rw [← p2_nat]; exact p2_ne _
    have h4 : p2 (-(k : Int)) = 1 / ((2 ^ k : Nat) : Rat) := by rw [← h2, Rat.mul_div_cancel h3]
    rw [h4]; grind
theorem BD.bq {n k : Nat} {d : Dy} (h : BD n k d) : BQ (n + k + 1) (dv d) := by
  have ht := h.top
  have hl := h.low
  unfold sc at ht
  rw [natAbs_pow2] at ht
  rcases Int.lt_or_le d.e 0 with he | he
  · obtain ⟨j, hj⟩ : ∃ j : Nat, d.e = -(j : Int) := ⟨d.e.natAbs, by omega⟩
    obtain ⟨h1, h2⟩ := dv_down h.ok hj
    refine ⟨?_, ?_⟩
    · rw [h1]; exact Nat.lt_of_lt_of_le h.man (Nat.pow_le_pow_right (by omega) (by omega))
    · rw [h2, p32]; exact Nat.pow_lt_pow_right (by omega) (by omega)
  · obtain ⟨j, hj⟩ : ∃ j : Nat, d.e = (j : Int) := ⟨d.e.natAbs, by omega⟩
    obtain ⟨h1, h2⟩ := dv_up hj
    refine ⟨?_, ?_⟩
    · rw [h1, natAbs_pow2]
      refine Nat.lt_of_le_of_lt (Nat.mul_le_mul_left _ (Nat.pow_le_pow_right (by omega) (show j ≤ (d.e + 32 * (k : Int)).toNat by omega))) (Nat.lt_of_lt_of_le ht (Nat.pow_le_pow_right (by omega) (by omega)))
    · rw [h2, p32]; exact Nat.one_lt_two_pow (by omega)

/-! Near to a ratio. -/
/-- It stands over a power of two. -/
def TwoDen (q : Rat) : Prop := tl q.den = bt q.den - 1
instance (q : Rat) : Decidable (TwoDen q) := inferInstanceAs (Decidable (_ = _))
def byD (b : Nat) (q : Rat) : Int := (b : Int) + (bt q.den : Int) - (bt q.num.natAbs : Int)
def divD (b : Nat) (q : Rat) : Dy := mkD (q.num * 2 ^ (max (byD b q) 0).toNat / ((q.den : Int) * 2 ^ (max (-byD b q) 0).toNat)) (-byD b q)
def ndD (b : Nat) (q : Rat) : Dy := if TwoDen q then mkD q.num (-(tl q.den : Int)) else divD b q
/-- Rounded down to so many bits. -/
def nrD (b : Nat) (q : Rat) : Dy := if q.num = 0 then ⟨0, 0⟩ else rdD b (ndD b q)
def nuD (b : Nat) (q : Rat) : Dy := negD (nrD b (-q))
theorem twoDen_pow {q : Rat} (h : TwoDen q) : q.den = 2 ^ tl q.den := by
  unfold TwoDen at h
  have h0 := q.den_nz
  rcases tl_is q.den with ⟨h1, _⟩ | ⟨m, hm⟩
  · exact absurd h1 h0
  · have h2 := bt_lt q.den
    have h3 : bt q.den = tl q.den + 1 := by have := bt_pos h0; omega
    rw [h3, Nat.pow_succ] at h2
    generalize tl q.den = t at *
    have : m = 0 := by
      rcases Nat.eq_zero_or_pos m with h4 | h4
      · exact h4
      · exfalso
        have : 2 ^ t * 2 ≤ 2 ^ t * (2 * m + 1) := Nat.mul_le_mul_left _ (by omega)
        omega
    subst this
    rw [hm]; simp
theorem twoDen_of {q : Rat} {k : Nat} (h : q.den = 2 ^ k) : TwoDen q := by
  unfold TwoDen
  have h1 : IsTail k (2 ^ k) := .inr ⟨0, by simp⟩
  have h2 : IsBits (k + 1) (2 ^ k) := ⟨Nat.pow_lt_pow_right (by omega) (by omega), .inr (by simp)⟩
  rw [h, (tl_is _).eq h1, isBits_one (bt_is _) h2]; rfl
theorem dv_twoDen {d : Dy} (h : d.Ok) : TwoDen (dv d) := by
  rcases Int.lt_or_le d.e 0 with he | he
  · obtain ⟨j, hj⟩ : ∃ j : Nat, d.e = -(j : Int) := ⟨d.e.natAbs, by omega⟩
    exact twoDen_of (dv_down h hj).2
  · obtain ⟨j, hj⟩ : ∃ j : Nat, d.e = (j : Int) := ⟨d.e.natAbs, by omega⟩
    exact twoDen_of (k := 0) (dv_up hj).2
theorem num_div (q : Rat) : q * (q.den : Rat) = (q.num : Rat) := by
  have h1 : (q.den : Rat) ≠ 0 := by
    intro h
    exact q.den_nz (Rat.natCast_inj.1 h)
  have h2 : q = (q.num : Rat) / (q.den : Rat) := by rw [← Rat.mkRat_eq_div, Rat.mkRat_self]
  conv => lhs; lhs; rw [h2]
  exact Rat.div_mul_cancel h1
theorem mk_two {q : Rat} (h : TwoDen q) : dv (mkD q.num (-(tl q.den : Int))) = q := by
  have hh := twoDen_pow h
  have h1 : p2 (-(tl q.den : Int)) * (q.den : Rat) = 1 := by
    conv => lhs; rhs; rw [hh]
    rw [← p2_nat]; exact p2_neg _
  rw [mk_dv, ← num_div, Rat.mul_assoc, Rat.mul_comm (q.den : Rat), h1, Rat.mul_one]
/-- The division, and what it leaves. -/
theorem den_pos' (q : Rat) : (0 : Rat) < (q.den : Rat) := Rat.natCast_pos.2 (Nat.pos_of_ne_zero q.den_nz)
theorem pow_cancel {a b : Rat} {e : Int} : a * p2 e < b ↔ a < b * p2 (-e) := by
  have h := p2_neg e
  constructor
  · intro h1
    have := (mul_p2_lt (e := -e)).2 h1
    have e1 : a * p2 e * p2 (-e) = a := by rw [Rat.mul_assoc, Rat.mul_comm (p2 e), h, Rat.mul_one]
    rw [e1] at this; exact this
  · intro h1
    have := (mul_p2_lt (e := e)).2 h1
    have e1 : b * p2 (-e) * p2 e = b := by rw [Rat.mul_assoc, h, Rat.mul_one]
    rw [e1] at this; exact this
/-- How often below goes into above. -/
def offD (b : Nat) (q : Rat) : Int := q.num * 2 ^ (max (byD b q) 0).toNat / ((q.den : Int) * 2 ^ (max (-byD b q) 0).toNat)
theorem le_of_mul {a b c : Rat} (hc : 0 < c) (h : a * c ≤ b * c) : a ≤ b := by
  rw [← Rat.not_lt] at *
  intro h1; exact h ((Rat.mul_lt_mul_right hc).2 h1)
theorem off_den (b : Nat) (q : Rat) : (0 : Int) < (q.den : Int) * 2 ^ (max (-byD b q) 0).toNat := Int.mul_pos (by have := q.den_nz; omega) (pow2_posI _)
theorem off_val (b : Nat) (q : Rat) : ((q.num * 2 ^ (max (byD b q) 0).toNat : Int) : Rat) = q * p2 (byD b q) * (((q.den : Int) * 2 ^ (max (-byD b q) 0).toNat : Int) : Rat) := by
  rw [Rat.intCast_mul, Rat.intCast_mul, ← p2_natI, ← p2_natI, ← num_div, Rat.intCast_natCast]
  have : p2 ((max (byD b q) 0).toNat : Int) = p2 (byD b q) * p2 ((max (-byD b q) 0).toNat : Int) := by
    rw [← p2_add]
    congr 1; omega
  rw [this]; grind
theorem off_le (b : Nat) (q : Rat) : (offD b q : Rat) ≤ q * p2 (byD b q) := by
  have h1 := Int.ediv_mul_le (q.num * 2 ^ (max (byD b q) 0).toNat) (show (q.den : Int) * 2 ^ (max (-byD b q) 0).toNat ≠ 0 by have := off_den b q; omega)
  have h2 := Rat.intCast_le_intCast.2 h1
  rw [off_val, Rat.intCast_mul] at h2
  have h3 : (0 : Rat) < (((q.den : Int) * 2 ^ (max (-byD b q) 0).toNat : Int) : Rat) := Rat.intCast_pos.2 (off_den b q)
  exact le_of_mul h3 h2
theorem off_lt (b : Nat) (q : Rat) : q * p2 (byD b q) < (offD b q : Rat) + 1 := by
  have h1 := Int.lt_ediv_add_one_mul_self (q.num * 2 ^ (max (byD b q) 0).toNat) (off_den b q)
  have h2 := Rat.intCast_lt_intCast.2 h1
  rw [off_val, Rat.intCast_mul (_ + 1)] at h2
  have h3 : (0 : Rat) < (((q.den : Int) * 2 ^ (max (-byD b q) 0).toNat : Int) : Rat) := Rat.intCast_pos.2 (off_den b q)
  have := (Rat.mul_lt_mul_right h3).1 h2
  rw [Rat.intCast_add] at this
  exact this
theorem abs_num (q : Rat) : absQ q * (q.den : Rat) = (q.num.natAbs : Rat) := by
  have h1 := num_div q
  have h2 := den_pos' q
  unfold absQ
  split
  · rename_i h
    have h3 : q * (q.den : Rat) < 0 := by
      have := (Rat.mul_lt_mul_right h2).2 h
      rw [Rat.zero_mul] at this; exact this
    rw [h1] at h3
    have h4 : q.num < 0 := Rat.intCast_neg_iff.1 h3
    have h5 : ((q.num.natAbs : Nat) : Int) = -q.num := by omega
    rw [show ((q.num.natAbs : Nat) : Rat) = (((q.num.natAbs : Nat) : Int) : Rat) from rfl, h5, Rat.intCast_neg, ← h1, Rat.neg_mul]
  · rename_i h
    have h3 : ¬ q * (q.den : Rat) < 0 := by
      intro h3
      refine h ((Rat.mul_lt_mul_right h2).1 ?_)
      rw [Rat.zero_mul]; exact h3
    rw [h1] at h3
    have h4 : ¬ q.num < 0 := fun h => h3 (Rat.intCast_neg_iff.2 h)
    have h5 : ((q.num.natAbs : Nat) : Int) = q.num := by omega
    rw [show ((q.num.natAbs : Nat) : Rat) = (((q.num.natAbs : Nat) : Int) : Rat) from rfl, h5, ← h1]
theorem abs_lo {b : Nat} {q : Rat} (h0 : q.num ≠ 0) : p2 ((b : Int) - 1) < absQ q * p2 (byD b q) := by
  have h2 := den_pos' q
  have hn : p2 ((bt q.num.natAbs : Int) - 1) ≤ (q.num.natAbs : Rat) := by
    have h3 := bt_pos (x := q.num.natAbs) (by omega)
    rw [show ((bt q.num.natAbs : Int) - 1) = ((bt q.num.natAbs - 1 : Nat) : Int) by omega, p2_nat]
    exact Rat.natCast_le_natCast.2 (bt_ge (by omega))
  have hd : (q.den : Rat) < p2 (bt q.den : Int) := by rw [p2_nat]; exact Rat.natCast_lt_natCast.2 (bt_lt _)
  refine (Rat.mul_lt_mul_right h2).1 ?_
  rw [show absQ q * p2 (byD b q) * (q.den : Rat) = absQ q * (q.den : Rat) * p2 (byD b q) by grind, abs_num]
  have e1 : p2 ((b : Int) - 1) * p2 (bt q.den : Int) = p2 ((bt q.num.natAbs : Int) - 1) * p2 (byD b q) := by
    rw [← p2_add, ← p2_add]; congr 1; unfold byD; omega
  have h4 : p2 ((b : Int) - 1) * (q.den : Rat) < p2 ((b : Int) - 1) * p2 (bt q.den : Int) := Rat.mul_lt_mul_of_pos_left hd (p2_pos _)
  rw [e1] at h4
  have h5 := mul_p2_le (e := byD b q) |>.2 hn
  grind
theorem abs_hi {b : Nat} {q : Rat} : absQ q * p2 (byD b q) < p2 ((b : Int) + 1) := by
  have h2 := den_pos' q
  have hn : (q.num.natAbs : Rat) < p2 (bt q.num.natAbs : Int) := by rw [p2_nat]; exact Rat.natCast_lt_natCast.2 (bt_lt _)
  have hd : p2 ((bt q.den : Int) - 1) ≤ (q.den : Rat) := by
    have h3 := bt_pos (x := q.den) q.den_nz
    rw [show ((bt q.den : Int) - 1) = ((bt q.den - 1 : Nat) : Int) by omega, p2_nat]
    exact Rat.natCast_le_natCast.2 (bt_ge q.den_nz)
  refine (Rat.mul_lt_mul_right h2).1 ?_
  rw [show absQ q * p2 (byD b q) * (q.den : Rat) = absQ q * (q.den : Rat) * p2 (byD b q) by grind, abs_num]
  have e1 : p2 ((b : Int) + 1) * p2 ((bt q.den : Int) - 1) = p2 (bt q.num.natAbs : Int) * p2 (byD b q) := by
    rw [← p2_add, ← p2_add]; congr 1; unfold byD; omega
  have h4 : p2 ((b : Int) + 1) * p2 ((bt q.den : Int) - 1) ≤ p2 ((b : Int) + 1) * (q.den : Rat) := Rat.mul_le_mul_of_nonneg_left hd (Rat.le_of_lt (p2_pos _))
  rw [e1] at h4
  have h5 := mul_p2_lt (e := byD b q) |>.2 hn
  grind

theorem bt_mul {x t : Nat} (h : x ≠ 0) : bt (x * 2 ^ t) = bt x + t := by
  refine isBits_one (bt_is _) ⟨?_, .inr ?_⟩
  · rw [Nat.pow_add]; exact Nat.mul_lt_mul_of_pos_right (bt_lt x) (Nat.two_pow_pos t)
  · have := bt_pos h
    rw [show bt x + t - 1 = (bt x - 1) + t by omega, Nat.pow_add]
    exact Nat.mul_le_mul_right _ (bt_ge h)
theorem rd_mk (b : Nat) (z x : Int) : dv (rdD b (mkD z x)) = ((z / 2 ^ (bt z.natAbs - b) * 2 ^ (bt z.natAbs - b) : Int) : Rat) * p2 x := by
  rw [rd_dv]
  by_cases h0 : z = 0
  · subst h0
    simp [mkD]
  · have h1 := tail_div (tl_is z.natAbs) h0
    rw [show mkD z x = ⟨z / 2 ^ tl z.natAbs, x + (tl z.natAbs : Int)⟩ from if_neg h0]
    dsimp only
    generalize tl z.natAbs = t at *
    generalize hq : z / 2 ^ t = q at *
    have hz : q.natAbs * 2 ^ t = z.natAbs := by rw [← natAbs_pow2, h1.1]
    have hb : bt z.natAbs = bt q.natAbs + t := by rw [← hz, bt_mul (by have := h1.2; omega)]
    rw [p2_shift]
    congr 2
    rcases Nat.eq_zero_or_pos (bt q.natAbs - b) with h2 | h2
    · rw [h2]
      simp only [Int.pow_zero, Int.ediv_one, Int.mul_one]
      have h3 : t = (t - (bt z.natAbs - b)) + (bt z.natAbs - b) := by omega
      rw [h1.1]
      generalize bt z.natAbs - b = o at *
      generalize t - o = s at *
      have h4 : z = q * 2 ^ s * 2 ^ o := by rw [Int.mul_assoc, ← Int.pow_add, ← h3, h1.1]
      have h5 : z / 2 ^ o = q * 2 ^ s := by
        rw [h4]; exact Int.mul_ediv_cancel _ (by have := pow2_posI o; omega)
      rw [h5, ← h4]
    · have h3 : bt z.natAbs - b = t + (bt q.natAbs - b) := by omega
      rw [h3]
      generalize bt q.natAbs - b = o at *
      have h5 : z / 2 ^ (t + o) = q / 2 ^ o := by
        rw [Int.pow_add, ← Int.ediv_ediv_of_nonneg (by have := pow2_posI t; omega), hq]
      rw [h5, Int.mul_assoc, ← Int.pow_add, Nat.add_comm o t]
theorem absQ_pos {q : Rat} (h : 0 ≤ q) : absQ q = q := by unfold absQ; rw [if_neg (by grind)]
theorem absQ_lt {q : Rat} (h : q < 0) : absQ q = -q := by unfold absQ; rw [if_pos h]
theorem absQ_neg (q : Rat) : absQ (-q) = absQ q := by unfold absQ; split <;> split <;> grind
theorem absQ_ge (q : Rat) : 0 ≤ absQ q := by unfold absQ; split <;> grind
theorem absQ_mul {q : Rat} {e : Int} : absQ (q * p2 e) = absQ q * p2 e := by
  have h := p2_pos e
  have h1 : q * p2 e < 0 ↔ q < 0 := by
    have := mul_p2_lt (a := q) (b := 0) (e := e)
    rw [Rat.zero_mul] at this; exact this
  unfold absQ
  by_cases h2 : q < 0
  · rw [if_pos h2, if_pos (h1.2 h2), Rat.neg_mul]
  · rw [if_neg h2, if_neg (fun h3 => h2 (h1.1 h3))]
/-- What falls off, at one or two bits too many. -/
theorem fall {A b : Nat} {z : Int} (hA : 2 ^ (b - 1) = A) (hb : 1 ≤ b) (hz : z.natAbs ≤ 4 * A) : z / 2 ^ (bt z.natAbs - b) * 2 ^ (bt z.natAbs - b) = z ∨ (z / 2 ^ (bt z.natAbs - b) * 2 ^ (bt z.natAbs - b) = z - 1 ∧ 2 * A < z.natAbs) := by
  obtain ⟨c, rfl⟩ : ∃ c, b = c + 1 := ⟨b - 1, by omega⟩
  rw [Nat.add_sub_cancel] at hA
  have e1 : 2 ^ (c + 1) = 2 * A := by rw [Nat.pow_succ]; omega
  have e2 : 2 ^ (c + 2) = 4 * A := by rw [Nat.pow_succ]; omega
  have e3 : 2 ^ (c + 3) = 8 * A := by rw [Nat.pow_succ]; omega
  have hA0 : 0 < A := by rw [← hA]; exact Nat.two_pow_pos c
  by_cases h1 : z.natAbs < 2 * A
  · left
    have : bt z.natAbs ≤ c + 1 := bt_le (by omega)
    rw [show bt z.natAbs - (c + 1) = 0 by omega]; simp
  · by_cases h2 : z.natAbs < 4 * A
    · have : bt z.natAbs = c + 2 := isBits_one (bt_is _) ⟨by omega, .inr (by simp; omega)⟩
      rw [this, show c + 2 - (c + 1) = 1 by omega]
      omega
    · left
      have : bt z.natAbs = c + 3 := isBits_one (bt_is _) ⟨by omega, .inr (by simp; omega)⟩
      rw [this, show c + 3 - (c + 1) = 2 by omega]
      omega
theorem natAbs_bound {x : Rat} {z : Int} {A : Nat} (h1 : (z : Rat) ≤ x) (h2 : x < (z : Rat) + 1) (h : absQ x < (A : Rat)) : z.natAbs ≤ A := by
  have hA : ((A : Nat) : Rat) = (((A : Nat) : Int) : Rat) := rfl
  rw [hA] at h
  unfold absQ at h
  split at h
  · have h3 : ((-(A : Int) : Int) : Rat) < ((z + 1 : Int) : Rat) := by
      rw [Rat.intCast_neg, Rat.intCast_add]; have : ((1 : Int) : Rat) = 1 := rfl; grind
    have h3 := Rat.intCast_lt_intCast.1 h3
    have h4 : ((z : Int) : Rat) < ((0 : Int) : Rat) := by have : ((0 : Int) : Rat) = 0 := rfl; grind
    have h4 := Rat.intCast_lt_intCast.1 h4
    omega
  · have h3 : (z : Rat) < ((A : Int) : Rat) := by grind
    have h3 := Rat.intCast_lt_intCast.1 h3
    have h4 : ((0 : Int) : Rat) < ((z + 1 : Int) : Rat) := by rw [Rat.intCast_add]; have : ((0 : Int) : Rat) = 0 := rfl; have : ((1 : Int) : Rat) = 1 := rfl; grind
    have h4 := Rat.intCast_lt_intCast.1 h4
    omega
theorem natAbs_big {x : Rat} {z : Int} {A : Nat} (h1 : (z : Rat) ≤ x) (h2 : x < (z : Rat) + 1) (h : A < z.natAbs) : (A : Rat) ≤ absQ x := by
  have hA : ((A : Nat) : Rat) = (((A : Nat) : Int) : Rat) := rfl
  rw [hA]
  unfold absQ
  rcases Int.lt_or_le z 0 with h3 | h3
  · have h4 : ((z + 1 : Int) : Rat) ≤ ((-(A : Int) : Int) : Rat) := Rat.intCast_le_intCast.2 (by omega)
    rw [Rat.intCast_neg, Rat.intCast_add] at h4
    have : ((1 : Int) : Rat) = 1 := rfl
    split
    · grind
    · have h5 : ((z + 1 : Int) : Rat) ≤ ((0 : Int) : Rat) := Rat.intCast_le_intCast.2 (by omega)
      rw [Rat.intCast_add] at h5
      have : ((0 : Int) : Rat) = 0 := rfl
      grind
  · have h4 : ((A : Int) : Rat) ≤ (z : Rat) := Rat.intCast_le_intCast.2 (by omega)
    split
    · have h5 : ((0 : Int) : Rat) ≤ (z : Rat) := Rat.intCast_le_intCast.2 h3
      have : ((0 : Int) : Rat) = 0 := rfl
      grind
    · grind
theorem gap_div {b : Nat} {q : Rat} (hb : 1 ≤ b) (h0 : q.num ≠ 0) : (q - dv (rdD b (divD b q))) * p2 ((b : Int) - 1) ≤ absQ q := by
  have h1 := off_le b q
  have h2 := off_lt b q
  have h3 := abs_lo (b := b) h0
  have h4 := abs_hi (b := b) (q := q)
  rw [← absQ_mul] at h3 h4
  have hd : divD b q = mkD (offD b q) (-byD b q) := rfl
  rw [hd, rd_mk]
  obtain ⟨A, hA⟩ : ∃ A, 2 ^ (b - 1) = A := ⟨_, rfl⟩
  have eA : p2 ((b : Int) - 1) = (A : Rat) := by
    rw [show ((b : Int) - 1) = ((b - 1 : Nat) : Int) by omega, p2_nat, hA]
  have eB : p2 ((b : Int) + 1) = ((4 * A : Nat) : Rat) := by
    rw [show ((b : Int) + 1) = ((b - 1 + 2 : Nat) : Int) by omega, p2_nat, Nat.pow_add, hA, Nat.mul_comm]
  rw [eA]
  rw [eA] at h3
  rw [eB] at h4
  have hz := natAbs_bound h1 h2 h4
  have hx : q = q * p2 (byD b q) * p2 (-byD b q) := by
    rw [Rat.mul_assoc, ← p2_add, Int.add_right_neg, p2_zero, Rat.mul_one]
  have ha : absQ q = absQ (q * p2 (byD b q)) * p2 (-byD b q) := by rw [← absQ_mul, ← hx]
  rw [ha]
  conv => lhs; lhs; lhs; rw [hx]
  generalize q * p2 (byD b q) = x at *
  generalize offD b q = z at *
  have hA0 : (0 : Rat) ≤ (A : Rat) := Rat.natCast_nonneg
  have e : ∀ w : Rat, (x * p2 (-byD b q) - w * p2 (-byD b q)) * (A : Rat) = (x - w) * (A : Rat) * p2 (-byD b q) := fun w => by grind
  rw [e, mul_p2_le]
  rcases fall hA hb hz with h5 | ⟨h5, h6⟩
  · rw [h5]
    have h7 : (x - (z : Rat)) * (A : Rat) ≤ 1 * (A : Rat) := Rat.mul_le_mul_of_nonneg_right (by grind) hA0
    grind
  · rw [h5]
    have h7 : (x - ((z - 1 : Int) : Rat)) * (A : Rat) ≤ 2 * (A : Rat) := by
      refine Rat.mul_le_mul_of_nonneg_right ?_ hA0
      rw [Rat.intCast_sub]
      have : ((1 : Int) : Rat) = 1 := rfl
      grind
    have h8 := natAbs_big h1 h2 h6
    rw [Rat.natCast_mul] at h8
    have : ((2 : Nat) : Rat) = 2 := rfl
    grind
theorem gap_rd {b : Nat} {d : Dy} (h0 : d.m ≠ 0) : (dv d - dv (rdD b d)) * p2 ((b : Int) - 1) ≤ absQ (dv d) := by
  by_cases hf : Few b d
  · rw [rd_self hf, Rat.sub_self, Rat.zero_mul]; exact absQ_ge _
  · unfold Few at hf
    have h1 := rd_gap b d
    have h2 := av_ge h0
    have h3 : absQ (dv d) = av d := by
      have := av_pos h0
      rcases Int.lt_or_lt_of_ne h0 with h | h
      · rw [dv_neg h, absQ_neg, absQ_pos (by grind)]
      · rw [dv_pos h, absQ_pos (by grind)]
    rw [h3]
    have h4 : (dv d - dv (rdD b d)) * p2 ((b : Int) - 1) < p2 (d.e + ((bt d.m.natAbs - b : Nat) : Int)) * p2 ((b : Int) - 1) := mul_p2_lt.2 (by grind)
    rw [← p2_add] at h4
    unfold topD at h2
    rw [show d.e + ((bt d.m.natAbs - b : Nat) : Int) + ((b : Int) - 1) = (bt d.m.natAbs : Int) + d.e - 1 by omega] at h4
    grind
section
variable {b : Nat} {q : Rat}
theorem nd_ok : (ndD b q).Ok := by
  unfold ndD
  split
  · exact mk_ok _ _
  · exact mk_ok _ _
theorem zero_ok : (⟨0, 0⟩ : Dy).Ok := .inl ⟨rfl, rfl⟩
theorem nr_ok : (nrD b q).Ok := by
  unfold nrD
  split
  · exact zero_ok
  · exact rd_ok nd_ok
theorem nr_few (hb : 1 ≤ b) : Few b (nrD b q) := by
  unfold nrD
  split
  · unfold Few; rw [show ((⟨0, 0⟩ : Dy).m).natAbs = 0 from rfl, bt_zero]; omega
  · exact rd_few hb
theorem dv_nil : dv ⟨0, 0⟩ = 0 := dv_zero.2 rfl
theorem q_nil (h : q.num = 0) : q = 0 := Rat.num_eq_zero.1 h
theorem div_le : dv (rdD b (divD b q)) ≤ q := by
  refine le_of_mul (p2_pos (byD b q)) (Rat.le_trans ?_ (off_le b q))
  have h1 := rd_le b (divD b q)
  have h2 : dv (divD b q) = (offD b q : Rat) * p2 (-byD b q) := mk_dv _ _
  have h3 := mul_p2_le (e := byD b q) |>.2 h1
  rw [h2, Rat.mul_assoc, p2_neg, Rat.mul_one] at h3
  exact h3
theorem nr_le : dv (nrD b q) ≤ q := by
  unfold nrD
  split
  · rename_i h; rw [dv_nil, q_nil h]; exact Rat.le_refl
  · unfold ndD
    split
    · rename_i h
      have := rd_le b (mkD q.num (-(tl q.den : Int)))
      rw [mk_two h] at this; exact this
    · exact div_le
theorem nr_gap (hb : 1 ≤ b) : (q - dv (nrD b q)) * p2 ((b : Int) - 1) ≤ absQ q := by
  unfold nrD
  split
  · rename_i h; rw [dv_nil, q_nil h, Rat.sub_self, Rat.zero_mul]; exact absQ_ge _
  · rename_i h0
    unfold ndD
    split
    · rename_i h
      have e := mk_two h
      have := gap_rd (b := b) (d := mkD q.num (-(tl q.den : Int))) (fun h1 => h0 (by
        have := dv_zero.2 h1
        rw [e] at this; rw [this]; rfl))
      rw [e] at this; exact this
    · exact gap_div hb h0
theorem nr_of {d : Dy} (hd : d.Ok) (hf : Few b d) : nrD b (dv d) = d := by
  unfold nrD
  split
  · rename_i h
    exact (hd.zero (dv_zero.1 (q_nil h))).symm
  · have h := dv_twoDen hd
    unfold ndD
    rw [if_pos h, dv_inj (mk_ok _ _) hd (mk_two h), rd_self hf]
theorem nr_eq (hb : 1 ≤ b) : dv (nrD b q) = q ↔ dv (nuD b q) = q := by
  have key : ∀ q : Rat, dv (nrD b q) = q → dv (nrD b (-q)) = -q := fun q h => by
    have h1 := nr_of (b := b) (nr_ok (b := b) (q := q)).neg (few_neg.2 (nr_few hb))
    rw [negD_dv, h] at h1
    rw [h1, negD_dv, h]
  unfold nuD
  rw [negD_dv]
  constructor
  · intro h; rw [key q h]; grind
  · intro h
    have h1 : dv (nrD b (-q)) = -q := by grind
    have := key (-q) h1
    have e : - -q = q := by grind
    rw [e] at this; exact this
theorem nu_ge : q ≤ dv (nuD b q) := by
  unfold nuD
  rw [negD_dv]
  have := nr_le (b := b) (q := -q)
  grind
theorem nu_few (hb : 1 ≤ b) : Few b (nuD b q) := by unfold nuD; exact few_neg.2 (nr_few hb)
theorem nu_ok : (nuD b q).Ok := by unfold nuD; exact nr_ok.neg
theorem near_gap (hb : 2 ≤ b) : (dv (nuD b q) - dv (nrD b q)) * p2 (((b - 2 : Nat)) : Int) ≤ absQ q := by
  have h1 := nr_gap (q := q) (b := b) (by omega)
  have h2 := nr_gap (q := -q) (b := b) (by omega)
  rw [absQ_neg] at h2
  unfold nuD
  rw [negD_dv]
  have e : p2 ((b : Int) - 1) = 2 * p2 ((b - 2 : Nat) : Int) := by
    rw [show ((b : Int) - 1) = 1 + ((b - 2 : Nat) : Int) by omega, p2_add]; congr 1
  rw [e] at h1 h2
  generalize p2 ((b - 2 : Nat) : Int) = P at *
  generalize dv (nrD b q) = u at *
  generalize dv (nrD b (-q)) = v at *
  generalize absQ q = a at *
  grind
theorem bt_bound {x n : Nat} (h : x < 4294967296 ^ n) : bt x ≤ 32 * n := bt_le (by rw [← p32]; exact h)
theorem nd_bd {n : Nat} (hq : BQ n q) (hb : 1 ≤ b) (hb2 : b ≤ 4096) : BD (n + 1) (n + 129) (ndD b q) := by
  have h1 := bt_bound hq.1
  have h2 := bt_bound hq.2
  have h3 := bt_pos q.den_nz
  unfold ndD
  split
  · rename_i h
    unfold TwoDen at h
    refine bd_mk (by omega) ?_
    rw [natAbs_pow2, show n + 1 + (n + 129) = n + (1 + (n + 129)) by omega, Nat.pow_add]
    refine Nat.lt_of_lt_of_le (Nat.mul_lt_mul_of_pos_right hq.1 (Nat.two_pow_pos _)) (Nat.mul_le_mul_left _ ?_)
    rw [p32]; exact Nat.pow_le_pow_right (by omega) (by omega)
  · have hz := natAbs_bound (A := 2 ^ (b + 1)) (off_le b q) (off_lt b q) (by
      have := abs_hi (b := b) (q := q)
      rw [← absQ_mul] at this
      rw [show ((b : Int) + 1) = ((b + 1 : Nat) : Int) by omega, p2_nat] at this; exact this)
    refine bd_mk (z := offD b q) (by unfold byD; omega) ?_
    rw [natAbs_pow2]
    refine Nat.lt_of_le_of_lt (Nat.mul_le_mul_right _ hz) ?_
    rw [← Nat.pow_add, p32]
    exact Nat.pow_lt_pow_right (by omega) (by unfold byD; omega)
theorem BD.zero {n k : Nat} : BD n k ⟨0, 0⟩ := ⟨zero_ok, by show -(32 * (k : Int)) ≤ 0; omega, by
  unfold sc; show (0 * 2 ^ _ : Int).natAbs < _
  rw [Int.zero_mul]; exact Nat.pow_pos (by omega)⟩
theorem BD.nr {n : Nat} (hq : BQ n q) (hb : 1 ≤ b) (hb2 : b ≤ 4096) : BD (n + 2) (n + 129) (nrD b q) := by
  unfold nrD
  split
  · exact BD.zero
  · exact (nd_bd hq hb hb2).rd hb
theorem BQ.neg' {n : Nat} (hq : BQ n q) : BQ n (-q) := ⟨by rw [Rat.neg_num, Int.natAbs_neg]; exact hq.1, hq.2⟩
theorem BD.nu {n : Nat} (hq : BQ n q) (hb : 1 ≤ b) (hb2 : b ≤ 4096) : BD (n + 2) (n + 129) (nuD b q) := (BD.nr hq.neg' hb hb2).neg
end

end Go.Proofs.YtnncfbmddpijcaaGreatDoor
