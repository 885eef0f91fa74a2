
/- A polynomial, in spans. -/
import Derived.Test.YtnncfbmddpijcaaGreatDoorApp
import Derived.Test.YtnncfbmddpijcaaGreatDoorSpF
import Derived.Test.YtnncfbmddpijcaaGreatDoorSpP
namespace Go.Proofs.YtnncfbmddpijcaaGreatDoor
open Go Go.RowKit Go.Shelf AM
theorem ord_geH {p q : Rat} (h : q ≤ p) : ¬ ordQ p q < 0 := by unfold ordQ; split <;> (try split) <;> first | omega | grind
theorem nd_bd200 {b n : Nat} {q : Rat} (hq : BQ n q) (hb : 1 ≤ b) (hb2 : b ≤ 200) : BD (n + 1) (n + 8) (ndD b q) := by
  have h1 := bt_bound hq.1
  have h2 := bt_bound hq.2
  have h3 := bt_pos q.den_nz
  unfold ndD
  split
  · rename_i h
    unfold TwoDen at h
    refine bd_mk (by omega) ?_
    rw [natAbs_pow2, show n + 1 + (n + 8) = n + (1 + (n + 8)) by omega, Nat.pow_add]
    refine Nat.lt_of_lt_of_le (Nat.mul_lt_mul_of_pos_right hq.1 (Nat.two_pow_pos _)) (Nat.mul_le_mul_left _ ?_)
    rw [p32]; exact Nat.pow_le_pow_right (by omega) (by omega)
  · have hz := natAbs_bound (A := 2 ^ (b + 1)) (off_le b q) (off_lt b q) (by
      have := abs_hi (b := b) (q := q)
      rw [← absQ_mul] at this
      rw [show ((b : Int) + 1) = ((b + 1 : Nat) : Int) by omega, p2_nat] at this; exact this)
    refine bd_mk (z := offD b q) (by unfold byD; omega) ?_
    rw [natAbs_pow2]
    refine Nat.lt_of_le_of_lt (Nat.mul_le_mul_right _ hz) ?_
    rw [← Nat.pow_add, p32]
    exact Nat.pow_lt_pow_right (by omega) (by unfold byD; omega)
theorem nr_bd200 {b n : Nat} {q : Rat} (hq : BQ n q) (hb : 1 ≤ b) (hb2 : b ≤ 200) : BD (n + 2) (n + 8) (nrD b q) := by
  unfold nrD
  split
  · exact BD.zero
  · exact (nd_bd200 hq hb hb2).rd hb
theorem near_bd200 {b n : Nat} {q : Rat} (hq : BQ n q) (hb : 1 ≤ b) (hb2 : b ≤ 200) : BDp (n + 2) (n + 8) (nearP b q) := ⟨nr_bd200 hq hb hb2, (nr_bd200 hq.neg' hb hb2).neg⟩
/-- A polynomial, from its last term on: in spans, and exactly. -/
def horP (b : Nat) (x : Rat) (ts : List Rat) : Nat → Dy × Dy
  | 0 => (⟨0, 0⟩, ⟨0, 0⟩)
  | k + 1 => plusP b (mulP b (horP b x ts k) (nearP b x)) (nearP b (ts.getD (ts.length - 1 - k) 0))
def horQ (x : Rat) (ts : List Rat) : Nat → Rat
  | 0 => 0
  | k + 1 => horQ x ts k * x + ts.getD (ts.length - 1 - k) 0
theorem hor_hld {b : Nat} {x : Rat} {ts : List Rat} : ∀ k, Hld (horP b x ts k) (horQ x ts k)
  | 0 => by
    have e : dv ⟨0, 0⟩ = 0 := by decide +kernel
    exact ⟨by show dv ⟨0, 0⟩ ≤ 0; rw [e]; exact Rat.le_refl, by show 0 ≤ dv ⟨0, 0⟩; rw [e]; exact Rat.le_refl⟩
  | k + 1 => plus_hld (mul_hld (hor_hld k) near_hld) near_hld
theorem getD_bq {ts : List Rat} (ht : ∀ t ∈ ts, BQ 3 t) (j : Nat) : BQ 3 (ts.getD j 0) := by
  rw [List.getD_eq_getElem?_getD]
  cases e : ts[j]? with
  | none => exact (bq_zero : BQ 1 0).mono (by omega)
  | some z => exact ht z (List.mem_of_getElem? e)
theorem hor_mul {b : Nat} {x : Rat} {ts : List Rat} {k n e : Nat} (hb : 1 ≤ b) (hb2 : b ≤ 200) (hx : BQ 3 x) (h : BDp n e (horP b x ts k)) : BDp (n + 6) (e + 11) (mulP b (horP b x ts k) (nearP b x)) :=
  (mul_bd hb h (near_bd200 hx hb hb2)).mono (by omega) (by omega)
theorem hor_bd {b : Nat} {x : Rat} {ts : List Rat} (hb : 1 ≤ b) (hb2 : b ≤ 200) (hx : BQ 3 x) (ht : ∀ t ∈ ts, BQ 3 t) : ∀ k, BDp (8 * k) (11 * k) (horP b x ts k)
  | 0 => bdp_zero
  | k + 1 => (plus_bd hb ((hor_mul hb hb2 hx (hor_bd hb hb2 hx ht k)).mono (show 8 * k + 6 ≤ 8 * k + 6 by omega) (Nat.le_refl _)) ((near_bd200 (getD_bq ht _) hb hb2).mono (by omega) (by omega))).mono (by omega) (by omega)
theorem hor_bq {x : Rat} {ts : List Rat} (hx : BQ 3 x) (ht : ∀ t ∈ ts, BQ 3 t) : ∀ k, BQ (7 * k + 1) (horQ x ts k)
  | 0 => (bq_zero : BQ 1 0)
  | k + 1 => (((hor_bq hx ht k).mul hx).add (getD_bq ht _)).mono (by omega)
theorem nearH_f {b : Nat} {q : Rat} (hq : BQ 3 q) (hb : 2 ≤ b) (hb2 : b ≤ 200) : FitsP 4 [rq q, intS (b : Int)] [] (.tup [spQ (nearP b q), ok0]) := nearS_f hq (by omega) hb (by omega)
theorem mulH_f {b k : Nat} {x : Rat} {ts : List Rat} (hk : k ≤ 8) (hb : 2 ≤ b) (hb2 : b ≤ 200) (hx : BQ 3 x) (ht : ∀ t ∈ ts, BQ 3 t) : FitsP 11 [spQ (horP b x ts k), spQ (nearP b x), intS (b : Int)] [] (.tup [spQ (mulP b (horP b x ts k) (nearP b x)), ok0]) := by
  have h1 := hor_bd (by omega) hb2 hx ht k
  have h2 := near_bd200 (b := b) hx (by omega) hb2
  exact mulS_f h1.1 h1.2 h2.1 h2.2 (by omega) hb (by omega)
theorem addH_f {b k : Nat} {x t : Rat} {ts : List Rat} (hk : k < 8) (hb : 2 ≤ b) (hb2 : b ≤ 200) (hx : BQ 3 x) (ht : ∀ t ∈ ts, BQ 3 t) (he : ts.getD (ts.length - 1 - k) 0 = t) : FitsP 12 [spQ (mulP b (horP b x ts k) (nearP b x)), spQ (nearP b t), intS (b : Int)] [] (.tup [spQ (horP b x ts (k + 1)), ok0]) := by
  subst he
  have h1 := (hor_mul (by omega) hb2 hx (hor_bd (by omega) hb2 hx ht k)).mono (show 8 * k + 6 ≤ 8 * k + 6 by omega) (show 11 * k + 11 ≤ 11 * k + 11 by omega)
  have h2 := (near_bd200 (b := b) (getD_bq ht (ts.length - 1 - k)) (by omega) hb2).mono (show 3 + 2 ≤ 8 * k + 6 by omega) (show 3 + 8 ≤ 11 * k + 11 by omega)
  exact addS_f h1.1 h1.2 h2.1 h2.2 (by omega) hb (by omega)
theorem mulQH_f {k : Nat} {x : Rat} {ts : List Rat} (hk : k ≤ 8) (hx : BQ 3 x) (ht : ∀ t ∈ ts, BQ 3 t) : FitsP 13 [rq (horQ x ts k), rq x] [] (.tup [rq (horQ x ts k * x), ok0]) := mulQ_f (hor_bq hx ht k) hx (by omega)
theorem addQH_f {k : Nat} {x t : Rat} {ts : List Rat} (hk : k < 8) (hx : BQ 3 x) (ht : ∀ t ∈ ts, BQ 3 t) (he : ts.getD (ts.length - 1 - k) 0 = t) : FitsP 14 [rq (horQ x ts k * x), rq t] [] (.tup [rq (horQ x ts (k + 1)), ok0]) := by
  subst he
  exact addQ_f ((hor_bq hx ht k).mul hx) (getD_bq ht _) (by omega)
/-- The middle is no further off than it is wide. -/
theorem mid_off {s : Dy × Dy} {q : Rat} (h : Hld s q) : ¬ ordQ (dv (subD s.2 s.1)) (absQ (dv (mdD s.1 s.2) - q)) < 0 := by
  have h1 := h.1
  have h2 := h.2
  refine ord_geH ?_
  rw [subD_dv, mdD_dv]
  unfold absQ
  split <;> grind
end Go.Proofs.YtnncfbmddpijcaaGreatDoor
