
/- Layer 5: its own small numbers. -/
import Derived.Test.YtnncfbmddpijcaaGreatDoorDyR
import Derived.Test.YtnncfbmddpijcaaGreatDoorRatL
namespace Go.Proofs.YtnncfbmddpijcaaGreatDoor
open Go Go.RowKit Go.Shelf AM
/-! Numbers that are told. -/
instance (d : Dy) : Decidable d.Ok := by unfold Dy.Ok; exact inferInstance
theorem bd_iff {n k : Nat} {d : Dy} : (d.Ok ∧ -(32 * (k : Int)) ≤ d.e ∧ (sc k d).natAbs < 4294967296 ^ (n + k)) ↔ BD n k d := ⟨fun h => ⟨h.1, h.2.1, h.2.2⟩, fun h => ⟨h.ok, h.low, h.top⟩⟩
instance (n k : Nat) (d : Dy) : Decidable (BD n k d) := decidable_of_iff _ bd_iff
section
variable {a b c : Dy} {q : Rat}
theorem addL (c : Dy) (ha : BD 4 4 a) (hb : BD 4 4 b) (hc : c.Ok) (h : dv c = dv a + dv b) : FitsP 37 [dS a, dS b] [] (.tup [dS c, ok0]) := by
  have := addD_f ha hb (by omega)
  rw [dv_inj (show (addD a b).Ok from mk_ok _ _) hc (by rw [addD_dv, h])] at this; exact this
theorem subL (c : Dy) (ha : BD 4 4 a) (hb : BD 4 4 b) (hc : c.Ok) (h : dv c = dv a - dv b) : FitsP 43 [dS a, dS b] [] (.tup [dS c, ok0]) := by
  have := subD_f ha hb (by omega)
  rw [dv_inj (show (subD a b).Ok from mk_ok _ _) hc (by rw [subD_dv, h])] at this; exact this
theorem mulL (c : Dy) (ha : BD 4 4 a) (hb : BD 4 4 b) (hc : c.Ok) (h : dv c = dv a * dv b) : FitsP 42 [dS a, dS b] [] (.tup [dS c, ok0]) := by
  have := mulD_f ha hb (by omega)
  rw [dv_inj (show (mulD a b).Ok from mk_ok _ _) hc (by rw [mulD_dv, h])] at this; exact this
theorem ofL {n x : Int} (c : Dy) (h : inI64 n) (h1 : -100 ≤ x) (h2 : x ≤ 100) (hc : c.Ok) (hv : dv c = (n : Rat) * p2 x) (h3 : c.e ≤ 65536) : FitsP 7 [intS n, intS x] [] (.one (dS c)) := by
  have e := mk_is hc hv
  have := ofD0_f h h1 h2 (by rw [e]; exact h3)
  rw [e] at this; exact this
theorem makeL {n x : Int} (c : Dy) (h : LimI n) (h1 : -65536 ≤ x) (hc : c.Ok) (hv : dv c = (n : Rat) * p2 x) (h3 : c.e ≤ 65536) : FitsP 26 [im n, intS x] [] (.tup [dS c, ok0]) := by
  have e := mk_is hc hv
  have := makeD_f (z := n) (x := x) h1 (by rw [e]; exact h3) h
  rw [e] at this; exact this
theorem rdL_is {b : Nat} (ha : a.Ok) (hc : c.Ok) (h : dv c = ((a.m / 2 ^ (bt a.m.natAbs - b) * 2 ^ (bt a.m.natAbs - b) : Int) : Rat) * p2 a.e) : rdD b a = c := dv_inj (rd_ok ha) hc (by rw [rd_dv, h])
theorem roundL {b : Nat} {x : Int} (hx : x = (b : Int)) (c : Dy) (ha : BD 4 4 a) (hb : 2 ≤ b) (hb2 : b ≤ 4096) (hc : c.Ok) (h : dv c = ((a.m / 2 ^ (bt a.m.natAbs - b) * 2 ^ (bt a.m.natAbs - b) : Int) : Rat) * p2 a.e) : FitsP 57 [dS a, intS x, boolS false] [] (.tup [dS c, ok0]) := by
  subst hx
  have := roundDown_f ha (by omega) hb hb2
  rw [rdL_is ha.ok hc h] at this; exact this
theorem roundUL {b : Nat} {x : Int} (hx : x = (b : Int)) (c : Dy) (ha : BD 4 4 a) (hb : 2 ≤ b) (hb2 : b ≤ 4096) (hc : (negD c).Ok) (h : dv (negD c) = (((negD a).m / 2 ^ (bt (negD a).m.natAbs - b) * 2 ^ (bt (negD a).m.natAbs - b) : Int) : Rat) * p2 (negD a).e) : FitsP 57 [dS a, intS x, boolS true] [] (.tup [dS c, ok0]) := by
  subst hx
  have := roundUp_f ha (by omega) hb hb2
  rw [show ruD b a = c by unfold ruD; rw [rdL_is ha.ok.neg hc h, neg_neg]] at this; exact this
theorem nrL_is {b : Nat} (t : Nat) (h0 : q.num ≠ 0) (ht : IsTail t q.den) (hn : t ≠ bt q.den - 1) (hc : c.Ok) (h : dv c = ((offD b q / 2 ^ (bt (offD b q).natAbs - b) * 2 ^ (bt (offD b q).natAbs - b) : Int) : Rat) * p2 (-byD b q)) : nrD b q = c := by
  have h2 : ¬ TwoDen q := by unfold TwoDen; rw [(tl_is _).eq ht]; exact hn
  unfold nrD
  rw [if_neg h0, show ndD b q = mkD (offD b q) (-byD b q) from if_neg h2]
  exact dv_inj (rd_ok (mk_ok _ _)) hc (by rw [rd_mk, h])
theorem nearL {b : Nat} {x : Int} (hx : x = (b : Int)) (c : Dy) (hq : BQ 4 q) (hb : 2 ≤ b) (hb2 : b ≤ 4096) (hc : nrD b q = c) : FitsP 22 [rq q, intS x, boolS false] [] (.tup [dS c, ok0]) := by
  subst hx; subst hc; exact nearDown_f hq (by omega) hb hb2
theorem nearUL {b : Nat} {x : Int} (hx : x = (b : Int)) (c : Dy) (hq : BQ 4 q) (hb : 2 ≤ b) (hb2 : b ≤ 4096) (hc : nrD b (-q) = negD c) : FitsP 22 [rq q, intS x, boolS true] [] (.tup [dS c, ok0]) := by
  subst hx
  have := nearUp_f hq (by omega) hb hb2
  rw [show nuD b q = c by unfold nuD; rw [hc, neg_neg]] at this; exact this
theorem ratioL (q : Rat) (ha : BD 4 4 a) (h : dv a = q) : FitsP 18 [dS a] [] (.tup [rq q, ok0]) := by subst h; exact ratioD_f ha (by omega)
theorem isTail_lit {t x : Nat} (m : Nat) (h : x = 2 ^ t * (2 * m + 1)) : IsTail t x := .inr ⟨m, h⟩
end

instance : DecidableEq Dy := fun a b => decidable_of_iff (a.m = b.m ∧ a.e = b.e) ⟨fun h => by obtain ⟨m, e⟩ := a; obtain ⟨m', e'⟩ := b; simp at h; rw [h.1, h.2], fun h => by rw [h]; exact ⟨rfl, rfl⟩⟩
instance (n : Nat) (q : Rat) : Decidable (BQ n q) := by unfold BQ; exact inferInstance

end Go.Proofs.YtnncfbmddpijcaaGreatDoor
