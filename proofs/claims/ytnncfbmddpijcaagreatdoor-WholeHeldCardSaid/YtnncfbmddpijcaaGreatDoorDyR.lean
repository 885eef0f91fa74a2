
/- Dyads: rounded, and as ratios. -/
import Derived.Test.YtnncfbmddpijcaaGreatDoorDyF
namespace Go.Proofs.YtnncfbmddpijcaaGreatDoor
open Go Go.RowKit Go.Shelf AM
theorem oneW_f : FitsP 32 [rawS (.int .u64 1)] [] (.one (natS 1)) := of_f (x := 1) (by decide)
theorem dv_rqUp {d : Dy} {k : Nat} (h : d.e = k) : rq (dv d) = rz (d.m * 2 ^ k) 1 := rq_lit (dv_up h).1 (dv_up h).2
theorem dv_rqDown {d : Dy} {k : Nat} (ho : d.Ok) (h : d.e = -(k : Int)) : rq (dv d) = rz d.m (2 ^ k) := rq_lit (dv_down ho h).1 (dv_down ho h).2
theorem one_pow (k : Nat) : 1 * 2 ^ k = 2 ^ k := Nat.one_mul _

set_option maxRecDepth 100000 in
theorem ratioUp_f {a : Dy} {k : Nat} (h : a.e = k) (hk : k ≤ 1000000) (hl : LimI (a.m * 2 ^ k)) : FitsP 18 [dS a] [] (.tup [rz (a.m * 2 ^ k) 1, ok0]) := by
  have hT : AllOk Tryz.prog Glob [
    Tr.norm 5 (Av.one (Sv.cel (Cv.raw (Value.bool (decide (Dy.e a ≥ (0 : Int))))))) (Av.one (boolS true)),
    Tr.call 44 [Sv.agg [Cv.raw (Value.bool (decide (Dy.m a < (0 : Int)))), Cv.ent (nat (Int.natAbs (Dy.m a)))], intS (Dy.e a)] [] (Av.tup [Sv.agg [Cv.raw (Value.bool (decide (Dy.m a * (2 : Int) ^ k < (0 : Int)))), Cv.ent (nat (Int.natAbs (Dy.m a * (2 : Int) ^ k)))], ok0]),
    Tr.call 45 [Sv.agg [Cv.raw (Value.bool (decide (Dy.m a * (2 : Int) ^ k < (0 : Int)))), Cv.ent (nat (Int.natAbs (Dy.m a * (2 : Int) ^ k)))]] [] (Av.one (Sv.agg [Cv.raw (Value.bool (decide (Dy.m a * (2 : Int) ^ k < (0 : Int)))), Cv.ent (nat (Int.natAbs (Dy.m a * (2 : Int) ^ k))), Cv.ent (nat (1 : Nat))]))] := ⟨
    norm_bool (decide_eq_true (show a.e ≥ 0 by omega)),
    leftW_f h (by omega) hl,
    wholeQ_f, trivial⟩
  exact fits_of_trace (n := 300) (k0 := 0) hT Tryz.func18 (by kernel_rfl) (by kernel_rfl) (by kernel_rfl)

set_option maxRecDepth 100000 in
theorem ratioDown_f {a : Dy} {k : Nat} (h : a.e = -(k : Int)) (h0 : 0 < k) (hk : k ≤ 1000000) (hl : 2 ^ k < Lim) : FitsP 18 [dS a] [] (.tup [rz a.m (2 ^ k), ok0]) := by
  have hT : AllOk Tryz.prog Glob [
    Tr.norm 5 (Av.one (Sv.cel (Cv.raw (Value.bool (decide (Dy.e a ≥ (0 : Int))))))) (Av.one (boolS false)),
    Tr.call 32 [Sv.cel (Cv.raw (Value.int IntKind.u64 (Int.ofNat (nat_lit 1))))] [] (Av.one (natS (1 : Nat))),
    Tr.call 46 [natS (1 : Nat), intS (IntKind.wrap IntKind.i64 ((0 : Int) - Dy.e a))] [] (Av.tup [natS ((1 : Nat) * (2 : Nat) ^ k), ok0]),
    Tr.call 47 [Sv.agg [Cv.raw (Value.bool (decide (Dy.m a < (0 : Int)))), Cv.ent (nat (Int.natAbs (Dy.m a)))]] [] (Av.one (Sv.agg [Cv.raw (Value.bool (decide (Dy.m a < (0 : Int)))), Cv.ent (nat (Int.natAbs (Dy.m a)))]))] := ⟨
    norm_bool (decide_eq_false (show ¬ a.e ≥ 0 by omega)),
    oneW_f,
    leftN_f (by rw [w64s (by omega) (by omega)]; omega) (by omega) (by rw [Nat.one_mul]; exact hl),
    copyI_f, trivial⟩
  exact Fits.res (r := (.tup [Sv.agg [Cv.raw (Value.bool (decide (Dy.m a < (0 : Int)))), Cv.ent (nat (Int.natAbs (Dy.m a))), Cv.ent (nat ((1 : Nat) * (2 : Nat) ^ k))], ok0])) (fits_of_trace (n := 300) (k0 := 0) hT Tryz.func18 (by kernel_rfl) (by kernel_rfl) (by kernel_rfl)) (Norm.of_eq (by rw [Nat.one_mul]; rfl))

theorem ratioD_f {a : Dy} {n k : Nat} (ha : BD n k a) (hk : n + k + 1 ≤ 512) : FitsP 18 [dS a] [] (.tup [rq (dv a), ok0]) := by
  have hb := ha.bq
  have hr := ha.range (by omega)
  rcases Int.lt_or_le a.e 0 with h | h
  · obtain ⟨j, hj⟩ : ∃ j : Nat, a.e = -(j : Int) := ⟨a.e.natAbs, by omega⟩
    have := hb.den hk
    rw [(dv_down ha.ok hj).2] at this
    rw [dv_rqDown ha.ok hj]
    exact ratioDown_f hj (by omega) (by omega) this
  · obtain ⟨j, hj⟩ : ∃ j : Nat, a.e = (j : Int) := ⟨a.e.natAbs, by omega⟩
    have := hb.num hk
    rw [(dv_up hj).1] at this
    rw [dv_rqUp hj]
    exact ratioUp_f hj (by omega) this

set_option maxRecDepth 100000 in
theorem turned_f {a : Dy} {c : Int} : FitsP 54 [dS a, intS c] [] (.tup [dS (negD a), intS c]) := by
  have hT : AllOk Tryz.prog Glob [
    Tr.call 83 [dS a] [] (Av.one (dS (negD a)))] := ⟨
    negD_f, trivial⟩
  exact fits_of_trace (n := 300) (k0 := 0) hT Tryz.func54 (by kernel_rfl) (by kernel_rfl) (by kernel_rfl)

theorem over_w {x b : Nat} (h : x < Lim) (hb : b ≤ 4096) : IntKind.i64.wrap ((bt x : Int) - (b : Int)) = (bt x : Int) - (b : Int) := by
  have := bt_lim h
  exact w64s (by omega) (by omega)
theorem over_no {x b : Nat} (h : x < Lim) (hb : b ≤ 4096) (hf : bt x ≤ b) : decide (IntKind.i64.wrap ((bt x : Int) - (b : Int)) ≤ 0) = true := by rw [over_w h hb]; exact decide_eq_true (by omega)
theorem over_yes {x b : Nat} (h : x < Lim) (hb : b ≤ 4096) (hf : ¬ bt x ≤ b) : decide (IntKind.i64.wrap ((bt x : Int) - (b : Int)) ≤ 0) = false := by rw [over_w h hb]; exact decide_eq_false (by omega)

set_option maxRecDepth 100000 in
theorem roundSame_false {a : Dy} {b : Nat} {n k : Nat} (ha : BD n k a) (hk : n + k + 1 ≤ 512) (hb : 2 ≤ b) (hb2 : b ≤ 4096) (hf : Few b a) : FitsP 57 [dS a, intS (b : Int), boolS false] [] (.tup [dS a, ok0]) := by
  have hT : AllOk Tryz.prog Glob [
    Tr.call 52 [intS (↑b : Int)] [] (Av.one (boolS true)),
    Tr.call 65 [natS (Int.natAbs (Dy.m a))] [] (Av.one (Sv.cel (Cv.raw (Value.int IntKind.i64 (↑(bt (Int.natAbs (Dy.m a))) : Int))))),
    Tr.norm 14 (Av.one (Sv.cel (Cv.raw (Value.bool (decide (IntKind.wrap IntKind.i64 ((↑(bt (Int.natAbs (Dy.m a))) : Int) - (↑b : Int)) ≤ (0 : Int))))))) (Av.one (boolS true)),
    Tr.call 85 [dS a] [] (Av.one (dS a))] := ⟨
    mayBits_yes (by omega) (by omega),
    bits_is rfl,
    norm_bool (over_no (lim_of ha.man (by omega)) hb2 hf),
    copyD_f, trivial⟩
  exact fits_of_trace (n := 300) (k0 := 0) hT Tryz.func57 (by kernel_rfl) (by kernel_rfl) (by kernel_rfl)

set_option maxRecDepth 100000 in
theorem roundSame_true {a : Dy} {b : Nat} {n k : Nat} (ha : BD n k a) (hk : n + k + 1 ≤ 512) (hb : 2 ≤ b) (hb2 : b ≤ 4096) (hf : Few b a) : FitsP 57 [dS a, intS (b : Int), boolS true] [] (.tup [dS a, ok0]) := by
  have hT : AllOk Tryz.prog Glob [
    Tr.call 52 [intS (↑b : Int)] [] (Av.one (boolS true)),
    Tr.call 65 [natS (Int.natAbs (Dy.m a))] [] (Av.one (Sv.cel (Cv.raw (Value.int IntKind.i64 (↑(bt (Int.natAbs (Dy.m a))) : Int))))),
    Tr.norm 14 (Av.one (Sv.cel (Cv.raw (Value.bool (decide (IntKind.wrap IntKind.i64 ((↑(bt (Int.natAbs (Dy.m a))) : Int) - (↑b : Int)) ≤ (0 : Int))))))) (Av.one (boolS true)),
    Tr.call 85 [dS a] [] (Av.one (dS a))] := ⟨
    mayBits_yes (by omega) (by omega),
    bits_is rfl,
    norm_bool (over_no (lim_of ha.man (by omega)) hb2 hf),
    copyD_f, trivial⟩
  exact fits_of_trace (n := 300) (k0 := 0) hT Tryz.func57 (by kernel_rfl) (by kernel_rfl) (by kernel_rfl)

theorem roundMk {a : Dy} {b n k : Nat} (ha : BD n k a) (hk : n + k + 1 ≤ 512) (hb : 1 ≤ b) (hb2 : b ≤ 4096) (hf : ¬ Few b a) : FitsP 26 [im (a.m / 2 ^ (bt a.m.natAbs - b)), intS (IntKind.i64.wrap (a.e + IntKind.i64.wrap ((bt a.m.natAbs : Int) - (b : Int))))] [] (.tup [dS (rdD b a), ok0]) := by
  have hm := bt_lim (lim_of ha.man (show n + k ≤ 512 by omega))
  have hr := ha.range (by omega)
  have hd := (ha.rd (b := b) hb).high
  rw [show rdD b a = mkD (a.m / 2 ^ (bt a.m.natAbs - b)) (a.e + ((bt a.m.natAbs - b : Nat) : Int)) from if_neg hf] at *
  unfold Few at hf
  refine makeW_f ?_ (by omega) (by omega) ?_
  · rw [over_w (lim_of ha.man (by omega)) hb2, w64s (by omega) (by omega)]; omega
  · exact Nat.lt_of_le_of_lt (Int.natAbs_ediv_le_natAbs _ _) (lim_of ha.man (by omega))
set_option maxRecDepth 100000 in
theorem roundCut_f {a : Dy} {b : Nat} {n k : Nat} (ha : BD n k a) (hk : n + k + 1 ≤ 512) (hb : 2 ≤ b) (hb2 : b ≤ 4096) (hf : ¬ Few b a) : FitsP 57 [dS a, intS (b : Int), boolS false] [] (.tup [dS (rdD b a), ok0]) := by
  have hT : AllOk Tryz.prog Glob [
    Tr.call 52 [intS (↑b : Int)] [] (Av.one (boolS true)),
    Tr.call 65 [natS (Int.natAbs (Dy.m a))] [] (Av.one (Sv.cel (Cv.raw (Value.int IntKind.i64 (↑(bt (Int.natAbs (Dy.m a))) : Int))))),
    Tr.norm 14 (Av.one (Sv.cel (Cv.raw (Value.bool (decide (IntKind.wrap IntKind.i64 ((↑(bt (Int.natAbs (Dy.m a))) : Int) - (↑b : Int)) ≤ (0 : Int))))))) (Av.one (boolS false)),
    Tr.call 64 [Sv.agg [Cv.raw (Value.bool (decide (Dy.m a < (0 : Int)))), Cv.ent (nat (Int.natAbs (Dy.m a)))], Sv.cel (Cv.raw (Value.int IntKind.i64 (IntKind.wrap IntKind.i64 ((↑(bt (Int.natAbs (Dy.m a))) : Int) - (↑b : Int)))))] [] (Av.tup [Sv.agg [Cv.raw (Value.bool (decide (Dy.m a / (2 : Int) ^ (bt (Int.natAbs (Dy.m a)) - b) < (0 : Int)))), Cv.ent (nat (Int.natAbs (Dy.m a / (2 : Int) ^ (bt (Int.natAbs (Dy.m a)) - b))))], ok0]),
    Tr.call 26 [Sv.agg [Cv.raw (Value.bool (decide (Dy.m a / (2 : Int) ^ (bt (Int.natAbs (Dy.m a)) - b) < (0 : Int)))), Cv.ent (nat (Int.natAbs (Dy.m a / (2 : Int) ^ (bt (Int.natAbs (Dy.m a)) - b))))], Sv.cel (Cv.raw (Value.int IntKind.i64 (IntKind.wrap IntKind.i64 (Dy.e a + IntKind.wrap IntKind.i64 ((↑(bt (Int.natAbs (Dy.m a))) : Int) - (↑b : Int))))))] [] (Av.tup [dS (rdD b a), ok0])] := ⟨
    mayBits_yes (by omega) (by omega),
    bits_is rfl,
    norm_bool (over_yes (lim_of ha.man (by omega)) hb2 hf),
    rightW_f (j := bt a.m.natAbs - b) (by rw [over_w (lim_of ha.man (by omega)) hb2]; unfold Few at hf; omega) (by have := bt_lim (lim_of ha.man (show n + k ≤ 512 by omega)); omega) (lim_of ha.man (by omega)),
    roundMk ha hk (by omega) hb2 hf, trivial⟩
  exact fits_of_trace (n := 300) (k0 := 0) hT Tryz.func57 (by kernel_rfl) (by kernel_rfl) (by kernel_rfl)

theorem roundDown_f {a : Dy} {b n k : Nat} (ha : BD n k a) (hk : n + k + 1 ≤ 512) (hb : 2 ≤ b) (hb2 : b ≤ 4096) : FitsP 57 [dS a, intS (b : Int), boolS false] [] (.tup [dS (rdD b a), ok0]) := by
  by_cases hf : Few b a
  · rw [rd_self hf]; exact roundSame_false ha hk hb hb2 hf
  · exact roundCut_f ha hk hb hb2 hf

set_option maxRecDepth 100000 in
theorem roundTurn_f {a : Dy} {b : Nat} {n k : Nat} (ha : BD n k a) (hk : n + k + 1 ≤ 512) (hb : 2 ≤ b) (hb2 : b ≤ 4096) (hf : ¬ Few b a) : FitsP 57 [dS a, intS (b : Int), boolS true] [] (.tup [dS (ruD b a), ok0]) := by
  have hT : AllOk Tryz.prog Glob [
    Tr.call 52 [intS (↑b : Int)] [] (Av.one (boolS true)),
    Tr.call 65 [natS (Int.natAbs (Dy.m a))] [] (Av.one (Sv.cel (Cv.raw (Value.int IntKind.i64 (↑(bt (Int.natAbs (Dy.m a))) : Int))))),
    Tr.norm 14 (Av.one (Sv.cel (Cv.raw (Value.bool (decide (IntKind.wrap IntKind.i64 ((↑(bt (Int.natAbs (Dy.m a))) : Int) - (↑b : Int)) ≤ (0 : Int))))))) (Av.one (boolS false)),
    Tr.call 83 [dS a] [] (Av.one (dS (negD a))),
    Tr.call 57 [dS (negD a), intS (↑b : Int), boolS false] [] (Av.tup [dS (rdD b (negD a)), ok0]),
    Tr.call 54 [dS (rdD b (negD a)), ok0] [] (Av.tup [dS (ruD b a), ok0])] := ⟨
    mayBits_yes (by omega) (by omega),
    bits_is rfl,
    norm_bool (over_yes (lim_of ha.man (by omega)) hb2 hf),
    negD_f,
    roundDown_f ha.neg hk hb hb2,
    turned_f, trivial⟩
  exact fits_of_trace (n := 300) (k0 := 0) hT Tryz.func57 (by kernel_rfl) (by kernel_rfl) (by kernel_rfl)

theorem roundUp_f {a : Dy} {b n k : Nat} (ha : BD n k a) (hk : n + k + 1 ≤ 512) (hb : 2 ≤ b) (hb2 : b ≤ 4096) : FitsP 57 [dS a, intS (b : Int), boolS true] [] (.tup [dS (ruD b a), ok0]) := by
  by_cases hf : Few b a
  · rw [ru_self hf]; exact roundSame_true ha hk hb hb2 hf
  · exact roundTurn_f ha hk hb hb2 hf

set_option maxRecDepth 100000 in
theorem roundBad_f {a : Dy} {x : Int} {u : Bool} (h : ¬ (2 ≤ x ∧ x ≤ 4096)) : FitsP 57 [dS a, intS x, boolS u] [] (.tup [dS ⟨0, 0⟩, intS 1]) := by
  have hT : AllOk Tryz.prog Glob [
    Tr.call 52 [intS x] [] (Av.one (boolS false))] := ⟨
    mayBits_no h, trivial⟩
  exact Fits.res (r := (.tup [Sv.agg [Cv.raw (Value.bool false), Cv.raw (Value.slice none (nat_lit 0) (nat_lit 0)), Cv.raw (Value.int IntKind.i64 (Int.ofNat (nat_lit 0)))], intS (Int.ofNat (nat_lit 1))])) (fits_of_trace (n := 300) (k0 := 0) hT Tryz.func57 (by kernel_rfl) (by kernel_rfl) (by kernel_rfl)) (norm_dN2)

theorem bt_den1 (q : Rat) : 1 ≤ bt q.den := bt_pos q.den_nz
section
variable {q : Rat} {b n : Nat}
theorem BQ.btn (hq : BQ n q) : bt q.num.natAbs ≤ 32 * n := bt_bound hq.1
theorem BQ.btd (hq : BQ n q) : bt q.den ≤ 32 * n := bt_bound hq.2
theorem tl_lt (q : Rat) : tl q.den < bt q.den := by
  rcases tl_is q.den with ⟨h, _⟩ | ⟨m, h⟩
  · exact absurd h q.den_nz
  · have h1 := bt_lt q.den
    have h2 : 2 ^ tl q.den ≤ q.den := by
      conv => rhs; rw [h]
      exact Nat.le_mul_of_pos_right _ (by omega)
    exact (Nat.pow_lt_pow_iff_right (a := 2) (by omega)).1 (Nat.lt_of_le_of_lt h2 h1)
theorem two_yes (hq : BQ n q) (hn : n ≤ 64) (h : TwoDen q) : (((tl q.den : Nat) : Int) == IntKind.i64.wrap ((bt q.den : Int) - 1)) = true := by
  have := hq.btd
  have := bt_den1 q
  unfold TwoDen at h
  rw [w64s (by omega) (by omega), beq_iff_eq]; omega
theorem two_no (hq : BQ n q) (hn : n ≤ 64) (h : ¬ TwoDen q) : (((tl q.den : Nat) : Int) == IntKind.i64.wrap ((bt q.den : Int) - 1)) = false := by
  have := hq.btd
  have := bt_den1 q
  unfold TwoDen at h
  rw [w64s (by omega) (by omega), beq_eq_false_iff_ne]; omega
theorem by_w (hq : BQ n q) (hn : n ≤ 64) (hb2 : b ≤ 4096) : IntKind.i64.wrap (IntKind.i64.wrap ((b : Int) + (bt q.den : Int)) - (bt q.num.natAbs : Int)) = byD b q := by
  have := hq.btd
  have := hq.btn
  unfold byD
  rw [w64s (z := (b : Int) + (bt q.den : Int)) (by omega) (by omega), w64s (by omega) (by omega)]
theorem by_range (hq : BQ n q) (hn : n ≤ 64) (hb2 : b ≤ 4096) : -2048 ≤ byD b q ∧ byD b q ≤ 6144 := by
  have := hq.btd
  have := hq.btn
  unfold byD
  omega
theorem pow_le32 {t m : Nat} (h : t ≤ 32 * m) : 2 ^ t ≤ 4294967296 ^ m := by rw [p32]; exact Nat.pow_le_pow_right (by omega) h
theorem div_num (hq : BQ n q) (hn : n ≤ 64) (hb2 : b ≤ 4096) : LimI (q.num * 2 ^ (max (byD b q) 0).toNat) := by
  have h1 := by_range hq hn hb2
  unfold LimI
  rw [natAbs_pow2]
  refine lim_of (n := n + 192) ?_ (by omega)
  rw [Nat.pow_add]
  refine Nat.lt_of_lt_of_le (Nat.mul_lt_mul_of_pos_right hq.1 (Nat.two_pow_pos _)) (Nat.mul_le_mul_left _ ?_)
  exact pow_le32 (by omega)
theorem div_den (hq : BQ n q) (hn : n ≤ 64) (hb2 : b ≤ 4096) : q.den * 2 ^ (max (-byD b q) 0).toNat < Lim := by
  have h1 := by_range hq hn hb2
  refine lim_of (n := n + 64) ?_ (by omega)
  rw [Nat.pow_add]
  refine Nat.lt_of_lt_of_le (Nat.mul_lt_mul_of_pos_right hq.2 (Nat.two_pow_pos _)) (Nat.mul_le_mul_left _ ?_)
  exact pow_le32 (by omega)
theorem divP_f {z : Int} {d : Nat} {r : Int} (h1 : LimI z) (h2 : d < Lim) (h0 : 0 < d) (hr : z / (d : Int) = r) : FitsP 86 [im z, pn d] [] (.tup [im r, im (z % (d : Int)), ok0]) := by
  subst hr
  rw [← im_pn]
  exact divI_f h1 (by unfold LimI; rw [Int.natAbs_natCast]; exact h2) (by omega)
theorem off_eq (b : Nat) (q : Rat) : q.num * 2 ^ (max (byD b q) 0).toNat / ((q.den * 2 ^ (max (-byD b q) 0).toNat : Nat) : Int) = offD b q := by
  unfold offD
  rw [Int.natCast_mul, pow2_cast]
theorem nd_high (hq : BQ n q) (hb : 1 ≤ b) (hb2 : b ≤ 4096) : (ndD b q).e ≤ 32 * ((n + 1 : Nat) : Int) := (nd_bd hq hb hb2).high
theorem off_lim (hq : BQ n q) (hn : n ≤ 64) (hb2 : b ≤ 4096) : LimI (offD b q) := Nat.lt_of_le_of_lt (Int.natAbs_ediv_le_natAbs _ _) (div_num hq hn hb2)
end

theorem divMk {q : Rat} {b n : Nat} (hq : BQ n q) (hn : n ≤ 64) (hb : 2 ≤ b) (hb2 : b ≤ 4096) (h : ¬ TwoDen q) : FitsP 26 [im (offD b q), intS (IntKind.i64.wrap (0 - IntKind.i64.wrap (IntKind.i64.wrap ((b : Int) + (bt q.den : Int)) - (bt q.num.natAbs : Int))))] [] (.tup [dS (ndD b q), ok0]) := by
  have h1 := by_range hq hn hb2
  have h2 := nd_high hq (by omega) hb2
  rw [show ndD b q = mkD (offD b q) (-byD b q) from if_neg h] at *
  exact makeW_f (by rw [by_w hq hn hb2, w64s (by omega) (by omega)]; omega) (by omega) (by omega) (off_lim hq hn hb2)
set_option maxRecDepth 100000 in
theorem divided_f {q : Rat} {b n : Nat} (hq : BQ n q) (hn : n ≤ 64) (hb : 2 ≤ b) (hb2 : b ≤ 4096) (h : ¬ TwoDen q) : FitsP 84 [rq q, intS (b : Int)] [] (.tup [dS (ndD b q), ok0]) := by
  have hT : AllOk Tryz.prog Glob [
    Tr.call 65 [natS (Rat.den q)] [] (Av.one (intS (↑(bt (Rat.den q)) : Int))),
    Tr.call 65 [natS (Int.natAbs (Rat.num q))] [] (Av.one (Sv.cel (Cv.raw (Value.int IntKind.i64 (↑(bt (Int.natAbs (Rat.num q))) : Int))))),
    Tr.prim 17 (Op.call { callee := Callee.builtin Builtin.max, args := #[Operand.tmp 25, Operand.const (Value.int IntKind.i64 (0 : Int))], argTypes := #[(3 : Nat), (3 : Nat)] }) (nat_lit 3) [Value.int IntKind.i64 (IntKind.wrap IntKind.i64 (IntKind.wrap IntKind.i64 ((↑b : Int) + (↑(bt (Rat.den q)) : Int)) - (↑(bt (Int.natAbs (Rat.num q))) : Int))), Value.int IntKind.i64 (Int.ofNat (nat_lit 0))] (Value.int IntKind.i64 (max (byD b q) (0 : Int))),
    Tr.call 44 [Sv.agg [Cv.raw (Value.bool (decide (Rat.num q < (0 : Int)))), Cv.ent (nat (Int.natAbs (Rat.num q)))], intS (max (byD b q) (0 : Int))] [] (Av.tup [Sv.agg [Cv.raw (Value.bool (decide (Rat.num q * (2 : Int) ^ Int.toNat (max (byD b q) (0 : Int)) < (0 : Int)))), Cv.ent (nat (Int.natAbs (Rat.num q * (2 : Int) ^ Int.toNat (max (byD b q) (0 : Int)))))], ok0]),
    Tr.prim 31 (Op.call { callee := Callee.builtin Builtin.max, args := #[Operand.tmp 38, Operand.const (Value.int IntKind.i64 (0 : Int))], argTypes := #[(3 : Nat), (3 : Nat)] }) (nat_lit 3) [Value.int IntKind.i64 (IntKind.wrap IntKind.i64 ((0 : Int) - IntKind.wrap IntKind.i64 (IntKind.wrap IntKind.i64 ((↑b : Int) + (↑(bt (Rat.den q)) : Int)) - (↑(bt (Int.natAbs (Rat.num q))) : Int)))), Value.int IntKind.i64 (Int.ofNat (nat_lit 0))] (Value.int IntKind.i64 (max (-byD b q) (0 : Int))),
    Tr.call 46 [natS (Rat.den q), intS (max (-byD b q) (0 : Int))] [] (Av.tup [natS (Rat.den q * (2 : Nat) ^ Int.toNat (max (-byD b q) (0 : Int))), ok0]),
    Tr.call 86 [Sv.agg [Cv.raw (Value.bool (decide (Rat.num q * (2 : Int) ^ Int.toNat (max (byD b q) (0 : Int)) < (0 : Int)))), Cv.ent (nat (Int.natAbs (Rat.num q * (2 : Int) ^ Int.toNat (max (byD b q) (0 : Int)))))], Sv.agg [Cv.raw (Value.bool false), Cv.ent (nat (Rat.den q * (2 : Nat) ^ Int.toNat (max (-byD b q) (0 : Int))))]] [] (Av.tup [Sv.agg [Cv.raw (Value.bool (decide (offD b q < (0 : Int)))), Cv.ent (nat (Int.natAbs (offD b q)))], Sv.agg [Cv.raw (Value.bool (decide (Rat.num q * (2 : Int) ^ Int.toNat (max (byD b q) (0 : Int)) % (↑(Rat.den q * (2 : Nat) ^ Int.toNat (max (-byD b q) (0 : Int))) : Int) < (0 : Int)))), Cv.ent (nat (Int.natAbs (Rat.num q * (2 : Int) ^ Int.toNat (max (byD b q) (0 : Int)) % (↑(Rat.den q * (2 : Nat) ^ Int.toNat (max (-byD b q) (0 : Int))) : Int))))], ok0]),
    Tr.call 26 [Sv.agg [Cv.raw (Value.bool (decide (offD b q < (0 : Int)))), Cv.ent (nat (Int.natAbs (offD b q)))], Sv.cel (Cv.raw (Value.int IntKind.i64 (IntKind.wrap IntKind.i64 ((0 : Int) - IntKind.wrap IntKind.i64 (IntKind.wrap IntKind.i64 ((↑b : Int) + (↑(bt (Rat.den q)) : Int)) - (↑(bt (Int.natAbs (Rat.num q))) : Int))))))] [] (Av.tup [dS (ndD b q), ok0])] := ⟨
    bits_is rfl,
    bits_is rfl,
    prim_max (by rw [by_w hq hn hb2]; rfl),
    leftW_f (by omega) (by have := by_range hq hn hb2; omega) (div_num hq hn hb2),
    prim_max (by rw [by_w hq hn hb2, w64s (by have := by_range hq hn hb2; omega) (by have := by_range hq hn hb2; omega)]; show max (0 - byD b q) 0 = max (-byD b q) 0; omega),
    leftN_f (by omega) (by have := by_range hq hn hb2; omega) (div_den hq hn hb2),
    divP_f (div_num hq hn hb2) (div_den hq hn hb2) (Nat.mul_pos (Nat.pos_of_ne_zero q.den_nz) (Nat.two_pow_pos _)) (off_eq b q),
    divMk hq hn hb hb2 h, trivial⟩
  exact fits_of_trace (n := 300) (k0 := 0) hT Tryz.func84 (by kernel_rfl) (by kernel_rfl) (by kernel_rfl)

theorem twoMk {q : Rat} {b n : Nat} (hq : BQ n q) (hn : n ≤ 64) (hb : 2 ≤ b) (hb2 : b ≤ 4096) (h : TwoDen q) : FitsP 26 [im q.num, intS (IntKind.i64.wrap (0 - (tl q.den : Int)))] [] (.tup [dS (ndD b q), ok0]) := by
  have h1 := tl_lt q
  have h3 := hq.btd
  have h2 := nd_high hq (by omega) hb2
  rw [show ndD b q = mkD q.num (-(tl q.den : Int)) from if_pos h] at *
  exact makeW_f (by rw [w64s (by omega) (by omega)]; omega) (by omega) (by omega) (hq.num (by omega))
set_option maxRecDepth 100000 in
theorem nearly1_f {q : Rat} {b n : Nat} (hq : BQ n q) (hn : n ≤ 64) (hb : 2 ≤ b) (hb2 : b ≤ 4096) (h : TwoDen q) : FitsP 56 [rq q, intS (b : Int)] [] (.tup [dS (ndD b q), ok0]) := by
  have hT : AllOk Tryz.prog Glob [
    Tr.call 62 [natS (Rat.den q)] [] (Av.one (intS (↑(tl (Rat.den q)) : Int))),
    Tr.call 65 [natS (Rat.den q)] [] (Av.one (intS (↑(bt (Rat.den q)) : Int))),
    Tr.norm 12 (Av.one (Sv.cel (Cv.raw (Value.bool ((↑(tl (Rat.den q)) : Int) == IntKind.wrap IntKind.i64 ((↑(bt (Rat.den q)) : Int) - (1 : Int))))))) (Av.one (boolS true)),
    Tr.call 26 [Sv.agg [Cv.raw (Value.bool (decide (Rat.num q < (0 : Int)))), Cv.ent (nat (Int.natAbs (Rat.num q)))], Sv.cel (Cv.raw (Value.int IntKind.i64 (IntKind.wrap IntKind.i64 ((0 : Int) - (↑(tl (Rat.den q)) : Int)))))] [] (Av.tup [dS (ndD b q), ok0])] := ⟨
    tail_f (tl_is _),
    bits_is rfl,
    norm_bool (two_yes hq hn h),
    twoMk hq hn hb hb2 h, trivial⟩
  exact fits_of_trace (n := 300) (k0 := 0) hT Tryz.func56 (by kernel_rfl) (by kernel_rfl) (by kernel_rfl)

set_option maxRecDepth 100000 in
theorem nearly2_f {q : Rat} {b n : Nat} (hq : BQ n q) (hn : n ≤ 64) (hb : 2 ≤ b) (hb2 : b ≤ 4096) (h : ¬ TwoDen q) : FitsP 56 [rq q, intS (b : Int)] [] (.tup [dS (ndD b q), ok0]) := by
  have hT : AllOk Tryz.prog Glob [
    Tr.call 62 [natS (Rat.den q)] [] (Av.one (intS (↑(tl (Rat.den q)) : Int))),
    Tr.call 65 [natS (Rat.den q)] [] (Av.one (intS (↑(bt (Rat.den q)) : Int))),
    Tr.norm 12 (Av.one (Sv.cel (Cv.raw (Value.bool ((↑(tl (Rat.den q)) : Int) == IntKind.wrap IntKind.i64 ((↑(bt (Rat.den q)) : Int) - (1 : Int))))))) (Av.one (boolS false)),
    Tr.call 84 [rq q, intS (↑b : Int)] [] (Av.tup [dS (ndD b q), ok0])] := ⟨
    tail_f (tl_is _),
    bits_is rfl,
    norm_bool (two_no hq hn h),
    divided_f hq hn hb hb2 h, trivial⟩
  exact fits_of_trace (n := 300) (k0 := 0) hT Tryz.func56 (by kernel_rfl) (by kernel_rfl) (by kernel_rfl)

theorem nearly_f {q : Rat} {b n : Nat} (hq : BQ n q) (hn : n ≤ 64) (hb : 2 ≤ b) (hb2 : b ≤ 4096) : FitsP 56 [rq q, intS (b : Int)] [] (.tup [dS (ndD b q), ok0]) := by
  by_cases h : TwoDen q
  · exact nearly1_f hq hn hb hb2 h
  · exact nearly2_f hq hn hb hb2 h

set_option maxRecDepth 100000 in
theorem nearZero_false {b : Nat} (hb : 2 ≤ b) (hb2 : b ≤ 4096) : FitsP 22 [rq 0, intS (b : Int), boolS false] [] (.tup [dS ⟨0, 0⟩, ok0]) := by
  have hT : AllOk Tryz.prog Glob [
    Tr.call 52 [intS (↑b : Int)] [] (Av.one (boolS true)),
    Tr.call 53 [rq (0 : Rat)] [] (Av.one (ok0))] := ⟨
    mayBits_yes (by omega) (by omega),
    signQ_is rfl, trivial⟩
  exact Fits.res (r := (.tup [Sv.agg [Cv.raw (Value.bool false), Cv.raw (Value.slice none (nat_lit 0) (nat_lit 0)), Cv.raw (Value.int IntKind.i64 (Int.ofNat (nat_lit 0)))], ok0])) (fits_of_trace (n := 300) (k0 := 0) hT Tryz.func22 (by kernel_rfl) (by kernel_rfl) (by kernel_rfl)) (norm_dN2)

set_option maxRecDepth 100000 in
theorem nearZero_true {b : Nat} (hb : 2 ≤ b) (hb2 : b ≤ 4096) : FitsP 22 [rq 0, intS (b : Int), boolS true] [] (.tup [dS ⟨0, 0⟩, ok0]) := by
  have hT : AllOk Tryz.prog Glob [
    Tr.call 52 [intS (↑b : Int)] [] (Av.one (boolS true)),
    Tr.call 53 [rq (0 : Rat)] [] (Av.one (ok0))] := ⟨
    mayBits_yes (by omega) (by omega),
    signQ_is rfl, trivial⟩
  exact Fits.res (r := (.tup [Sv.agg [Cv.raw (Value.bool false), Cv.raw (Value.slice none (nat_lit 0) (nat_lit 0)), Cv.raw (Value.int IntKind.i64 (Int.ofNat (nat_lit 0)))], ok0])) (fits_of_trace (n := 300) (k0 := 0) hT Tryz.func22 (by kernel_rfl) (by kernel_rfl) (by kernel_rfl)) (norm_dN2)

set_option maxRecDepth 100000 in
theorem nearDown0_f {q : Rat} {b n : Nat} (hq : BQ n q) (hn : n ≤ 64) (hb : 2 ≤ b) (hb2 : b ≤ 4096) {s : Int} (hs : ordQ q 0 = s) (h0 : s ≠ 0) : FitsP 22 [rq q, intS (b : Int), boolS false] [] (.tup [dS (rdD b (ndD b q)), ok0]) := by
  have hT : AllOk Tryz.prog Glob [
    Tr.call 52 [intS (↑b : Int)] [] (Av.one (boolS true)),
    Tr.call 53 [rq q] [] (Av.one (intS s)),
    Tr.norm 8 (Av.one (Sv.cel (Cv.raw (Value.bool (s == (0 : Int)))))) (Av.one (boolS false)),
    Tr.call 56 [rq q, intS (↑b : Int)] [] (Av.tup [dS (ndD b q), ok0]),
    Tr.call 57 [dS (ndD b q), intS (↑b : Int), boolS false] [] (Av.tup [dS (rdD b (ndD b q)), ok0])] := ⟨
    mayBits_yes (by omega) (by omega),
    signQ_is hs,
    norm_bool (eq_false h0),
    nearly_f hq hn hb hb2,
    roundDown_f (nd_bd hq (by omega) hb2) (by omega) hb hb2, trivial⟩
  exact fits_of_trace (n := 300) (k0 := 0) hT Tryz.func22 (by kernel_rfl) (by kernel_rfl) (by kernel_rfl)

theorem nearDown_f {q : Rat} {b n : Nat} (hq : BQ n q) (hn : n ≤ 64) (hb : 2 ≤ b) (hb2 : b ≤ 4096) : FitsP 22 [rq q, intS (b : Int), boolS false] [] (.tup [dS (nrD b q), ok0]) := by
  unfold nrD
  split
  · rename_i h; rw [q_nil h]; exact nearZero_false hb hb2
  · rename_i h; exact nearDown0_f hq hn hb hb2 rfl fun e => h (by rw [ordQ_zero.1 e]; rfl)

set_option maxRecDepth 100000 in
theorem nearUp0_f {q : Rat} {b n : Nat} (hq : BQ n q) (hn : n ≤ 64) (hb : 2 ≤ b) (hb2 : b ≤ 4096) {s : Int} (hs : ordQ q 0 = s) (h0 : s ≠ 0) : FitsP 22 [rq q, intS (b : Int), boolS true] [] (.tup [dS (nuD b q), ok0]) := by
  have hT : AllOk Tryz.prog Glob [
    Tr.call 52 [intS (↑b : Int)] [] (Av.one (boolS true)),
    Tr.call 53 [rq q] [] (Av.one (intS s)),
    Tr.norm 8 (Av.one (Sv.cel (Cv.raw (Value.bool (s == (0 : Int)))))) (Av.one (boolS false)),
    Tr.call 55 [rq q] [] (Av.one (rq (-q))),
    Tr.call 22 [rq (-q), intS (↑b : Int), boolS false] [] (Av.tup [dS (nrD b (-q)), ok0]),
    Tr.call 54 [dS (nrD b (-q)), ok0] [] (Av.tup [dS (nuD b q), ok0])] := ⟨
    mayBits_yes (by omega) (by omega),
    signQ_is hs,
    norm_bool (eq_false h0),
    negQ_f,
    nearDown_f hq.neg' hn hb hb2,
    turned_f, trivial⟩
  exact fits_of_trace (n := 300) (k0 := 0) hT Tryz.func22 (by kernel_rfl) (by kernel_rfl) (by kernel_rfl)

theorem nearUp_f {q : Rat} {b n : Nat} (hq : BQ n q) (hn : n ≤ 64) (hb : 2 ≤ b) (hb2 : b ≤ 4096) : FitsP 22 [rq q, intS (b : Int), boolS true] [] (.tup [dS (nuD b q), ok0]) := by
  by_cases h : q.num = 0
  · rw [q_nil h, show nuD b 0 = ⟨0, 0⟩ from rfl]; exact nearZero_true hb hb2
  · exact nearUp0_f hq hn hb hb2 rfl fun e => h (by rw [ordQ_zero.1 e]; rfl)

set_option maxRecDepth 100000 in
theorem nearBad_f {q : Rat} {x : Int} {u : Bool} (h : ¬ (2 ≤ x ∧ x ≤ 4096)) : FitsP 22 [rq q, intS x, boolS u] [] (.tup [dS ⟨0, 0⟩, intS 1]) := by
  have hT : AllOk Tryz.prog Glob [
    Tr.call 52 [intS x] [] (Av.one (boolS false))] := ⟨
    mayBits_no h, trivial⟩
  exact Fits.res (r := (.tup [Sv.agg [Cv.raw (Value.bool false), Cv.raw (Value.slice none (nat_lit 0) (nat_lit 0)), Cv.raw (Value.int IntKind.i64 (Int.ofNat (nat_lit 0)))], intS (Int.ofNat (nat_lit 1))])) (fits_of_trace (n := 300) (k0 := 0) hT Tryz.func22 (by kernel_rfl) (by kernel_rfl) (by kernel_rfl)) (norm_dN2)

set_option maxRecDepth 100000 in
theorem cmpDQ_f {a : Dy} {q : Rat} {n k m : Nat} {c : Int} (ha : BD n k a) (hq : BQ m q) (hk : n + k + 1 + m ≤ 512) (hc : ordQ (dv a) q = c) : FitsP 20 [dS a, rq q] [] (.tup [intS c, ok0]) := by
  have hT : AllOk Tryz.prog Glob [
    Tr.call 18 [dS a] [] (Av.tup [rq (dv a), ok0]),
    Tr.call 49 [rq (dv a), rq q] [] (Av.tup [intS c, ok0])] := ⟨
    ratioD_f ha (by omega),
    cmp_lit ha.bq hq hk hc, trivial⟩
  exact fits_of_trace (n := 300) (k0 := 0) hT Tryz.func20 (by kernel_rfl) (by kernel_rfl) (by kernel_rfl)
end Go.Proofs.YtnncfbmddpijcaaGreatDoor
