/- DyadNear. -/
import Derived.Test.YtphpaejgcahgbaaGreatDoorDyRounds
namespace Go.Proofs.YtphpaejgcahgbaaGreatDoor
open Go Go.RowKit Go.Shelf AM
/-! Between two. -/
/-- A ratio that may not be, or is too long for what is tried. -/
def Unfit10 (m : Bool) (xs ds : List Nat) : Prop := 10 < xs.length ∨ (xs.length ≤ 10 ∧ 10 < ds.length) ∨ (xs.length ≤ 10 ∧ ds.length ≤ 10 ∧ ∃ c : Int, c ≠ 0 ∧ FitsP 36 [ag m xs ds] [] (.one (intS c)))
theorem ag_cases10 {m : Bool} {xs ds : List Nat} (hb : ∀ x ∈ xs, x < 4294967296) (hd : ∀ x ∈ ds, x < 4294967296) : (∃ q : Rat, BQ 10 q ∧ ∀ (β : Nat → Option Nat) (W : World) (v : Value), RelS β W v (ag m xs ds) → RelS β W v (rq q)) ∨ Unfit10 m xs ds := by
  by_cases hx : 10 < xs.length
  · exact .inr (.inl hx)
  have hx : xs.length ≤ 10 := by omega
  by_cases hy : 10 < ds.length
  · exact .inr (.inr (.inl ⟨hx, hy⟩))
  have hy : ds.length ≤ 10 := by omega
  have l1 : val 4294967296 xs < 4294967296 ^ 10 := Nat.lt_of_lt_of_le (val_lt hb) (Nat.pow_le_pow_right (by omega) hx)
  have l2 : val 4294967296 ds < 4294967296 ^ 10 := Nat.lt_of_lt_of_le (val_lt hd) (Nat.pow_le_pow_right (by omega) hy)
  have la : LimI (sg m (val 4294967296 xs)) := by unfold LimI; rw [sg_natAbs]; exact lim_of l1 (by omega)
  by_cases h1 : checkI m xs = 0
  · by_cases h2 : checkOf ds = 0
    · have hk := ag_rz hb hd (by omega) (by omega) h1 h2
      by_cases hg : Nat.gcd (sg m (val 4294967296 xs)).natAbs (val 4294967296 ds) = 1
      · by_cases h0 : val 4294967296 ds = 0
        · rw [h0] at hg
          refine .inr (.inr (.inr ⟨hx, hy, 2, by decide, Fits.args (checkBad4_f la (by rw [← Nat.gcd_zero_right (Int.natAbs _)]; exact hg)) fun β W vals h => ?_⟩))
          obtain ⟨v, rfl, h'⟩ := all2_1 h
          have := hk β W v h'
          rw [h0] at this
          exact ⟨this, trivial⟩
        · refine .inl ⟨Rat.normalize (sg m (val 4294967296 xs)) (val 4294967296 ds) h0, norm_BQ h0 (by rw [sg_natAbs]; exact l1) l2, fun β W v h => ?_⟩
          rw [← rz_norm1 h0 hg]
          exact hk β W v h
      · refine .inr (.inr (.inr ⟨hx, hy, 2, by decide, Fits.args (checkBad3_f la (lim_of l2 (by omega)) hg) fun β W vals h => ?_⟩))
        obtain ⟨v, rfl, h'⟩ := all2_1 h
        exact ⟨hk β W v h', trivial⟩
    · exact .inr (.inr (.inr ⟨hx, hy, _, h2, checkBad2_f (by omega) (by omega) h1 rfl h2⟩))
  · exact .inr (.inr (.inr ⟨hx, hy, _, h1, checkBad1_f (by omega) rfl h1⟩))
section
variable {q : Rat} {b : Nat}
theorem BQ.len1' (h : BQ 10 q) : decide (((lenN q.num.natAbs : Nat) : Int) > 10) = false := gt_false (lenN_le.2 h.1)
theorem BQ.len2' (h : BQ 10 q) : decide (((lenN q.den : Nat) : Int) > 10) = false := gt_false (lenN_le.2 h.2)
/-- The gap, times a power of two. -/
def gapQ (b : Nat) (q : Rat) : Rat := (dv (nuD b q) - dv (nrD b q)) * ((2 ^ (b - 2) : Nat) : Rat)
theorem nr_bq (hq : BQ 10 q) (hb : 2 ≤ b) (hb2 : b ≤ 4096) : BQ 152 (dv (nrD b q)) := (BD.nr hq (by omega) hb2).bq.mono (by omega)
theorem nu_bq (hq : BQ 10 q) (hb : 2 ≤ b) (hb2 : b ≤ 4096) : BQ 152 (dv (nuD b q)) := (BD.nu hq (by omega) hb2).bq.mono (by omega)
theorem pow_lt32 {t m : Nat} (h : t < 32 * m) : 2 ^ t < 4294967296 ^ m := by rw [p32]; exact Nat.pow_lt_pow_right (by omega) h
theorem one_lt32 {m : Nat} (h : 0 < m) : 1 < 4294967296 ^ m := by rw [p32]; exact Nat.one_lt_two_pow (by omega)
theorem pow_bq (hb2 : b ≤ 4096) : BQ 129 ((2 ^ (b - 2) : Nat) : Rat) := by
  refine ⟨?_, ?_⟩
  · rw [show ((2 ^ (b - 2) : Nat) : Rat) = (((2 ^ (b - 2) : Nat) : Int) : Rat) from rfl, Rat.num_intCast, Int.natAbs_natCast]
    exact pow_lt32 (by omega)
  · rw [show ((2 ^ (b - 2) : Nat) : Rat) = (((2 ^ (b - 2) : Nat) : Int) : Rat) from rfl, Rat.den_intCast]
    exact one_lt32 (by omega)
theorem gap_le (hb : 2 ≤ b) : gapQ b q ≤ absQ q := by
  have := near_gap (q := q) hb
  rw [p2_nat] at this; exact this
theorem absQ_bq {n : Nat} (h : BQ n q) : BQ n (absQ q) := by unfold absQ; split; exact h.neg'; exact h
theorem near_eq_iff (hb : 2 ≤ b) {c d : Int} (hc : ordQ (dv (nrD b q)) q = c) (hd : ordQ (dv (nuD b q)) q = d) : ((c == 0) != (d == 0)) = false := by
  have h := nr_eq (q := q) (b := b) (by omega)
  have z : ∀ x y : Rat, (ordQ x y = 0 ↔ x = y) := fun x y => by
    rcases rat_tri x y with h1 | h1 | h1
    · rw [ordQ_ltI h1]; exact ⟨fun h' => absurd h' (by decide), fun h' => by grind⟩
    · rw [ordQ_eqI h1]; exact ⟨fun _ => h1, fun _ => rfl⟩
    · rw [ordQ_gtI h1]; exact ⟨fun h' => absurd h' (by decide), fun h' => by grind⟩
  by_cases e : dv (nrD b q) = q
  · rw [show c = 0 by rw [← hc]; exact (z _ _).2 e, show d = 0 by rw [← hd]; exact (z _ _).2 (h.1 e)]; rfl
  · have h1 : c ≠ 0 := fun h0 => e ((z _ _).1 (hc.trans h0))
    have h2 : d ≠ 0 := fun h0 => e (h.2 ((z _ _).1 (hd.trans h0)))
    rw [eq_false h1, eq_false h2]; rfl
theorem ord_le0 {p r : Rat} {k : Int} (h : ordQ p r = k) (hq : p ≤ r) : decide (k ≤ 0) = true := by
  rw [← h, decide_eq_true_iff]
  rcases rat_tri p r with h1 | h1 | h1
  · rw [ordQ_ltI h1]; decide
  · rw [ordQ_eqI h1]; decide
  · exfalso; grind
theorem pow_lim {j : Nat} (h : j ≤ 16000) : 2 ^ j < Lim := by
  show 2 ^ j < 4294967296 ^ maxL
  exact pow_lt32 (by unfold maxL; omega)
theorem leftN1_f {k : Int} {j : Nat} (hk : k = (j : Int)) (h1 : j ≤ 16000) : FitsP 67 [natS 1, intS k] [] (.tup [natS (2 ^ j), ok0]) := by
  have := leftN_f (x := 1) hk (by omega) (by rw [Nat.one_mul]; exact pow_lim h1)
  rw [Nat.one_mul] at this; exact this
theorem wholeP_f {d : Nat} : FitsP 40 [pn d] [] (.one (rq ((d : Nat) : Rat))) := by
  rw [← im_pn]; exact wholeB_f (z := (d : Int))
theorem natP_f {d : Nat} : FitsP 31 [natS d] [] (.one (pn d)) := by rw [← im_pn]; exact nat_f
theorem few_l (hb : 2 ≤ b) : FitsP 64 [dS (nrD b q), intS (b : Int)] [] (.one (boolS true)) := few_yes (nr_few (by omega))
theorem few_u (hb : 2 ≤ b) : FitsP 64 [dS (nuD b q), intS (b : Int)] [] (.one (boolS true)) := few_yes (nu_few (by omega))
theorem subW (hb : 2 ≤ b) (hb2 : b ≤ 4096) : IntKind.i64.wrap ((b : Int) - 2) = ((b - 2 : Nat) : Int) := by rw [w64s (by omega) (by omega)]; omega
end

set_option maxRecDepth 100000 in
theorem DyadNear_un1 {m : Bool} {xs ds : List Nat} {x : Int} (hu : 10 < xs.length) : FitsP 11 [ag m xs ds, intS x] [] (.one (boolS true)) := by
  have hT : AllOk Tryz.prog Glob [
    Tr.call 44 [] [] (Av.one (Sv.cel (Cv.raw (Value.bool true)))),
    Tr.norm (nat_lit 9) (Av.one (Sv.cel (Cv.raw (Value.bool (decide ((↑(List.length xs) : Int) > (10 : Int))))))) (Av.one (Sv.cel (Cv.raw (Value.bool true))))] := ⟨
    halves_f,
    norm_bool (gt_true hu), trivial⟩
  exact fits_of_trace (n := 300) (k0 := 0) hT Tryz.func11 (by kernel_rfl) (by kernel_rfl) (by kernel_rfl)

set_option maxRecDepth 100000 in
theorem DyadNear_un2 {m : Bool} {xs ds : List Nat} {x : Int} (hx : xs.length ≤ 10) (hu : 10 < ds.length) : FitsP 11 [ag m xs ds, intS x] [] (.one (boolS true)) := by
  have hT : AllOk Tryz.prog Glob [
    Tr.call 44 [] [] (Av.one (Sv.cel (Cv.raw (Value.bool true)))),
    Tr.norm (nat_lit 9) (Av.one (Sv.cel (Cv.raw (Value.bool (decide ((↑(List.length xs) : Int) > (10 : Int))))))) (Av.one (Sv.cel (Cv.raw (Value.bool false)))),
    Tr.norm (nat_lit 15) (Av.one (Sv.cel (Cv.raw (Value.bool (decide ((↑(List.length ds) : Int) > (10 : Int))))))) (Av.one (Sv.cel (Cv.raw (Value.bool true))))] := ⟨
    halves_f,
    norm_bool (gt_false hx),
    norm_bool (gt_true hu), trivial⟩
  exact fits_of_trace (n := 300) (k0 := 0) hT Tryz.func11 (by kernel_rfl) (by kernel_rfl) (by kernel_rfl)

set_option maxRecDepth 100000 in
theorem DyadNear_un3 {m : Bool} {xs ds : List Nat} {x : Int} {c : Int} (hx : xs.length ≤ 10) (hy : ds.length ≤ 10) (hc : c ≠ 0) (hu : FitsP 36 [ag m xs ds] [] (.one (intS c))) : FitsP 11 [ag m xs ds, intS x] [] (.one (boolS true)) := by
  have hT : AllOk Tryz.prog Glob [
    Tr.call 44 [] [] (Av.one (Sv.cel (Cv.raw (Value.bool true)))),
    Tr.norm (nat_lit 9) (Av.one (Sv.cel (Cv.raw (Value.bool (decide ((↑(List.length xs) : Int) > (10 : Int))))))) (Av.one (Sv.cel (Cv.raw (Value.bool false)))),
    Tr.norm (nat_lit 15) (Av.one (Sv.cel (Cv.raw (Value.bool (decide ((↑(List.length ds) : Int) > (10 : Int))))))) (Av.one (Sv.cel (Cv.raw (Value.bool false)))),
    Tr.call 36 [Sv.agg [Cv.raw (Value.bool m), Cv.ent (argE xs), Cv.ent (argE ds)]] [] (Av.one (Sv.cel (Cv.raw (Value.int IntKind.i64 c)))),
    Tr.norm (nat_lit 19) (Av.one (Sv.cel (Cv.raw (Value.bool (c != (0 : Int)))))) (Av.one (Sv.cel (Cv.raw (Value.bool true))))] := ⟨
    halves_f,
    norm_bool (gt_false hx),
    norm_bool (gt_false hy),
    hu,
    norm_bool (ne_true hc), trivial⟩
  exact fits_of_trace (n := 300) (k0 := 0) hT Tryz.func11 (by kernel_rfl) (by kernel_rfl) (by kernel_rfl)

set_option maxRecDepth 100000 in
theorem DyadNear_bad1 {q : Rat} {x : Int} (hq : BQ 10 q) (h : x < 2) : FitsP 11 [rq q, intS x] [] (.one (boolS true)) := by
  have hT : AllOk Tryz.prog Glob [
    Tr.call 44 [] [] (Av.one (Sv.cel (Cv.raw (Value.bool true)))),
    Tr.norm (nat_lit 9) (Av.one (Sv.cel (Cv.raw (Value.bool (decide ((↑(lenN (Int.natAbs (Rat.num q))) : Int) > (10 : Int))))))) (Av.one (Sv.cel (Cv.raw (Value.bool false)))),
    Tr.norm (nat_lit 15) (Av.one (Sv.cel (Cv.raw (Value.bool (decide ((↑(lenN (Rat.den q)) : Int) > (10 : Int))))))) (Av.one (Sv.cel (Cv.raw (Value.bool false)))),
    Tr.call 36 [Sv.agg [Cv.raw (Value.bool (decide (Rat.num q < (0 : Int)))), Cv.ent (nat (Int.natAbs (Rat.num q))), Cv.ent (nat (Rat.den q))]] [] (Av.one (Sv.cel (Cv.raw (Value.int IntKind.i64 (Int.ofNat (nat_lit 0)))))),
    Tr.call 66 [Sv.agg [Cv.raw (Value.bool (decide (Rat.num q < (0 : Int)))), Cv.ent (nat (Int.natAbs (Rat.num q))), Cv.ent (nat (Rat.den q))], Sv.cel (Cv.raw (Value.int IntKind.i64 x)), Sv.cel (Cv.raw (Value.bool false))] [] (Av.tup [Sv.agg [Cv.raw (Value.bool (decide (Dy.m { m := (0 : Int), e := (0 : Int) } < (0 : Int)))), Cv.ent (nat (Int.natAbs (Dy.m { m := (0 : Int), e := (0 : Int) }))), Cv.raw (Value.int IntKind.i64 (Int.ofNat (nat_lit 0)))], Sv.cel (Cv.raw (Value.int IntKind.i64 (Int.ofNat (nat_lit 1))))]),
    Tr.call 66 [Sv.agg [Cv.raw (Value.bool (decide (Rat.num q < (0 : Int)))), Cv.ent (nat (Int.natAbs (Rat.num q))), Cv.ent (nat (Rat.den q))], Sv.cel (Cv.raw (Value.int IntKind.i64 x)), Sv.cel (Cv.raw (Value.bool true))] [] (Av.tup [Sv.agg [Cv.raw (Value.bool (decide (Dy.m { m := (0 : Int), e := (0 : Int) } < (0 : Int)))), Cv.ent (nat (Int.natAbs (Dy.m { m := (0 : Int), e := (0 : Int) }))), Cv.raw (Value.int IntKind.i64 (Int.ofNat (nat_lit 0)))], Sv.cel (Cv.raw (Value.int IntKind.i64 (Int.ofNat (nat_lit 1))))]),
    Tr.norm (nat_lit 40) (Av.one (Sv.cel (Cv.raw (Value.bool (decide (x < (2 : Int))))))) (Av.one (Sv.cel (Cv.raw (Value.bool true))))] := ⟨
    halves_f,
    norm_bool (hq.len1'),
    norm_bool (hq.len2'),
    checkB_f hq (by omega),
    nearBad_f (by omega),
    nearBad_f (by omega),
    norm_bool (decide_eq_true h), trivial⟩
  exact fits_of_trace (n := 300) (k0 := 0) hT Tryz.func11 (by kernel_rfl) (by kernel_rfl) (by kernel_rfl)

set_option maxRecDepth 100000 in
theorem DyadNear_bad2 {q : Rat} {x : Int} (hq : BQ 10 q) (h0 : ¬ x < 2) (h : x > 4096) : FitsP 11 [rq q, intS x] [] (.one (boolS true)) := by
  have hT : AllOk Tryz.prog Glob [
    Tr.call 44 [] [] (Av.one (Sv.cel (Cv.raw (Value.bool true)))),
    Tr.norm (nat_lit 9) (Av.one (Sv.cel (Cv.raw (Value.bool (decide ((↑(lenN (Int.natAbs (Rat.num q))) : Int) > (10 : Int))))))) (Av.one (Sv.cel (Cv.raw (Value.bool false)))),
    Tr.norm (nat_lit 15) (Av.one (Sv.cel (Cv.raw (Value.bool (decide ((↑(lenN (Rat.den q)) : Int) > (10 : Int))))))) (Av.one (Sv.cel (Cv.raw (Value.bool false)))),
    Tr.call 36 [Sv.agg [Cv.raw (Value.bool (decide (Rat.num q < (0 : Int)))), Cv.ent (nat (Int.natAbs (Rat.num q))), Cv.ent (nat (Rat.den q))]] [] (Av.one (Sv.cel (Cv.raw (Value.int IntKind.i64 (Int.ofNat (nat_lit 0)))))),
    Tr.call 66 [Sv.agg [Cv.raw (Value.bool (decide (Rat.num q < (0 : Int)))), Cv.ent (nat (Int.natAbs (Rat.num q))), Cv.ent (nat (Rat.den q))], Sv.cel (Cv.raw (Value.int IntKind.i64 x)), Sv.cel (Cv.raw (Value.bool false))] [] (Av.tup [Sv.agg [Cv.raw (Value.bool (decide (Dy.m { m := (0 : Int), e := (0 : Int) } < (0 : Int)))), Cv.ent (nat (Int.natAbs (Dy.m { m := (0 : Int), e := (0 : Int) }))), Cv.raw (Value.int IntKind.i64 (Int.ofNat (nat_lit 0)))], Sv.cel (Cv.raw (Value.int IntKind.i64 (Int.ofNat (nat_lit 1))))]),
    Tr.call 66 [Sv.agg [Cv.raw (Value.bool (decide (Rat.num q < (0 : Int)))), Cv.ent (nat (Int.natAbs (Rat.num q))), Cv.ent (nat (Rat.den q))], Sv.cel (Cv.raw (Value.int IntKind.i64 x)), Sv.cel (Cv.raw (Value.bool true))] [] (Av.tup [Sv.agg [Cv.raw (Value.bool (decide (Dy.m { m := (0 : Int), e := (0 : Int) } < (0 : Int)))), Cv.ent (nat (Int.natAbs (Dy.m { m := (0 : Int), e := (0 : Int) }))), Cv.raw (Value.int IntKind.i64 (Int.ofNat (nat_lit 0)))], Sv.cel (Cv.raw (Value.int IntKind.i64 (Int.ofNat (nat_lit 1))))]),
    Tr.norm (nat_lit 40) (Av.one (Sv.cel (Cv.raw (Value.bool (decide (x < (2 : Int))))))) (Av.one (Sv.cel (Cv.raw (Value.bool false)))),
    Tr.norm (nat_lit 43) (Av.one (Sv.cel (Cv.raw (Value.bool (decide (x > (4096 : Int))))))) (Av.one (Sv.cel (Cv.raw (Value.bool true))))] := ⟨
    halves_f,
    norm_bool (hq.len1'),
    norm_bool (hq.len2'),
    checkB_f hq (by omega),
    nearBad_f (by omega),
    nearBad_f (by omega),
    norm_bool (decide_eq_false h0),
    norm_bool (decide_eq_true h), trivial⟩
  exact fits_of_trace (n := 300) (k0 := 0) hT Tryz.func11 (by kernel_rfl) (by kernel_rfl) (by kernel_rfl)

set_option maxRecDepth 100000 in
theorem DyadNear_go {q : Rat} {b : Nat} {c d k : Int} (hq : BQ 10 q) (hb : 2 ≤ b) (hb2 : b ≤ 4096) (hc : ordQ (dv (nrD b q)) q = c) (hd : ordQ (dv (nuD b q)) q = d) (hk : ordQ (gapQ b q) (absQ q) = k) : FitsP 11 [rq q, intS (b : Int)] [] (.one (boolS true)) := by
  have hT : AllOk Tryz.prog Glob [
    Tr.call 44 [] [] (Av.one (Sv.cel (Cv.raw (Value.bool true)))),
    Tr.norm (nat_lit 9) (Av.one (Sv.cel (Cv.raw (Value.bool (decide ((↑(lenN (Int.natAbs (Rat.num q))) : Int) > (10 : Int))))))) (Av.one (Sv.cel (Cv.raw (Value.bool false)))),
    Tr.norm (nat_lit 15) (Av.one (Sv.cel (Cv.raw (Value.bool (decide ((↑(lenN (Rat.den q)) : Int) > (10 : Int))))))) (Av.one (Sv.cel (Cv.raw (Value.bool false)))),
    Tr.call 36 [Sv.agg [Cv.raw (Value.bool (decide (Rat.num q < (0 : Int)))), Cv.ent (nat (Int.natAbs (Rat.num q))), Cv.ent (nat (Rat.den q))]] [] (Av.one (Sv.cel (Cv.raw (Value.int IntKind.i64 (Int.ofNat (nat_lit 0)))))),
    Tr.call 66 [Sv.agg [Cv.raw (Value.bool (decide (Rat.num q < (0 : Int)))), Cv.ent (nat (Int.natAbs (Rat.num q))), Cv.ent (nat (Rat.den q))], Sv.cel (Cv.raw (Value.int IntKind.i64 (↑b : Int))), Sv.cel (Cv.raw (Value.bool false))] [] (Av.tup [Sv.agg [Cv.raw (Value.bool (decide (Dy.m (nrD b q) < (0 : Int)))), Cv.ent (nat (Int.natAbs (Dy.m (nrD b q)))), Cv.raw (Value.int IntKind.i64 (Dy.e (nrD b q)))], Sv.cel (Cv.raw (Value.int IntKind.i64 (Int.ofNat (nat_lit 0))))]),
    Tr.call 66 [Sv.agg [Cv.raw (Value.bool (decide (Rat.num q < (0 : Int)))), Cv.ent (nat (Int.natAbs (Rat.num q))), Cv.ent (nat (Rat.den q))], Sv.cel (Cv.raw (Value.int IntKind.i64 (↑b : Int))), Sv.cel (Cv.raw (Value.bool true))] [] (Av.tup [Sv.agg [Cv.raw (Value.bool (decide (Dy.m (nuD b q) < (0 : Int)))), Cv.ent (nat (Int.natAbs (Dy.m (nuD b q)))), Cv.raw (Value.int IntKind.i64 (Dy.e (nuD b q)))], Sv.cel (Cv.raw (Value.int IntKind.i64 (Int.ofNat (nat_lit 0))))]),
    Tr.norm (nat_lit 40) (Av.one (Sv.cel (Cv.raw (Value.bool (decide ((↑b : Int) < (2 : Int))))))) (Av.one (Sv.cel (Cv.raw (Value.bool false)))),
    Tr.norm (nat_lit 43) (Av.one (Sv.cel (Cv.raw (Value.bool (decide ((↑b : Int) > (4096 : Int))))))) (Av.one (Sv.cel (Cv.raw (Value.bool false)))),
    Tr.call 64 [Sv.agg [Cv.raw (Value.bool (decide (Dy.m (nrD b q) < (0 : Int)))), Cv.ent (nat (Int.natAbs (Dy.m (nrD b q)))), Cv.raw (Value.int IntKind.i64 (Dy.e (nrD b q)))], Sv.cel (Cv.raw (Value.int IntKind.i64 (↑b : Int)))] [] (Av.one (Sv.cel (Cv.raw (Value.bool true)))),
    Tr.call 64 [Sv.agg [Cv.raw (Value.bool (decide (Dy.m (nuD b q) < (0 : Int)))), Cv.ent (nat (Int.natAbs (Dy.m (nuD b q)))), Cv.raw (Value.int IntKind.i64 (Dy.e (nuD b q)))], Sv.cel (Cv.raw (Value.int IntKind.i64 (↑b : Int)))] [] (Av.one (Sv.cel (Cv.raw (Value.bool true)))),
    Tr.call 58 [Sv.agg [Cv.raw (Value.bool (decide (Dy.m (nrD b q) < (0 : Int)))), Cv.ent (nat (Int.natAbs (Dy.m (nrD b q)))), Cv.raw (Value.int IntKind.i64 (Dy.e (nrD b q)))], Sv.agg [Cv.raw (Value.bool (decide (Rat.num q < (0 : Int)))), Cv.ent (nat (Int.natAbs (Rat.num q))), Cv.ent (nat (Rat.den q))]] [] (Av.tup [Sv.cel (Cv.raw (Value.int IntKind.i64 c)), Sv.cel (Cv.raw (Value.int IntKind.i64 (Int.ofNat (nat_lit 0))))]),
    Tr.call 58 [Sv.agg [Cv.raw (Value.bool (decide (Dy.m (nuD b q) < (0 : Int)))), Cv.ent (nat (Int.natAbs (Dy.m (nuD b q)))), Cv.raw (Value.int IntKind.i64 (Dy.e (nuD b q)))], Sv.agg [Cv.raw (Value.bool (decide (Rat.num q < (0 : Int)))), Cv.ent (nat (Int.natAbs (Rat.num q))), Cv.ent (nat (Rat.den q))]] [] (Av.tup [Sv.cel (Cv.raw (Value.int IntKind.i64 d)), Sv.cel (Cv.raw (Value.int IntKind.i64 (Int.ofNat (nat_lit 0))))]),
    Tr.norm (nat_lit 88) (Av.one (Sv.cel (Cv.raw (Value.bool (decide (c > (0 : Int))))))) (Av.one (Sv.cel (Cv.raw (Value.bool false)))),
    Tr.norm (nat_lit 92) (Av.one (Sv.cel (Cv.raw (Value.bool (decide (d < (0 : Int))))))) (Av.one (Sv.cel (Cv.raw (Value.bool false)))),
    Tr.norm (nat_lit 98) (Av.one (Sv.cel (Cv.raw (Value.bool !(c == (0 : Int)) == (d == (0 : Int)))))) (Av.one (Sv.cel (Cv.raw (Value.bool false)))),
    Tr.call 46 [Sv.agg [Cv.raw (Value.bool (decide (Dy.m (nrD b q) < (0 : Int)))), Cv.ent (nat (Int.natAbs (Dy.m (nrD b q)))), Cv.raw (Value.int IntKind.i64 (Dy.e (nrD b q)))]] [] (Av.tup [Sv.agg [Cv.raw (Value.bool (decide (Rat.num (dv (nrD b q)) < (0 : Int)))), Cv.ent (nat (Int.natAbs (Rat.num (dv (nrD b q))))), Cv.ent (nat (Rat.den (dv (nrD b q))))], Sv.cel (Cv.raw (Value.int IntKind.i64 (Int.ofNat (nat_lit 0))))]),
    Tr.call 46 [Sv.agg [Cv.raw (Value.bool (decide (Dy.m (nuD b q) < (0 : Int)))), Cv.ent (nat (Int.natAbs (Dy.m (nuD b q)))), Cv.raw (Value.int IntKind.i64 (Dy.e (nuD b q)))]] [] (Av.tup [Sv.agg [Cv.raw (Value.bool (decide (Rat.num (dv (nuD b q)) < (0 : Int)))), Cv.ent (nat (Int.natAbs (Rat.num (dv (nuD b q))))), Cv.ent (nat (Rat.den (dv (nuD b q))))], Sv.cel (Cv.raw (Value.int IntKind.i64 (Int.ofNat (nat_lit 0))))]),
    Tr.call 39 [Sv.agg [Cv.raw (Value.bool (decide (Rat.num (dv (nuD b q)) < (0 : Int)))), Cv.ent (nat (Int.natAbs (Rat.num (dv (nuD b q))))), Cv.ent (nat (Rat.den (dv (nuD b q))))], Sv.agg [Cv.raw (Value.bool (decide (Rat.num (dv (nrD b q)) < (0 : Int)))), Cv.ent (nat (Int.natAbs (Rat.num (dv (nrD b q))))), Cv.ent (nat (Rat.den (dv (nrD b q))))]] [] (Av.tup [Sv.agg [Cv.raw (Value.bool (decide (Rat.num (dv (nuD b q) - dv (nrD b q)) < (0 : Int)))), Cv.ent (nat (Int.natAbs (Rat.num (dv (nuD b q) - dv (nrD b q))))), Cv.ent (nat (Rat.den (dv (nuD b q) - dv (nrD b q))))], Sv.cel (Cv.raw (Value.int IntKind.i64 (Int.ofNat (nat_lit 0))))]),
    Tr.call 68 [Sv.cel (Cv.raw (Value.int IntKind.u64 (Int.ofNat (nat_lit 1))))] [] (Av.one (Sv.cel (Cv.ent (nat (1 : Nat))))),
    Tr.call 67 [Sv.cel (Cv.ent (nat (1 : Nat))), Sv.cel (Cv.raw (Value.int IntKind.i64 (IntKind.wrap IntKind.i64 ((↑b : Int) - (2 : Int)))))] [] (Av.tup [Sv.cel (Cv.ent (nat ((2 : Nat) ^ (b - (2 : Nat))))), Sv.cel (Cv.raw (Value.int IntKind.i64 (Int.ofNat (nat_lit 0))))]),
    Tr.call 31 [Sv.cel (Cv.ent (nat ((2 : Nat) ^ (b - (2 : Nat)))))] [] (Av.one (Sv.agg [Cv.raw (Value.bool false), Cv.ent (nat ((2 : Nat) ^ (b - (2 : Nat))))])),
    Tr.call 40 [Sv.agg [Cv.raw (Value.bool false), Cv.ent (nat ((2 : Nat) ^ (b - (2 : Nat))))]] [] (Av.one (Sv.agg [Cv.raw (Value.bool (decide (Rat.num (↑((2 : Nat) ^ (b - (2 : Nat))) : Rat) < (0 : Int)))), Cv.ent (nat (Int.natAbs (Rat.num (↑((2 : Nat) ^ (b - (2 : Nat))) : Rat)))), Cv.ent (nat (Rat.den (↑((2 : Nat) ^ (b - (2 : Nat))) : Rat)))])),
    Tr.call 50 [Sv.agg [Cv.raw (Value.bool (decide (Rat.num (dv (nuD b q) - dv (nrD b q)) < (0 : Int)))), Cv.ent (nat (Int.natAbs (Rat.num (dv (nuD b q) - dv (nrD b q))))), Cv.ent (nat (Rat.den (dv (nuD b q) - dv (nrD b q))))], Sv.agg [Cv.raw (Value.bool (decide (Rat.num (↑((2 : Nat) ^ (b - (2 : Nat))) : Rat) < (0 : Int)))), Cv.ent (nat (Int.natAbs (Rat.num (↑((2 : Nat) ^ (b - (2 : Nat))) : Rat)))), Cv.ent (nat (Rat.den (↑((2 : Nat) ^ (b - (2 : Nat))) : Rat)))]] [] (Av.tup [Sv.agg [Cv.raw (Value.bool (decide (Rat.num (gapQ b q) < (0 : Int)))), Cv.ent (nat (Int.natAbs (Rat.num (gapQ b q)))), Cv.ent (nat (Rat.den (gapQ b q)))], Sv.cel (Cv.raw (Value.int IntKind.i64 (Int.ofNat (nat_lit 0))))]),
    Tr.call 69 [Sv.agg [Cv.raw (Value.bool (decide (Rat.num q < (0 : Int)))), Cv.ent (nat (Int.natAbs (Rat.num q))), Cv.ent (nat (Rat.den q))]] [] (Av.one (Sv.agg [Cv.raw (Value.bool (decide (Rat.num (absQ q) < (0 : Int)))), Cv.ent (nat (Int.natAbs (Rat.num (absQ q)))), Cv.ent (nat (Rat.den (absQ q)))])),
    Tr.call 38 [Sv.agg [Cv.raw (Value.bool (decide (Rat.num (gapQ b q) < (0 : Int)))), Cv.ent (nat (Int.natAbs (Rat.num (gapQ b q)))), Cv.ent (nat (Rat.den (gapQ b q)))], Sv.agg [Cv.raw (Value.bool (decide (Rat.num (absQ q) < (0 : Int)))), Cv.ent (nat (Int.natAbs (Rat.num (absQ q)))), Cv.ent (nat (Rat.den (absQ q)))]] [] (Av.tup [Sv.cel (Cv.raw (Value.int IntKind.i64 k)), Sv.cel (Cv.raw (Value.int IntKind.i64 (Int.ofNat (nat_lit 0))))])] := ⟨
    halves_f,
    norm_bool (hq.len1'),
    norm_bool (hq.len2'),
    checkB_f hq (by omega),
    nearDown_f hq (by omega) hb hb2,
    nearUp_f hq (by omega) hb hb2,
    norm_bool (decide_eq_false (show ¬ (b : Int) < 2 by omega)),
    norm_bool (decide_eq_false (show ¬ (b : Int) > 4096 by omega)),
    few_l hb,
    few_u hb,
    cmpDQ_f (BD.nr hq (by omega) hb2) hq (by omega) hc,
    cmpDQ_f (BD.nu hq (by omega) hb2) hq (by omega) hd,
    norm_bool (ord_le hc nr_le),
    norm_bool (ord_ge hd nu_ge),
    norm_bool (near_eq_iff hb hc hd),
    ratioD_f (BD.nr hq (by omega) hb2) (by omega),
    ratioD_f (BD.nu hq (by omega) hb2) (by omega),
    subQ_f (nu_bq hq hb hb2) (nr_bq hq hb hb2) (by omega),
    oneW_f,
    leftN1_f (subW hb hb2) (by omega),
    natP_f,
    wholeP_f,
    mulQ_f ((nu_bq hq hb hb2).sub (nr_bq hq hb hb2)) (pow_bq hb2) (by omega),
    absQ_f,
    cmp_lit (((nu_bq hq hb hb2).sub (nr_bq hq hb hb2)).mul (pow_bq hb2)) (absQ_bq hq) (by omega) hk, trivial⟩
  exact Fits.res (r := (.one (Sv.cel (Cv.raw (Value.bool (decide (k ≤ (0 : Int)))))))) (fits_of_trace (n := 500) (k0 := 0) hT Tryz.func11 (by kernel_rfl) (by kernel_rfl) (by kernel_rfl)) (norm_bool (ord_le0 hk (gap_le hb)))

theorem DyadNear_fit {q : Rat} {x : Int} (hq : BQ 10 q) : FitsP 11 [rq q, intS x] [] (.one (boolS true)) := by
  by_cases h1 : x < 2
  · exact DyadNear_bad1 hq h1
  by_cases h2 : x > 4096
  · exact DyadNear_bad2 hq h1 h2
  obtain ⟨b, rfl⟩ : ∃ b : Nat, x = b := ⟨x.toNat, by omega⟩
  exact DyadNear_go hq (by omega) (by omega) rfl rfl rfl
end Go.Proofs.YtphpaejgcahgbaaGreatDoor
