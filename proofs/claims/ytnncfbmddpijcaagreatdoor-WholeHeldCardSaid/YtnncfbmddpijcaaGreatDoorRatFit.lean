
/- Which ratios may be. -/
import Derived.Test.YtnncfbmddpijcaaGreatDoorRatN
namespace Go.Proofs.YtnncfbmddpijcaaGreatDoor
open Go Go.RowKit Go.Shelf AM
/-- Digits that come in. -/
def argE (zs : List Nat) : Ent where
  holds w v := Arg w v zs
  len := some zs.length
  mono he hs h := ⟨h.1, fun h' => (h.2 h').ext he hs⟩
  slice := by
    intro w v n h e
    injection e with e
    obtain ⟨⟨A, c, rfl⟩, _⟩ := h
    exact ⟨A, c, by rw [e]⟩
  cell := by
    intro w v h
    obtain ⟨⟨A, c, rfl⟩, _⟩ := h
    rfl
def aiS (m : Bool) (xs : List Nat) : Sv := .agg [.raw (.bool m), .ent (argE xs)]
def ag (m : Bool) (xs ds : List Nat) : Sv := .agg [.raw (.bool m), .ent (argE xs), .ent (argE ds)]

theorem arg_up {W w : World} {v : Value} {zs : List Nat} (h : Pre W w) (hn : Arg W v zs) : Arg w v zs := ⟨hn.1, fun h' => (hn.2 h').ext h.2.1 (Nat.le_of_eq h.1)⟩
theorem checkA_f {m : Bool} {xs : List Nat} (h : xs.length ≤ 40) : FitsP 28 [aiS m xs] [] (.one (intS (checkI m xs))) := fits_of cal28 fun β W w vals hp ha => by
  obtain ⟨u, rfl, vs, rfl, h1⟩ := all2_1 ha
  match vs, h1 with
  | [a, b], ⟨h1, h2, _⟩ =>
    obtain rfl : a = .bool m := h1
    have h3 : Arg w b xs := arg_up hp h2
    obtain ⟨⟨A, c, rfl⟩, h4⟩ := h3
    exact (checkInt_c w m A c xs.length xs (h4 h)).mono fun _ _ ⟨he, hb⟩ => ⟨_, he, hb, rfl⟩
theorem checkDA_f {xs : List Nat} (h : xs.length ≤ 40) : FitsP 29 [.cel (.ent (argE xs))] [] (.one (intS (checkOf xs))) := fits_of cal29 fun β W w vals hp ha => by
  obtain ⟨u, rfl, h1⟩ := all2_1 ha
  have h3 : Arg w u xs := arg_up hp h1
  exact (check_c w u xs (h3.2 h)).mono fun _ _ ⟨he, hw⟩ => ⟨_, he, by subst hw; exact Below.refl _ _, rfl⟩
theorem checkA_is {m : Bool} {xs : List Nat} {c : Int} (h : xs.length ≤ 40) (hc : checkI m xs = c) : FitsP 28 [aiS m xs] [] (.one (intS c)) := by subst hc; exact checkA_f h
theorem checkDA_is {xs : List Nat} {c : Int} (h : xs.length ≤ 40) (hc : checkOf xs = c) : FitsP 29 [.cel (.ent (argE xs))] [] (.one (intS c)) := by subst hc; exact checkDA_f h
theorem ne_true {c : Int} (h : c ≠ 0) : (c != 0) = true := by rw [bne_iff_ne]; exact h
theorem eq_false {c : Int} (h : c ≠ 0) : (c == 0) = false := by rw [beq_eq_false_iff_ne]; exact h
theorem gt_false {n k : Nat} (h : n ≤ k) : decide ((n : Int) > (k : Int)) = false := by rw [decide_eq_false_iff_not]; omega
theorem gt_true {n k : Nat} (h : k < n) : decide ((n : Int) > (k : Int)) = true := by rw [decide_eq_true_iff]; omega

set_option maxRecDepth 100000 in
theorem checkBad1_f {m : Bool} {xs ds : List Nat} {c : Int} (h : xs.length ≤ 40) (hc : checkI m xs = c) (h0 : c ≠ 0) : FitsP 9 [ag m xs ds] [] (.one (intS c)) := by
  have hT : AllOk Tryz.prog Glob [
    Tr.call 28 [Sv.agg [Cv.raw (Value.bool m), Cv.ent (argE xs)]] [] (Av.one (intS c)),
    Tr.norm 7 (Av.one (Sv.cel (Cv.raw (Value.bool (c != (0 : Int)))))) (Av.one (boolS true))] := ⟨
    checkA_is h hc,
    norm_bool (ne_true h0), trivial⟩
  exact fits_of_trace (n := 300) (k0 := 0) hT Tryz.func9 (by kernel_rfl) (by kernel_rfl) (by kernel_rfl)

set_option maxRecDepth 100000 in
theorem checkBad2_f {m : Bool} {xs ds : List Nat} {c : Int} (h : xs.length ≤ 40) (hk : ds.length ≤ 40) (h1 : checkI m xs = 0) (hc : checkOf ds = c) (h0 : c ≠ 0) : FitsP 9 [ag m xs ds] [] (.one (intS c)) := by
  have hT : AllOk Tryz.prog Glob [
    Tr.call 28 [Sv.agg [Cv.raw (Value.bool m), Cv.ent (argE xs)]] [] (Av.one (ok0)),
    Tr.call 29 [Sv.cel (Cv.ent (argE ds))] [] (Av.one (intS c)),
    Tr.norm 13 (Av.one (Sv.cel (Cv.raw (Value.bool (c != (0 : Int)))))) (Av.one (boolS true))] := ⟨
    checkA_is h h1,
    checkDA_is hk hc,
    norm_bool (ne_true h0), trivial⟩
  exact fits_of_trace (n := 300) (k0 := 0) hT Tryz.func9 (by kernel_rfl) (by kernel_rfl) (by kernel_rfl)

set_option maxRecDepth 100000 in
theorem checkBad3_f {z : Int} {d : Nat} (h1 : LimI z) (h2 : d < Lim) (h : Nat.gcd z.natAbs d ≠ 1) : FitsP 9 [rz z d] [] (.one (intS 2)) := by
  have hT : AllOk Tryz.prog Glob [
    Tr.call 28 [im z] [] (Av.one (ok0)),
    Tr.call 29 [natS d] [] (Av.one (ok0)),
    Tr.call 31 [natS (Int.natAbs z), natS d] [] (Av.one (natS (Nat.gcd (Int.natAbs z) d))),
    Tr.call 30 [natS (Nat.gcd (Int.natAbs z) d)] [] (Av.one (boolS false))] := ⟨
    checkI_f h1,
    check_f h2,
    gcd_f h1 h2,
    isOne_not h, trivial⟩
  exact fits_of_trace (n := 300) (k0 := 0) hT Tryz.func9 (by kernel_rfl) (by kernel_rfl) (by kernel_rfl)

set_option maxRecDepth 100000 in
theorem checkBad4_f {z : Int} (h1 : LimI z) (h : z.natAbs = 1) : FitsP 9 [rz z 0] [] (.one (intS 2)) := by
  have hT : AllOk Tryz.prog Glob [
    Tr.call 28 [im z] [] (Av.one (ok0)),
    Tr.call 29 [natS (0 : Nat)] [] (Av.one (ok0)),
    Tr.call 31 [natS (Int.natAbs z), natS (0 : Nat)] [] (Av.one (natS (Nat.gcd (Int.natAbs z) (0 : Nat)))),
    Tr.call 30 [natS (Nat.gcd (Int.natAbs z) (0 : Nat))] [] (Av.one (boolS true))] := ⟨
    checkI_f h1,
    check_f (small_lim (by decide)),
    gcd_f h1 (small_lim (by decide)),
    isOne_is (by rw [h]; rfl), trivial⟩
  exact fits_of_trace (n := 300) (k0 := 0) hT Tryz.func9 (by kernel_rfl) (by kernel_rfl) (by kernel_rfl)

/-- A ratio that may not be, or is too long for what is tried. -/
def Unfit (m : Bool) (xs ds : List Nat) : Prop := 20 < xs.length ∨ (xs.length ≤ 20 ∧ 20 < ds.length) ∨ (xs.length ≤ 20 ∧ ds.length ≤ 20 ∧ ∃ c : Int, c ≠ 0 ∧ FitsP 9 [ag m xs ds] [] (.one (intS c)))
theorem ai_im {w : World} {m : Bool} {A : Option Addr} {c : Nat} {zs : List Nat} (hR : Arg w (.slice A zs.length c) zs) (hb : ∀ x ∈ zs, x < 4294967296) (hl : zs.length ≤ 40) (hf : checkI m zs = 0) :
    decide (sg m (val 4294967296 zs) < 0) = m ∧ Nm w (.slice A zs.length c) (sg m (val 4294967296 zs)).natAbs := by
  have hk : checkOf zs = 0 := by
    have := hf; unfold checkI at this
    by_cases h : checkOf zs = 0
    · exact h
    · rw [if_neg h] at this; exact this
  have hC := FitOne.can ⟨hl, hk⟩ hb
  have hz : val 4294967296 zs = 0 → zs.length = 0 := fun h => by rw [hC.nil_of (by omega) h]; rfl
  have hm : m = true → zs.length ≠ 0 := fun e h => by
    have := hf; unfold checkI at this
    rw [if_pos hk, if_pos ⟨e, h⟩] at this
    omega
  refine ⟨?_, by rw [sg_natAbs]; exact Nm.of_ok ⟨hR.2 hl, hC, by omega⟩⟩
  rw [sg_neg]
  cases m with
  | false => simp
  | true =>
    have h0 : 0 < val 4294967296 zs := by
      rcases Nat.eq_zero_or_pos (val 4294967296 zs) with e | e
      · exact absurd (hz e) (hm rfl)
      · exact e
    rw [decide_eq_true h0]; rfl
theorem ag_rz {m : Bool} {xs ds : List Nat} (hb : ∀ x ∈ xs, x < 4294967296) (hd : ∀ x ∈ ds, x < 4294967296) (hx : xs.length ≤ 20) (hy : ds.length ≤ 20) (h1 : checkI m xs = 0) (h2 : checkOf ds = 0) (β : Nat → Option Nat) (W : World) (v : Value) (h : RelS β W v (ag m xs ds)) :
    RelS β W v (rz (sg m (val 4294967296 xs)) (val 4294967296 ds)) := by
  obtain ⟨vs, rfl, hh⟩ := h
  match vs, hh with
  | [a, b, c], ⟨k1, k2, k3, _⟩ =>
    obtain rfl : a = .bool m := k1
    have k2 : Arg W b xs := k2
    have k3 : Arg W c ds := k3
    obtain ⟨⟨A, cap, rfl⟩, _⟩ := id k2
    obtain ⟨e1, hn⟩ := ai_im k2 hb (by omega) h1
    refine ⟨[_, _, _], rfl, ?_, hn, ?_, trivial⟩
    · show Value.bool m = Value.bool _
      rw [e1]
    · show Nm W _ _
      exact Nm.of_ok ⟨k3.2 (by omega), FitOne.can ⟨by omega, h2⟩ hd, by omega⟩
theorem ag_cases {m : Bool} {xs ds : List Nat} (hb : ∀ x ∈ xs, x < 4294967296) (hd : ∀ x ∈ ds, x < 4294967296) : (∃ q : Rat, BQ 20 q ∧ ∀ (β : Nat → Option Nat) (W : World) (v : Value), RelS β W v (ag m xs ds) → RelS β W v (rq q)) ∨ Unfit m xs ds := by
  by_cases hx : 20 < xs.length
  · exact .inr (.inl hx)
  have hx : xs.length ≤ 20 := by omega
  by_cases hy : 20 < ds.length
  · exact .inr (.inr (.inl ⟨hx, hy⟩))
  have hy : ds.length ≤ 20 := by omega
  by_cases h1 : checkI m xs = 0
  · by_cases h2 : checkOf ds = 0
    · have hk := ag_rz hb hd hx hy h1 h2
      have l1 : val 4294967296 xs < 4294967296 ^ 20 := Nat.lt_of_lt_of_le (val_lt hb) (Nat.pow_le_pow_right (by omega) hx)
      have l2 : val 4294967296 ds < 4294967296 ^ 20 := Nat.lt_of_lt_of_le (val_lt hd) (Nat.pow_le_pow_right (by omega) hy)
      have la : LimI (sg m (val 4294967296 xs)) := by unfold LimI; rw [sg_natAbs]; exact lim_of l1 (by omega)
      by_cases hg : Nat.gcd (sg m (val 4294967296 xs)).natAbs (val 4294967296 ds) = 1
      · by_cases h0 : val 4294967296 ds = 0
        · rw [h0] at hg
          refine .inr (.inr (.inr ⟨hx, hy, 2, by decide, Fits.args (checkBad4_f la (by rw [← Nat.gcd_zero_right (Int.natAbs _)]; exact hg)) fun β W vals h => ?_⟩))
          obtain ⟨v, rfl, h'⟩ := all2_1 h
          have := hk β W v h'
          rw [h0] at this
          exact ⟨this, trivial⟩
        · refine .inl ⟨Rat.normalize (sg m (val 4294967296 xs)) (val 4294967296 ds) h0, norm_BQ h0 (by rw [sg_natAbs]; exact l1) l2, fun β W v h => ?_⟩
          rw [← rz_norm1 h0 hg]
          exact hk β W v h
      · refine .inr (.inr (.inr ⟨hx, hy, 2, by decide, Fits.args (checkBad3_f la (lim_of l2 (by omega)) hg) fun β W vals h => ?_⟩))
        obtain ⟨v, rfl, h'⟩ := all2_1 h
        exact ⟨hk β W v h', trivial⟩
    · exact .inr (.inr (.inr ⟨hx, hy, _, h2, checkBad2_f (by omega) (by omega) h1 rfl h2⟩))
  · exact .inr (.inr (.inr ⟨hx, hy, _, h1, checkBad1_f (by omega) rfl h1⟩))
theorem BQ.len1 {q : Rat} (h : BQ 20 q) : decide (((lenN q.num.natAbs : Nat) : Int) > 20) = false := gt_false (lenN_le.2 h.1)
theorem BQ.len2 {q : Rat} (h : BQ 20 q) : decide (((lenN q.den : Nat) : Int) > 20) = false := gt_false (lenN_le.2 h.2)

end Go.Proofs.YtnncfbmddpijcaaGreatDoor
