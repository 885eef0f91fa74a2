/- Ratios of whatever length. -/
import Derived.Test.YtnncfbmddpijcaaGreatDoorRatFit
namespace Go.Proofs.YtnncfbmddpijcaaGreatDoor
open Go Go.RowKit Go.Shelf AM
/-- Digits that come in: read, if there may be so many. -/
def argL (zs : List Nat) : Ent where
  holds w v := (∃ A c, v = .slice A zs.length c) ∧ (zs.length ≤ 512 → Rd .u32 w v zs)
  len := some zs.length
  mono he hs h := ⟨h.1, fun h' => (h.2 h').ext he hs⟩
  slice := by
    intro w v n h e
    injection e with e
    obtain ⟨⟨A, c, rfl⟩, _⟩ := h
    exact ⟨A, c, by rw [e]⟩
  cell := by
    intro w v h
    obtain ⟨⟨A, c, rfl⟩, _⟩ := h
    rfl
def alS (m : Bool) (xs : List Nat) : Sv := .agg [.raw (.bool m), .ent (argL xs)]
def agL (m : Bool) (xs ds : List Nat) : Sv := .agg [.raw (.bool m), .ent (argL xs), .ent (argL ds)]

set_option maxRecDepth 100000 in
theorem checkLong_f {xs : List Nat} (h : 512 < xs.length) : FitsP 29 [.cel (.ent (argL xs))] [] (.one (intS 11)) := by
  have hT : AllOk Tryz.prog Glob [
    Tr.norm (nat_lit 4) (Av.one (Sv.cel (Cv.raw (Value.bool (decide ((↑(List.length xs) : Int) > (512 : Int))))))) (Av.one (Sv.cel (Cv.raw (Value.bool true))))] := ⟨
    norm_bool (gt_true h), trivial⟩
  exact fits_of_trace (n := 300) (k0 := 0) hT Tryz.func29 (by kernel_rfl) (by kernel_rfl) (by kernel_rfl)

theorem argL_up {W w : World} {v : Value} {zs : List Nat} (h : Pre W w) (hn : (argL zs).holds W v) : (argL zs).holds w v := (argL zs).mono h.2.1 (Nat.le_of_eq h.1) hn
theorem checkDL_f {xs : List Nat} : FitsP 29 [.cel (.ent (argL xs))] [] (.one (intS (checkOf xs))) := by
  by_cases hl : 512 < xs.length
  · rw [checkOf_long hl]; exact checkLong_f hl
  · exact fits_of cal29 fun β W w vals hp ha => by
      obtain ⟨u, rfl, h1⟩ := all2_1 ha
      have h3 : (argL xs).holds w u := argL_up hp h1
      exact (check_c w u xs (h3.2 (by omega))).mono fun _ _ ⟨he, hw⟩ => ⟨_, he, by subst hw; exact Below.refl _ _, rfl⟩
theorem checkDL_is {xs : List Nat} {c : Int} (hc : checkOf xs = c) : FitsP 29 [.cel (.ent (argL xs))] [] (.one (intS c)) := by subst hc; exact checkDL_f
theorem checkAL_f {m : Bool} {xs : List Nat} (h : xs.length ≤ 512) : FitsP 28 [alS m xs] [] (.one (intS (checkI m xs))) := fits_of cal28 fun β W w vals hp ha => by
  obtain ⟨u, rfl, vs, rfl, h1⟩ := all2_1 ha
  match vs, h1 with
  | [a, b], ⟨h1, h2, _⟩ =>
    obtain rfl : a = .bool m := h1
    have h3 : (argL xs).holds w b := argL_up hp h2
    obtain ⟨⟨A, c, rfl⟩, h4⟩ := h3
    exact (checkInt_c w m A c xs.length xs (h4 h)).mono fun _ _ ⟨he, hb⟩ => ⟨_, he, hb, rfl⟩

set_option maxRecDepth 100000 in
theorem checkALong_f {m : Bool} {xs : List Nat} (h : 512 < xs.length) : FitsP 28 [alS m xs] [] (.one (intS 11)) := by
  have hT : AllOk Tryz.prog Glob [
    Tr.call 29 [Sv.cel (Cv.ent (argL xs))] [] (Av.one (Sv.cel (Cv.raw (Value.int IntKind.i64 (Int.ofNat (nat_lit 11))))))] := ⟨
    checkDL_is (checkOf_long h), trivial⟩
  exact fits_of_trace (n := 300) (k0 := 0) hT Tryz.func28 (by kernel_rfl) (by kernel_rfl) (by kernel_rfl)

theorem checkAL_is {m : Bool} {xs : List Nat} {c : Int} (hc : checkI m xs = c) : FitsP 28 [alS m xs] [] (.one (intS c)) := by
  subst hc
  by_cases hl : 512 < xs.length
  · have : checkI m xs = 11 := by unfold checkI; rw [checkOf_long hl, if_neg (by decide)]
    rw [this]; exact checkALong_f hl
  · exact checkAL_f (by omega)

set_option maxRecDepth 100000 in
theorem checkL1_f {m : Bool} {xs ds : List Nat} {c : Int} (hc : checkI m xs = c) (h0 : c ≠ 0) : FitsP 9 [agL m xs ds] [] (.one (intS c)) := by
  have hT : AllOk Tryz.prog Glob [
    Tr.call 28 [Sv.agg [Cv.raw (Value.bool m), Cv.ent (argL xs)]] [] (Av.one (Sv.cel (Cv.raw (Value.int IntKind.i64 c)))),
    Tr.norm (nat_lit 7) (Av.one (Sv.cel (Cv.raw (Value.bool (c != (0 : Int)))))) (Av.one (Sv.cel (Cv.raw (Value.bool true))))] := ⟨
    checkAL_is hc,
    norm_bool (ne_true h0), trivial⟩
  exact fits_of_trace (n := 300) (k0 := 0) hT Tryz.func9 (by kernel_rfl) (by kernel_rfl) (by kernel_rfl)

set_option maxRecDepth 100000 in
theorem checkL2_f {m : Bool} {xs ds : List Nat} {c : Int} (h1 : checkI m xs = 0) (hc : checkOf ds = c) (h0 : c ≠ 0) : FitsP 9 [agL m xs ds] [] (.one (intS c)) := by
  have hT : AllOk Tryz.prog Glob [
    Tr.call 28 [Sv.agg [Cv.raw (Value.bool m), Cv.ent (argL xs)]] [] (Av.one (Sv.cel (Cv.raw (Value.int IntKind.i64 (Int.ofNat (nat_lit 0)))))),
    Tr.call 29 [Sv.cel (Cv.ent (argL ds))] [] (Av.one (Sv.cel (Cv.raw (Value.int IntKind.i64 c)))),
    Tr.norm (nat_lit 13) (Av.one (Sv.cel (Cv.raw (Value.bool (c != (0 : Int)))))) (Av.one (Sv.cel (Cv.raw (Value.bool true))))] := ⟨
    checkAL_is h1,
    checkDL_is hc,
    norm_bool (ne_true h0), trivial⟩
  exact fits_of_trace (n := 300) (k0 := 0) hT Tryz.func9 (by kernel_rfl) (by kernel_rfl) (by kernel_rfl)

theorem canL {zs : List Nat} (hk : checkOf zs = 0) (hb : ∀ x ∈ zs, x < 4294967296) : zs.length ≤ 512 ∧ Can 4294967296 zs := by
  by_cases hl : 512 < zs.length
  · rw [checkOf_long hl] at hk; exact absurd hk (by decide)
  · refine ⟨by omega, hb, fun e => ?_⟩
    rw [checkOf_form hl e] at hk
    exact absurd hk (by decide)
theorem checkI_of {m : Bool} {zs : List Nat} (hf : checkI m zs = 0) : checkOf zs = 0 := by
  unfold checkI at hf
  by_cases h : checkOf zs = 0
  · exact h
  · rw [if_neg h] at hf; exact absurd hf h
theorem al_im {w : World} {m : Bool} {A : Option Addr} {c : Nat} {zs : List Nat} (hR : (argL zs).holds w (.slice A zs.length c)) (hb : ∀ x ∈ zs, x < 4294967296) (hf : checkI m zs = 0) :
    decide (sg m (val 4294967296 zs) < 0) = m ∧ Nm w (.slice A zs.length c) (sg m (val 4294967296 zs)).natAbs := by
  obtain ⟨hl, hC⟩ := canL (checkI_of hf) hb
  have hz : val 4294967296 zs = 0 → zs.length = 0 := fun h => by rw [hC.nil_of (by omega) h]; rfl
  have hm : m = true → zs.length ≠ 0 := fun e h => by
    have := hf; unfold checkI at this
    rw [if_pos (checkI_of hf), if_pos ⟨e, h⟩] at this
    omega
  refine ⟨?_, by rw [sg_natAbs]; exact Nm.of_ok ⟨hR.2 hl, hC, by omega⟩⟩
  rw [sg_neg]
  cases m with
  | false => simp
  | true =>
    have h0 : 0 < val 4294967296 zs := by
      rcases Nat.eq_zero_or_pos (val 4294967296 zs) with e | e
      · exact absurd (hz e) (hm rfl)
      · exact e
    rw [decide_eq_true h0]; rfl
theorem agL_rz {m : Bool} {xs ds : List Nat} (hb : ∀ x ∈ xs, x < 4294967296) (hd : ∀ x ∈ ds, x < 4294967296) (h1 : checkI m xs = 0) (h2 : checkOf ds = 0) (β : Nat → Option Nat) (W : World) (v : Value) (h : RelS β W v (agL m xs ds)) :
    RelS β W v (rz (sg m (val 4294967296 xs)) (val 4294967296 ds)) := by
  obtain ⟨vs, rfl, hh⟩ := h
  match vs, hh with
  | [a, b, c], ⟨k1, k2, k3, _⟩ =>
    obtain rfl : a = .bool m := k1
    have k2 : (argL xs).holds W b := k2
    have k3 : (argL ds).holds W c := k3
    obtain ⟨⟨A, cap, rfl⟩, _⟩ := id k2
    obtain ⟨e1, hn⟩ := al_im k2 hb h1
    obtain ⟨hl, hC⟩ := canL h2 hd
    refine ⟨[_, _, _], rfl, ?_, hn, ?_, trivial⟩
    · show Value.bool m = Value.bool _
      rw [e1]
    · show Nm W _ _
      exact Nm.of_ok ⟨k3.2 hl, hC, by omega⟩
/-- A ratio that may be, however long. -/
def LQ (q : Rat) : Prop := LimI q.num ∧ q.den < Lim
def UnfitL (m : Bool) (xs ds : List Nat) : Prop := ∃ c : Int, c ≠ 0 ∧ FitsP 9 [agL m xs ds] [] (.one (intS c))
theorem agL_cases {m : Bool} {xs ds : List Nat} (hb : ∀ x ∈ xs, x < 4294967296) (hd : ∀ x ∈ ds, x < 4294967296) : (∃ q : Rat, LQ q ∧ ∀ (β : Nat → Option Nat) (W : World) (v : Value), RelS β W v (agL m xs ds) → RelS β W v (rq q)) ∨ UnfitL m xs ds := by
  by_cases h1 : checkI m xs = 0
  · by_cases h2 : checkOf ds = 0
    · have hk := agL_rz hb hd h1 h2
      have l1 : val 4294967296 xs < Lim := Nat.lt_of_lt_of_le (val_lt hb) (Nat.pow_le_pow_right (by omega) (canL (checkI_of h1) hb).1)
      have l2 : val 4294967296 ds < Lim := Nat.lt_of_lt_of_le (val_lt hd) (Nat.pow_le_pow_right (by omega) (canL h2 hd).1)
      have la : LimI (sg m (val 4294967296 xs)) := by unfold LimI; rw [sg_natAbs]; exact l1
      by_cases hg : Nat.gcd (sg m (val 4294967296 xs)).natAbs (val 4294967296 ds) = 1
      · by_cases h0 : val 4294967296 ds = 0
        · rw [h0] at hg
          refine .inr ⟨2, by decide, Fits.args (checkBad4_f la (by rw [← Nat.gcd_zero_right (Int.natAbs _)]; exact hg)) fun β W vals h => ?_⟩
          obtain ⟨v, rfl, h'⟩ := all2_1 h
          have := hk β W v h'
          rw [h0] at this
          exact ⟨this, trivial⟩
        · refine .inl ⟨Rat.normalize (sg m (val 4294967296 xs)) (val 4294967296 ds) h0, norm_BQ (n := maxL) h0 la l2, fun β W v h => ?_⟩
          rw [← rz_norm1 h0 hg]
          exact hk β W v h
      · refine .inr ⟨2, by decide, Fits.args (checkBad3_f la l2 hg) fun β W vals h => ?_⟩
        obtain ⟨v, rfl, h'⟩ := all2_1 h
        exact ⟨hk β W v h', trivial⟩
    · exact .inr ⟨_, h2, checkL2_f h1 rfl h2⟩
  · exact .inr ⟨_, h1, checkL1_f rfl h1⟩
end Go.Proofs.YtnncfbmddpijcaaGreatDoor
