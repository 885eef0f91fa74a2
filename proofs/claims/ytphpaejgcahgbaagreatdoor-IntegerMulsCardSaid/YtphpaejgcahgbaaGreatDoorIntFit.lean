/- Layer 3: which whole numbers may be. -/
import Derived.Test.YtphpaejgcahgbaaGreatDoorFits
import Derived.Test.YtphpaejgcahgbaaGreatDoorCounts3
namespace Go.Proofs.YtphpaejgcahgbaaGreatDoor
open Go Go.RowKit Go.Shelf AM
/-- Digits that come in. -/
def argE (zs : List Nat) : Ent where
  holds w v := Arg w v zs
  len := some zs.length
  mono he hs h := ⟨h.1, fun h' => (h.2 h').ext he hs⟩
  slice := by
    intro w v n h e
    injection e with e
    obtain ⟨⟨A, c, rfl⟩, _⟩ := h
    exact ⟨A, c, by rw [e]⟩
  cell := by
    intro w v h
    obtain ⟨⟨A, c, rfl⟩, _⟩ := h
    rfl
def aiS (m : Bool) (xs : List Nat) : Sv := .agg [.raw (.bool m), .ent (argE xs)]
def ag (m : Bool) (xs ds : List Nat) : Sv := .agg [.raw (.bool m), .ent (argE xs), .ent (argE ds)]

theorem arg_up {W w : World} {v : Value} {zs : List Nat} (h : Pre W w) (hn : Arg W v zs) : Arg w v zs := ⟨hn.1, fun h' => (hn.2 h').ext h.2.1 (Nat.le_of_eq h.1)⟩
theorem checkA_f {m : Bool} {xs : List Nat} (h : xs.length ≤ 40) : FitsP 26 [aiS m xs] [] (.one (intS (checkI m xs))) := fits_of cal26 fun β W w vals hp ha => by
  obtain ⟨u, rfl, vs, rfl, h1⟩ := all2_1 ha
  match vs, h1 with
  | [a, b], ⟨h1, h2, _⟩ =>
    obtain rfl : a = .bool m := h1
    have h3 : Arg w b xs := arg_up hp h2
    obtain ⟨⟨A, c, rfl⟩, h4⟩ := h3
    exact (checkInt_c w m A c xs.length xs (h4 h)).mono fun _ _ ⟨he, hb⟩ => ⟨_, he, hb, rfl⟩
theorem checkDA_f {xs : List Nat} (h : xs.length ≤ 40) : FitsP 101 [.cel (.ent (argE xs))] [] (.one (intS (checkOf xs))) := fits_of cal101 fun β W w vals hp ha => by
  obtain ⟨u, rfl, h1⟩ := all2_1 ha
  have h3 : Arg w u xs := arg_up hp h1
  exact (check_c w u xs (h3.2 h)).mono fun _ _ ⟨he, hw⟩ => ⟨_, he, by subst hw; exact Below.refl _ _, rfl⟩
theorem checkA_is {m : Bool} {xs : List Nat} {c : Int} (h : xs.length ≤ 40) (hc : checkI m xs = c) : FitsP 26 [aiS m xs] [] (.one (intS c)) := by subst hc; exact checkA_f h
theorem checkDA_is {xs : List Nat} {c : Int} (h : xs.length ≤ 40) (hc : checkOf xs = c) : FitsP 101 [.cel (.ent (argE xs))] [] (.one (intS c)) := by subst hc; exact checkDA_f h
theorem ne_true {c : Int} (h : c ≠ 0) : (c != 0) = true := by rw [bne_iff_ne]; exact h
theorem eq_false {c : Int} (h : c ≠ 0) : (c == 0) = false := by rw [beq_eq_false_iff_ne]; exact h
theorem gt_false {n k : Nat} (h : n ≤ k) : decide ((n : Int) > (k : Int)) = false := by rw [decide_eq_false_iff_not]; omega
theorem gt_true {n k : Nat} (h : k < n) : decide ((n : Int) > (k : Int)) = true := by rw [decide_eq_true_iff]; omega

theorem ai_im {w : World} {m : Bool} {A : Option Addr} {c : Nat} {zs : List Nat} (hR : Arg w (.slice A zs.length c) zs) (hb : ∀ x ∈ zs, x < 4294967296) (hl : zs.length ≤ 40) (hf : checkI m zs = 0) :
    decide (sg m (val 4294967296 zs) < 0) = m ∧ Nm w (.slice A zs.length c) (sg m (val 4294967296 zs)).natAbs := by
  have hk : checkOf zs = 0 := by
    have := hf; unfold checkI at this
    by_cases h : checkOf zs = 0
    · exact h
    · rw [if_neg h] at this; exact this
  have hC := FitOne.can ⟨hl, hk⟩ hb
  have hz : val 4294967296 zs = 0 → zs.length = 0 := fun h => by rw [hC.nil_of (by omega) h]; rfl
  have hm : m = true → zs.length ≠ 0 := fun e h => by
    have := hf; unfold checkI at this
    rw [if_pos hk, if_pos ⟨e, h⟩] at this
    omega
  refine ⟨?_, by rw [sg_natAbs]; exact Nm.of_ok ⟨hR.2 hl, hC, by omega⟩⟩
  rw [sg_neg]
  cases m with
  | false => simp
  | true =>
    have h0 : 0 < val 4294967296 zs := by
      rcases Nat.eq_zero_or_pos (val 4294967296 zs) with e | e
      · exact absurd (hz e) (hm rfl)
      · exact e
    rw [decide_eq_true h0]; rfl

/-- A whole number that may not be, or is too long for what is tried. -/
def UnfitI (m : Bool) (xs : List Nat) : Prop := 30 < xs.length ∨ (xs.length ≤ 30 ∧ checkI m xs ≠ 0)
theorem ai_cases {m : Bool} {xs : List Nat} (hb : ∀ x ∈ xs, x < 4294967296) : (∃ z : Int, z.natAbs < 4294967296 ^ 30 ∧ ∀ (β : Nat → Option Nat) (W : World) (v : Value), RelS β W v (aiS m xs) → RelS β W v (im z)) ∨ UnfitI m xs := by
  by_cases hx : 30 < xs.length
  · exact .inr (.inl hx)
  have hx : xs.length ≤ 30 := by omega
  by_cases h1 : checkI m xs = 0
  · refine .inl ⟨sg m (val 4294967296 xs), by rw [sg_natAbs]; exact Nat.lt_of_lt_of_le (val_lt hb) (Nat.pow_le_pow_right (by omega) hx), fun β W v h => ?_⟩
    obtain ⟨vs, rfl, hh⟩ := h
    match vs, hh with
    | [a, b], ⟨k1, k2, _⟩ =>
      obtain rfl : a = .bool m := k1
      have k2 : Arg W b xs := k2
      obtain ⟨⟨A, cap, rfl⟩, _⟩ := id k2
      obtain ⟨e1, hn⟩ := ai_im k2 hb (by omega) h1
      refine ⟨[_, _], rfl, ?_, hn, trivial⟩
      show Value.bool m = Value.bool _
      rw [e1]
  · exact .inr (.inr ⟨hx, h1⟩)
theorem len30 {x : Nat} (h : x < 4294967296 ^ 30) : decide (((lenN x : Nat) : Int) > 30) = false := gt_false (lenN_le.2 h)
theorem limI30 {z : Int} (h : z.natAbs < 4294967296 ^ 30) : LimI z := lim_of h (by omega)

theorem Fits.args {P : Program} {G : World → Prop} {f : FuncId} {args args' : List Sv} {mem : List (Nat × VarSt)} {r : Av} (h : Fits P G f args mem r) (ha : ∀ (β : Nat → Option Nat) (W : World) (vals : List Value), All2 (RelS β W) vals args' → All2 (RelS β W) vals args) : Fits P G f args' mem r :=
  ⟨h.1, fun β W w vals h1 h2 h3 h4 h5 h6 => h.2 β W w vals h1 h2 h3 h4 (ha β W vals h5) h6⟩
/-- A row handed in, whatever its number. -/
theorem Fits.row {P : Program} {G : World → Prop} {f : FuncId} {pre : List Sv} {n c : Nat} {t : TypeId} {cs : List Cv} {o : Bool} {r : Av} (h : Fits P G f (pre ++ [.cel (.row 0 0 n c)]) [(0, ⟨t, cs, o⟩)] r) (hp : pre.flatMap varsS = []) (hs : cs.flatMap varsC = []) (hr : varsA r = []) (x : Nat) (o' : Bool) :
    Fits P G f (pre ++ [.cel (.row x 0 n c)]) [(x, ⟨t, cs, o'⟩)] r := by
  refine ⟨h.1, fun β W w vals h1 h2 h3 h4 h5 h6 => ?_⟩
  have hbx : (fun y => if y = 0 then β x else none) 0 = β x := if_pos rfl
  have key : ∀ (pre : List Sv) (vals : List Value), pre.flatMap varsS = [] → All2 (RelS β W) vals (pre ++ [.cel (.row x 0 n c)]) → All2 (RelS (fun y => if y = 0 then β x else none) W) vals (pre ++ [.cel (.row 0 0 n c)]) := by
    intro pre
    induction pre with
    | nil =>
      intro vals _ hv
      match vals, hv with
      | [v], ⟨hv, _⟩ => exact ⟨hv, trivial⟩
    | cons s pre ih =>
      intro vals hp hv
      rw [List.flatMap_cons, List.append_eq_nil_iff] at hp
      match vals, hv with
      | v :: vals, ⟨hv, hr⟩ => exact ⟨relS_restrict (fun y hy => by rw [hp.1] at hy; cases hy) (fun _ _ h => h) hv, ih vals hp.2 hr⟩
  refine (h.2 (fun y => if y = 0 then β x else none) W w vals h1 h2 h3 h4 (key pre vals hp h5) (fun m hm => ?_)).mono fun _ _ ⟨v, he, hrel, hb⟩ => ⟨v, he, relA_restrict (fun y hy => by rw [hr] at hy; cases hy) (fun _ _ h => h) hrel, hb⟩
  obtain rfl : m = (0, ⟨t, cs, o⟩) := by simpa using hm
  obtain ⟨g, cs', b1, b2, b3, b4⟩ := h6 (x, ⟨t, cs, o'⟩) (by simp)
  exact ⟨g, cs', b1, b2, b3, all2_restrict (fun y hy => by rw [hs] at hy; cases hy) (fun _ _ h => h) b4⟩


set_option maxRecDepth 100000 in
theorem ifit_ok0 {z : Int} (h : z.natAbs < 4294967296 ^ 30) : FitsP 15 [Sv.cel (Cv.row 0 0 1 1)] [(0, ⟨25, [.raw (.bool (decide (z < 0))), .ent (nat z.natAbs)], true⟩)] (.one (boolS true)) := by
  have hT : AllOk Tryz.prog Glob [
    Tr.norm (nat_lit 14) (Av.one (Sv.cel (Cv.raw (Value.bool (decide ((↑(lenN (Int.natAbs z)) : Int) > (30 : Int))))))) (Av.one (Sv.cel (Cv.raw (Value.bool false)))),
    Tr.call 26 [Sv.agg [Cv.raw (Value.bool (decide (z < (0 : Int)))), Cv.ent (nat (Int.natAbs z))]] [] (Av.one (Sv.cel (Cv.raw (Value.int IntKind.i64 (Int.ofNat (nat_lit 0))))))] := ⟨
    norm_bool (len30 h),
    checkI_f (limI30 h), trivial⟩
  exact fits_of_trace (n := 300) (k0 := 1) hT Tryz.func15 (by kernel_rfl) (by kernel_rfl) (by kernel_rfl)

set_option maxRecDepth 100000 in
theorem ifit_long0 {m : Bool} {xs : List Nat} (h : 30 < xs.length) : FitsP 15 [Sv.cel (Cv.row 0 0 1 1)] [(0, ⟨25, [.raw (.bool m), .ent (argE xs)], true⟩)] (.one (boolS false)) := by
  have hT : AllOk Tryz.prog Glob [
    Tr.norm (nat_lit 14) (Av.one (Sv.cel (Cv.raw (Value.bool (decide ((↑(List.length xs) : Int) > (30 : Int))))))) (Av.one (Sv.cel (Cv.raw (Value.bool true))))] := ⟨
    norm_bool (gt_true h), trivial⟩
  exact fits_of_trace (n := 300) (k0 := 1) hT Tryz.func15 (by kernel_rfl) (by kernel_rfl) (by kernel_rfl)

set_option maxRecDepth 100000 in
theorem ifit_bad0 {m : Bool} {xs : List Nat} {c : Int} (hx : xs.length ≤ 30) (hc : checkI m xs = c) (h0 : c ≠ 0) : FitsP 15 [Sv.cel (Cv.row 0 0 1 1)] [(0, ⟨25, [.raw (.bool m), .ent (argE xs)], true⟩)] (.one (boolS false)) := by
  have hT : AllOk Tryz.prog Glob [
    Tr.norm (nat_lit 14) (Av.one (Sv.cel (Cv.raw (Value.bool (decide ((↑(List.length xs) : Int) > (30 : Int))))))) (Av.one (Sv.cel (Cv.raw (Value.bool false)))),
    Tr.call 26 [Sv.agg [Cv.raw (Value.bool m), Cv.ent (argE xs)]] [] (Av.one (Sv.cel (Cv.raw (Value.int IntKind.i64 c)))),
    Tr.norm (nat_lit 18) (Av.one (Sv.cel (Cv.raw (Value.bool (c != (0 : Int)))))) (Av.one (Sv.cel (Cv.raw (Value.bool true))))] := ⟨
    norm_bool (gt_false hx),
    checkA_is (by omega) hc,
    norm_bool (ne_true h0), trivial⟩
  exact fits_of_trace (n := 300) (k0 := 1) hT Tryz.func15 (by kernel_rfl) (by kernel_rfl) (by kernel_rfl)

theorem ifit_f {z : Int} (h : z.natAbs < 4294967296 ^ 30) (x : Nat) (o : Bool) : FitsP 15 [Sv.cel (Cv.row x 0 1 1)] [(x, ⟨25, [.raw (.bool (decide (z < 0))), .ent (nat z.natAbs)], o⟩)] (.one (boolS true)) := Fits.row (pre := []) (ifit_ok0 h) rfl rfl rfl x o
theorem iunfit {m : Bool} {xs : List Nat} (hu : UnfitI m xs) (x : Nat) (o : Bool) : FitsP 15 [Sv.cel (Cv.row x 0 1 1)] [(x, ⟨25, [.raw (.bool m), .ent (argE xs)], o⟩)] (.one (boolS false)) := by
  refine Fits.row (pre := []) (f := 15) (n := 1) (c := 1) (t := 25) (o := true) ?_ rfl rfl rfl x o
  rcases hu with h | ⟨hx, h⟩
  · exact ifit_long0 h
  · exact ifit_bad0 hx rfl h
theorem ccall : Callable Tryz.prog 14 := ⟨_, Tryz.func14, by kernel_rfl, by kernel_rfl⟩
theorem counts_f : FitsP 14 [] [] (.one (boolS true)) := fits_of ccall fun β W w vals hp ha => by
  obtain rfl : vals = [] := by match vals, ha with | [], _ => rfl
  exact (counts3_c w hp.2.2.2.1 hp.2.2.2.2.1).mono fun _ _ ⟨he, hb⟩ => ⟨_, he, hb, rfl⟩
end Go.Proofs.YtphpaejgcahgbaaGreatDoor
