/- Layer 3: the document's answers, digit by digit. -/
import Derived.Test.YtphpaejgcahgbaaGreatDoorCounts3
import Derived.Test.YtphpaejgcahgbaaGreatDoorIntFit
import Derived.Test.YtphpaejgcahgbaaGreatDoorRefOf
import Derived.Test.YtphpaejgcahgbaaGreatDoorRefAdd
import Derived.Test.YtphpaejgcahgbaaGreatDoorRefMul
import Derived.Test.YtphpaejgcahgbaaGreatDoorRefCmp
namespace Go.Proofs.YtphpaejgcahgbaaGreatDoor
open Go Go.RowKit Go.Shelf AM
/-- A number's digits to the base 256. -/
def Rm (w : World) (v : Value) (x : Nat) : Prop := ∃ A cap zs, v = .slice A zs.length cap ∧ Rd .i64 w (.slice A zs.length cap) zs ∧ Can 256 zs ∧ val 256 zs = x
def len8 (x : Nat) : Nat := if x = 0 then 0 else Nat.log2 x / 8 + 1
theorem pow8 (k : Nat) : 256 ^ k = 2 ^ (8 * k) := by rw [Nat.pow_mul]
theorem len8_le {x k : Nat} : len8 x ≤ k ↔ x < 256 ^ k := by
  unfold len8
  rw [pow8]
  by_cases h : x = 0
  · subst h; simp [Nat.two_pow_pos]
  · rw [if_neg h, ← Nat.log2_lt h]
    omega
theorem len8_zero {x : Nat} : len8 x = 0 ↔ x = 0 := by
  unfold len8
  by_cases h : x = 0
  · simp [h]
  · rw [if_neg h]; simp [h]
theorem can_len8 {zs : List Nat} (h : Can 256 zs) : zs.length = len8 (val 256 zs) := by
  refine Nat.le_antisymm (h.len_le (by omega) (len8_le.1 (Nat.le_refl _))) (len8_le.2 (val_lt h.1))
theorem Rm.ext {w w' : World} {v : Value} {x : Nat} (h : Rm w v x) (he : Ext w w') (hs : w.heap.size ≤ w'.heap.size) : Rm w' v x := by
  obtain ⟨A, cap, zs, rfl, h1, h2, h3⟩ := h
  exact ⟨A, cap, zs, rfl, h1.ext he hs, h2, h3⟩
theorem Rm.nil (w : World) : Rm w (.slice none 0 0) 0 := ⟨none, 0, [], rfl, Rd.nil _ _ _, Can.nil _, rfl⟩
/-- A number by its digits to the base 256. -/
def dgt (x : Nat) : Ent where
  holds w v := Rm w v x
  len := some (len8 x)
  mono he hs h := h.ext he hs
  slice := by
    intro w v n h e
    obtain ⟨A, cap, zs, rfl, h1, h2, h3⟩ := h
    injection e with e
    rw [← e, ← h3, ← can_len8 h2]
    exact ⟨A, cap, rfl⟩
  cell := by
    intro w v h
    obtain ⟨A, cap, zs, rfl, _⟩ := h
    rfl
def dgtS (x : Nat) : Sv := .cel (.ent (dgt x))
/-- A number by its sign and its digits. -/
def sgm (m : Bool) (x : Nat) : Sv := .agg [.raw (.bool m), .ent (dgt x)]

theorem Rm.hide {W w' : World} {v : Value} {x : Nat} (h : Rm w' v x) (hu : U32 W w') (hs : W.heap.size = w'.heap.size) : Rm W v x := by
  obtain ⟨A, cap, zs, rfl, ⟨A', cap', e, h1, h2, h3⟩, hc, hv⟩ := h
  refine ⟨A, cap, zs, rfl, ⟨A', cap', e, h1, h2, fun h0 => ?_⟩, hc, hv⟩
  obtain ⟨b, off, rfl, hlt, hcell⟩ := h3 h0
  exact ⟨b, off, rfl, by omega, fun j x hx => hu _ _ _ rfl (hcell j x hx)⟩
def RetM (w : World) (x : Nat) (e : Ending) (w' : World) : Prop := ∃ v, e = .returned v ∧ Rm w' v x ∧ Below w.heap.size w w'
theorem retM_of {w w' : World} {x n : Nat} {e : Ending} (h : RefOut w x n e w') : RetM w x e w' := by
  obtain ⟨hb, A, cap, ds, rfl, h1, h2, h3, _⟩ := h
  exact ⟨_, rfl, ⟨A, cap, ds, rfl, h1, h2, h3⟩, hb⟩
theorem dig_rel {β : Nat → Option Nat} {W w : World} {v : Value} {x : Nat} (h : Pre W w) (hn : RelS β W v (dgtS x)) : Rm w v x := Rm.ext hn h.2.1 (Nat.le_of_eq h.1)
theorem dig_back {β : Nat → Option Nat} {W w w' : World} {v : Value} {x : Nat} (h : Pre W w) (hb : Below w.heap.size w w') (hn : Rm w' v x) : RelS β (patch W w') v (dgtS x) :=
  Rm.hide hn (h.patch hb).1 (h.patch hb).2
section
variable {x y k : Nat}
theorem callOf : Callable Tryz.prog 83 := ⟨_, Tryz.func83, by kernel_rfl, by kernel_rfl⟩
theorem callAdd : Callable Tryz.prog 92 := ⟨_, Tryz.func92, by kernel_rfl, by kernel_rfl⟩
theorem callSub : Callable Tryz.prog 93 := ⟨_, Tryz.func93, by kernel_rfl, by kernel_rfl⟩
theorem callMul : Callable Tryz.prog 24 := ⟨_, Tryz.func24, by kernel_rfl, by kernel_rfl⟩
theorem callCmp : Callable Tryz.prog 91 := ⟨_, Tryz.func91, by kernel_rfl, by kernel_rfl⟩
theorem callBack : Callable Tryz.prog 90 := ⟨_, Tryz.func90, by kernel_rfl, by kernel_rfl⟩
theorem callEq : Callable Tryz.prog 89 := ⟨_, Tryz.func89, by kernel_rfl, by kernel_rfl⟩
theorem refOf_f (hl : x < Lim) : FitsP 83 [natS x] [] (.one (dgtS x)) := fits_of callOf fun β W w vals hp ha => by
  obtain ⟨u, rfl, h1⟩ := all2_1 ha
  obtain ⟨A, c, xs, rfl, e1, rfl⟩ := nat_rel hp h1
  exact (refOf_c w _ xs e1.1 e1.2.1.1 (by have := len_of_lim e1.2.1 hl; omega)).mono fun _ _ h => by
    obtain ⟨v, he, hr, hb⟩ := retM_of h
    exact ⟨v, he, hb, dig_back (β := β) hp hb hr⟩
theorem refAdd8_f (hk : k ≤ 100000) (hx : x < 256 ^ k) (hy : y < 256 ^ k) : FitsP 92 [dgtS x, dgtS y] [] (.one (dgtS (x + y))) := fits_of callAdd fun β W w vals hp ha => by
  obtain ⟨u, v, rfl, h1, h2⟩ := all2_2 ha
  obtain ⟨A, c, xs, rfl, e1, e2, rfl⟩ := dig_rel hp h1
  obtain ⟨A', c', ys, rfl, g1, g2, rfl⟩ := dig_rel hp h2
  exact (refAdd_c w _ _ xs ys e1 g1 e2.1 g2.1 (Nat.le_trans (e2.len_le (by omega) hx) hk) (Nat.le_trans (g2.len_le (by omega) hy) hk)).mono fun _ _ h => by
    obtain ⟨v, he, hr, hb⟩ := retM_of h
    exact ⟨v, he, hb, dig_back (β := β) hp hb hr⟩
theorem refMul8_f (hk : k ≤ 100000) (hx : x < 256 ^ k) (hy : y < 256 ^ k) : FitsP 24 [dgtS x, dgtS y] [] (.one (dgtS (x * y))) := fits_of callMul fun β W w vals hp ha => by
  obtain ⟨u, v, rfl, h1, h2⟩ := all2_2 ha
  obtain ⟨A, c, xs, rfl, e1, e2, rfl⟩ := dig_rel hp h1
  obtain ⟨A', c', ys, rfl, g1, g2, rfl⟩ := dig_rel hp h2
  exact (refMul_c w _ _ xs ys e1 g1 e2.1 g2.1 (Nat.le_trans (e2.len_le (by omega) hx) hk) (Nat.le_trans (g2.len_le (by omega) hy) hk)).mono fun _ _ h => by
    obtain ⟨v, he, hr, hb⟩ := retM_of h
    exact ⟨v, he, hb, dig_back (β := β) hp hb hr⟩
theorem refSub8_f (hk : k ≤ 100000) (hx : x < 256 ^ k) (hle : y ≤ x) : FitsP 93 [dgtS x, dgtS y] [] (.one (dgtS (x - y))) := fits_of callSub fun β W w vals hp ha => by
  obtain ⟨u, v, rfl, h1, h2⟩ := all2_2 ha
  obtain ⟨A, c, xs, rfl, e1, e2, rfl⟩ := dig_rel hp h1
  obtain ⟨A', c', ys, rfl, g1, g2, rfl⟩ := dig_rel hp h2
  exact (refSub_c w _ _ xs ys e1 g1 e2.1 g2 hle (Nat.le_trans (e2.len_le (by omega) hx) hk) (Nat.le_trans (g2.len_le (by omega) (Nat.lt_of_le_of_lt hle hx)) hk)).mono fun _ _ h => by
    obtain ⟨v, he, hr, hb⟩ := retM_of h
    exact ⟨v, he, hb, dig_back (β := β) hp hb hr⟩
theorem refCmp8_f (hk : k ≤ 100000) (hx : x < 256 ^ k) (hy : y < 256 ^ k) : FitsP 91 [dgtS x, dgtS y] [] (.one (intS (ord3 x y))) := fits_of callCmp fun β W w vals hp ha => by
  obtain ⟨u, v, rfl, h1, h2⟩ := all2_2 ha
  obtain ⟨A, c, xs, rfl, e1, e2, rfl⟩ := dig_rel hp h1
  obtain ⟨A', c', ys, rfl, g1, g2, rfl⟩ := dig_rel hp h2
  exact (refCmp_c w _ _ xs ys e1 g1 e2.1 g2.1 (Nat.le_trans (Nat.le_trans (e2.len_le (by omega) hx) hk) (by omega)) (Nat.le_trans (Nat.le_trans (g2.len_le (by omega) hy) hk) (by omega))).mono fun _ _ ⟨he, hw⟩ => ⟨_, he, by subst hw; exact Below.refl _ _, rfl⟩
theorem refBack_f (hk : k ≤ 100000) (hx : x < 256 ^ k) (hl : x < Lim) : FitsP 90 [dgtS x] [] (.one (natS x)) := fits_of callBack fun β W w vals hp ha => by
  obtain ⟨u, rfl, h1⟩ := all2_1 ha
  obtain ⟨A, c, xs, rfl, e1, e2, rfl⟩ := dig_rel hp h1
  exact (refBack_c w _ xs e1 e2 (Nat.le_trans (Nat.le_trans (e2.len_le (by omega) hx) hk) (by omega))).mono fun _ _ h => by
    obtain ⟨hb, A1, c1, us, rfl, hr, hc, hu⟩ := h
    refine ⟨_, rfl, hb, nat_back (β := β) hp hb ?_⟩
    rw [← hu]
    exact ⟨A1, c1, us, rfl, ⟨hr, hc, by have := len_of_lim hc (by rw [hu]; exact hl); omega⟩, rfl⟩
theorem equalU_f : FitsP 89 [natS x, natS x] [] (.one (boolS true)) := fits_of callEq fun β W w vals hp ha => by
  obtain ⟨u, v, rfl, h1, h2⟩ := all2_2 ha
  obtain ⟨A, c, xs, rfl, e1, hv⟩ := nat_rel hp h1
  obtain ⟨A', c', ys, rfl, g1, gv⟩ := nat_rel hp h2
  refine (equal_u32 w _ _ xs ys e1.1 g1.1).mono ?_
  rintro e w2 ⟨rfl, n, rfl⟩
  have he : xs = ys := Can.eq e1.2.1 g1.2.1 (by rw [hv, gv])
  exact ⟨_, rfl, ⟨rfl, rfl, rfl, Nat.le_refl _, fun _ _ => rfl⟩, by rw [eqL_true he]; rfl⟩
end
/-- As much as there is room for: digits to the base 256. -/
theorem d8 {x n : Nat} (h : x < 4294967296 ^ n) : x < 256 ^ (4 * n) := by rw [Nat.pow_mul]; exact h

set_option maxRecDepth 100000 in
theorem of3_f {z : Int} (h : LimI z) : FitsP 16 [im z] [] (.one (sgm (decide (z < 0)) z.natAbs)) := by
  have hT : AllOk Tryz.prog Glob [
    Tr.call 83 [Sv.cel (Cv.ent (nat (Int.natAbs z)))] [] (Av.one (Sv.cel (Cv.ent (dgt (Int.natAbs z)))))] := ⟨
    refOf_f h, trivial⟩
  exact fits_of_trace (n := 300) (k0 := 0) hT Tryz.func16 (by kernel_rfl) (by kernel_rfl) (by kernel_rfl)

set_option maxRecDepth 100000 in
theorem add3s_f {m n : Bool} {x y k : Nat} (hk : k ≤ 100000) (hx : x < 256 ^ k) (hy : y < 256 ^ k) {c : Int} (hc : ord3 x y = c) (h : (m == n) = true) : FitsP 21 [sgm m x, sgm n y] [] (.one (sgm m (x + y))) := by
  have hT : AllOk Tryz.prog Glob [
    Tr.call 91 [Sv.cel (Cv.ent (dgt x)), Sv.cel (Cv.ent (dgt y))] [] (Av.one (Sv.cel (Cv.raw (Value.int IntKind.i64 c)))),
    Tr.norm (nat_lit 14) (Av.one (Sv.cel (Cv.raw (Value.bool (m == n))))) (Av.one (Sv.cel (Cv.raw (Value.bool true)))),
    Tr.call 92 [Sv.cel (Cv.ent (dgt x)), Sv.cel (Cv.ent (dgt y))] [] (Av.one (Sv.cel (Cv.ent (dgt (x + y)))))] := ⟨
    by have := refCmp8_f hk hx hy; rw [hc] at this; exact this,
    norm_bool (h),
    refAdd8_f hk hx hy, trivial⟩
  exact fits_of_trace (n := 300) (k0 := 0) hT Tryz.func21 (by kernel_rfl) (by kernel_rfl) (by kernel_rfl)

theorem norm_sg0 : Norm (.one (.agg [.raw (.bool false), .raw (.slice none 0 0)])) (.one (sgm false 0)) := fun β W v h => by
  obtain ⟨vs, rfl, hh⟩ := h
  match vs, hh with
  | [a, b], ⟨h1, h2, _⟩ =>
    refine ⟨[a, b], rfl, h1, ?_, trivial⟩
    show Rm W b 0
    rw [show b = .slice none 0 0 from h2]; exact Rm.nil W
set_option maxRecDepth 100000 in
theorem add3e_f {m n : Bool} {x y k : Nat} (hk : k ≤ 100000) (hx : x < 256 ^ k) (hy : y < 256 ^ k) (h : (m == n) = false) (e : x = y) : FitsP 21 [sgm m x, sgm n y] [] (.one (sgm false 0)) := by
  have hT : AllOk Tryz.prog Glob [
    Tr.call 91 [Sv.cel (Cv.ent (dgt x)), Sv.cel (Cv.ent (dgt y))] [] (Av.one (Sv.cel (Cv.raw (Value.int IntKind.i64 (Int.ofNat (nat_lit 0)))))),
    Tr.norm (nat_lit 14) (Av.one (Sv.cel (Cv.raw (Value.bool (m == n))))) (Av.one (Sv.cel (Cv.raw (Value.bool false))))] := ⟨
    by have := refCmp8_f hk hx hy; rw [show ord3 x y = 0 by rw [e, ord3_eq]] at this; exact this,
    norm_bool (h), trivial⟩
  exact Fits.res (r := (.one (Sv.agg [Cv.raw (Value.bool false), Cv.raw (Value.slice none (nat_lit 0) (nat_lit 0))]))) (fits_of_trace (n := 300) (k0 := 0) hT Tryz.func21 (by kernel_rfl) (by kernel_rfl) (by kernel_rfl)) (norm_sg0)

set_option maxRecDepth 100000 in
theorem add3g_f {m n : Bool} {x y k : Nat} (hk : k ≤ 100000) (hx : x < 256 ^ k) (hy : y < 256 ^ k) (h : (m == n) = false) (e : y < x) : FitsP 21 [sgm m x, sgm n y] [] (.one (sgm m (x - y))) := by
  have hT : AllOk Tryz.prog Glob [
    Tr.call 91 [Sv.cel (Cv.ent (dgt x)), Sv.cel (Cv.ent (dgt y))] [] (Av.one (Sv.cel (Cv.raw (Value.int IntKind.i64 (Int.ofNat (nat_lit 1)))))),
    Tr.norm (nat_lit 14) (Av.one (Sv.cel (Cv.raw (Value.bool (m == n))))) (Av.one (Sv.cel (Cv.raw (Value.bool false)))),
    Tr.call 93 [Sv.cel (Cv.ent (dgt x)), Sv.cel (Cv.ent (dgt y))] [] (Av.one (Sv.cel (Cv.ent (dgt (x - y)))))] := ⟨
    by have := refCmp8_f hk hx hy; rw [ord3_gt e] at this; exact this,
    norm_bool (h),
    refSub8_f hk hx (by omega), trivial⟩
  exact fits_of_trace (n := 300) (k0 := 0) hT Tryz.func21 (by kernel_rfl) (by kernel_rfl) (by kernel_rfl)

set_option maxRecDepth 100000 in
theorem add3l_f {m n : Bool} {x y k : Nat} (hk : k ≤ 100000) (hx : x < 256 ^ k) (hy : y < 256 ^ k) (h : (m == n) = false) (e : x < y) : FitsP 21 [sgm m x, sgm n y] [] (.one (sgm n (y - x))) := by
  have hT : AllOk Tryz.prog Glob [
    Tr.call 91 [Sv.cel (Cv.ent (dgt x)), Sv.cel (Cv.ent (dgt y))] [] (Av.one (Sv.cel (Cv.raw (Value.int IntKind.i64 (Int.negSucc (nat_lit 0)))))),
    Tr.norm (nat_lit 14) (Av.one (Sv.cel (Cv.raw (Value.bool (m == n))))) (Av.one (Sv.cel (Cv.raw (Value.bool false)))),
    Tr.call 93 [Sv.cel (Cv.ent (dgt y)), Sv.cel (Cv.ent (dgt x))] [] (Av.one (Sv.cel (Cv.ent (dgt (y - x)))))] := ⟨
    by have := refCmp8_f hk hx hy; rw [ord3_lt e] at this; exact this,
    norm_bool (h),
    refSub8_f hk hy (by omega), trivial⟩
  exact fits_of_trace (n := 300) (k0 := 0) hT Tryz.func21 (by kernel_rfl) (by kernel_rfl) (by kernel_rfl)

/-- What a sign and a size come to. -/
def sgv (m : Bool) (x : Nat) : Int := if m then -(x : Int) else (x : Int)
theorem add3_f {m n : Bool} {x y k : Nat} (hk : k ≤ 100000) (hx : x < 256 ^ k) (hy : y < 256 ^ k) : ∃ (o : Bool) (u : Nat), sgv o u = sgv m x + sgv n y ∧ (o = true → (m = true ∧ (n = true ∨ u ≠ 0)) ∨ (n = true ∧ u ≠ 0)) ∧ u ≤ x + y ∧ FitsP 21 [sgm m x, sgm n y] [] (.one (sgm o u)) := by
  by_cases h : m = n
  · subst h
    refine ⟨m, x + y, ?_, fun e => .inl ⟨e, .inl e⟩, Nat.le_refl _, add3s_f hk hx hy rfl (by simp)⟩
    unfold sgv; split <;> omega
  · have hb : (m == n) = false := by simpa using h
    rcases Nat.lt_trichotomy x y with e | e | e
    · refine ⟨n, y - x, ?_, fun e' => .inr ⟨e', by omega⟩, by omega, add3l_f hk hx hy hb e⟩
      cases m <;> cases n <;> simp at h <;> simp [sgv] <;> omega
    · refine ⟨false, 0, ?_, (fun e' => by cases e'), by omega, add3e_f hk hx hy hb e⟩
      cases m <;> cases n <;> simp at h <;> simp [sgv] <;> omega
    · refine ⟨m, x - y, ?_, fun e' => .inl ⟨e', .inr (by omega)⟩, by omega, add3g_f hk hx hy hb e⟩
      cases m <;> cases n <;> simp at h <;> simp [sgv] <;> omega

theorem isn_eq {z : Int} (h : ¬ z < 0) : (decide (z < 0) == false) = true := by rw [decide_eq_false h]; rfl
theorem ism_eq {z : Int} {x : Nat} (h : z < 0 ↔ x ≠ 0) : (decide (z < 0) == decide (((len8 x : Nat) : Int) > 0)) = true := by
  rw [beq_iff_eq, decide_eq_decide, h]
  have := len8_zero (x := x)
  omega
set_option maxRecDepth 100000 in
theorem is3n_f {z : Int} {x k : Nat} (hk : k ≤ 100000) (hx : x < 256 ^ k) (hl : LimI z) (hz : z.natAbs = x) (hm : ¬ z < 0) : FitsP 20 [im z, sgm false x] [] (.one (boolS true)) := by
  have hT : AllOk Tryz.prog Glob [
    Tr.call 90 [Sv.cel (Cv.ent (dgt x))] [] (Av.one (Sv.cel (Cv.ent (nat x)))),
    Tr.call 89 [Sv.cel (Cv.ent (nat (Int.natAbs z))), Sv.cel (Cv.ent (nat x))] [] (Av.one (Sv.cel (Cv.raw (Value.bool true)))),
    Tr.norm (nat_lit 22) (Av.one (Sv.cel (Cv.raw (Value.bool (decide (z < (0 : Int)) == false))))) (Av.one (Sv.cel (Cv.raw (Value.bool true)))),
    Tr.call 26 [Sv.agg [Cv.raw (Value.bool (decide (z < (0 : Int)))), Cv.ent (nat (Int.natAbs z))]] [] (Av.one (Sv.cel (Cv.raw (Value.int IntKind.i64 (Int.ofNat (nat_lit 0))))))] := ⟨
    refBack_f hk hx (by rw [← hz]; exact hl),
    by rw [hz]; exact equalU_f,
    norm_bool (isn_eq hm),
    checkI_f hl, trivial⟩
  exact fits_of_trace (n := 300) (k0 := 0) hT Tryz.func20 (by kernel_rfl) (by kernel_rfl) (by kernel_rfl)

set_option maxRecDepth 100000 in
theorem is3m_f {z : Int} {x k : Nat} (hk : k ≤ 100000) (hx : x < 256 ^ k) (hl : LimI z) (hz : z.natAbs = x) (hm : z < 0 ↔ x ≠ 0) : FitsP 20 [im z, sgm true x] [] (.one (boolS true)) := by
  have hT : AllOk Tryz.prog Glob [
    Tr.call 90 [Sv.cel (Cv.ent (dgt x))] [] (Av.one (Sv.cel (Cv.ent (nat x)))),
    Tr.call 89 [Sv.cel (Cv.ent (nat (Int.natAbs z))), Sv.cel (Cv.ent (nat x))] [] (Av.one (Sv.cel (Cv.raw (Value.bool true)))),
    Tr.norm (nat_lit 22) (Av.one (Sv.cel (Cv.raw (Value.bool (decide (z < (0 : Int)) == decide ((↑(len8 x) : Int) > (0 : Int))))))) (Av.one (Sv.cel (Cv.raw (Value.bool true)))),
    Tr.call 26 [Sv.agg [Cv.raw (Value.bool (decide (z < (0 : Int)))), Cv.ent (nat (Int.natAbs z))]] [] (Av.one (Sv.cel (Cv.raw (Value.int IntKind.i64 (Int.ofNat (nat_lit 0))))))] := ⟨
    refBack_f hk hx (by rw [← hz]; exact hl),
    by rw [hz]; exact equalU_f,
    norm_bool (ism_eq hm),
    checkI_f hl, trivial⟩
  exact fits_of_trace (n := 300) (k0 := 0) hT Tryz.func20 (by kernel_rfl) (by kernel_rfl) (by kernel_rfl)

theorem is3_f {z : Int} {m : Bool} {x k : Nat} (hk : k ≤ 100000) (hx : x < 256 ^ k) (hl : LimI z) (hz : sgv m x = z) : FitsP 20 [im z, sgm m x] [] (.one (boolS true)) := by
  unfold sgv at hz
  cases m with
  | false => simp at hz; exact is3n_f hk hx hl (by omega) (by omega)
  | true => simp at hz; exact is3m_f hk hx hl (by omega) (by omega)
end Go.Proofs.YtphpaejgcahgbaaGreatDoor
