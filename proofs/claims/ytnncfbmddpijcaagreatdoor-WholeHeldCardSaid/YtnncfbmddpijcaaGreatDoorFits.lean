
/- What the machine is told of numbers, and the contracts that it knows. -/
import Derived.Test.YtnncfbmddpijcaaGreatDoorAmD
import Derived.Test.YtnncfbmddpijcaaGreatDoorInt6
import Derived.Test.YtnncfbmddpijcaaGreatDoorParse
namespace Go.Proofs.YtnncfbmddpijcaaGreatDoor
open Go Go.RowKit Go.Shelf AM

/-! A number's digits. -/
def lenN (x : Nat) : Nat := if x = 0 then 0 else Nat.log2 x / 32 + 1
theorem pow32 (k : Nat) : 4294967296 ^ k = 2 ^ (32 * k) := by rw [Nat.pow_mul]
theorem lenN_le {x k : Nat} : lenN x ≤ k ↔ x < 4294967296 ^ k := by
  unfold lenN
  rw [pow32]
  by_cases h : x = 0
  · subst h; simp [Nat.two_pow_pos]
  · rw [if_neg h, ← Nat.log2_lt h]
    omega
theorem lenN_zero {x : Nat} : lenN x = 0 ↔ x = 0 := by
  unfold lenN
  by_cases h : x = 0
  · simp [h]
  · rw [if_neg h]; simp [h]
theorem can_len {zs : List Nat} (h : Can 4294967296 zs) : zs.length = lenN (val 4294967296 zs) := by
  refine Nat.le_antisymm (h.len_le (by omega) (lenN_le.1 (Nat.le_refl _))) (lenN_le.2 (val_lt h.1))
theorem Rd.ext {k : IntKind} {w w' : World} {v : Value} {zs : List Nat} (h : Rd k w v zs) (he : Ext w w') (hs : w.heap.size ≤ w'.heap.size) : Rd k w' v zs := by
  obtain ⟨A, cap, rfl, h1, h2, h3⟩ := h
  refine ⟨A, cap, rfl, h1, h2, fun h0 => ?_⟩
  obtain ⟨b, off, rfl, hlt, hc⟩ := h3 h0
  exact ⟨b, off, rfl, Nat.lt_of_lt_of_le hlt hs, fun j x hx => he _ _ (hc j x hx)⟩
theorem Nm.ext {w w' : World} {v : Value} {x : Nat} (h : Nm w v x) (he : Ext w w') (hs : w.heap.size ≤ w'.heap.size) : Nm w' v x := by
  obtain ⟨A, cap, zs, rfl, h1, h2⟩ := h
  exact ⟨A, cap, zs, rfl, ⟨h1.1.ext he hs, h1.2⟩, h2⟩
/-- A number from 0 on. -/
def nat (x : Nat) : Ent where
  holds w v := Nm w v x
  len := some (lenN x)
  mono he hs h := h.ext he hs
  slice := by
    intro w v n h e
    obtain ⟨A, cap, zs, rfl, h1, h2⟩ := h
    injection e with e
    rw [← e, ← h2, ← can_len h1.2.1]
    exact ⟨A, cap, rfl⟩
  cell := by
    intro w v h
    obtain ⟨A, cap, zs, rfl, _⟩ := h
    rfl

/-! What is said of values. -/
abbrev rawS (v : Value) : Sv := .cel (.raw v)
def boolS (b : Bool) : Sv := rawS (.bool b)
def intS (z : Int) : Sv := rawS (.int .i64 z)
def natS (x : Nat) : Sv := .cel (.ent (nat x))
def nilS : Sv := rawS (.slice none 0 0)
def im (z : Int) : Sv := .agg [.raw (.bool (decide (z < 0))), .ent (nat z.natAbs)]
def im0 : Sv := .agg [.raw (.bool false), .raw (.slice none 0 0)]
def ok0 : Sv := rawS (.int .i64 0)

/-- Tables that must be there. -/
def MaxL (_ : World) : Prop := True
theorem MaxL.below {w w' : World} (_ : Below w.heap.size w w') (_ : MaxL w) : MaxL w' := trivial
def Glob (w : World) : Prop := Tab w ∧ Tab10 w ∧ MaxL w
theorem Glob.below {w w' : World} (hb : Below w.heap.size w w') (h : Glob w) : Glob w' := ⟨h.1.below hb, h.2.1.below hb, h.2.2.below hb⟩
def FitsP (f : FuncId) (args : List Sv) (mem : List (Nat × VarSt)) (res : Av) : Prop := Fits Tryz.prog Glob f args mem res
def Pre (W w : World) : Prop := W.heap.size = w.heap.size ∧ Ext W w ∧ U32 W w ∧ Glob w

section
variable {β : Nat → Option Nat} {W w w' : World} {v : Value} {x : Nat} {z : Int}
theorem Nm.hide (h : Nm w' v x) (hu : U32 W w') (hs : W.heap.size = w'.heap.size) : Nm W v x := by
  obtain ⟨A, cap, zs, rfl, ⟨⟨A', cap', e, h1, h2, h3⟩, hc⟩, hv⟩ := h
  refine ⟨A, cap, zs, rfl, ⟨⟨A', cap', e, h1, h2, fun h0 => ?_⟩, hc⟩, hv⟩
  obtain ⟨b, off, rfl, hlt, hcell⟩ := h3 h0
  exact ⟨b, off, rfl, by omega, fun j x hx => hu _ _ _ rfl (hcell j x hx)⟩
theorem Pre.patch (h : Pre W w) (hb : Below w.heap.size w w') : U32 (patch W w') w' ∧ (patch W w').heap.size = w'.heap.size :=
  ⟨h.2.2.1.patch h.1 hb, patch_size (by rw [h.1]; exact hb.size)⟩
theorem nat_back (h : Pre W w) (hb : Below w.heap.size w w') (hn : Nm w' v x) : RelS β (patch W w') v (natS x) :=
  hn.hide (h.patch hb).1 (h.patch hb).2
theorem im_back (h : Pre W w) (hb : Below w.heap.size w w') (hn : Im w' v z) : RelS β (patch W w') v (im z) := by
  obtain ⟨A, c, n, rfl, h1⟩ := hn
  exact ⟨[.bool (decide (z < 0)), .slice A n c], rfl, rfl, h1.hide (h.patch hb).1 (h.patch hb).2, trivial⟩
theorem nat_rel (h : Pre W w) (hn : RelS β W v (natS x)) : Nm w v x := Nm.ext hn h.2.1 (Nat.le_of_eq h.1)
theorem im_rel (h : Pre W w) (hn : RelS β W v (im z)) : Im w v z := by
  obtain ⟨vs, rfl, h1⟩ := hn
  match vs, h1 with
  | [a, b], ⟨h1, h2, _⟩ =>
    obtain rfl : a = .bool (decide (z < 0)) := h1
    have h3 : Nm w b z.natAbs := Nm.ext h2 h.2.1 (Nat.le_of_eq h.1)
    obtain ⟨A, c, n, rfl, _⟩ := h3.slice
    exact ⟨A, c, n, rfl, h3⟩
/-- From a contract of the elder form. -/
theorem fits_of {f : FuncId} {args : List Sv} {res : Av} (hc : Callable Tryz.prog f)
    (h : ∀ (β : Nat → Option Nat) (W w : World) (vals : List Value), Pre W w → All2 (RelS β W) vals args → Calls Tryz.prog f vals.toArray w fun e w' => ∃ v, e = .returned v ∧ Below w.heap.size w w' ∧ RelA β (patch W w') v res) : FitsP f args [] res :=
  ⟨hc, fun β W w vals h1 h2 h3 h4 h5 _ => (h β W w vals ⟨h1, h2, h3, h4⟩ h5).mono fun _ _ ⟨v, he, hb, hr⟩ => ⟨v, he, hr, hb⟩⟩
end

/-- One argument, two, three. -/
theorem all2_1 {β : Nat → Option Nat} {W : World} {vals : List Value} {a : Sv} (h : All2 (RelS β W) vals [a]) : ∃ v, vals = [v] ∧ RelS β W v a := by
  match vals, h with
  | [v], ⟨h, _⟩ => exact ⟨v, rfl, h⟩
theorem all2_2 {β : Nat → Option Nat} {W : World} {vals : List Value} {a b : Sv} (h : All2 (RelS β W) vals [a, b]) : ∃ u v, vals = [u, v] ∧ RelS β W u a ∧ RelS β W v b := by
  match vals, h with
  | [u, v], ⟨h, k, _⟩ => exact ⟨u, v, rfl, h, k⟩
theorem all2_3 {β : Nat → Option Nat} {W : World} {vals : List Value} {a b c : Sv} (h : All2 (RelS β W) vals [a, b, c]) : ∃ u v x, vals = [u, v, x] ∧ RelS β W u a ∧ RelS β W v b ∧ RelS β W x c := by
  match vals, h with
  | [u, v, x], ⟨h, k, l, _⟩ => exact ⟨u, v, x, rfl, h, k, l⟩
theorem rel_tup2 {β : Nat → Option Nat} {W : World} {u v : Value} {a b : Sv} (h : RelS β W u a) (k : RelS β W v b) : RelA β W (.tuple #[u, v]) (.tup [a, b]) := ⟨[u, v], rfl, h, k, trivial⟩
theorem rel_tup3 {β : Nat → Option Nat} {W : World} {u v x : Value} {a b c : Sv} (h : RelS β W u a) (k : RelS β W v b) (l : RelS β W x c) : RelA β W (.tuple #[u, v, x]) (.tup [a, b, c]) := ⟨[u, v, x], rfl, h, k, l, trivial⟩

/-! The kinds of contracts: what comes in, what comes out. -/
section
variable {f : FuncId} (hc : Callable Tryz.prog f) {x y n : Nat} {z1 z2 z c : Int}
include hc
theorem fits_NN_N0 (h : ∀ w a b, Glob w → Nm w a x → Nm w b y → Calls Tryz.prog f #[a, b] w (RetN0 w n)) : FitsP f [natS x, natS y] [] (.tup [natS n, ok0]) :=
  fits_of hc fun β W w vals hp ha => by
    obtain ⟨u, v, rfl, h1, h2⟩ := all2_2 ha
    exact (h w u v hp.2.2.2 (nat_rel hp h1) (nat_rel hp h2)).mono fun _ _ ⟨r, he, hn, hb⟩ => ⟨_, he, hb, rel_tup2 (nat_back (β := β) hp hb hn) rfl⟩
theorem fits_NN_E (h : ∀ w a b, Glob w → Nm w a x → Nm w b y → Calls Tryz.prog f #[a, b] w (RetE w c)) : FitsP f [natS x, natS y] [] (.tup [nilS, intS c]) :=
  fits_of hc fun β W w vals hp ha => by
    obtain ⟨u, v, rfl, h1, h2⟩ := all2_2 ha
    exact (h w u v hp.2.2.2 (nat_rel hp h1) (nat_rel hp h2)).mono fun _ _ ⟨he, hb⟩ => ⟨_, he, hb, rel_tup2 rfl rfl⟩
theorem fits_NN_raw (u0 : Value) (h : ∀ w a b, Glob w → Nm w a x → Nm w b y → Calls Tryz.prog f #[a, b] w fun e w' => e = .returned u0 ∧ Below w.heap.size w w') : FitsP f [natS x, natS y] [] (.one (rawS u0)) :=
  fits_of hc fun β W w vals hp ha => by
    obtain ⟨u, v, rfl, h1, h2⟩ := all2_2 ha
    exact (h w u v hp.2.2.2 (nat_rel hp h1) (nat_rel hp h2)).mono fun _ _ ⟨he, hb⟩ => ⟨_, he, hb, rfl⟩
theorem fits_NN_N (h : ∀ w a b, Glob w → Nm w a x → Nm w b y → Calls Tryz.prog f #[a, b] w (RetN w n)) : FitsP f [natS x, natS y] [] (.one (natS n)) :=
  fits_of hc fun β W w vals hp ha => by
    obtain ⟨u, v, rfl, h1, h2⟩ := all2_2 ha
    exact (h w u v hp.2.2.2 (nat_rel hp h1) (nat_rel hp h2)).mono fun _ _ ⟨r, he, hn, hb⟩ => ⟨_, he, hb, nat_back (β := β) hp hb hn⟩
theorem fits_NN_NN0 (h : ∀ w a b, Glob w → Nm w a x → Nm w b y → Calls Tryz.prog f #[a, b] w (RetDiv w x y)) : FitsP f [natS x, natS y] [] (.tup [natS (x / y), natS (x % y), ok0]) :=
  fits_of hc fun β W w vals hp ha => by
    obtain ⟨u, v, rfl, h1, h2⟩ := all2_2 ha
    exact (h w u v hp.2.2.2 (nat_rel hp h1) (nat_rel hp h2)).mono fun _ _ ⟨r1, r2, he, hn1, hn2, hb⟩ => ⟨_, he, hb, rel_tup3 (nat_back (β := β) hp hb hn1) (nat_back (β := β) hp hb hn2) rfl⟩
theorem fits_N_N (h : ∀ w a, Glob w → Nm w a x → Calls Tryz.prog f #[a] w (RetN w n)) : FitsP f [natS x] [] (.one (natS n)) :=
  fits_of hc fun β W w vals hp ha => by
    obtain ⟨u, rfl, h1⟩ := all2_1 ha
    exact (h w u hp.2.2.2 (nat_rel hp h1)).mono fun _ _ ⟨r, he, hn, hb⟩ => ⟨_, he, hb, nat_back (β := β) hp hb hn⟩
theorem fits_N_raw (u0 : Value) (h : ∀ w a, Glob w → Nm w a x → Calls Tryz.prog f #[a] w fun e w' => e = .returned u0 ∧ Below w.heap.size w w') : FitsP f [natS x] [] (.one (rawS u0)) :=
  fits_of hc fun β W w vals hp ha => by
    obtain ⟨u, rfl, h1⟩ := all2_1 ha
    exact (h w u hp.2.2.2 (nat_rel hp h1)).mono fun _ _ ⟨he, hb⟩ => ⟨_, he, hb, rfl⟩
theorem fits_N_raw2 (u0 u1 : Value) (h : ∀ w a, Glob w → Nm w a x → Calls Tryz.prog f #[a] w fun e w' => e = .returned (.tuple #[u0, u1]) ∧ Below w.heap.size w w') : FitsP f [natS x] [] (.tup [rawS u0, rawS u1]) :=
  fits_of hc fun β W w vals hp ha => by
    obtain ⟨u, rfl, h1⟩ := all2_1 ha
    exact (h w u hp.2.2.2 (nat_rel hp h1)).mono fun _ _ ⟨he, hb⟩ => ⟨_, he, hb, rel_tup2 rfl rfl⟩
theorem fits_N_I (h : ∀ w a, Glob w → Nm w a x → Calls Tryz.prog f #[a] w (RetI w z)) : FitsP f [natS x] [] (.one (im z)) :=
  fits_of hc fun β W w vals hp ha => by
    obtain ⟨u, rfl, h1⟩ := all2_1 ha
    exact (h w u hp.2.2.2 (nat_rel hp h1)).mono fun _ _ ⟨r, he, hn, hb⟩ => ⟨_, he, hb, im_back (β := β) hp hb hn⟩
theorem fits_raw_N (r0 : Value) (h : ∀ w, Glob w → Calls Tryz.prog f #[r0] w (RetN w n)) : FitsP f [rawS r0] [] (.one (natS n)) :=
  fits_of hc fun β W w vals hp ha => by
    obtain ⟨u, rfl, h1⟩ := all2_1 ha
    obtain rfl : u = r0 := h1
    exact (h w hp.2.2.2).mono fun _ _ ⟨r, he, hn, hb⟩ => ⟨_, he, hb, nat_back (β := β) hp hb hn⟩
theorem fits_raw_N0 (r0 : Value) (h : ∀ w, Glob w → Calls Tryz.prog f #[r0] w (RetN0 w n)) : FitsP f [rawS r0] [] (.tup [natS n, ok0]) :=
  fits_of hc fun β W w vals hp ha => by
    obtain ⟨u, rfl, h1⟩ := all2_1 ha
    obtain rfl : u = r0 := h1
    exact (h w hp.2.2.2).mono fun _ _ ⟨r, he, hn, hb⟩ => ⟨_, he, hb, rel_tup2 (nat_back (β := β) hp hb hn) rfl⟩
theorem fits_raw_I (r0 : Value) (h : ∀ w, Glob w → Calls Tryz.prog f #[r0] w (RetI w z)) : FitsP f [rawS r0] [] (.one (im z)) :=
  fits_of hc fun β W w vals hp ha => by
    obtain ⟨u, rfl, h1⟩ := all2_1 ha
    obtain rfl : u = r0 := h1
    exact (h w hp.2.2.2).mono fun _ _ ⟨r, he, hn, hb⟩ => ⟨_, he, hb, im_back (β := β) hp hb hn⟩
theorem fits_raw_I0 (r0 : Value) (h : ∀ w, Glob w → Calls Tryz.prog f #[r0] w (RetI0 w z)) : FitsP f [rawS r0] [] (.tup [im z, ok0]) :=
  fits_of hc fun β W w vals hp ha => by
    obtain ⟨u, rfl, h1⟩ := all2_1 ha
    obtain rfl : u = r0 := h1
    exact (h w hp.2.2.2).mono fun _ _ ⟨r, he, hn, hb⟩ => ⟨_, he, hb, rel_tup2 (im_back (β := β) hp hb hn) rfl⟩
theorem fits_Nraw_N0 (r0 : Value) (h : ∀ w a, Glob w → Nm w a x → Calls Tryz.prog f #[a, r0] w (RetN0 w n)) : FitsP f [natS x, rawS r0] [] (.tup [natS n, ok0]) :=
  fits_of hc fun β W w vals hp ha => by
    obtain ⟨u, v, rfl, h1, h2⟩ := all2_2 ha
    obtain rfl : v = r0 := h2
    exact (h w u hp.2.2.2 (nat_rel hp h1)).mono fun _ _ ⟨r, he, hn, hb⟩ => ⟨_, he, hb, rel_tup2 (nat_back (β := β) hp hb hn) rfl⟩
theorem fits_II_I0 (h : ∀ w a b, Glob w → Im w a z1 → Im w b z2 → Calls Tryz.prog f #[a, b] w (RetI0 w z)) : FitsP f [im z1, im z2] [] (.tup [im z, ok0]) :=
  fits_of hc fun β W w vals hp ha => by
    obtain ⟨u, v, rfl, h1, h2⟩ := all2_2 ha
    exact (h w u v hp.2.2.2 (im_rel hp h1) (im_rel hp h2)).mono fun _ _ ⟨r, he, hn, hb⟩ => ⟨_, he, hb, rel_tup2 (im_back (β := β) hp hb hn) rfl⟩
theorem fits_II_raw (u0 : Value) (h : ∀ w a b, Glob w → Im w a z1 → Im w b z2 → Calls Tryz.prog f #[a, b] w fun e w' => e = .returned u0 ∧ Below w.heap.size w w') : FitsP f [im z1, im z2] [] (.one (rawS u0)) :=
  fits_of hc fun β W w vals hp ha => by
    obtain ⟨u, v, rfl, h1, h2⟩ := all2_2 ha
    exact (h w u v hp.2.2.2 (im_rel hp h1) (im_rel hp h2)).mono fun _ _ ⟨he, hb⟩ => ⟨_, he, hb, rfl⟩
theorem fits_I_raw (u0 : Value) (h : ∀ w a, Glob w → Im w a z1 → Calls Tryz.prog f #[a] w fun e w' => e = .returned u0 ∧ Below w.heap.size w w') : FitsP f [im z1] [] (.one (rawS u0)) :=
  fits_of hc fun β W w vals hp ha => by
    obtain ⟨u, rfl, h1⟩ := all2_1 ha
    exact (h w u hp.2.2.2 (im_rel hp h1)).mono fun _ _ ⟨he, hb⟩ => ⟨_, he, hb, rfl⟩
theorem fits_I_raw2 (u0 u1 : Value) (h : ∀ w a, Glob w → Im w a z1 → Calls Tryz.prog f #[a] w fun e w' => e = .returned (.tuple #[u0, u1]) ∧ Below w.heap.size w w') : FitsP f [im z1] [] (.tup [rawS u0, rawS u1]) :=
  fits_of hc fun β W w vals hp ha => by
    obtain ⟨u, rfl, h1⟩ := all2_1 ha
    exact (h w u hp.2.2.2 (im_rel hp h1)).mono fun _ _ ⟨he, hb⟩ => ⟨_, he, hb, rel_tup2 rfl rfl⟩
theorem fits_I_I (h : ∀ w a, Glob w → Im w a z1 → Calls Tryz.prog f #[a] w (RetI w z)) : FitsP f [im z1] [] (.one (im z)) :=
  fits_of hc fun β W w vals hp ha => by
    obtain ⟨u, rfl, h1⟩ := all2_1 ha
    exact (h w u hp.2.2.2 (im_rel hp h1)).mono fun _ _ ⟨r, he, hn, hb⟩ => ⟨_, he, hb, im_back (β := β) hp hb hn⟩
theorem fits_Iraw_I0 (r0 : Value) (h : ∀ w a, Glob w → Im w a z1 → Calls Tryz.prog f #[a, r0] w (RetI0 w z)) : FitsP f [im z1, rawS r0] [] (.tup [im z, ok0]) :=
  fits_of hc fun β W w vals hp ha => by
    obtain ⟨u, v, rfl, h1, h2⟩ := all2_2 ha
    obtain rfl : v = r0 := h2
    exact (h w u hp.2.2.2 (im_rel hp h1)).mono fun _ _ ⟨r, he, hn, hb⟩ => ⟨_, he, hb, rel_tup2 (im_back (β := β) hp hb hn) rfl⟩
end
end Go.Proofs.YtnncfbmddpijcaaGreatDoor

/- The contracts of layers 1 to 3, as the machine knows them. -/
namespace Go.Proofs.YtnncfbmddpijcaaGreatDoor
open Go Go.RowKit Go.Shelf AM
theorem cal75 : Callable Tryz.prog 75 := ⟨_, Tryz.func75, by kernel_rfl, by kernel_rfl⟩
theorem add_f {x y : Nat} (h : x + y < Lim) : FitsP 75 [natS x, natS y] [] (.tup [natS (x + y), ok0]) := fits_NN_N0 cal75 fun _ _ _ _ ha hb => add_n ha hb h
theorem cal39 : Callable Tryz.prog 39 := ⟨_, Tryz.func39, by kernel_rfl, by kernel_rfl⟩
theorem mul_f {x y : Nat} (h : x * y < Lim) : FitsP 39 [natS x, natS y] [] (.tup [natS (x * y), ok0]) := fits_NN_N0 cal39 fun _ _ _ _ ha hb => mul_n ha hb h
theorem cal77 : Callable Tryz.prog 77 := ⟨_, Tryz.func77, by kernel_rfl, by kernel_rfl⟩
theorem sub_f {x y : Nat} (h1 : y ≤ x) (h2 : x < Lim) : FitsP 77 [natS x, natS y] [] (.tup [natS (x - y), ok0]) := fits_NN_N0 cal77 fun _ _ _ _ ha hb => sub_n ha hb h1 h2
theorem cal66 : Callable Tryz.prog 66 := ⟨_, Tryz.func66, by kernel_rfl, by kernel_rfl⟩
theorem div_f {x y : Nat} (h1 : 0 < y) (h2 : x < Lim) : FitsP 66 [natS x, natS y] [] (.tup [natS (x / y), natS (x % y), ok0]) := fits_NN_NN0 cal66 fun _ _ _ _ ha hb => div_n ha hb h1 h2
theorem cal76 : Callable Tryz.prog 76 := ⟨_, Tryz.func76, by kernel_rfl, by kernel_rfl⟩
theorem cmp_f {x y : Nat} : FitsP 76 [natS x, natS y] [] (.one (intS (ord3 x y))) := fits_NN_raw cal76 _ fun _ _ _ _ ha hb => cmp_n ha hb
theorem cal32 : Callable Tryz.prog 32 := ⟨_, Tryz.func32, by kernel_rfl, by kernel_rfl⟩
theorem of_f {x : Nat} (h : x < 18446744073709551616) : FitsP 32 [rawS (.int .u64 (x : Int))] [] (.one (natS x)) := fits_raw_N cal32 _ fun w _ => of_n w x h
theorem cal46 : Callable Tryz.prog 46 := ⟨_, Tryz.func46, by kernel_rfl, by kernel_rfl⟩
theorem left_f {x k : Nat} (h1 : k ≤ 9223372036854775807) (h2 : x * 2 ^ k < Lim) : FitsP 46 [natS x, intS (k : Int)] [] (.tup [natS (x * 2 ^ k), ok0]) := fits_Nraw_N0 cal46 _ fun _ _ _ ha => left_nm k ha h1 h2
theorem cal90 : Callable Tryz.prog 90 := ⟨_, Tryz.func90, by kernel_rfl, by kernel_rfl⟩
theorem right_f {x k : Nat} (h1 : k ≤ 9223372036854775807) (h2 : x < Lim) : FitsP 90 [natS x, intS (k : Int)] [] (.tup [natS (x / 2 ^ k), ok0]) := fits_Nraw_N0 cal90 _ fun _ _ _ ha => right_nm k ha h1 h2
theorem cal67 : Callable Tryz.prog 67 := ⟨_, Tryz.func67, by kernel_rfl, by kernel_rfl⟩
theorem small_f {x : Nat} (h : x < 18446744073709551616) : FitsP 67 [natS x] [] (.tup [rawS (.int .u64 (x : Int)), ok0]) := fits_N_raw2 cal67 _ _ fun _ _ _ ha => small_n ha h
theorem smallBig_f {x : Nat} (h : 18446744073709551616 ≤ x) : FitsP 67 [natS x] [] (.tup [rawS (.int .u64 0), intS 11]) := fits_N_raw2 cal67 _ _ fun _ _ _ ha => small_big_n ha h
theorem cal65 : Callable Tryz.prog 65 := ⟨_, Tryz.func65, by kernel_rfl, by kernel_rfl⟩
theorem isBits_leq {n k x : Nat} (h : IsBits n x) (g : IsBits k x) : n ≤ k := by
  rcases h.2 with rfl | h2
  · omega
  · have := (Nat.pow_lt_pow_iff_right (a := 2) (by omega)).1 (Nat.lt_of_le_of_lt h2 g.1)
    omega
theorem isBits_one {n k x : Nat} (h : IsBits n x) (g : IsBits k x) : n = k := Nat.le_antisymm (isBits_leq h g) (isBits_leq g h)
theorem bits_f {x k : Nat} (h : IsBits k x) : FitsP 65 [natS x] [] (.one (intS (k : Int))) := fits_N_raw cal65 _ fun _ _ _ ha => (bits_n ha).mono fun _ _ ⟨n, he, hn, hb⟩ => ⟨by rw [he, isBits_one hn h], hb⟩
theorem bits_ex (x : Nat) : ∃ k, IsBits k x := by
  rcases Nat.eq_zero_or_pos x with rfl | h
  · exact ⟨0, by simp [IsBits]⟩
  · refine ⟨Nat.log2 x + 1, ?_, .inr ?_⟩
    · exact (Nat.log2_lt (by omega)).1 (Nat.lt_succ_self _)
    · exact Nat.log2_self_le (by omega)
theorem cal29 : Callable Tryz.prog 29 := ⟨_, Tryz.func29, by kernel_rfl, by kernel_rfl⟩
theorem check_f {x : Nat} (h : x < Lim) : FitsP 29 [natS x] [] (.one ok0) := fits_N_raw cal29 _ fun w v _ ha => by
  obtain ⟨A, cap, zs, rfl, ho, rfl⟩ := ha
  exact (check_c w _ zs ho.1).mono fun _ _ ⟨he, hw⟩ => by
    subst hw
    exact ⟨by rw [he, checkOf_ok (Nat.not_lt.2 (len_of_lim ho.2.1 h)) ho.2.1.2], Below.refl _ _⟩
theorem cal51 : Callable Tryz.prog 51 := ⟨_, Tryz.func51, by kernel_rfl, by kernel_rfl⟩
theorem clone_f {x : Nat} : FitsP 51 [natS x] [] (.one (natS x)) := fits_N_N cal51 fun _ _ _ ha => clone_n ha
theorem cal31 : Callable Tryz.prog 31 := ⟨_, Tryz.func31, by kernel_rfl, by kernel_rfl⟩
theorem gcd_f {x y : Nat} (h1 : x < Lim) (h2 : y < Lim) : FitsP 31 [natS x, natS y] [] (.one (natS (Nat.gcd x y))) := fits_NN_N cal31 fun w a b _ ha hb => gcd_c w a b x y ha hb h1 h2
theorem mulBig_f {x y : Nat} (h : Lim ≤ x * y) : FitsP 39 [natS x, natS y] [] (.tup [nilS, intS 11]) := fits_NN_E cal39 fun _ _ _ _ ha hb => mul_big_n ha hb h
theorem addBig_f {x y : Nat} (h : Lim ≤ x + y) : FitsP 75 [natS x, natS y] [] (.tup [nilS, intS 11]) := fits_NN_E cal75 fun _ _ _ _ ha hb => add_big_n ha hb h
theorem cal41 : Callable Tryz.prog 41 := ⟨_, Tryz.func41, by kernel_rfl, by kernel_rfl⟩
theorem addI_f {z1 z2 : Int} (h1 : LimI z1) (h2 : LimI z2) (h : LimI (z1 + z2)) : FitsP 41 [im z1, im z2] [] (.tup [im (z1 + z2), ok0]) := fits_II_I0 cal41 fun w a b _ ha hb => addInt_c w a b z1 z2 ha hb h1 h2 h
theorem cal48 : Callable Tryz.prog 48 := ⟨_, Tryz.func48, by kernel_rfl, by kernel_rfl⟩
theorem subI_f {z1 z2 : Int} (h1 : LimI z1) (h2 : LimI z2) (h : LimI (z1 - z2)) : FitsP 48 [im z1, im z2] [] (.tup [im (z1 - z2), ok0]) := fits_II_I0 cal48 fun w a b _ ha hb => subInt_c w a b z1 z2 ha hb h1 h2 h
theorem cal38 : Callable Tryz.prog 38 := ⟨_, Tryz.func38, by kernel_rfl, by kernel_rfl⟩
theorem mulI_f {z1 z2 : Int} (h : LimI (z1 * z2)) : FitsP 38 [im z1, im z2] [] (.tup [im (z1 * z2), ok0]) := fits_II_I0 cal38 fun w a b _ ha hb => mulInt_c w a b z1 z2 ha hb h
theorem cal86 : Callable Tryz.prog 86 := ⟨_, Tryz.func86, by kernel_rfl, by kernel_rfl⟩
theorem divI_f {z1 z2 : Int} (h1 : LimI z1) (h2 : LimI z2) (h0 : z2 ≠ 0) : FitsP 86 [im z1, im z2] [] (.tup [im (z1 / z2), im (z1 % z2), ok0]) :=
  fits_of cal86 fun β W w vals hp ha => by
    obtain ⟨u, v, rfl, k1, k2⟩ := all2_2 ha
    exact (divInt_c w u v z1 z2 (im_rel hp k1) (im_rel hp k2) h1 h2 h0).mono fun _ _ ⟨r1, r2, he, hn1, hn2, hb⟩ => ⟨_, he, hb, rel_tup3 (im_back (β := β) hp hb hn1) (im_back (β := β) hp hb hn2) rfl⟩
theorem im_zero_rel {β : Nat → Option Nat} {W : World} : RelS β W (.agg #[.bool false, .slice none 0 0]) (im 0) := ⟨[.bool false, .slice none 0 0], rfl, rfl, Nm.nil W, trivial⟩
theorem divIZero_f {z1 : Int} : FitsP 86 [im z1, im 0] [] (.tup [im 0, im 0, intS 10]) :=
  fits_of cal86 fun β W w vals hp ha => by
    obtain ⟨u, v, rfl, k1, k2⟩ := all2_2 ha
    exact (divInt_zero w u v z1 (im_rel hp k1) (im_rel hp k2)).mono fun _ _ ⟨he, hb⟩ => ⟨_, he, hb, rel_tup3 im_zero_rel im_zero_rel rfl⟩
theorem cal27 : Callable Tryz.prog 27 := ⟨_, Tryz.func27, by kernel_rfl, by kernel_rfl⟩
theorem sign_f {z1 : Int} : FitsP 27 [im z1] [] (.one (intS (sign3 z1))) := fits_I_raw cal27 _ fun w a _ ha => sign_c w a z1 ha
theorem cal82 : Callable Tryz.prog 82 := ⟨_, Tryz.func82, by kernel_rfl, by kernel_rfl⟩
theorem nat_f {x : Nat} : FitsP 82 [natS x] [] (.one (im (x : Int))) := fits_N_I cal82 fun w a _ ha => natInt_c w a x ha
theorem cal50 : Callable Tryz.prog 50 := ⟨_, Tryz.func50, by kernel_rfl, by kernel_rfl⟩
theorem absI_f {z1 : Int} : FitsP 50 [im z1] [] (.one (im (z1.natAbs : Int))) := fits_I_I cal50 fun w a _ ha => absInt_c w a z1 ha
theorem cal58 : Callable Tryz.prog 58 := ⟨_, Tryz.func58, by kernel_rfl, by kernel_rfl⟩
theorem negI_f {z1 : Int} : FitsP 58 [im z1] [] (.one (im (-z1))) := fits_I_I cal58 fun w a _ ha => negInt_c w a z1 ha
theorem cal81 : Callable Tryz.prog 81 := ⟨_, Tryz.func81, by kernel_rfl, by kernel_rfl⟩
theorem cmpI_f {z1 z2 : Int} : FitsP 81 [im z1, im z2] [] (.one (intS (ordI z1 z2))) := fits_II_raw cal81 _ fun w a b _ ha hb => cmpInt_c w a b z1 z2 ha hb
theorem cal44 : Callable Tryz.prog 44 := ⟨_, Tryz.func44, by kernel_rfl, by kernel_rfl⟩
theorem leftI_f {z1 : Int} {k : Nat} (h1 : k ≤ 9223372036854775807) (h : LimI (z1 * 2 ^ k)) : FitsP 44 [im z1, intS (k : Int)] [] (.tup [im (z1 * 2 ^ k), ok0]) := fits_Iraw_I0 cal44 _ fun w a _ ha => leftInt_c w a z1 k ha h1 h
theorem cal64 : Callable Tryz.prog 64 := ⟨_, Tryz.func64, by kernel_rfl, by kernel_rfl⟩
theorem rightI_f {z1 : Int} {k : Nat} (h1 : k ≤ 9223372036854775807) (h : LimI z1) : FitsP 64 [im z1, intS (k : Int)] [] (.tup [im (z1 / 2 ^ k), ok0]) := fits_Iraw_I0 cal64 _ fun w a hG ha => rightInt_c w hG.1 a z1 k ha h1 h
theorem cal24 : Callable Tryz.prog 24 := ⟨_, Tryz.func24, by kernel_rfl, by kernel_rfl⟩
theorem ofI_f {z1 : Int} (h : inI64 z1) : FitsP 24 [intS z1] [] (.one (im z1)) := fits_raw_I cal24 _ fun w _ => ofInt_c w z1 h.1 h.2
theorem cal28 : Callable Tryz.prog 28 := ⟨_, Tryz.func28, by kernel_rfl, by kernel_rfl⟩
theorem checkI_f {z1 : Int} (h : LimI z1) : FitsP 28 [im z1] [] (.one ok0) := fits_I_raw cal28 _ fun w a _ ha => checkInt_im w a z1 ha h
theorem DecI.same {z : Int} {s s' : ByteArray} (h : DecI z s.data.toList) (k : DecI z s'.data.toList) : s = s' := by
  have e := h.eq k
  obtain ⟨⟨l⟩⟩ := s
  obtain ⟨⟨l'⟩⟩ := s'
  simp only at e
  subst e; rfl
/-- The text of a number. -/
def txtI (z : Int) : ByteArray := ⟨(if z < 0 then 45 :: Lib.decDigits z.natAbs else Lib.decDigits z.natAbs).toArray⟩
theorem txtI_dec (z : Int) : DecI z (txtI z).data.toList := ⟨_, dec_decDigits _, by simp [txtI]⟩
end Go.Proofs.YtnncfbmddpijcaaGreatDoor

/- Ratios. -/
namespace Go.Proofs.YtnncfbmddpijcaaGreatDoor
open Go Go.RowKit Go.Shelf AM

theorem Norm.of_eq {a b : Av} (h : a = b) : Norm a b := by subst h; exact fun _ _ _ h => h
theorem Fits.res {P : Program} {G : World → Prop} {f : FuncId} {args : List Sv} {mem : List (Nat × VarSt)} {r r' : Av} (h : Fits P G f args mem r) (hn : Norm r r') : Fits P G f args mem r' :=
  ⟨h.1, fun β W w vals h1 h2 h3 h4 h5 h6 => (h.2 β W w vals h1 h2 h3 h4 h5 h6).mono fun _ _ ⟨v, he, hr, hb⟩ => ⟨v, he, hn _ _ _ hr, hb⟩⟩
theorem mix : Tryz.prog.follows .mixedOrders = true := by kernel_rfl
def bodyOf (f : Func) : Code := f.body.getD .skip
theorem fits_of_trace {f : FuncId} {fn : Func} {n k0 : Nat} {args : List Sv} {mem : List (Nat × VarSt)} {res : Av} {T : List Tr} (hT : AllOk Tryz.prog Glob T) (hf : Tryz.prog.funcs[f]? = some fn) (hn : (fn.name == "runtime.NumGoroutine") = false) (hb : fn.body = some (bodyOf fn))
    (h : runFn Tryz.prog n fn (bodyOf fn) args mem k0 T = some (res, T.reverse)) : FitsP f args mem res := fits_of_run Glob.below mix hf hn hb h hT.back

theorem imNat (d : Nat) : im (d : Int) = .agg [.raw (.bool false), .ent (nat d)] := by
  have h : ¬ (d : Int) < 0 := by omega
  simp [im, h]
/-- A ratio. -/
def rq (q : Rat) : Sv := .agg [.raw (.bool (decide (q.num < 0))), .ent (nat q.num.natAbs), .ent (nat q.den)]
/-- What stands above and below, lowest or not. -/
def rz (z : Int) (d : Nat) : Sv := .agg [.raw (.bool (decide (z < 0))), .ent (nat z.natAbs), .ent (nat d)]

/-- Nothing, without digits, is nothing. -/
theorem norm_nil {β : Nat → Option Nat} {W : World} {v : Value} (h : RelC β W v (.raw (.slice none 0 0))) : RelC β W v (.ent (nat 0)) := by
  rw [show v = .slice none 0 0 from h]; exact Nm.nil W
theorem norm_zero : Norm (.one (.agg [.raw (.bool false), .raw (.slice none 0 0), .ent (nat 1)])) (.one (rz 0 1)) := fun β W v h => by
  obtain ⟨vs, rfl, hh⟩ := h
  match vs, hh with
  | [a, b, c], ⟨h1, h2, h3, _⟩ => exact ⟨[a, b, c], rfl, h1, norm_nil h2, h3, trivial⟩
theorem norm_im0 : Norm (.one (.agg [.raw (.bool false), .raw (.slice none 0 0)])) (.one (im 0)) := fun β W v h => by
  obtain ⟨vs, rfl, hh⟩ := h
  match vs, hh with
  | [a, b], ⟨h1, h2, _⟩ => exact ⟨[a, b], rfl, h1, norm_nil h2, trivial⟩

set_option maxRecDepth 100000 in
theorem isOne_c (w : World) (v : Value) (x : Nat) (hv : Nm w v x) : Calls Tryz.prog 30 #[v] w fun e w' => e = .returned (.bool (decide (x = 1))) ∧ Below w.heap.size w w' := by
  obtain ⟨A, cap, zs, rfl, ho, hx⟩ := hv
  by_cases hl : zs.length = 1
  · match zs, hl with
    | [d], _ =>
      have hc := ho.1.addr (by simp)
      obtain ⟨b, off, rfl, _⟩ := hc
      have hcell := ho.1.cell (j := 0) (x := d) rfl
      rw [Nat.add_zero] at hcell
      have hd : x = d := by rw [← hx]; simp [val]
      subst hd
      have e : decide ((x : Int) = 1) = decide (x = 1) := by rw [decide_eq_decide]; omega
      have e2 : ((x : Int) == 1) = decide (x = 1) := by rw [Bool.eq_iff_iff, beq_iff_eq, decide_eq_true_iff]; omega
      have hx1 : (x : Int) = 1 ∨ ¬ (x : Int) = 1 := by omega
      clear hx ho
      go_enter Tryz.func30, Tryz.ntmps30
      go_wp2
      go_ret
      exact ⟨by simp, Below.refl _ _⟩
  · have hn : decide (x = 1) = false := by
      rw [decide_eq_false_iff_not]
      intro e
      refine hl ?_
      rw [can_len ho.2.1, hx, e]; rfl
    have hb : ((zs.length : Int) == 1) = false := by rw [beq_eq_false_iff_ne]; omega
    rw [hn]
    clear hn ho hx
    go_enter Tryz.func30, Tryz.ntmps30
    go_wp2
    go_ret
    exact ⟨rfl, Below.refl _ _⟩
theorem cal30 : Callable Tryz.prog 30 := ⟨_, Tryz.func30, by kernel_rfl, by kernel_rfl⟩
theorem isOne_f {x : Nat} : FitsP 30 [natS x] [] (.one (boolS (decide (x = 1)))) := fits_N_raw cal30 _ fun w a _ ha => isOne_c w a x ha
end Go.Proofs.YtnncfbmddpijcaaGreatDoor

/- Ratios: what is reckoned of them. -/
namespace Go.Proofs.YtnncfbmddpijcaaGreatDoor
open Go Go.RowKit Go.Shelf AM

theorem gcd_pos {z : Int} {d : Nat} (h : 0 < d) : 0 < Nat.gcd z.natAbs d := Nat.gcd_pos_of_pos_right _ h
theorem gcd_ne {z : Int} {d : Nat} (h : 0 < d) : ((Nat.gcd z.natAbs d : Nat) : Int) ≠ 0 := by have := gcd_pos (z := z) h; omega
theorem gcd_lim {z : Int} {d : Nat} (h : 0 < d) (hl : d < Lim) : LimI ((Nat.gcd z.natAbs d : Nat) : Int) := by
  unfold LimI
  rw [Int.natAbs_natCast]
  exact Nat.lt_of_le_of_lt (Nat.le_of_dvd h (Nat.gcd_dvd_right _ _)) hl
theorem isOne_is {x : Nat} (h : x = 1) : FitsP 30 [natS x] [] (.one (boolS true)) := by
  have := isOne_f (x := x); rw [decide_eq_true h] at this; exact this
theorem isOne_not {x : Nat} (h : x ≠ 1) : FitsP 30 [natS x] [] (.one (boolS false)) := by
  have := isOne_f (x := x); rw [decide_eq_false h] at this; exact this
theorem sign_lit {z k : Int} (h : sign3 z = k) : FitsP 27 [im z] [] (.one (intS k)) := by subst h; exact sign_f
theorem sign3_pos {z : Int} (h : 0 < z) : sign3 z = 1 := by unfold sign3; rw [if_neg (by omega), if_neg (by omega)]
theorem sign3_neg {z : Int} (h : z < 0) : sign3 z = -1 := by unfold sign3; rw [if_pos h]
theorem sign3_zero : sign3 0 = 0 := rfl

theorem rq_lit {q : Rat} {z : Int} {d : Nat} (h1 : q.num = z) (h2 : q.den = d) : rq q = rz z d := by subst h1; subst h2; rfl
theorem rz_norm1 {z : Int} {d : Nat} (h0 : d ≠ 0) (hg : Nat.gcd z.natAbs d = 1) : rz z d = rq (Rat.normalize z d h0) := by
  rw [rq_lit (z := z) (d := d)]
  · rw [Rat.normalize_eq]; simp [hg]
  · rw [Rat.normalize_eq]; simp [hg]
theorem rz_norm2 {z : Int} {d : Nat} (h0 : d ≠ 0) : rz (z / ((Nat.gcd z.natAbs d : Nat) : Int)) (d / Nat.gcd z.natAbs d) = rq (Rat.normalize z d h0) := by
  rw [rq_lit] <;> rw [Rat.normalize_eq]

/-- A ratio of no more digits than that. -/
def BQ (n : Nat) (q : Rat) : Prop := q.num.natAbs < 4294967296 ^ n ∧ q.den < 4294967296 ^ n
theorem BQ.mono {m n : Nat} {q : Rat} (h : BQ m q) (hm : m ≤ n) : BQ n q :=
  ⟨Nat.lt_of_lt_of_le h.1 (Nat.pow_le_pow_right (by omega) hm), Nat.lt_of_lt_of_le h.2 (Nat.pow_le_pow_right (by omega) hm)⟩
theorem BQ.num {n : Nat} {q : Rat} (h : BQ n q) (hn : n ≤ 512) : LimI q.num := lim_of h.1 hn
theorem BQ.den {n : Nat} {q : Rat} (h : BQ n q) (hn : n ≤ 512) : q.den < Lim := lim_of h.2 hn
theorem norm_BQ {z : Int} {d n : Nat} (h0 : d ≠ 0) (h1 : z.natAbs < 4294967296 ^ n) (h2 : d < 4294967296 ^ n) : BQ n (Rat.normalize z d h0) := by
  rw [Rat.normalize_eq]
  exact ⟨Nat.lt_of_le_of_lt (Int.natAbs_ediv_le_natAbs _ _) h1, Nat.lt_of_le_of_lt (Nat.div_le_self _ _) h2⟩
theorem mul_abs {a : Int} {b m n : Nat} (h1 : a.natAbs < 4294967296 ^ m) (h2 : b < 4294967296 ^ n) : (a * (b : Int)).natAbs < 4294967296 ^ (m + n) := by
  rw [Int.natAbs_mul, Int.natAbs_natCast]; exact mul_pow_lt h1 h2
theorem mul_abs2 {a b : Int} {m n : Nat} (h1 : a.natAbs < 4294967296 ^ m) (h2 : b.natAbs < 4294967296 ^ n) : (a * b).natAbs < 4294967296 ^ (m + n) := by
  rw [Int.natAbs_mul]; exact mul_pow_lt h1 h2
theorem add_abs {a b : Int} {n : Nat} (h1 : a.natAbs < 4294967296 ^ n) (h2 : b.natAbs < 4294967296 ^ n) : (a + b).natAbs < 4294967296 ^ (n + 1) :=
  Nat.lt_of_le_of_lt (Int.natAbs_add_le a b) (add_pow_lt (by omega) h1 h2)
theorem sub_abs {a b : Int} {n : Nat} (h1 : a.natAbs < 4294967296 ^ n) (h2 : b.natAbs < 4294967296 ^ n) : (a - b).natAbs < 4294967296 ^ (n + 1) := by
  rw [Int.sub_eq_add_neg]; exact add_abs h1 (by rw [Int.natAbs_neg]; exact h2)
section
variable {p q : Rat} {m n : Nat} (hp : BQ m p) (hq : BQ n q)
include hp hq
theorem cross1 : (p.num * (q.den : Int)).natAbs < 4294967296 ^ (m + n) := mul_abs hp.1 hq.2
theorem cross2 : (q.num * (p.den : Int)).natAbs < 4294967296 ^ (m + n) := by rw [Nat.add_comm]; exact mul_abs hq.1 hp.2
theorem dens : p.den * q.den < 4294967296 ^ (m + n) := mul_pow_lt hp.2 hq.2
theorem BQ.add : BQ (m + n + 1) (p + q) := by
  rw [Rat.add_def]
  exact norm_BQ _ (add_abs (cross1 hp hq) (cross2 hp hq)) (Nat.lt_of_lt_of_le (dens hp hq) (Nat.pow_le_pow_right (by omega) (by omega)))
theorem BQ.sub : BQ (m + n + 1) (p - q) := by
  rw [Rat.sub_def]
  exact norm_BQ _ (sub_abs (cross1 hp hq) (cross2 hp hq)) (Nat.lt_of_lt_of_le (dens hp hq) (Nat.pow_le_pow_right (by omega) (by omega)))
theorem BQ.mul : BQ (m + n) (p * q) := by
  rw [Rat.mul_def]
  exact norm_BQ _ (mul_abs2 hp.1 hq.1) (dens hp hq)
end
theorem den_pos (q : Rat) : 0 < q.den := Nat.pos_of_ne_zero q.den_nz
theorem dens_ne (p q : Rat) : p.den * q.den ≠ 0 := Nat.mul_ne_zero p.den_nz q.den_nz
/-- The order of ratios. -/
def ordQ (p q : Rat) : Int := if p < q then -1 else if p = q then 0 else 1
theorem ordQ_cross (p q : Rat) : ordI (p.num * (q.den : Int)) (q.num * (p.den : Int)) = ordQ p q := by
  unfold ordI ordQ
  by_cases h : p < q
  · rw [if_pos h, if_pos (Rat.lt_iff _ _ |>.1 h)]
  · rw [if_neg h, if_neg (fun h' => h (Rat.lt_iff _ _ |>.2 h'))]
    by_cases e : p = q
    · subst e; simp
    · have : p.num * (q.den : Int) ≠ q.num * (p.den : Int) := fun h' => e (by
        rw [← Rat.mkRat_self p, ← Rat.mkRat_self q]; exact (Rat.mkRat_eq_iff p.den_nz q.den_nz).2 h')
      have h2 : ¬ p.num * (q.den : Int) < q.num * (p.den : Int) := fun h' => h (Rat.lt_iff _ _ |>.2 h')
      rw [if_neg e, if_pos (by omega)]
theorem sign3_ord (z : Int) : sign3 z = ordI z 0 := by
  unfold sign3 ordI
  split <;> (try split) <;> (try split) <;> omega
theorem sign3_num (q : Rat) : sign3 q.num = ordQ q 0 := by
  rw [sign3_ord, ← ordQ_cross q 0]
  congr 1
  · simp
  · simp
theorem inI_lim {n : Int} (h : inI64 n) : LimI n := lim_of (n := 2) (by rw [pow2]; have h1 := h.1; have h2 := h.2; omega) (by omega)
theorem inI_limN {d : Nat} (h : inI64 (d : Int)) : d < Lim := by have := inI_lim h; unfold LimI at this; simpa using this
/-- A number of a told sign. -/
def pn (d : Nat) : Sv := .agg [.raw (.bool false), .ent (nat d)]
def mn (d : Nat) : Sv := .agg [.raw (.bool true), .ent (nat d)]
theorem im_pn (d : Nat) : im (d : Int) = pn d := imNat d
theorem im_mn {d : Nat} (h : 0 < d) : im (-(d : Int)) = mn d := by
  have h1 : -(d : Int) < 0 := by omega
  simp [im, mn, h]
theorem im_neg {z : Int} (h : z < 0) : im z = mn z.natAbs := by simp [im, mn, h]
theorem im_pos {z : Int} (h : 0 ≤ z) : im z = pn z.natAbs := by
  have h1 : ¬ z < 0 := by omega
  simp [im, pn, h1]
theorem signQ_lit {q : Rat} {k : Int} (h : ordQ q 0 = k) : FitsP 27 [im q.num] [] (.one (intS k)) := by subst h; exact sign_lit (sign3_num q)
theorem divInt_norm {z : Int} {d : Nat} (hd : d ≠ 0) : Rat.divInt z (d : Int) = Rat.normalize z d hd := by rw [Rat.normalize_eq_mkRat]; rfl
theorem ofI_pn {d : Nat} (h : inI64 (d : Int)) : FitsP 24 [intS (d : Int)] [] (.one (pn d)) := by rw [← im_pn]; exact ofI_f h
theorem concat1 {s : ByteArray} (h : s.size ≤ 5121) : s.size + (⟨#[47]⟩ : ByteArray).size ≤ 9223372036854775807 := by
  have : (⟨#[47]⟩ : ByteArray).size = 1 := rfl
  omega
theorem concat2 {s t : ByteArray} (h : s.size ≤ 5121) (k : t.size ≤ 5120) : (s ++ ⟨#[47]⟩).size + t.size ≤ 9223372036854775807 := by
  have : (⟨#[47]⟩ : ByteArray).size = 1 := rfl
  rw [ByteArray.size_append]
  omega
theorem norm_bool {b c : Bool} (h : b = c) : Norm (.one (.cel (.raw (.bool b)))) (.one (.cel (.raw (.bool c)))) := Norm.of_eq (by rw [h])
theorem prim_concat {P : Program} {t yt ty : TypeId} {x y : Operand} {a b : ByteArray} (h : a.size + b.size ≤ 9223372036854775807) : PrimOk P (.binOp .add t x y yt) ty [.string a, .string b] (.string (a ++ b)) := by
  intro ρ w he
  simp only [Op.operands, List.map_cons, List.map_nil, List.cons.injEq, and_true] at he
  obtain ⟨h1, h2⟩ := he
  unfold execOp
  dsimp only
  rw [h1, h2]
  simp [eqGuard, binOp, run_string_add_sum w a b h]
theorem dec_size {n : Nat} {l : List UInt8} (h : Dec n l) (hn : n < Lim) : l.length ≤ 5120 := by
  rcases Nat.lt_or_ge 5120 l.length with a | a
  · exfalso
    exact Nat.lt_irrefl _ (Nat.lt_of_lt_of_le hn (Nat.le_trans lim_ten (Nat.le_trans (Nat.pow_le_pow_right (by omega) (show p5120 ≤ l.length - 1 by unfold p5120; omega)) (h.ge (by omega)))))
  · exact a
theorem decI_size {z : Int} {s : ByteArray} (h : DecI z s.data.toList) (hn : LimI z) : s.size ≤ 5121 := by
  obtain ⟨d, hd, e⟩ := h
  have h1 := dec_size hd hn
  rw [← size_list, e]
  split
  · simp; omega
  · omega
theorem decS_size {n : Nat} {s : ByteArray} (h : Dec n s.data.toList) (hn : n < Lim) : s.size ≤ 5120 := by
  rw [← size_list]; exact dec_size h hn
end Go.Proofs.YtnncfbmddpijcaaGreatDoor
