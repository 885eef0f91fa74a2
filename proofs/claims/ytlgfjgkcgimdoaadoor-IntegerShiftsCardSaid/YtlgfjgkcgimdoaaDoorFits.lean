/- What the machine is told of numbers, and the contracts that it knows. -/
import Derived.Test.YtlgfjgkcgimdoaaDoorAmB
import Derived.Test.YtlgfjgkcgimdoaaDoorInt7
namespace Go.Proofs.YtlgfjgkcgimdoaaDoor
open Go Go.RowKit Go.Shelf AM

/-! A number's digits. -/
def lenN (x : Nat) : Nat := if x = 0 then 0 else Nat.log2 x / 32 + 1
theorem pow32 (k : Nat) : 4294967296 ^ k = 2 ^ (32 * k) := by rw [Nat.pow_mul]
theorem lenN_le {x k : Nat} : lenN x ≤ k ↔ x < 4294967296 ^ k := by
  unfold lenN
  rw [pow32]
  by_cases h : x = 0
  · subst h; simp [Nat.two_pow_pos]
  · rw [if_neg h, ← Nat.log2_lt h]
    omega
theorem lenN_zero {x : Nat} : lenN x = 0 ↔ x = 0 := by
  unfold lenN
  by_cases h : x = 0
  · simp [h]
  · rw [if_neg h]; simp [h]
theorem can_len {zs : List Nat} (h : Can 4294967296 zs) : zs.length = lenN (val 4294967296 zs) := by
  refine Nat.le_antisymm (h.len_le (by omega) (lenN_le.1 (Nat.le_refl _))) (lenN_le.2 (val_lt h.1))
theorem Rd.ext {k : IntKind} {w w' : World} {v : Value} {zs : List Nat} (h : Rd k w v zs) (he : Ext w w') (hs : w.heap.size ≤ w'.heap.size) : Rd k w' v zs := by
  obtain ⟨A, cap, rfl, h1, h2, h3⟩ := h
  refine ⟨A, cap, rfl, h1, h2, fun h0 => ?_⟩
  obtain ⟨b, off, rfl, hlt, hc⟩ := h3 h0
  exact ⟨b, off, rfl, Nat.lt_of_lt_of_le hlt hs, fun j x hx => he _ _ (hc j x hx)⟩
theorem Nm.ext {w w' : World} {v : Value} {x : Nat} (h : Nm w v x) (he : Ext w w') (hs : w.heap.size ≤ w'.heap.size) : Nm w' v x := by
  obtain ⟨A, cap, zs, rfl, h1, h2⟩ := h
  exact ⟨A, cap, zs, rfl, ⟨h1.1.ext he hs, h1.2⟩, h2⟩
/-- A number from 0 on. -/
def nat (x : Nat) : Ent where
  holds w v := Nm w v x
  len := some (lenN x)
  mono he hs h := h.ext he hs
  slice := by
    intro w v n h e
    obtain ⟨A, cap, zs, rfl, h1, h2⟩ := h
    injection e with e
    rw [← e, ← h2, ← can_len h1.2.1]
    exact ⟨A, cap, rfl⟩
  cell := by
    intro w v h
    obtain ⟨A, cap, zs, rfl, _⟩ := h
    rfl

/-! What is said of values. -/
abbrev rawS (v : Value) : Sv := .cel (.raw v)
def boolS (b : Bool) : Sv := rawS (.bool b)
def intS (z : Int) : Sv := rawS (.int .i64 z)
def natS (x : Nat) : Sv := .cel (.ent (nat x))
def nilS : Sv := rawS (.slice none 0 0)
def im (z : Int) : Sv := .agg [.raw (.bool (decide (z < 0))), .ent (nat z.natAbs)]
def im0 : Sv := .agg [.raw (.bool false), .raw (.slice none 0 0)]
def ok0 : Sv := rawS (.int .i64 0)

/-- Tables that must be there. -/
def MaxL (w : World) : Prop := ∃ m, w.cell? ⟨3, 0, none⟩ = some (.int .i64 m)
theorem MaxL.below {w w' : World} (hb : Below w.heap.size w w') (h : MaxL w) : MaxL w' := by
  obtain ⟨m, hm⟩ := h
  exact ⟨m, (hb.cell (World.block_lt_of_cell? w _ hm)).trans hm⟩
def Glob (w : World) : Prop := Tab w ∧ Tab10 w ∧ MaxL w
theorem Glob.below {w w' : World} (hb : Below w.heap.size w w') (h : Glob w) : Glob w' := ⟨h.1.below hb, h.2.1.below hb, h.2.2.below hb⟩
def FitsP (f : FuncId) (args : List Sv) (mem : List (Nat × VarSt)) (res : Av) : Prop := Fits Tryd.prog Glob f args mem res
def Pre (W w : World) : Prop := W.heap.size = w.heap.size ∧ Ext W w ∧ U32 W w ∧ Glob w

section
variable {β : Nat → Option Nat} {W w w' : World} {v : Value} {x : Nat} {z : Int}
theorem Nm.hide (h : Nm w' v x) (hu : U32 W w') (hs : W.heap.size = w'.heap.size) : Nm W v x := by
  obtain ⟨A, cap, zs, rfl, ⟨⟨A', cap', e, h1, h2, h3⟩, hc⟩, hv⟩ := h
  refine ⟨A, cap, zs, rfl, ⟨⟨A', cap', e, h1, h2, fun h0 => ?_⟩, hc⟩, hv⟩
  obtain ⟨b, off, rfl, hlt, hcell⟩ := h3 h0
  exact ⟨b, off, rfl, by omega, fun j x hx => hu _ _ _ rfl (hcell j x hx)⟩
theorem Pre.patch (h : Pre W w) (hb : Below w.heap.size w w') : U32 (patch W w') w' ∧ (patch W w').heap.size = w'.heap.size :=
  ⟨h.2.2.1.patch h.1 hb, patch_size (by rw [h.1]; exact hb.size)⟩
theorem nat_back (h : Pre W w) (hb : Below w.heap.size w w') (hn : Nm w' v x) : RelS β (patch W w') v (natS x) :=
  hn.hide (h.patch hb).1 (h.patch hb).2
theorem im_back (h : Pre W w) (hb : Below w.heap.size w w') (hn : Im w' v z) : RelS β (patch W w') v (im z) := by
  obtain ⟨A, c, n, rfl, h1⟩ := hn
  exact ⟨[.bool (decide (z < 0)), .slice A n c], rfl, rfl, h1.hide (h.patch hb).1 (h.patch hb).2, trivial⟩
theorem nat_rel (h : Pre W w) (hn : RelS β W v (natS x)) : Nm w v x := Nm.ext hn h.2.1 (Nat.le_of_eq h.1)
theorem im_rel (h : Pre W w) (hn : RelS β W v (im z)) : Im w v z := by
  obtain ⟨vs, rfl, h1⟩ := hn
  match vs, h1 with
  | [a, b], ⟨h1, h2, _⟩ =>
    obtain rfl : a = .bool (decide (z < 0)) := h1
    have h3 : Nm w b z.natAbs := Nm.ext h2 h.2.1 (Nat.le_of_eq h.1)
    obtain ⟨A, c, n, rfl, _⟩ := h3.slice
    exact ⟨A, c, n, rfl, h3⟩
/-- From a contract of the elder form. -/
theorem fits_of {f : FuncId} {args : List Sv} {res : Av} (hc : Callable Tryd.prog f)
    (h : ∀ (β : Nat → Option Nat) (W w : World) (vals : List Value), Pre W w → All2 (RelS β W) vals args → Calls Tryd.prog f vals.toArray w fun e w' => ∃ v, e = .returned v ∧ Below w.heap.size w w' ∧ RelA β (patch W w') v res) : FitsP f args [] res :=
  ⟨hc, fun β W w vals h1 h2 h3 h4 h5 _ => (h β W w vals ⟨h1, h2, h3, h4⟩ h5).mono fun _ _ ⟨v, he, hb, hr⟩ => ⟨v, he, hr, hb⟩⟩
end

/-- One argument, two, three. -/
theorem all2_1 {β : Nat → Option Nat} {W : World} {vals : List Value} {a : Sv} (h : All2 (RelS β W) vals [a]) : ∃ v, vals = [v] ∧ RelS β W v a := by
  match vals, h with
  | [v], ⟨h, _⟩ => exact ⟨v, rfl, h⟩
theorem all2_2 {β : Nat → Option Nat} {W : World} {vals : List Value} {a b : Sv} (h : All2 (RelS β W) vals [a, b]) : ∃ u v, vals = [u, v] ∧ RelS β W u a ∧ RelS β W v b := by
  match vals, h with
  | [u, v], ⟨h, k, _⟩ => exact ⟨u, v, rfl, h, k⟩
theorem all2_3 {β : Nat → Option Nat} {W : World} {vals : List Value} {a b c : Sv} (h : All2 (RelS β W) vals [a, b, c]) : ∃ u v x, vals = [u, v, x] ∧ RelS β W u a ∧ RelS β W v b ∧ RelS β W x c := by
  match vals, h with
  | [u, v, x], ⟨h, k, l, _⟩ => exact ⟨u, v, x, rfl, h, k, l⟩
theorem rel_tup2 {β : Nat → Option Nat} {W : World} {u v : Value} {a b : Sv} (h : RelS β W u a) (k : RelS β W v b) : RelA β W (.tuple #[u, v]) (.tup [a, b]) := ⟨[u, v], rfl, h, k, trivial⟩
theorem rel_tup3 {β : Nat → Option Nat} {W : World} {u v x : Value} {a b c : Sv} (h : RelS β W u a) (k : RelS β W v b) (l : RelS β W x c) : RelA β W (.tuple #[u, v, x]) (.tup [a, b, c]) := ⟨[u, v, x], rfl, h, k, l, trivial⟩

/-! The kinds of contracts: what comes in, what comes out. -/
section
variable {f : FuncId} (hc : Callable Tryd.prog f) {x y n : Nat} {z1 z2 z c : Int}
include hc
theorem fits_NN_N0 (h : ∀ w a b, Glob w → Nm w a x → Nm w b y → Calls Tryd.prog f #[a, b] w (RetN0 w n)) : FitsP f [natS x, natS y] [] (.tup [natS n, ok0]) :=
  fits_of hc fun β W w vals hp ha => by
    obtain ⟨u, v, rfl, h1, h2⟩ := all2_2 ha
    exact (h w u v hp.2.2.2 (nat_rel hp h1) (nat_rel hp h2)).mono fun _ _ ⟨r, he, hn, hb⟩ => ⟨_, he, hb, rel_tup2 (nat_back (β := β) hp hb hn) rfl⟩
theorem fits_NN_E (h : ∀ w a b, Glob w → Nm w a x → Nm w b y → Calls Tryd.prog f #[a, b] w (RetE w c)) : FitsP f [natS x, natS y] [] (.tup [nilS, intS c]) :=
  fits_of hc fun β W w vals hp ha => by
    obtain ⟨u, v, rfl, h1, h2⟩ := all2_2 ha
    exact (h w u v hp.2.2.2 (nat_rel hp h1) (nat_rel hp h2)).mono fun _ _ ⟨he, hb⟩ => ⟨_, he, hb, rel_tup2 rfl rfl⟩
theorem fits_NN_raw (u0 : Value) (h : ∀ w a b, Glob w → Nm w a x → Nm w b y → Calls Tryd.prog f #[a, b] w fun e w' => e = .returned u0 ∧ Below w.heap.size w w') : FitsP f [natS x, natS y] [] (.one (rawS u0)) :=
  fits_of hc fun β W w vals hp ha => by
    obtain ⟨u, v, rfl, h1, h2⟩ := all2_2 ha
    exact (h w u v hp.2.2.2 (nat_rel hp h1) (nat_rel hp h2)).mono fun _ _ ⟨he, hb⟩ => ⟨_, he, hb, rfl⟩
theorem fits_NN_N (h : ∀ w a b, Glob w → Nm w a x → Nm w b y → Calls Tryd.prog f #[a, b] w (RetN w n)) : FitsP f [natS x, natS y] [] (.one (natS n)) :=
  fits_of hc fun β W w vals hp ha => by
    obtain ⟨u, v, rfl, h1, h2⟩ := all2_2 ha
    exact (h w u v hp.2.2.2 (nat_rel hp h1) (nat_rel hp h2)).mono fun _ _ ⟨r, he, hn, hb⟩ => ⟨_, he, hb, nat_back (β := β) hp hb hn⟩
theorem fits_NN_NN0 (h : ∀ w a b, Glob w → Nm w a x → Nm w b y → Calls Tryd.prog f #[a, b] w (RetDiv w x y)) : FitsP f [natS x, natS y] [] (.tup [natS (x / y), natS (x % y), ok0]) :=
  fits_of hc fun β W w vals hp ha => by
    obtain ⟨u, v, rfl, h1, h2⟩ := all2_2 ha
    exact (h w u v hp.2.2.2 (nat_rel hp h1) (nat_rel hp h2)).mono fun _ _ ⟨r1, r2, he, hn1, hn2, hb⟩ => ⟨_, he, hb, rel_tup3 (nat_back (β := β) hp hb hn1) (nat_back (β := β) hp hb hn2) rfl⟩
theorem fits_N_N (h : ∀ w a, Glob w → Nm w a x → Calls Tryd.prog f #[a] w (RetN w n)) : FitsP f [natS x] [] (.one (natS n)) :=
  fits_of hc fun β W w vals hp ha => by
    obtain ⟨u, rfl, h1⟩ := all2_1 ha
    exact (h w u hp.2.2.2 (nat_rel hp h1)).mono fun _ _ ⟨r, he, hn, hb⟩ => ⟨_, he, hb, nat_back (β := β) hp hb hn⟩
theorem fits_N_raw (u0 : Value) (h : ∀ w a, Glob w → Nm w a x → Calls Tryd.prog f #[a] w fun e w' => e = .returned u0 ∧ Below w.heap.size w w') : FitsP f [natS x] [] (.one (rawS u0)) :=
  fits_of hc fun β W w vals hp ha => by
    obtain ⟨u, rfl, h1⟩ := all2_1 ha
    exact (h w u hp.2.2.2 (nat_rel hp h1)).mono fun _ _ ⟨he, hb⟩ => ⟨_, he, hb, rfl⟩
theorem fits_N_raw2 (u0 u1 : Value) (h : ∀ w a, Glob w → Nm w a x → Calls Tryd.prog f #[a] w fun e w' => e = .returned (.tuple #[u0, u1]) ∧ Below w.heap.size w w') : FitsP f [natS x] [] (.tup [rawS u0, rawS u1]) :=
  fits_of hc fun β W w vals hp ha => by
    obtain ⟨u, rfl, h1⟩ := all2_1 ha
    exact (h w u hp.2.2.2 (nat_rel hp h1)).mono fun _ _ ⟨he, hb⟩ => ⟨_, he, hb, rel_tup2 rfl rfl⟩
theorem fits_N_I (h : ∀ w a, Glob w → Nm w a x → Calls Tryd.prog f #[a] w (RetI w z)) : FitsP f [natS x] [] (.one (im z)) :=
  fits_of hc fun β W w vals hp ha => by
    obtain ⟨u, rfl, h1⟩ := all2_1 ha
    exact (h w u hp.2.2.2 (nat_rel hp h1)).mono fun _ _ ⟨r, he, hn, hb⟩ => ⟨_, he, hb, im_back (β := β) hp hb hn⟩
theorem fits_raw_N (r0 : Value) (h : ∀ w, Glob w → Calls Tryd.prog f #[r0] w (RetN w n)) : FitsP f [rawS r0] [] (.one (natS n)) :=
  fits_of hc fun β W w vals hp ha => by
    obtain ⟨u, rfl, h1⟩ := all2_1 ha
    obtain rfl : u = r0 := h1
    exact (h w hp.2.2.2).mono fun _ _ ⟨r, he, hn, hb⟩ => ⟨_, he, hb, nat_back (β := β) hp hb hn⟩
theorem fits_raw_N0 (r0 : Value) (h : ∀ w, Glob w → Calls Tryd.prog f #[r0] w (RetN0 w n)) : FitsP f [rawS r0] [] (.tup [natS n, ok0]) :=
  fits_of hc fun β W w vals hp ha => by
    obtain ⟨u, rfl, h1⟩ := all2_1 ha
    obtain rfl : u = r0 := h1
    exact (h w hp.2.2.2).mono fun _ _ ⟨r, he, hn, hb⟩ => ⟨_, he, hb, rel_tup2 (nat_back (β := β) hp hb hn) rfl⟩
theorem fits_raw_I (r0 : Value) (h : ∀ w, Glob w → Calls Tryd.prog f #[r0] w (RetI w z)) : FitsP f [rawS r0] [] (.one (im z)) :=
  fits_of hc fun β W w vals hp ha => by
    obtain ⟨u, rfl, h1⟩ := all2_1 ha
    obtain rfl : u = r0 := h1
    exact (h w hp.2.2.2).mono fun _ _ ⟨r, he, hn, hb⟩ => ⟨_, he, hb, im_back (β := β) hp hb hn⟩
theorem fits_raw_I0 (r0 : Value) (h : ∀ w, Glob w → Calls Tryd.prog f #[r0] w (RetI0 w z)) : FitsP f [rawS r0] [] (.tup [im z, ok0]) :=
  fits_of hc fun β W w vals hp ha => by
    obtain ⟨u, rfl, h1⟩ := all2_1 ha
    obtain rfl : u = r0 := h1
    exact (h w hp.2.2.2).mono fun _ _ ⟨r, he, hn, hb⟩ => ⟨_, he, hb, rel_tup2 (im_back (β := β) hp hb hn) rfl⟩
theorem fits_Nraw_N0 (r0 : Value) (h : ∀ w a, Glob w → Nm w a x → Calls Tryd.prog f #[a, r0] w (RetN0 w n)) : FitsP f [natS x, rawS r0] [] (.tup [natS n, ok0]) :=
  fits_of hc fun β W w vals hp ha => by
    obtain ⟨u, v, rfl, h1, h2⟩ := all2_2 ha
    obtain rfl : v = r0 := h2
    exact (h w u hp.2.2.2 (nat_rel hp h1)).mono fun _ _ ⟨r, he, hn, hb⟩ => ⟨_, he, hb, rel_tup2 (nat_back (β := β) hp hb hn) rfl⟩
theorem fits_II_I0 (h : ∀ w a b, Glob w → Im w a z1 → Im w b z2 → Calls Tryd.prog f #[a, b] w (RetI0 w z)) : FitsP f [im z1, im z2] [] (.tup [im z, ok0]) :=
  fits_of hc fun β W w vals hp ha => by
    obtain ⟨u, v, rfl, h1, h2⟩ := all2_2 ha
    exact (h w u v hp.2.2.2 (im_rel hp h1) (im_rel hp h2)).mono fun _ _ ⟨r, he, hn, hb⟩ => ⟨_, he, hb, rel_tup2 (im_back (β := β) hp hb hn) rfl⟩
theorem fits_II_raw (u0 : Value) (h : ∀ w a b, Glob w → Im w a z1 → Im w b z2 → Calls Tryd.prog f #[a, b] w fun e w' => e = .returned u0 ∧ Below w.heap.size w w') : FitsP f [im z1, im z2] [] (.one (rawS u0)) :=
  fits_of hc fun β W w vals hp ha => by
    obtain ⟨u, v, rfl, h1, h2⟩ := all2_2 ha
    exact (h w u v hp.2.2.2 (im_rel hp h1) (im_rel hp h2)).mono fun _ _ ⟨he, hb⟩ => ⟨_, he, hb, rfl⟩
theorem fits_I_raw (u0 : Value) (h : ∀ w a, Glob w → Im w a z1 → Calls Tryd.prog f #[a] w fun e w' => e = .returned u0 ∧ Below w.heap.size w w') : FitsP f [im z1] [] (.one (rawS u0)) :=
  fits_of hc fun β W w vals hp ha => by
    obtain ⟨u, rfl, h1⟩ := all2_1 ha
    exact (h w u hp.2.2.2 (im_rel hp h1)).mono fun _ _ ⟨he, hb⟩ => ⟨_, he, hb, rfl⟩
theorem fits_I_raw2 (u0 u1 : Value) (h : ∀ w a, Glob w → Im w a z1 → Calls Tryd.prog f #[a] w fun e w' => e = .returned (.tuple #[u0, u1]) ∧ Below w.heap.size w w') : FitsP f [im z1] [] (.tup [rawS u0, rawS u1]) :=
  fits_of hc fun β W w vals hp ha => by
    obtain ⟨u, rfl, h1⟩ := all2_1 ha
    exact (h w u hp.2.2.2 (im_rel hp h1)).mono fun _ _ ⟨he, hb⟩ => ⟨_, he, hb, rel_tup2 rfl rfl⟩
theorem fits_I_I (h : ∀ w a, Glob w → Im w a z1 → Calls Tryd.prog f #[a] w (RetI w z)) : FitsP f [im z1] [] (.one (im z)) :=
  fits_of hc fun β W w vals hp ha => by
    obtain ⟨u, rfl, h1⟩ := all2_1 ha
    exact (h w u hp.2.2.2 (im_rel hp h1)).mono fun _ _ ⟨r, he, hn, hb⟩ => ⟨_, he, hb, im_back (β := β) hp hb hn⟩
theorem fits_Iraw_I0 (r0 : Value) (h : ∀ w a, Glob w → Im w a z1 → Calls Tryd.prog f #[a, r0] w (RetI0 w z)) : FitsP f [im z1, rawS r0] [] (.tup [im z, ok0]) :=
  fits_of hc fun β W w vals hp ha => by
    obtain ⟨u, v, rfl, h1, h2⟩ := all2_2 ha
    obtain rfl : v = r0 := h2
    exact (h w u hp.2.2.2 (im_rel hp h1)).mono fun _ _ ⟨r, he, hn, hb⟩ => ⟨_, he, hb, rel_tup2 (im_back (β := β) hp hb hn) rfl⟩
end
end Go.Proofs.YtlgfjgkcgimdoaaDoor
