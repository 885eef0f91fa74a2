/- Calls at numbers that are written out. -/
import Derived.Test.YtlgfjgkcgimdoaaDoorDivs
import Derived.Test.YtlgfjgkcgimdoaaDoorSub
import Derived.Test.YtlgfjgkcgimdoaaDoorMul
import Derived.Test.YtlgfjgkcgimdoaaDoorSmall
import Derived.Test.YtlgfjgkcgimdoaaDoorShift
import Derived.Test.YtlgfjgkcgimdoaaDoorRight
import Derived.Test.YtlgfjgkcgimdoaaDoorBits
import Derived.Test.YtlgfjgkcgimdoaaDoorFit
namespace Go.Proofs.YtlgfjgkcgimdoaaDoor
open Go Go.RowKit Go.Shelf

theorem lt_lim {x : Nat} (h : x < 4294967296 ^ 8) : x < Lim := Nat.lt_of_lt_of_le h (Nat.pow_le_pow_right (by omega) (show 8 ≤ maxL by unfold maxL; omega))
theorem NumV.rd {w : World} {v : Value} {x : Nat} (h : NumV w v x) {zs : List Nat} (hC : Can 4294967296 zs) (hv : val 4294967296 zs = x) : Rd .u32 w v zs := by
  obtain ⟨ys, h1, h2, h3⟩ := h
  rw [← Can.eq h2 hC (h3.trans hv.symm)]; exact h1
theorem can_of {zs : List Nat} (h : (zs.all fun x => decide (x < 4294967296)) = true) (h' : decide (zs.getLast? = some 0) = false) : Can 4294967296 zs :=
  ⟨fun x hx => of_decide_eq_true (List.all_eq_true.1 h x hx), by simpa using h'⟩
/-- A number had, and what was kept. -/
def Had (w : World) (zs : List Nat) (e : Ending) (w' : World) : Prop := ∃ A cap, e = .returned (.slice A zs.length cap) ∧ Rd .u32 w' (.slice A zs.length cap) zs ∧ Below w.heap.size w w'
def Had2 (w : World) (zs : List Nat) (e : Ending) (w' : World) : Prop := ∃ A cap, e = .returned (.tuple #[.slice A zs.length cap, .int .i64 0]) ∧ Rd .u32 w' (.slice A zs.length cap) zs ∧ Below w.heap.size w w'
theorem had_of {w w' : World} {v : Value} {x : Nat} {zs : List Nat} (hC : Can 4294967296 zs) (hv : val 4294967296 zs = x) (h : NumV w' v x) (hB : Below w.heap.size w w') : Had w zs (.returned v) w' := by
  have := h.rd hC hv
  obtain ⟨A, cap, rfl, _⟩ := this.form
  exact ⟨A, cap, rfl, this, hB⟩
theorem had2_of {w w' : World} {v : Value} {x : Nat} {zs : List Nat} (hC : Can 4294967296 zs) (hv : val 4294967296 zs = x) (h : NumV w' v x) (hB : Below w.heap.size w w') : Had2 w zs (.returned (.tuple #[v, .int .i64 0])) w' := by
  have := h.rd hC hv
  obtain ⟨A, cap, rfl, _⟩ := this.form
  exact ⟨A, cap, rfl, this, hB⟩
theorem fitted_had {w w' : World} {x : Nat} {e : Ending} {zs : List Nat} (hC : Can 4294967296 zs) (hv : val 4294967296 zs = x) (hs : x < 4294967296 ^ 8) (h : Fitted w x e w') : Had2 w zs e w' := by
  obtain ⟨hB, (⟨_, v, rfl, hN⟩ | ⟨hl, _⟩)⟩ := h
  · exact had2_of hC hv hN hB
  · exact absurd (lt_lim hs) (by omega)

theorem of_lit (w : World) (n : Nat) (zs : List Nat) (hn : n < 18446744073709551616) (hC : Can 4294967296 zs) (hv : val 4294967296 zs = n) : Calls Tryd.prog 8 #[.int .u64 n] w (Had w zs) :=
  (of_c w n hn).mono fun e w' h => by obtain ⟨hB, v, rfl, hN⟩ := h; exact had_of hC hv hN hB
theorem add_lit (w : World) (va vb : Value) (xs ys zs : List Nat) (ha : Rd .u32 w va xs) (hb : Rd .u32 w vb ys) (hx : Can 4294967296 xs) (hy : Can 4294967296 ys) (hl : xs.length ≤ 8 ∧ ys.length ≤ 8) (hC : Can 4294967296 zs)
    (hv : val 4294967296 zs = val 4294967296 xs + val 4294967296 ys) (hs : val 4294967296 zs < 4294967296 ^ 8) : Calls Tryd.prog 34 #[va, vb] w (Had2 w zs) :=
  (add_c w va vb xs ys ha hb hx.1 hy.1 (by omega) (by omega)).mono fun _ _ h => fitted_had hC hv (hv ▸ hs) h
theorem mul_lit (w : World) (va vb : Value) (xs ys zs : List Nat) (ha : Rd .u32 w va xs) (hb : Rd .u32 w vb ys) (hx : Can 4294967296 xs) (hy : Can 4294967296 ys) (hl : xs.length ≤ 8 ∧ ys.length ≤ 8) (hC : Can 4294967296 zs)
    (hv : val 4294967296 zs = val 4294967296 xs * val 4294967296 ys) (hs : val 4294967296 zs < 4294967296 ^ 8) : Calls Tryd.prog 35 #[va, vb] w (Had2 w zs) :=
  (mul_c w va vb xs ys ha hb hx.1 hy.1 (by omega) (by omega)).mono fun _ _ h => fitted_had hC hv (hv ▸ hs) h
theorem sub_lit (w : World) (va vb : Value) (xs ys zs : List Nat) (ha : Rd .u32 w va xs) (hb : Rd .u32 w vb ys) (hx : Can 4294967296 xs) (hy : Can 4294967296 ys) (hl : xs.length ≤ 8 ∧ ys.length ≤ 8) (hC : Can 4294967296 zs)
    (hv : val 4294967296 zs + val 4294967296 ys = val 4294967296 xs) (hs : val 4294967296 zs < 4294967296 ^ 8) : Calls Tryd.prog 47 #[va, vb] w (Had2 w zs) :=
  (sub_c w va vb xs ys ha hb hx.1 hy.1 (by omega) (by omega)).mono fun _ _ h => by
    rcases h with ⟨h, _⟩ | ⟨_, h⟩
    · omega
    · exact fitted_had hC (by omega) (by omega) h

/-- 2^64 by 7. -/
theorem div_lit (w : World) (va vb : Value) (ha : Rd .u32 w va [0, 0, 1]) (hb : Rd .u32 w vb [7]) (hx : ∀ x ∈ ([0, 0, 1] : List Nat), x < 4294967296) (hy : ∀ x ∈ ([7] : List Nat), x < 4294967296) :
    Calls Tryd.prog 38 #[va, vb] w fun e w' => ∃ A cap A' cap', e = .returned (.tuple #[.slice A 2 cap, .slice A' 1 cap', .int .i64 0]) ∧ Rd .u32 w' (.slice A 2 cap) [2454267026, 613566756] ∧ Rd .u32 w' (.slice A' 1 cap') [2] ∧ Below w.heap.size w w' := by
  refine (div_c w va vb _ _ ha hb hx hy (by simp) (by simp) (fun h => absurd h (by decide))).mono ?_
  rintro e w' ⟨hB, (⟨h, _⟩ | ⟨_, h, _⟩ | ⟨_, _, v1, v2, rfl, h1, h2⟩)⟩
  · exact absurd h (by decide)
  · exact absurd (lt_lim (x := val 4294967296 [0, 0, 1]) (by decide)) (by omega)
  · have r1 := h1.rd (zs := [2454267026, 613566756]) (can_of rfl rfl) (by decide)
    have r2 := h2.rd (zs := [2]) (can_of rfl rfl) (by decide)
    obtain ⟨A, cap, rfl, _⟩ := r1.form
    obtain ⟨A', cap', rfl, _⟩ := r2.form
    exact ⟨A, cap, A', cap', rfl, r1, r2, hB⟩
theorem div_nil (w : World) (va : Value) (xs : List Nat) (ha : Rd .u32 w va xs) (hx : ∀ x ∈ xs, x < 4294967296) (hl : xs.length ≤ 8) :
    Calls Tryd.prog 38 #[va, .slice none 0 0] w fun e w' => e = .returned (.tuple #[.slice none 0 0, .slice none 0 0, .int .i64 10]) ∧ Below w.heap.size w w' := by
  refine (div_c w va _ _ [] ha (Rd.nil _ _ _) hx (by simp) (by omega) (by simp) (fun h => absurd h (by decide))).mono ?_
  rintro e w' ⟨hB, (⟨_, h⟩ | ⟨h, _⟩ | ⟨h, _⟩)⟩
  · exact ⟨h, hB⟩
  · exact absurd h (by decide)
  · exact absurd h (by decide)
theorem nil_sub (w : World) (va : Value) (xs : List Nat) (ha : Rd .u32 w va xs) (hx : ∀ x ∈ xs, x < 4294967296) (hl : xs.length ≤ 8) (hp : 0 < val 4294967296 xs) :
    Calls Tryd.prog 47 #[.slice none 0 0, va] w fun e w' => e = .returned (.tuple #[.slice none 0 0, .int .i64 12]) ∧ Below w.heap.size w w' := by
  refine (sub_c w _ va [] xs (Rd.nil _ _ _) ha (by simp) hx (by simp) (by omega)).mono ?_
  rintro e w' (⟨_, h, hB⟩ | ⟨h, _⟩)
  · exact ⟨h, hB⟩
  · exact absurd h (by simp [val]; omega)
theorem small_lit (w : World) (v : Value) (zs : List Nat) (hR : Rd .u32 w v zs) (hx : ∀ x ∈ zs, x < 4294967296) (hl : zs.length ≤ 8) (hs : val 4294967296 zs < 18446744073709551616) :
    Calls Tryd.prog 40 #[v] w fun e w' => e = .returned (.tuple #[.int .u64 (val 4294967296 zs : Nat), .int .i64 0]) ∧ Below w.heap.size w w' := by
  refine (small_c w v zs hR hx (by omega)).mono ?_
  rintro e w' ⟨hB, (⟨_, h⟩ | ⟨h, _⟩)⟩
  · exact ⟨h, hB⟩
  · exact absurd h (by unfold two64; omega)
theorem left_lit (w : World) (v : Value) (zs ys : List Nat) (n : Nat) (hR : Rd .u32 w v zs) (hx : ∀ x ∈ zs, x < 4294967296) (hl : zs.length ≤ 8) (hn : n ≤ 1000) (hC : Can 4294967296 ys) (hv : val 4294967296 ys = val 4294967296 zs * 2 ^ n) (hs : val 4294967296 ys < 4294967296 ^ 8) :
    Calls Tryd.prog 7 #[v, .int .i64 n] w (Had2 w ys) := by
  refine (left_c w v zs n hR hx (by omega) (by omega) (by omega)).mono ?_
  rintro e w' (⟨h, _⟩ | ⟨_, hB, (⟨h, _⟩ | ⟨_, v', rfl, hN⟩)⟩)
  · omega
  · exact absurd (lt_lim hs) (by rw [hv]; simpa using h)
  · exact had2_of hC hv (by simpa using hN) hB
theorem right_lit (w : World) (v : Value) (zs ys : List Nat) (n : Nat) (hR : Rd .u32 w v zs) (hx : ∀ x ∈ zs, x < 4294967296) (hl : zs.length ≤ 8) (hn : n ≤ 1000) (hC : Can 4294967296 ys) (hv : val 4294967296 ys = val 4294967296 zs / 2 ^ n) (hs : val 4294967296 ys < 4294967296 ^ 8) :
    Calls Tryd.prog 32 #[v, .int .i64 n] w (Had2 w ys) := by
  refine (right_c w v zs n hR hx (by omega) (by omega) (by omega) (by have := lt_lim hs; rw [hv] at this; simpa [Hid] using this)).mono ?_
  rintro e w' (⟨h, _⟩ | ⟨_, hB, v', rfl, hN⟩)
  · omega
  · exact had2_of hC hv (by simpa using hN) hB

theorem tail_le {t u a b : Nat} (h : 2 ^ t * (2 * a + 1) = 2 ^ u * (2 * b + 1)) : u ≤ t := by
  rcases Nat.lt_or_ge t u with hlt | hge
  · exfalso
    obtain ⟨d, rfl⟩ : ∃ d, u = t + 1 + d := ⟨u - t - 1, by omega⟩
    rw [Nat.pow_add, Nat.pow_add, Nat.pow_one, Nat.mul_assoc, Nat.mul_assoc] at h
    have h2 := Nat.eq_of_mul_eq_mul_left (Nat.pow_pos (by omega)) h
    obtain ⟨m, hm⟩ : ∃ m, 2 ^ d * (2 * b + 1) = m := ⟨_, rfl⟩
    rw [hm] at h2
    omega
  · exact hge
theorem IsTail.eq {n m x : Nat} (h : IsTail n x) (k : IsTail m x) : n = m := by
  rcases h with ⟨h1, rfl⟩ | ⟨a, h⟩ <;> rcases k with ⟨k1, rfl⟩ | ⟨b, k⟩
  · rfl
  · have := Nat.pow_pos (n := m) (show 0 < 2 by omega); rw [h1] at k; have := Nat.mul_pos this (show 0 < 2 * b + 1 by omega); omega
  · have := Nat.pow_pos (n := n) (show 0 < 2 by omega); rw [k1] at h; have := Nat.mul_pos this (show 0 < 2 * a + 1 by omega); omega
  · exact Nat.le_antisymm (tail_le (k.symm.trans h)) (tail_le (h.symm.trans k))
theorem bits_lit (w : World) (v : Value) (zs : List Nat) (n : Nat) (hR : Rd .u32 w v zs) (hx : ∀ x ∈ zs, x < 4294967296) (hl : zs.length ≤ 8) (hn : IsBits n (val 4294967296 zs)) :
    Calls Tryd.prog 19 #[v] w fun e w' => e = .returned (.int .i64 (n : Int)) ∧ Below w.heap.size w w' := by
  refine (bits_c w v zs hR hx (by omega)).mono ?_
  rintro e w' ⟨hB, m, rfl, hm⟩
  exact ⟨by rw [hm.eq hn], hB⟩
theorem tail_lit (w : World) (hT : Tab w) (v : Value) (zs : List Nat) (n : Nat) (hR : Rd .u32 w v zs) (hx : ∀ x ∈ zs, x < 4294967296) (hl : zs.length ≤ 8) (hn : IsTail n (val 4294967296 zs)) :
    Calls Tryd.prog 33 #[v] w fun e w' => e = .returned (.int .i64 (n : Int)) ∧ w = w' := by
  refine (tail_c w hT v zs hR hx (by omega)).mono ?_
  rintro e w' ⟨rfl, m, rfl, hm⟩
  exact ⟨by rw [hm.eq hn], rfl⟩
theorem Rd.drewN {k : IntKind} {w : World} {v : Value} {zs : List Nat} (h : Rd k w v zs) (n : Nat) : Rd k (w.drewN n) v zs := h

end Go.Proofs.YtlgfjgkcgimdoaaDoor

/- Numbers that come in, and which of them are tried. -/
namespace Go.Proofs.YtlgfjgkcgimdoaaDoor
open Go Go.RowKit Go.Shelf

/-- May a number be tried? -/
def FitOne (zs : List Nat) : Prop := zs.length ≤ 40 ∧ checkOf zs = 0
instance (zs : List Nat) : Decidable (FitOne zs) := by unfold FitOne; exact inferInstance
/-- A number that comes in, however long. -/
def Arg (w : World) (v : Value) (zs : List Nat) : Prop := (∃ A cap, v = .slice A zs.length cap) ∧ (zs.length ≤ 40 → Rd .u32 w v zs)
theorem Arg.below {w w' : World} {v : Value} {zs : List Nat} (h : Arg w v zs) {B : Nat} (hb : Below B w w') (hB : w.heap.size ≤ B) : Arg w' v zs := ⟨h.1, fun hl => (h.2 hl).below (hb.mono hB)⟩
def fitAll (Zs : List (List Nat)) : Bool := Zs.all fun zs => decide (FitOne zs)

theorem FitOne.can {zs : List Nat} (h : FitOne zs) (hb : ∀ x ∈ zs, x < 4294967296) : Can 4294967296 zs := by
  refine ⟨hb, fun e => ?_⟩
  have := h.2
  have hl := h.1
  rw [checkOf_form (by omega) e] at this
  exact absurd this (by decide)

theorem all_take_succ {zs : List Nat} {Zs : List (List Nat)} {k : Nat} (h : Zs[k]? = some zs) (hp : FitOne zs) (ht : ∀ (j : Nat) (ys : List Nat), j < k → Zs[j]? = some ys → FitOne ys) : ∀ (j : Nat) (ys : List Nat), j < k + 1 → Zs[j]? = some ys → FitOne ys := by
  intro j ys hj hy
  by_cases e : j = k
  · subst e; rw [h] at hy; injection hy with hy; subst hy; exact hp
  · exact ht j ys (by omega) hy
theorem fitAll_true {Zs : List (List Nat)} (h : ∀ (j : Nat) (ys : List Nat), j < Zs.length → Zs[j]? = some ys → FitOne ys) : fitAll Zs = true := by
  unfold fitAll
  rw [List.all_eq_true]
  intro ys hy
  obtain ⟨j, hj⟩ := List.mem_iff_getElem?.1 hy
  exact decide_eq_true (h j ys (List.getElem?_eq_some_iff.1 hj).1 hj)
theorem fitAll_false {Zs : List (List Nat)} {zs : List Nat} {k : Nat} (h : Zs[k]? = some zs) (hp : ¬ FitOne zs) : fitAll Zs = false := by
  cases e : fitAll Zs with
  | false => rfl
  | true => exact absurd (of_decide_eq_true (List.all_eq_true.1 e zs (List.mem_of_getElem? h))) hp

end Go.Proofs.YtlgfjgkcgimdoaaDoor

/- What the laws go on with. -/
namespace Go.Proofs.YtlgfjgkcgimdoaaDoor
open Go Go.RowKit Go.Shelf

theorem pow2 : (4294967296 : Nat) ^ 2 = 18446744073709551616 := by decide

theorem lay_cells (w : World) (vs : List Value) (t : TypeId) (i : Nat) (u : Value) (h : vs[i]? = some u) : (w.alloc (.cells vs.toArray t)).cell? ⟨w.heap.size, i, none⟩ = some u := by
  have e : (w.alloc (.cells vs.toArray t)).heap[w.heap.size]? = some (.cells vs.toArray t) := World.alloc_heap_new w _
  unfold World.cell?
  dsimp only
  rw [e]
  simpa using h

theorem lim_of {x n : Nat} (h : x < 4294967296 ^ n) (hn : n ≤ 512) : x < Lim := Nat.lt_of_lt_of_le h (Nat.pow_le_pow_right (by omega) (show n ≤ maxL by unfold maxL; omega))
theorem mul_pow_lt {B x y m n : Nat} (hx : x < B ^ m) (hy : y < B ^ n) : x * y < B ^ (m + n) := by
  rw [Nat.pow_add]
  rcases Nat.eq_zero_or_pos y with rfl | hp
  · exact Nat.lt_of_le_of_lt (Nat.le_refl _) (by rw [Nat.mul_zero]; exact Nat.mul_pos (by omega) (by omega))
  · exact Nat.lt_of_lt_of_le (Nat.mul_lt_mul_of_pos_right hx hp) (Nat.mul_le_mul_left _ (by omega))
theorem add_pow_lt {B x y n : Nat} (hB : 2 ≤ B) (hx : x < B ^ n) (hy : y < B ^ n) : x + y < B ^ (n + 1) := by
  rw [Nat.pow_succ]
  have : B ^ n * 2 ≤ B ^ n * B := Nat.mul_le_mul_left _ hB
  omega
theorem fit_lt {zs : List Nat} (hf : FitOne zs) (hb : ∀ x ∈ zs, x < 4294967296) : val 4294967296 zs < 4294967296 ^ 40 :=
  Nat.lt_of_lt_of_le (val_lt hb) (Nat.pow_le_pow_right (by omega) hf.1)

/-- A number that the laws go on with. -/
def Ok (w : World) (v : Value) (zs : List Nat) : Prop := Rd .u32 w v zs ∧ Can 4294967296 zs ∧ zs.length ≤ 1000000
theorem Ok.below {w w' : World} {v : Value} {zs : List Nat} (h : Ok w v zs) (hb : Below w.heap.size w w') : Ok w' v zs := ⟨h.1.below hb, h.2⟩
/-- A number and no error. -/
def Made (w : World) (x : Nat) (e : Ending) (w' : World) : Prop := ∃ A cap zs, e = .returned (.tuple #[.slice A zs.length cap, .int .i64 0]) ∧ Ok w' (.slice A zs.length cap) zs ∧ val 4294967296 zs = x ∧ Below w.heap.size w w'
theorem fitted_made {w w' : World} {x : Nat} {e : Ending} (hx : x < Lim) (h : Fitted w x e w') : Made w x e w' := by
  obtain ⟨hB, (⟨_, v, rfl, zs, h1, h2, h3⟩ | ⟨hl, _⟩)⟩ := h
  · obtain ⟨A, cap, rfl, _⟩ := h1.form
    have hl := h2.len_le (n := maxL) (by omega) (by rw [h3]; exact hx)
    exact ⟨A, cap, zs, rfl, ⟨h1, h2, by unfold maxL at hl; omega⟩, h3, hB⟩
  · omega
theorem add_made (w : World) (va vb : Value) (xs ys : List Nat) (ha : Ok w va xs) (hb : Ok w vb ys) (hx : val 4294967296 xs + val 4294967296 ys < Lim) :
    Calls Tryd.prog 34 #[va, vb] w (Made w (val 4294967296 xs + val 4294967296 ys)) :=
  (add_c w va vb xs ys ha.1 hb.1 ha.2.1.1 hb.2.1.1 ha.2.2 hb.2.2).mono fun _ _ h => fitted_made hx h
theorem mul_made (w : World) (va vb : Value) (xs ys : List Nat) (ha : Ok w va xs) (hb : Ok w vb ys) (hx : val 4294967296 xs * val 4294967296 ys < Lim) :
    Calls Tryd.prog 35 #[va, vb] w (Made w (val 4294967296 xs * val 4294967296 ys)) :=
  (mul_c w va vb xs ys ha.1 hb.1 ha.2.1.1 hb.2.1.1 ha.2.2 hb.2.2).mono fun _ _ h => fitted_made hx h
theorem sub_made (w : World) (va vb : Value) (xs ys : List Nat) (ha : Ok w va xs) (hb : Ok w vb ys) (hle : val 4294967296 ys ≤ val 4294967296 xs) (hx : val 4294967296 xs < Lim) :
    Calls Tryd.prog 47 #[va, vb] w (Made w (val 4294967296 xs - val 4294967296 ys)) :=
  (sub_c w va vb xs ys ha.1 hb.1 ha.2.1.1 hb.2.1.1 ha.2.2 hb.2.2).mono fun _ _ h => by
    rcases h with ⟨h, _⟩ | ⟨_, h⟩
    · omega
    · exact fitted_made (by omega) h
end Go.Proofs.YtlgfjgkcgimdoaaDoor
