
/- Calls at numbers that are written out. -/
import Derived.Test.YtnncfbmddpijcaaGreatDoorClone
import Derived.Test.YtnncfbmddpijcaaGreatDoorFit
import Derived.Test.YtnncfbmddpijcaaGreatDoorBits
import Derived.OwnWalk
import Derived.Laws.AppendOwnNone
namespace Go.Proofs.YtnncfbmddpijcaaGreatDoor
open Go Go.RowKit Go.Shelf

theorem lt_lim {x : Nat} (h : x < 4294967296 ^ 8) : x < Lim := Nat.lt_of_lt_of_le h (Nat.pow_le_pow_right (by omega) (show 8 ≤ maxL by unfold maxL; omega))
theorem NumV.rd {w : World} {v : Value} {x : Nat} (h : NumV w v x) {zs : List Nat} (hC : Can 4294967296 zs) (hv : val 4294967296 zs = x) : Rd .u32 w v zs := by
  obtain ⟨ys, h1, h2, h3⟩ := h
  rw [← Can.eq h2 hC (h3.trans hv.symm)]; exact h1
theorem can_of {zs : List Nat} (h : (zs.all fun x => decide (x < 4294967296)) = true) (h' : decide (zs.getLast? = some 0) = false) : Can 4294967296 zs :=
  ⟨fun x hx => of_decide_eq_true (List.all_eq_true.1 h x hx), by simpa using h'⟩
/-- A number had, and what was kept. -/
def Had (w : World) (zs : List Nat) (e : Ending) (w' : World) : Prop := ∃ A cap, e = .returned (.slice A zs.length cap) ∧ Rd .u32 w' (.slice A zs.length cap) zs ∧ Below w.heap.size w w'
def Had2 (w : World) (zs : List Nat) (e : Ending) (w' : World) : Prop := ∃ A cap, e = .returned (.tuple #[.slice A zs.length cap, .int .i64 0]) ∧ Rd .u32 w' (.slice A zs.length cap) zs ∧ Below w.heap.size w w'
theorem had_of {w w' : World} {v : Value} {x : Nat} {zs : List Nat} (hC : Can 4294967296 zs) (hv : val 4294967296 zs = x) (h : NumV w' v x) (hB : Below w.heap.size w w') : Had w zs (.returned v) w' := by
  have := h.rd hC hv
  obtain ⟨A, cap, rfl, _⟩ := this.form
  exact ⟨A, cap, rfl, this, hB⟩
theorem had2_of {w w' : World} {v : Value} {x : Nat} {zs : List Nat} (hC : Can 4294967296 zs) (hv : val 4294967296 zs = x) (h : NumV w' v x) (hB : Below w.heap.size w w') : Had2 w zs (.returned (.tuple #[v, .int .i64 0])) w' := by
  have := h.rd hC hv
  obtain ⟨A, cap, rfl, _⟩ := this.form
  exact ⟨A, cap, rfl, this, hB⟩
theorem fitted_had {w w' : World} {x : Nat} {e : Ending} {zs : List Nat} (hC : Can 4294967296 zs) (hv : val 4294967296 zs = x) (hs : x < 4294967296 ^ 8) (h : Fitted w x e w') : Had2 w zs e w' := by
  obtain ⟨hB, (⟨_, v, rfl, hN⟩ | ⟨hl, _⟩)⟩ := h
  · exact had2_of hC hv hN hB
  · exact absurd (lt_lim hs) (by omega)

theorem of_lit (w : World) (n : Nat) (zs : List Nat) (hn : n < 18446744073709551616) (hC : Can 4294967296 zs) (hv : val 4294967296 zs = n) : Calls Tryz.prog 32 #[.int .u64 n] w (Had w zs) :=
  (of_c w n hn).mono fun e w' h => by obtain ⟨hB, v, rfl, hN⟩ := h; exact had_of hC hv hN hB
theorem add_lit (w : World) (va vb : Value) (xs ys zs : List Nat) (ha : Rd .u32 w va xs) (hb : Rd .u32 w vb ys) (hx : Can 4294967296 xs) (hy : Can 4294967296 ys) (hl : xs.length ≤ 8 ∧ ys.length ≤ 8) (hC : Can 4294967296 zs)
    (hv : val 4294967296 zs = val 4294967296 xs + val 4294967296 ys) (hs : val 4294967296 zs < 4294967296 ^ 8) : Calls Tryz.prog 75 #[va, vb] w (Had2 w zs) :=
  (add_c w va vb xs ys ha hb hx.1 hy.1 (by omega) (by omega)).mono fun _ _ h => fitted_had hC hv (hv ▸ hs) h
theorem mul_lit (w : World) (va vb : Value) (xs ys zs : List Nat) (ha : Rd .u32 w va xs) (hb : Rd .u32 w vb ys) (hx : Can 4294967296 xs) (hy : Can 4294967296 ys) (hl : xs.length ≤ 8 ∧ ys.length ≤ 8) (hC : Can 4294967296 zs)
    (hv : val 4294967296 zs = val 4294967296 xs * val 4294967296 ys) (hs : val 4294967296 zs < 4294967296 ^ 8) : Calls Tryz.prog 39 #[va, vb] w (Had2 w zs) :=
  (mul_c w va vb xs ys ha hb hx.1 hy.1 (by omega) (by omega)).mono fun _ _ h => fitted_had hC hv (hv ▸ hs) h
theorem sub_lit (w : World) (va vb : Value) (xs ys zs : List Nat) (ha : Rd .u32 w va xs) (hb : Rd .u32 w vb ys) (hx : Can 4294967296 xs) (hy : Can 4294967296 ys) (hl : xs.length ≤ 8 ∧ ys.length ≤ 8) (hC : Can 4294967296 zs)
    (hv : val 4294967296 zs + val 4294967296 ys = val 4294967296 xs) (hs : val 4294967296 zs < 4294967296 ^ 8) : Calls Tryz.prog 77 #[va, vb] w (Had2 w zs) :=
  (sub_c w va vb xs ys ha hb hx.1 hy.1 (by omega) (by omega)).mono fun _ _ h => by
    rcases h with ⟨h, _⟩ | ⟨_, h⟩
    · omega
    · exact fitted_had hC (by omega) (by omega) h

/-- 2^64 by 7. -/
theorem div_lit (w : World) (va vb : Value) (ha : Rd .u32 w va [0, 0, 1]) (hb : Rd .u32 w vb [7]) (hx : ∀ x ∈ ([0, 0, 1] : List Nat), x < 4294967296) (hy : ∀ x ∈ ([7] : List Nat), x < 4294967296) :
    Calls Tryz.prog 66 #[va, vb] w fun e w' => ∃ A cap A' cap', e = .returned (.tuple #[.slice A 2 cap, .slice A' 1 cap', .int .i64 0]) ∧ Rd .u32 w' (.slice A 2 cap) [2454267026, 613566756] ∧ Rd .u32 w' (.slice A' 1 cap') [2] ∧ Below w.heap.size w w' := by
  refine (div_c w va vb _ _ ha hb hx hy (by simp) (by simp) (fun h => absurd h (by decide))).mono ?_
  rintro e w' ⟨hB, (⟨h, _⟩ | ⟨_, h, _⟩ | ⟨_, _, v1, v2, rfl, h1, h2⟩)⟩
  · exact absurd h (by decide)
  · exact absurd (lt_lim (x := val 4294967296 [0, 0, 1]) (by decide)) (by omega)
  · have r1 := h1.rd (zs := [2454267026, 613566756]) (can_of rfl rfl) (by decide)
    have r2 := h2.rd (zs := [2]) (can_of rfl rfl) (by decide)
    obtain ⟨A, cap, rfl, _⟩ := r1.form
    obtain ⟨A', cap', rfl, _⟩ := r2.form
    exact ⟨A, cap, A', cap', rfl, r1, r2, hB⟩
theorem div_nil (w : World) (va : Value) (xs : List Nat) (ha : Rd .u32 w va xs) (hx : ∀ x ∈ xs, x < 4294967296) (hl : xs.length ≤ 8) :
    Calls Tryz.prog 66 #[va, .slice none 0 0] w fun e w' => e = .returned (.tuple #[.slice none 0 0, .slice none 0 0, .int .i64 10]) ∧ Below w.heap.size w w' := by
  refine (div_c w va _ _ [] ha (Rd.nil _ _ _) hx (by simp) (by omega) (by simp) (fun h => absurd h (by decide))).mono ?_
  rintro e w' ⟨hB, (⟨_, h⟩ | ⟨h, _⟩ | ⟨h, _⟩)⟩
  · exact ⟨h, hB⟩
  · exact absurd h (by decide)
  · exact absurd h (by decide)
theorem nil_sub (w : World) (va : Value) (xs : List Nat) (ha : Rd .u32 w va xs) (hx : ∀ x ∈ xs, x < 4294967296) (hl : xs.length ≤ 8) (hp : 0 < val 4294967296 xs) :
    Calls Tryz.prog 77 #[.slice none 0 0, va] w fun e w' => e = .returned (.tuple #[.slice none 0 0, .int .i64 12]) ∧ Below w.heap.size w w' := by
  refine (sub_c w _ va [] xs (Rd.nil _ _ _) ha (by simp) hx (by simp) (by omega)).mono ?_
  rintro e w' (⟨_, h, hB⟩ | ⟨h, _⟩)
  · exact ⟨h, hB⟩
  · exact absurd h (by simp [val]; omega)
theorem small_lit (w : World) (v : Value) (zs : List Nat) (hR : Rd .u32 w v zs) (hx : ∀ x ∈ zs, x < 4294967296) (hl : zs.length ≤ 8) (hs : val 4294967296 zs < 18446744073709551616) :
    Calls Tryz.prog 67 #[v] w fun e w' => e = .returned (.tuple #[.int .u64 (val 4294967296 zs : Nat), .int .i64 0]) ∧ Below w.heap.size w w' := by
  refine (small_c w v zs hR hx (by omega)).mono ?_
  rintro e w' ⟨hB, (⟨_, h⟩ | ⟨h, _⟩)⟩
  · exact ⟨h, hB⟩
  · exact absurd h (by unfold two64; omega)
theorem left_lit (w : World) (v : Value) (zs ys : List Nat) (n : Nat) (hR : Rd .u32 w v zs) (hx : ∀ x ∈ zs, x < 4294967296) (hl : zs.length ≤ 8) (hn : n ≤ 1000) (hC : Can 4294967296 ys) (hv : val 4294967296 ys = val 4294967296 zs * 2 ^ n) (hs : val 4294967296 ys < 4294967296 ^ 8) :
    Calls Tryz.prog 46 #[v, .int .i64 n] w (Had2 w ys) := by
  refine (left_c w v zs n hR hx (by omega) (by omega) (by omega)).mono ?_
  rintro e w' (⟨h, _⟩ | ⟨_, hB, (⟨h, _⟩ | ⟨_, v', rfl, hN⟩)⟩)
  · omega
  · exact absurd (lt_lim hs) (by rw [hv]; simpa using h)
  · exact had2_of hC hv (by simpa using hN) hB
theorem right_lit (w : World) (v : Value) (zs ys : List Nat) (n : Nat) (hR : Rd .u32 w v zs) (hx : ∀ x ∈ zs, x < 4294967296) (hl : zs.length ≤ 8) (hn : n ≤ 1000) (hC : Can 4294967296 ys) (hv : val 4294967296 ys = val 4294967296 zs / 2 ^ n) (hs : val 4294967296 ys < 4294967296 ^ 8) :
    Calls Tryz.prog 90 #[v, .int .i64 n] w (Had2 w ys) := by
  refine (right_c w v zs n hR hx (by omega) (by omega) (by omega) (by have := lt_lim hs; rw [hv] at this; simpa [Hid] using this)).mono ?_
  rintro e w' (⟨h, _⟩ | ⟨_, hB, v', rfl, hN⟩)
  · omega
  · exact had2_of hC hv (by simpa using hN) hB

theorem tail_le {t u a b : Nat} (h : 2 ^ t * (2 * a + 1) = 2 ^ u * (2 * b + 1)) : u ≤ t := by
  rcases Nat.lt_or_ge t u with hlt | hge
  · exfalso
    obtain ⟨d, rfl⟩ : ∃ d, u = t + 1 + d := ⟨u - t - 1, by omega⟩
    rw [Nat.pow_add, Nat.pow_add, Nat.pow_one, Nat.mul_assoc, Nat.mul_assoc] at h
    have h2 := Nat.eq_of_mul_eq_mul_left (Nat.pow_pos (by omega)) h
    obtain ⟨m, hm⟩ : ∃ m, 2 ^ d * (2 * b + 1) = m := ⟨_, rfl⟩
    rw [hm] at h2
    omega
  · exact hge
theorem IsTail.eq {n m x : Nat} (h : IsTail n x) (k : IsTail m x) : n = m := by
  rcases h with ⟨h1, rfl⟩ | ⟨a, h⟩ <;> rcases k with ⟨k1, rfl⟩ | ⟨b, k⟩
  · rfl
  · have := Nat.pow_pos (n := m) (show 0 < 2 by omega); rw [h1] at k; have := Nat.mul_pos this (show 0 < 2 * b + 1 by omega); omega
  · have := Nat.pow_pos (n := n) (show 0 < 2 by omega); rw [k1] at h; have := Nat.mul_pos this (show 0 < 2 * a + 1 by omega); omega
  · exact Nat.le_antisymm (tail_le (k.symm.trans h)) (tail_le (h.symm.trans k))
theorem bits_lit (w : World) (v : Value) (zs : List Nat) (n : Nat) (hR : Rd .u32 w v zs) (hx : ∀ x ∈ zs, x < 4294967296) (hl : zs.length ≤ 8) (hn : IsBits n (val 4294967296 zs)) :
    Calls Tryz.prog 65 #[v] w fun e w' => e = .returned (.int .i64 (n : Int)) ∧ Below w.heap.size w w' := by
  refine (bits_c w v zs hR hx (by omega)).mono ?_
  rintro e w' ⟨hB, m, rfl, hm⟩
  exact ⟨by rw [hm.eq hn], hB⟩
theorem tail_lit (w : World) (hT : Tab w) (v : Value) (zs : List Nat) (n : Nat) (hR : Rd .u32 w v zs) (hx : ∀ x ∈ zs, x < 4294967296) (hl : zs.length ≤ 8) (hn : IsTail n (val 4294967296 zs)) :
    Calls Tryz.prog 62 #[v] w fun e w' => e = .returned (.int .i64 (n : Int)) ∧ w = w' := by
  refine (tail_c w hT v zs hR hx (by omega)).mono ?_
  rintro e w' ⟨rfl, m, rfl, hm⟩
  exact ⟨by rw [hm.eq hn], rfl⟩

end Go.Proofs.YtnncfbmddpijcaaGreatDoor

/- Numbers that come in, and which of them are tried. -/
namespace Go.Proofs.YtnncfbmddpijcaaGreatDoor
open Go Go.RowKit Go.Shelf

/-- May a number be tried? -/
def FitOne (zs : List Nat) : Prop := zs.length ≤ 40 ∧ checkOf zs = 0
instance (zs : List Nat) : Decidable (FitOne zs) := by unfold FitOne; exact inferInstance
/-- A number that comes in, however long. -/
def Arg (w : World) (v : Value) (zs : List Nat) : Prop := (∃ A cap, v = .slice A zs.length cap) ∧ (zs.length ≤ 40 → Rd .u32 w v zs)
theorem Arg.below {w w' : World} {v : Value} {zs : List Nat} (h : Arg w v zs) {B : Nat} (hb : Below B w w') (hB : w.heap.size ≤ B) : Arg w' v zs := ⟨h.1, fun hl => (h.2 hl).below (hb.mono hB)⟩
def fitAll (Zs : List (List Nat)) : Bool := Zs.all fun zs => decide (FitOne zs)

theorem FitOne.can {zs : List Nat} (h : FitOne zs) (hb : ∀ x ∈ zs, x < 4294967296) : Can 4294967296 zs := by
  refine ⟨hb, fun e => ?_⟩
  have := h.2
  have hl := h.1
  rw [checkOf_form (by omega) e] at this
  exact absurd this (by decide)

theorem all_take_succ {zs : List Nat} {Zs : List (List Nat)} {k : Nat} (h : Zs[k]? = some zs) (hp : FitOne zs) (ht : ∀ (j : Nat) (ys : List Nat), j < k → Zs[j]? = some ys → FitOne ys) : ∀ (j : Nat) (ys : List Nat), j < k + 1 → Zs[j]? = some ys → FitOne ys := by
  intro j ys hj hy
  by_cases e : j = k
  · subst e; rw [h] at hy; injection hy with hy; subst hy; exact hp
  · exact ht j ys (by omega) hy
theorem fitAll_true {Zs : List (List Nat)} (h : ∀ (j : Nat) (ys : List Nat), j < Zs.length → Zs[j]? = some ys → FitOne ys) : fitAll Zs = true := by
  unfold fitAll
  rw [List.all_eq_true]
  intro ys hy
  obtain ⟨j, hj⟩ := List.mem_iff_getElem?.1 hy
  exact decide_eq_true (h j ys (List.getElem?_eq_some_iff.1 hj).1 hj)
theorem fitAll_false {Zs : List (List Nat)} {zs : List Nat} {k : Nat} (h : Zs[k]? = some zs) (hp : ¬ FitOne zs) : fitAll Zs = false := by
  cases e : fitAll Zs with
  | false => rfl
  | true => exact absurd (of_decide_eq_true (List.all_eq_true.1 e zs (List.mem_of_getElem? h))) hp

end Go.Proofs.YtnncfbmddpijcaaGreatDoor

/- What the laws go on with. -/
namespace Go.Proofs.YtnncfbmddpijcaaGreatDoor
open Go Go.RowKit Go.Shelf

theorem pow2 : (4294967296 : Nat) ^ 2 = 18446744073709551616 := by decide

theorem lay_cells (w : World) (vs : List Value) (t : TypeId) (i : Nat) (u : Value) (h : vs[i]? = some u) : (w.alloc (.cells vs.toArray t)).cell? ⟨w.heap.size, i, none⟩ = some u := by
  have e : (w.alloc (.cells vs.toArray t)).heap[w.heap.size]? = some (.cells vs.toArray t) := World.alloc_heap_new w _
  unfold World.cell?
  dsimp only
  rw [e]
  simpa using h

theorem lim_of {x n : Nat} (h : x < 4294967296 ^ n) (hn : n ≤ 512) : x < Lim := Nat.lt_of_lt_of_le h (Nat.pow_le_pow_right (by omega) (show n ≤ maxL by unfold maxL; omega))
theorem mul_pow_lt {B x y m n : Nat} (hx : x < B ^ m) (hy : y < B ^ n) : x * y < B ^ (m + n) := by
  rw [Nat.pow_add]
  rcases Nat.eq_zero_or_pos y with rfl | hp
  · exact Nat.lt_of_le_of_lt (Nat.le_refl _) (by rw [Nat.mul_zero]; exact Nat.mul_pos (by omega) (by omega))
  · exact Nat.lt_of_lt_of_le (Nat.mul_lt_mul_of_pos_right hx hp) (Nat.mul_le_mul_left _ (by omega))
theorem add_pow_lt {B x y n : Nat} (hB : 2 ≤ B) (hx : x < B ^ n) (hy : y < B ^ n) : x + y < B ^ (n + 1) := by
  rw [Nat.pow_succ]
  have : B ^ n * 2 ≤ B ^ n * B := Nat.mul_le_mul_left _ hB
  omega
theorem fit_lt {zs : List Nat} (hf : FitOne zs) (hb : ∀ x ∈ zs, x < 4294967296) : val 4294967296 zs < 4294967296 ^ 40 :=
  Nat.lt_of_lt_of_le (val_lt hb) (Nat.pow_le_pow_right (by omega) hf.1)

/-- A number that the laws go on with. -/
def Ok (w : World) (v : Value) (zs : List Nat) : Prop := Rd .u32 w v zs ∧ Can 4294967296 zs ∧ zs.length ≤ 1000000
theorem Ok.below {w w' : World} {v : Value} {zs : List Nat} (h : Ok w v zs) (hb : Below w.heap.size w w') : Ok w' v zs := ⟨h.1.below hb, h.2⟩
/-- A number and no error. -/
def Made (w : World) (x : Nat) (e : Ending) (w' : World) : Prop := ∃ A cap zs, e = .returned (.tuple #[.slice A zs.length cap, .int .i64 0]) ∧ Ok w' (.slice A zs.length cap) zs ∧ val 4294967296 zs = x ∧ Below w.heap.size w w'
theorem fitted_made {w w' : World} {x : Nat} {e : Ending} (hx : x < Lim) (h : Fitted w x e w') : Made w x e w' := by
  obtain ⟨hB, (⟨_, v, rfl, zs, h1, h2, h3⟩ | ⟨hl, _⟩)⟩ := h
  · obtain ⟨A, cap, rfl, _⟩ := h1.form
    have hl := h2.len_le (n := maxL) (by omega) (by rw [h3]; exact hx)
    exact ⟨A, cap, zs, rfl, ⟨h1, h2, by unfold maxL at hl; omega⟩, h3, hB⟩
  · omega
theorem add_made (w : World) (va vb : Value) (xs ys : List Nat) (ha : Ok w va xs) (hb : Ok w vb ys) (hx : val 4294967296 xs + val 4294967296 ys < Lim) :
    Calls Tryz.prog 75 #[va, vb] w (Made w (val 4294967296 xs + val 4294967296 ys)) :=
  (add_c w va vb xs ys ha.1 hb.1 ha.2.1.1 hb.2.1.1 ha.2.2 hb.2.2).mono fun _ _ h => fitted_made hx h
theorem mul_made (w : World) (va vb : Value) (xs ys : List Nat) (ha : Ok w va xs) (hb : Ok w vb ys) (hx : val 4294967296 xs * val 4294967296 ys < Lim) :
    Calls Tryz.prog 39 #[va, vb] w (Made w (val 4294967296 xs * val 4294967296 ys)) :=
  (mul_c w va vb xs ys ha.1 hb.1 ha.2.1.1 hb.2.1.1 ha.2.2 hb.2.2).mono fun _ _ h => fitted_made hx h
theorem sub_made (w : World) (va vb : Value) (xs ys : List Nat) (ha : Ok w va xs) (hb : Ok w vb ys) (hle : val 4294967296 ys ≤ val 4294967296 xs) (hx : val 4294967296 xs < Lim) :
    Calls Tryz.prog 77 #[va, vb] w (Made w (val 4294967296 xs - val 4294967296 ys)) :=
  (sub_c w va vb xs ys ha.1 hb.1 ha.2.1.1 hb.2.1.1 ha.2.2 hb.2.2).mono fun _ _ h => by
    rcases h with ⟨h, _⟩ | ⟨_, h⟩
    · omega
    · exact fitted_made (by omega) h
end Go.Proofs.YtnncfbmddpijcaaGreatDoor

/- What is held of numbers in memory, of whatever base, while all that there was stays. -/
namespace Go.Proofs.YtnncfbmddpijcaaGreatDoor
open Go Go.RowKit Go.Shelf

/-- A slice that holds a number to the base B. -/
structure Num where
  k : IntKind
  B : Nat
  v : Value
  zs : List Nat
def Num.ok (w : World) (n : Num) : Prop := Rd n.k w n.v n.zs ∧ Can n.B n.zs ∧ n.zs.length ≤ 1000000
theorem Num.ok.below {w w' : World} {n : Num} (h : n.ok w) (hb : Below w.heap.size w w') : n.ok w' := ⟨h.1.below hb, h.2⟩
/-- All that was in w0 has stayed, and these numbers stand. -/
def Held (w0 w : World) (L : List Num) : Prop := Below w0.heap.size w0 w ∧ ∀ n ∈ L, Num.ok w n
theorem Held.nil (w : World) : Held w w [] := ⟨Below.refl _ _, by simp⟩
theorem Held.step {w0 w w' : World} {L : List Num} (h : Held w0 w L) (hb : Below w.heap.size w w') : Held w0 w' L :=
  ⟨h.1.trans (hb.mono h.1.size), fun n hn => (h.2 n hn).below hb⟩
theorem Held.push {w0 w : World} {L : List Num} (h : Held w0 w L) {n : Num} (hn : n.ok w) : Held w0 w (n :: L) :=
  ⟨h.1, fun m hm => by rcases List.mem_cons.1 hm with rfl | hm; exact hn; exact h.2 m hm⟩
theorem Held.get {w0 w : World} {L : List Num} (h : Held w0 w L) (i : Nat) {n : Num} (hi : L[i]? = some n) : n.ok w := h.2 n (List.mem_of_getElem? hi)
theorem Held.drewN {w0 w : World} {L : List Num} (h : Held w0 w L) (n : Nat) : Held w0 (w.drewN n) L := h.step ⟨rfl, rfl, rfl, Nat.le_refl _, fun _ _ => rfl⟩
theorem Held.alloc {w0 w : World} {L : List Num} (h : Held w0 w L) (o : Obj) : Held w0 (w.alloc o) L := h.step ((Below.refl _ w).alloc (Nat.le_refl _) o)
end Go.Proofs.YtnncfbmddpijcaaGreatDoor

/- Rows of numbers that a call makes by append. -/
namespace Go.Proofs.YtnncfbmddpijcaaGreatDoor
open Go Go.RowKit Go.Shelf

/-- A row of the call's own (its block is not below base), that holds zs. -/
def Grown (k : IntKind) (t : TypeId) (base : Nat) (w : World) (v : Value) (zs : List Nat) : Prop := w.ownsRow base t 1 v zs.length (zs.map fun x : Nat => Value.int k (x : Int))
section
variable {k : IntKind} {t : TypeId} {base : Nat} {w w' : World} {v : Value} {zs : List Nat}
theorem Grown.nil (k : IntKind) (t : TypeId) (base : Nat) (w : World) : Grown k t base w (.slice none 0 0) [] := World.ownsRow_nil _ _ _ _
theorem Grown.alloc (h : Grown k t base w v zs) (o : Obj) : Grown k t base (w.alloc o) v zs := World.ownsRow.alloc h o
theorem Grown.drewN (h : Grown k t base w v zs) (n : Nat) : Grown k t base (w.drewN n) v zs := h
theorem Grown.rd (h : Grown k t base w v zs) (hl : zs.length ≤ 70368744177664) : Rd k w v zs := by
  rcases id h with ⟨_, (⟨rfl, h0⟩ | ⟨g, cap, cur, rfl, _, hg, hn, _, hs, ht⟩)⟩
  · obtain rfl : zs = [] := List.eq_nil_of_length_eq_zero h0
    exact Rd.nil _ _ _
  · refine ⟨_, cap, rfl, hn, hl, fun _ => ⟨g, 0, rfl, (Array.getElem?_eq_some_iff.1 hg).1, fun j x hx => ?_⟩⟩
    have hj : (zs.map fun x : Nat => Value.int k (x : Int))[j]? = some (.int k (x : Int)) := by rw [List.getElem?_map, hx]; rfl
    have := World.ownsRow.cells h (g := g) rfl j _ hj
    rw [add_zero_or] at this
    exact this
/-- A new slice: nil without room, or of a new block. -/
def Fresh (base : Nat) (A : Option Addr) (cap : Nat) : Prop := (A = none → cap = 0) ∧ ∀ ad, A = some ad → base ≤ ad.block
theorem Grown.form (h : Grown k t base w v zs) : ∃ A cap, v = .slice A zs.length cap ∧ Fresh base A cap := by
  rcases id h with ⟨_, (⟨rfl, h0⟩ | ⟨g, cap, cur, rfl, hb, _⟩)⟩
  · exact ⟨none, 0, by rw [h0], fun _ => rfl, fun _ e => by cases e⟩
  · exact ⟨_, cap, rfl, (fun e => by cases e), fun ad e => by injection e with e; subst e; exact hb⟩
theorem Grown.keep {row : Option Nat} (h : Grown k t base w v zs) (hg : w.grownBy w' row) (hne : v.ownBlock = none ∨ v.ownBlock ≠ row) : Grown k t base w' v zs := World.ownsRow.kept h hg hne
/-- What is below the base stays, and above it all but the row itself. -/
theorem Grown.lt (h : Grown k t base w v zs) : ∀ j, v.ownBlock = some j → base ≤ j ∧ j < w.heap.size := World.ownsRow.lt h
end

set_option maxRecDepth 100000 in
/-- One number more. -/
theorem wpList_app1 {P : Program} {k : IntKind} {ops : Array Oper} {rest : List Oper} {o : Oper} {a : Act} {Q : Exit → Act → World → Prop} (hgd : o.guard = none) (s x : Operand) (t : TypeId)
    (ho : o.op = .call { callee := .builtin .append, args := #[s, x], argTypes := #[t, t] }) (base : Nat) (e : TypeId) (bytes : Nat) (ht : P.underlying t = some (.slice e))
    (hinfo : (P.info? e).map (fun i => (i.zero, i.size, i.bytes)) = some (some (.int k 0), 1, bytes)) (hb8 : bytes ≤ 8) (v : Value) (zs : List Nat) (w : World) (y : Int) (n : Nat) (hy : y = (n : Int)) (hs : a.eval s = v) (hG : Grown k e base w v zs)
    (hx : a.eval x = .slice (some ⟨w.heap.size, 0, none⟩) 1 1) (hl : zs.length ≤ 1000000000) (w0 : World) (hB : Below base w0 w) (hbase : base ≤ w.heap.size)
    (h : ∀ v' w', Grown k e base w' v' (zs ++ [n]) → Below base w0 w' → (w.alloc (.cells #[.int k y] e)).grownBy w' v.ownBlock → wpList P ops Q rest (a.put o.dst v') w') : wpList P ops Q (o :: rest) a (w.alloc (.cells #[.int k y] e)) := by
  subst hy
  obtain ⟨i0, hi, hz0, hz1, hz2⟩ := info_parts hinfo
  have hb : (zs.length + 1) * bytes ≤ 140737488355328 := Nat.le_trans (Nat.mul_le_mul (Nat.le_refl _) hb8) (by omega)
  refine wpList_append_own _ hgd s x t ho base e i0 (.int k 0) 1 bytes ht hi hz0 hz1 hz2 rfl (by decide) v zs.length _ hs (World.ownsRow.alloc hG _) ⟨w.heap.size, 0, none⟩ 1 1 [.int k (n : Int)] hx rfl ?c1 ?c2 (by unfold maxLen; omega) hb (by simp; omega) ?_
  case c1 =>
    intro j u hj
    match j, hj with
    | 0, hj =>
      simp at hj; subst hj
      have e1 : (w.alloc (.cells #[.int k (n : Int)] e)).heap[w.heap.size]? = some (.cells #[.int k (n : Int)] e) := World.alloc_heap_new w _
      rw [show (⟨w.heap.size, 0, none⟩ : Addr).add 0 = ⟨w.heap.size, 0, none⟩ from rfl]
      unfold World.cell?
      dsimp only
      rw [e1]
      simp
  case c2 => intro u hu; simp at hu; subst hu; rfl
  intro v' w' h1 h2 _
  refine h v' w' ?_ ?_ h2
  · unfold Grown
    rw [List.length_append, List.map_append]
    exact h1
  · exact (hB.alloc hbase _).grown h2 (by simp; omega) (fun r er => ((World.ownsRow.lt (World.ownsRow.alloc hG (.cells #[.int k (n : Int)] e))) r er).1)
end Go.Proofs.YtnncfbmddpijcaaGreatDoor

/- The calls' contracts, over what is held. -/
namespace Go.Proofs.YtnncfbmddpijcaaGreatDoor
open Go Go.RowKit Go.Shelf

/-- A number to the base 2^32. -/
def N32 (v : Value) (zs : List Nat) : Num := ⟨.u32, 4294967296, v, zs⟩
def N8 (v : Value) (zs : List Nat) : Num := ⟨.i64, 256, v, zs⟩
theorem Held.add {w0 w : World} {L : List Num} (h : Held w0 w L) {n : Num} (hn : n.ok w) : Held w0 w (L ++ [n]) :=
  ⟨h.1, fun m hm => by rcases List.mem_append.1 hm with hm | hm; exact h.2 m hm; rw [List.mem_singleton.1 hm]; exact hn⟩
theorem N32.of_ok {w : World} {v : Value} {zs : List Nat} (h : Ok w v zs) : Num.ok w (N32 v zs) := h
theorem N32.ok {w0 w : World} {L : List Num} (h : Held w0 w L) (i : Nat) {v : Value} {zs : List Nat} (hi : L[i]? = some (N32 v zs)) : Ok w v zs := h.get i hi

/-- A number and no error, held. -/
def MadeH (w0 : World) (L : List Num) (x : Nat) (e : Ending) (w' : World) : Prop :=
  ∃ A cap zs, e = .returned (.tuple #[.slice A zs.length cap, .int .i64 0]) ∧ val 4294967296 zs = x ∧ Held w0 w' (L ++ [N32 (.slice A zs.length cap) zs])
theorem made_h {w0 w w' : World} {L : List Num} {x : Nat} {e : Ending} (H : Held w0 w L) (h : Made w x e w') : MadeH w0 L x e w' := by
  obtain ⟨A, cap, zs, rfl, ho, hv, hb⟩ := h
  exact ⟨A, cap, zs, rfl, hv, (H.step hb).add (N32.of_ok ho)⟩
section
variable {w0 w : World} {L : List Num} {va vb : Value} {xs ys : List Nat}
theorem add_h (H : Held w0 w L) (i j : Nat) (hi : L[i]? = some (N32 va xs)) (hj : L[j]? = some (N32 vb ys)) (hx : val 4294967296 xs + val 4294967296 ys < Lim) :
    Calls Tryz.prog 75 #[va, vb] w (MadeH w0 L (val 4294967296 xs + val 4294967296 ys)) :=
  (add_made w va vb xs ys (N32.ok H i hi) (N32.ok H j hj) hx).mono fun _ _ h => made_h H h
theorem mul_h (H : Held w0 w L) (i j : Nat) (hi : L[i]? = some (N32 va xs)) (hj : L[j]? = some (N32 vb ys)) (hx : val 4294967296 xs * val 4294967296 ys < Lim) :
    Calls Tryz.prog 39 #[va, vb] w (MadeH w0 L (val 4294967296 xs * val 4294967296 ys)) :=
  (mul_made w va vb xs ys (N32.ok H i hi) (N32.ok H j hj) hx).mono fun _ _ h => made_h H h
theorem sub_h (H : Held w0 w L) (i j : Nat) (hi : L[i]? = some (N32 va xs)) (hj : L[j]? = some (N32 vb ys)) (hle : val 4294967296 ys ≤ val 4294967296 xs) (hx : val 4294967296 xs < Lim) :
    Calls Tryz.prog 77 #[va, vb] w (MadeH w0 L (val 4294967296 xs - val 4294967296 ys)) :=
  (sub_made w va vb xs ys (N32.ok H i hi) (N32.ok H j hj) hle hx).mono fun _ _ h => made_h H h
theorem sub_less_h (H : Held w0 w L) (i j : Nat) (hi : L[i]? = some (N32 va xs)) (hj : L[j]? = some (N32 vb ys)) (hlt : val 4294967296 xs < val 4294967296 ys) :
    Calls Tryz.prog 77 #[va, vb] w fun e w' => e = .returned (.tuple #[.slice none 0 0, .int .i64 12]) ∧ Held w0 w' L :=
  (sub_c w va vb xs ys (N32.ok H i hi).1 (N32.ok H j hj).1 (N32.ok H i hi).2.1.1 (N32.ok H j hj).2.1.1 (N32.ok H i hi).2.2 (N32.ok H j hj).2.2).mono fun _ _ h => by
    rcases h with ⟨_, h, hb⟩ | ⟨h, _⟩
    · exact ⟨h, H.step hb⟩
    · omega
theorem compare_h (H : Held w0 w L) (i j : Nat) (hi : L[i]? = some (N32 va xs)) (hj : L[j]? = some (N32 vb ys)) :
    Calls Tryz.prog 76 #[va, vb] w fun e w' => e = .returned (.int .i64 (ord3 (val 4294967296 xs) (val 4294967296 ys))) ∧ Held w0 w' L :=
  (compare_c w va vb xs ys (N32.ok H i hi).1 (N32.ok H j hj).1 (N32.ok H i hi).2.1.1 (N32.ok H j hj).2.1.1 (N32.ok H i hi).2.2 (N32.ok H j hj).2.2).mono fun _ _ h => ⟨h.1, H.step h.2⟩
theorem eqL_val (hx : Can 4294967296 xs) (hy : Can 4294967296 ys) : eqL xs ys = decide (val 4294967296 xs = val 4294967296 ys) := by
  unfold eqL
  rw [decide_eq_decide]
  exact ⟨fun h => by rw [h], Can.eq hx hy⟩
theorem check_h (H : Held w0 w L) (i : Nat) (hi : L[i]? = some (N32 va xs)) (hl : xs.length ≤ 512) :
    Calls Tryz.prog 29 #[va] w fun e w' => e = .returned (.int .i64 0) ∧ Held w0 w' L :=
  (check_c w va xs (N32.ok H i hi).1).mono fun _ _ h => by
    obtain ⟨rfl, rfl⟩ := h
    exact ⟨by rw [checkOf_ok (by omega) (N32.ok H i hi).2.1.2], H⟩
/-- Two numbers of the laws' size: what comes of them is not too great. -/
theorem fit_add (hx : val 4294967296 xs < 4294967296 ^ 40) (hy : val 4294967296 ys < 4294967296 ^ 40) : val 4294967296 xs + val 4294967296 ys < Lim :=
  lim_of (add_pow_lt (by omega) hx hy) (by omega)
theorem fit_mul (hx : val 4294967296 xs < 4294967296 ^ 40) (hy : val 4294967296 ys < 4294967296 ^ 40) : val 4294967296 xs * val 4294967296 ys < Lim :=
  lim_of (mul_pow_lt hx hy) (by omega)
theorem fit_lim (hx : val 4294967296 xs < 4294967296 ^ 40) : val 4294967296 xs < Lim := lim_of hx (by omega)
end
end Go.Proofs.YtnncfbmddpijcaaGreatDoor

/- Bits, noughts at the end, shifts, over what is held. -/
namespace Go.Proofs.YtnncfbmddpijcaaGreatDoor
open Go Go.RowKit Go.Shelf
section
variable {w0 w : World} {L : List Num} {va : Value} {xs : List Nat}
theorem bits_h (H : Held w0 w L) (i : Nat) (hi : L[i]? = some (N32 va xs)) :
    Calls Tryz.prog 65 #[va] w fun e w' => ∃ n : Nat, e = .returned (.int .i64 (n : Int)) ∧ IsBits n (val 4294967296 xs) ∧ Held w0 w' L :=
  (bits_c w va xs (N32.ok H i hi).1 (N32.ok H i hi).2.1.1 (N32.ok H i hi).2.2).mono fun _ _ h => by
    obtain ⟨hb, n, rfl, hn⟩ := h
    exact ⟨n, rfl, hn, H.step hb⟩
theorem tail_h (hT : Tab w0) (H : Held w0 w L) (i : Nat) (hi : L[i]? = some (N32 va xs)) :
    Calls Tryz.prog 62 #[va] w fun e w' => ∃ n : Nat, e = .returned (.int .i64 (n : Int)) ∧ IsTail n (val 4294967296 xs) ∧ Held w0 w' L :=
  (tail_c w (hT.below H.1) va xs (N32.ok H i hi).1 (N32.ok H i hi).2.1.1 (N32.ok H i hi).2.2).mono fun _ _ h => by
    obtain ⟨rfl, n, rfl, hn⟩ := h
    exact ⟨n, rfl, hn, H⟩
theorem num_made {w w' : World} {v : Value} {x : Nat} (hb : Below w.heap.size w w') (hx : x < Lim) (h : NumV w' v x) : Made w x (.returned (.tuple #[v, .int .i64 0])) w' := by
  obtain ⟨zs, h1, h2, h3⟩ := h
  obtain ⟨A, cap, rfl, _⟩ := h1.form
  have hl := h2.len_le (n := maxL) (by omega) (by rw [h3]; exact hx)
  exact ⟨A, cap, zs, rfl, ⟨h1, h2, by unfold maxL at hl; omega⟩, h3, hb⟩
theorem left_h (H : Held w0 w L) (i : Nat) (hi : L[i]? = some (N32 va xs)) (n : Nat) (hn : n ≤ 9223372036854775807) (hx : val 4294967296 xs * 2 ^ n < Lim) :
    Calls Tryz.prog 46 #[va, .int .i64 n] w (MadeH w0 L (val 4294967296 xs * 2 ^ n)) :=
  (left_c w va xs n (N32.ok H i hi).1 (N32.ok H i hi).2.1.1 (N32.ok H i hi).2.2 (by omega) (by omega)).mono fun _ _ h => by
    rcases h with ⟨h, _⟩ | ⟨_, hb, (⟨h, _⟩ | ⟨_, v, rfl, hN⟩)⟩
    · omega
    · simp only [Int.toNat_natCast] at h; omega
    · simp only [Int.toNat_natCast] at hN; exact made_h H (num_made hb hx hN)
theorem left_big_h (H : Held w0 w L) (i : Nat) (hi : L[i]? = some (N32 va xs)) (n : Nat) (hn : n ≤ 9223372036854775807) (hx : Lim ≤ val 4294967296 xs * 2 ^ n) :
    Calls Tryz.prog 46 #[va, .int .i64 n] w fun e w' => e = .returned (.tuple #[.slice none 0 0, .int .i64 11]) ∧ Held w0 w' L :=
  (left_c w va xs n (N32.ok H i hi).1 (N32.ok H i hi).2.1.1 (N32.ok H i hi).2.2 (by omega) (by omega)).mono fun _ _ h => by
    rcases h with ⟨h, _⟩ | ⟨_, hb, (⟨_, h⟩ | ⟨h, _⟩)⟩
    · omega
    · exact ⟨h, H.step hb⟩
    · simp only [Int.toNat_natCast] at h; omega
theorem left_neg_h (H : Held w0 w L) (i : Nat) (hi : L[i]? = some (N32 va xs)) (n : Int) (hn : n < 0) (hlo : -9223372036854775808 ≤ n) :
    Calls Tryz.prog 46 #[va, .int .i64 n] w fun e w' => e = .returned (.tuple #[.slice none 0 0, .int .i64 1]) ∧ Held w0 w' L :=
  (left_c w va xs n (N32.ok H i hi).1 (N32.ok H i hi).2.1.1 (N32.ok H i hi).2.2 hlo (by omega)).mono fun _ _ h => by
    rcases h with ⟨_, h, hb⟩ | ⟨h, _⟩
    · exact ⟨h, H.step hb⟩
    · omega
theorem right_h (H : Held w0 w L) (i : Nat) (hi : L[i]? = some (N32 va xs)) (n : Nat) (hn : n ≤ 9223372036854775807) (hx : val 4294967296 xs < Lim) :
    Calls Tryz.prog 90 #[va, .int .i64 n] w (MadeH w0 L (val 4294967296 xs / 2 ^ n)) :=
  have hq : val 4294967296 xs / 2 ^ n < Lim := Nat.lt_of_le_of_lt (Nat.div_le_self _ _) hx
  (right_c w va xs n (N32.ok H i hi).1 (N32.ok H i hi).2.1.1 (N32.ok H i hi).2.2 (by omega) (by omega) (by rw [Hid, Int.toNat_natCast]; exact hq)).mono fun _ _ h => by
    rcases h with ⟨h, _⟩ | ⟨_, hb, v, rfl, hN⟩
    · omega
    · simp only [Int.toNat_natCast] at hN; exact made_h H (num_made hb hq hN)
theorem right_neg_h (H : Held w0 w L) (i : Nat) (hi : L[i]? = some (N32 va xs)) (n : Int) (hn : n < 0) (hlo : -9223372036854775808 ≤ n) (hx : val 4294967296 xs < Lim) :
    Calls Tryz.prog 90 #[va, .int .i64 n] w fun e w' => e = .returned (.tuple #[.slice none 0 0, .int .i64 1]) ∧ Held w0 w' L :=
  (right_c w va xs n (N32.ok H i hi).1 (N32.ok H i hi).2.1.1 (N32.ok H i hi).2.2 hlo (by omega) (Nat.lt_of_le_of_lt (Nat.div_le_self _ _) hx)).mono fun _ _ h => by
    rcases h with ⟨_, h, hb⟩ | ⟨h, _⟩
    · exact ⟨h, H.step hb⟩
    · omega
end
theorem ord3_neg (x y : Nat) : ord3 y x = -ord3 x y := by
  unfold ord3
  by_cases h : x < y
  · rw [if_neg (show ¬ y < x by omega), if_pos h, if_pos h]; rfl
  · rw [if_neg h, if_neg h]
    by_cases h2 : y < x
    · rw [if_pos h2, if_pos h2]
    · rw [if_neg h2, if_neg h2]; rfl
theorem ord3_range (x y : Nat) : -1 ≤ ord3 x y ∧ ord3 x y ≤ 1 := by
  unfold ord3
  split
  · omega
  · split <;> omega
theorem ord3_zero (x y : Nat) : decide (x = y) = (ord3 x y == 0) := by
  unfold ord3
  by_cases h : x < y
  · rw [if_pos h, decide_eq_false (by omega)]; rfl
  · rw [if_neg h]
    by_cases h2 : y < x
    · rw [if_pos h2, decide_eq_false (by omega)]; rfl
    · rw [if_neg h2, decide_eq_true (by omega)]; rfl
theorem isBits_le {n x m : Nat} (h : IsBits n x) (hx : x < 2 ^ m) : n ≤ m := by
  rcases h.2 with h | h
  · omega
  · rcases Nat.lt_or_ge m n with hlt | hge
    · have := Nat.pow_le_pow_right (n := 2) (by omega) (show m ≤ n - 1 by omega)
      omega
    · exact hge
theorem isBits_pos {n x : Nat} (h : IsBits n x) (hx : 0 < x) : 1 ≤ n := by
  rcases Nat.eq_zero_or_pos n with rfl | h1
  · have := h.1; simp at this; omega
  · exact h1
theorem isTail_mod {t x : Nat} (h : IsTail t x) (hx : 0 < x) : x % 2 ^ t = 0 ∧ x % 2 ^ (t + 1) ≠ 0 := by
  rcases h with ⟨h, _⟩ | ⟨m, rfl⟩
  · omega
  · refine ⟨Nat.mul_mod_right _ _, ?_⟩
    rw [Nat.pow_succ, Nat.mul_mod_mul_left]
    have : (2 * m + 1) % 2 = 1 := by omega
    rw [this, Nat.mul_one]
    exact Nat.ne_of_gt (Nat.pow_pos (by omega))
theorem isTail_le {t x m : Nat} (h : IsTail t x) (h0 : 0 < x) (hx : x < 2 ^ m) : t < m := by
  rcases h with ⟨h, _⟩ | ⟨a, rfl⟩
  · omega
  · refine (Nat.pow_lt_pow_iff_right (a := 2) (by omega)).1 (Nat.lt_of_le_of_lt ?_ hx)
    exact Nat.le_mul_of_pos_right _ (by omega)
theorem isTail_mul {t x n : Nat} (h : IsTail t x) (h0 : 0 < x) : IsTail (t + n) (x * 2 ^ n) := by
  rcases h with ⟨h, _⟩ | ⟨a, rfl⟩
  · omega
  · exact .inr ⟨a, by rw [Nat.pow_add, Nat.mul_right_comm]⟩
theorem isBits_mul {b x n : Nat} (h : IsBits b x) (h0 : 0 < x) : IsBits (b + n) (x * 2 ^ n) := by
  have h1 := isBits_pos h h0
  refine ⟨by rw [Nat.pow_add]; exact Nat.mul_lt_mul_of_pos_right h.1 (Nat.pow_pos (by omega)), .inr ?_⟩
  rcases h.2 with h2 | h2
  · omega
  · rw [show b + n - 1 = b - 1 + n by omega, Nat.pow_add]
    exact Nat.mul_le_mul_right _ h2
def e1280 : Nat := 1280
theorem bits_of_digits {x n m : Nat} (hm : m = n * 32) (h : x < 4294967296 ^ n) : x < 2 ^ m := by
  rw [hm, ← pow_B]; exact h
theorem fit_bits {x : Nat} (h : x < 4294967296 ^ 40) : x < 2 ^ e1280 := bits_of_digits (n := 40) rfl h
theorem bits_1280 {n x : Nat} (h : IsBits n x) (hx : x < 4294967296 ^ 40) : n ≤ 1280 := by
  have := isBits_le h (fit_bits hx)
  unfold e1280 at this
  exact this
theorem tail_1280 {n x : Nat} (h : IsTail n x) (h0 : 0 < x) (hx : x < 4294967296 ^ 40) : n < 1280 := by
  have := isTail_le h h0 (fit_bits hx)
  unfold e1280 at this
  exact this
end Go.Proofs.YtnncfbmddpijcaaGreatDoor
