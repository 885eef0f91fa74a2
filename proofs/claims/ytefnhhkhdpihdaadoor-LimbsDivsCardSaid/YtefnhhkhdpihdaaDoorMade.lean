/- What the laws go on with. -/
import Derived.Test.YtefnhhkhdpihdaaDoorReck
import Derived.Test.YtefnhhkhdpihdaaDoorLawFit
namespace Go.Proofs.YtefnhhkhdpihdaaDoor
open Go Go.RowKit Go.Shelf

theorem pow2 : (4294967296 : Nat) ^ 2 = 18446744073709551616 := by decide

theorem lay_cells (w : World) (vs : List Value) (t : TypeId) (i : Nat) (u : Value) (h : vs[i]? = some u) : (w.alloc (.cells vs.toArray t)).cell? ⟨w.heap.size, i, none⟩ = some u := by
  have e : (w.alloc (.cells vs.toArray t)).heap[w.heap.size]? = some (.cells vs.toArray t) := World.alloc_heap_new w _
  unfold World.cell?
  dsimp only
  rw [e]
  simpa using h

theorem lim_of {x n : Nat} (h : x < 4294967296 ^ n) (hn : n ≤ 512) : x < Lim := Nat.lt_of_lt_of_le h (Nat.pow_le_pow_right (by omega) (show n ≤ maxL by unfold maxL; omega))
theorem mul_pow_lt {B x y m n : Nat} (hx : x < B ^ m) (hy : y < B ^ n) : x * y < B ^ (m + n) := by
  rw [Nat.pow_add]
  rcases Nat.eq_zero_or_pos y with rfl | hp
  · exact Nat.lt_of_le_of_lt (Nat.le_refl _) (by rw [Nat.mul_zero]; exact Nat.mul_pos (by omega) (by omega))
  · exact Nat.lt_of_lt_of_le (Nat.mul_lt_mul_of_pos_right hx hp) (Nat.mul_le_mul_left _ (by omega))
theorem add_pow_lt {B x y n : Nat} (hB : 2 ≤ B) (hx : x < B ^ n) (hy : y < B ^ n) : x + y < B ^ (n + 1) := by
  rw [Nat.pow_succ]
  have : B ^ n * 2 ≤ B ^ n * B := Nat.mul_le_mul_left _ hB
  omega
theorem fit_lt {zs : List Nat} (hf : FitOne zs) (hb : ∀ x ∈ zs, x < 4294967296) : val 4294967296 zs < 4294967296 ^ 40 :=
  Nat.lt_of_lt_of_le (val_lt hb) (Nat.pow_le_pow_right (by omega) hf.1)

/-- A number that the laws go on with. -/
def Ok (w : World) (v : Value) (zs : List Nat) : Prop := Rd .u32 w v zs ∧ Can 4294967296 zs ∧ zs.length ≤ 1000000
theorem Ok.below {w w' : World} {v : Value} {zs : List Nat} (h : Ok w v zs) (hb : Below w.heap.size w w') : Ok w' v zs := ⟨h.1.below hb, h.2⟩
/-- A number and no error. -/
def Made (w : World) (x : Nat) (e : Ending) (w' : World) : Prop := ∃ A cap zs, e = .returned (.tuple #[.slice A zs.length cap, .int .i64 0]) ∧ Ok w' (.slice A zs.length cap) zs ∧ val 4294967296 zs = x ∧ Below w.heap.size w w'
theorem fitted_made {w w' : World} {x : Nat} {e : Ending} (hx : x < Lim) (h : Fitted w x e w') : Made w x e w' := by
  obtain ⟨hB, (⟨_, v, rfl, zs, h1, h2, h3⟩ | ⟨hl, _⟩)⟩ := h
  · obtain ⟨A, cap, rfl, _⟩ := h1.form
    have hl := h2.len_le (n := maxL) (by omega) (by rw [h3]; exact hx)
    exact ⟨A, cap, zs, rfl, ⟨h1, h2, by unfold maxL at hl; omega⟩, h3, hB⟩
  · omega
theorem add_made (w : World) (va vb : Value) (xs ys : List Nat) (ha : Ok w va xs) (hb : Ok w vb ys) (hx : val 4294967296 xs + val 4294967296 ys < Lim) :
    Calls Tryd.prog 16 #[va, vb] w (Made w (val 4294967296 xs + val 4294967296 ys)) :=
  (add_c w va vb xs ys ha.1 hb.1 ha.2.1.1 hb.2.1.1 ha.2.2 hb.2.2).mono fun _ _ h => fitted_made hx h
theorem mul_made (w : World) (va vb : Value) (xs ys : List Nat) (ha : Ok w va xs) (hb : Ok w vb ys) (hx : val 4294967296 xs * val 4294967296 ys < Lim) :
    Calls Tryd.prog 22 #[va, vb] w (Made w (val 4294967296 xs * val 4294967296 ys)) :=
  (mul_c w va vb xs ys ha.1 hb.1 ha.2.1.1 hb.2.1.1 ha.2.2 hb.2.2).mono fun _ _ h => fitted_made hx h
theorem sub_made (w : World) (va vb : Value) (xs ys : List Nat) (ha : Ok w va xs) (hb : Ok w vb ys) (hle : val 4294967296 ys ≤ val 4294967296 xs) (hx : val 4294967296 xs < Lim) :
    Calls Tryd.prog 19 #[va, vb] w (Made w (val 4294967296 xs - val 4294967296 ys)) :=
  (sub_c w va vb xs ys ha.1 hb.1 ha.2.1.1 hb.2.1.1 ha.2.2 hb.2.2).mono fun _ _ h => by
    rcases h with ⟨h, _⟩ | ⟨_, h⟩
    · omega
    · exact fitted_made (by omega) h
end Go.Proofs.YtefnhhkhdpihdaaDoor
