/- The calls' contracts, over what is held. -/
import Derived.Test.YtefnhhkhdpihdaaDoorMade
import Derived.Test.YtefnhhkhdpihdaaDoorHeld
namespace Go.Proofs.YtefnhhkhdpihdaaDoor
open Go Go.RowKit Go.Shelf

/-- A number to the base 2^32. -/
def N32 (v : Value) (zs : List Nat) : Num := ⟨.u32, 4294967296, v, zs⟩
def N8 (v : Value) (zs : List Nat) : Num := ⟨.i64, 256, v, zs⟩
theorem Held.add {w0 w : World} {L : List Num} (h : Held w0 w L) {n : Num} (hn : n.ok w) : Held w0 w (L ++ [n]) :=
  ⟨h.1, fun m hm => by rcases List.mem_append.1 hm with hm | hm; exact h.2 m hm; rw [List.mem_singleton.1 hm]; exact hn⟩
theorem N32.of_ok {w : World} {v : Value} {zs : List Nat} (h : Ok w v zs) : Num.ok w (N32 v zs) := h
theorem N32.ok {w0 w : World} {L : List Num} (h : Held w0 w L) (i : Nat) {v : Value} {zs : List Nat} (hi : L[i]? = some (N32 v zs)) : Ok w v zs := h.get i hi

/-- A number and no error, held. -/
def MadeH (w0 : World) (L : List Num) (x : Nat) (e : Ending) (w' : World) : Prop :=
  ∃ A cap zs, e = .returned (.tuple #[.slice A zs.length cap, .int .i64 0]) ∧ val 4294967296 zs = x ∧ Held w0 w' (L ++ [N32 (.slice A zs.length cap) zs])
theorem made_h {w0 w w' : World} {L : List Num} {x : Nat} {e : Ending} (H : Held w0 w L) (h : Made w x e w') : MadeH w0 L x e w' := by
  obtain ⟨A, cap, zs, rfl, ho, hv, hb⟩ := h
  exact ⟨A, cap, zs, rfl, hv, (H.step hb).add (N32.of_ok ho)⟩
section
variable {w0 w : World} {L : List Num} {va vb : Value} {xs ys : List Nat}
theorem add_h (H : Held w0 w L) (i j : Nat) (hi : L[i]? = some (N32 va xs)) (hj : L[j]? = some (N32 vb ys)) (hx : val 4294967296 xs + val 4294967296 ys < Lim) :
    Calls Tryd.prog 16 #[va, vb] w (MadeH w0 L (val 4294967296 xs + val 4294967296 ys)) :=
  (add_made w va vb xs ys (N32.ok H i hi) (N32.ok H j hj) hx).mono fun _ _ h => made_h H h
theorem mul_h (H : Held w0 w L) (i j : Nat) (hi : L[i]? = some (N32 va xs)) (hj : L[j]? = some (N32 vb ys)) (hx : val 4294967296 xs * val 4294967296 ys < Lim) :
    Calls Tryd.prog 22 #[va, vb] w (MadeH w0 L (val 4294967296 xs * val 4294967296 ys)) :=
  (mul_made w va vb xs ys (N32.ok H i hi) (N32.ok H j hj) hx).mono fun _ _ h => made_h H h
theorem sub_h (H : Held w0 w L) (i j : Nat) (hi : L[i]? = some (N32 va xs)) (hj : L[j]? = some (N32 vb ys)) (hle : val 4294967296 ys ≤ val 4294967296 xs) (hx : val 4294967296 xs < Lim) :
    Calls Tryd.prog 19 #[va, vb] w (MadeH w0 L (val 4294967296 xs - val 4294967296 ys)) :=
  (sub_made w va vb xs ys (N32.ok H i hi) (N32.ok H j hj) hle hx).mono fun _ _ h => made_h H h
theorem sub_less_h (H : Held w0 w L) (i j : Nat) (hi : L[i]? = some (N32 va xs)) (hj : L[j]? = some (N32 vb ys)) (hlt : val 4294967296 xs < val 4294967296 ys) :
    Calls Tryd.prog 19 #[va, vb] w fun e w' => e = .returned (.tuple #[.slice none 0 0, .int .i64 12]) ∧ Held w0 w' L :=
  (sub_c w va vb xs ys (N32.ok H i hi).1 (N32.ok H j hj).1 (N32.ok H i hi).2.1.1 (N32.ok H j hj).2.1.1 (N32.ok H i hi).2.2 (N32.ok H j hj).2.2).mono fun _ _ h => by
    rcases h with ⟨_, h, hb⟩ | ⟨h, _⟩
    · exact ⟨h, H.step hb⟩
    · omega
theorem compare_h (H : Held w0 w L) (i j : Nat) (hi : L[i]? = some (N32 va xs)) (hj : L[j]? = some (N32 vb ys)) :
    Calls Tryd.prog 27 #[va, vb] w fun e w' => e = .returned (.int .i64 (ord3 (val 4294967296 xs) (val 4294967296 ys))) ∧ Held w0 w' L :=
  (compare_c w va vb xs ys (N32.ok H i hi).1 (N32.ok H j hj).1 (N32.ok H i hi).2.1.1 (N32.ok H j hj).2.1.1 (N32.ok H i hi).2.2 (N32.ok H j hj).2.2).mono fun _ _ h => ⟨h.1, H.step h.2⟩
theorem eqL_val (hx : Can 4294967296 xs) (hy : Can 4294967296 ys) : eqL xs ys = decide (val 4294967296 xs = val 4294967296 ys) := by
  unfold eqL
  rw [decide_eq_decide]
  exact ⟨fun h => by rw [h], Can.eq hx hy⟩
theorem equal_h (H : Held w0 w L) (i j : Nat) (hi : L[i]? = some (N32 va xs)) (hj : L[j]? = some (N32 vb ys)) :
    Calls Tryd.prog 24 #[va, vb] w fun e w' => e = .returned (.bool (decide (val 4294967296 xs = val 4294967296 ys))) ∧ Held w0 w' L :=
  (equal_nat w va vb xs ys (N32.ok H i hi).1 (N32.ok H j hj).1).mono fun _ _ h => by
    obtain ⟨rfl, n, rfl⟩ := h
    exact ⟨by rw [eqL_val (N32.ok H i hi).2.1 (N32.ok H j hj).2.1], H.drewN n⟩
theorem check_h (H : Held w0 w L) (i : Nat) (hi : L[i]? = some (N32 va xs)) (hl : xs.length ≤ 512) :
    Calls Tryd.prog 33 #[va] w fun e w' => e = .returned (.int .i64 0) ∧ Held w0 w' L :=
  (check_c w va xs (N32.ok H i hi).1).mono fun _ _ h => by
    obtain ⟨rfl, rfl⟩ := h
    exact ⟨by rw [checkOf_ok (by omega) (N32.ok H i hi).2.1.2], H⟩
/-- Two numbers of the laws' size: what comes of them is not too great. -/
theorem fit_add (hx : val 4294967296 xs < 4294967296 ^ 40) (hy : val 4294967296 ys < 4294967296 ^ 40) : val 4294967296 xs + val 4294967296 ys < Lim :=
  lim_of (add_pow_lt (by omega) hx hy) (by omega)
theorem fit_mul (hx : val 4294967296 xs < 4294967296 ^ 40) (hy : val 4294967296 ys < 4294967296 ^ 40) : val 4294967296 xs * val 4294967296 ys < Lim :=
  lim_of (mul_pow_lt hx hy) (by omega)
theorem fit_lim (hx : val 4294967296 xs < 4294967296 ^ 40) : val 4294967296 xs < Lim := lim_of hx (by omega)
end
end Go.Proofs.YtefnhhkhdpihdaaDoor
