/- Rows of ratios: what they come to. -/
import Derived.Test.YtejkcmklhmifaaaGreatDoorVecP
import Derived.Test.YtejkcmklhmifaaaGreatDoorVecFit
namespace Go.Proofs.YtejkcmklhmifaaaGreatDoor
open Go Go.RowKit Go.Shelf AM
theorem zip_len {α β γ : Type} {f : α → β → γ} {xs : List α} {ys : List β} {n : Nat} (hl : xs.length = n) (hm : ys.length = n) : (List.zipWith f xs ys).length = n := by simp [hl, hm]
theorem zip_get {α β γ : Type} {f : α → β → γ} {xs : List α} {ys : List β} {k : Nat} {x : α} {y : β} {z : γ} (hx : xs[k]? = some x) (hy : ys[k]? = some y) (hz : (List.zipWith f xs ys)[k]? = some z) : z = f x y := by
  rw [List.getElem?_zipWith, hx, hy] at hz
  injection hz with hz; exact hz.symm
theorem zip_some {α β γ : Type} {f : α → β → γ} {xs : List α} {ys : List β} {k : Nat} {x : α} {y : β} (hx : xs[k]? = some x) (hy : ys[k]? = some y) : (List.zipWith f xs ys)[k]? = some (f x y) := by rw [List.getElem?_zipWith, hx, hy]
theorem mem_get {α : Type} {P : α → Prop} {xs : List α} (h : ∀ x ∈ xs, P x) {k : Nat} {x : α} (hx : xs[k]? = some x) : P x := h x (List.mem_of_getElem? hx)
theorem zip_all {α β γ : Type} {f : α → β → γ} {P : α → Prop} {Q : β → Prop} {R : γ → Prop} {xs : List α} {ys : List β} (h1 : ∀ x ∈ xs, P x) (h2 : ∀ y ∈ ys, Q y) (h : ∀ x y, P x → Q y → R (f x y)) : ∀ z ∈ List.zipWith f xs ys, R z := by
  intro z hz
  obtain ⟨k, hk⟩ := List.getElem?_of_mem hz
  rw [List.getElem?_zipWith] at hk
  cases hx : xs[k]? with
  | none => rw [hx] at hk; simp at hk
  | some x =>
    cases hy : ys[k]? with
    | none => rw [hx, hy] at hk; simp at hk
    | some y =>
      rw [hx, hy] at hk
      injection hk with hk; subst hk
      exact h x y (mem_get h1 hx) (mem_get h2 hy)
theorem sumTo_succ {ps : List Rat} {k : Nat} {z : Rat} (hz : ps[k]? = some z) : sumTo ps (k + 1) = sumTo ps k + z := by
  show sumTo ps k + ps.getD k 0 = _
  rw [List.getD_eq_getElem?_getD, hz]; rfl
/-- All together of two rows times each other. -/
def dotQ (xs ys : List Rat) (n : Nat) : Rat := sumTo (List.zipWith (· * ·) xs ys) n
theorem dotQ_f {n m j : Nat} {xs ys : List Rat} (hn : n ≤ 16) (hl : xs.length = n) (hm : ys.length = n) (hx : ∀ x ∈ xs, BQ m x) (hy : ∀ y ∈ ys, BQ j y) (h1 : 1 ≤ m + j) (hb : (n + 1) * (m + j + 1) + 1 ≤ 512) : FitsP 38 [ratsN n xs, ratsN n ys] [] (.tup [rq (dotQ xs ys n), ok0]) := by
  have hall := zip_all (f := (· * ·)) hx hy fun x y a b => BQ.mul a b
  refine dotV_f (by omega) hl hm (zip_len hl hm) (fun k x y z h1 h2 h3 => ?_) (fun k z h3 => ?_)
  · rw [zip_get h1 h2 h3]
    exact mulQ_f (mem_get hx h1) (mem_get hy h2) (by have := Nat.mul_le_mul_right (m + j + 1) (show 1 ≤ n + 1 by omega); omega)
  · rw [sumTo_succ h3]
    have hk := (List.getElem?_eq_some_iff.1 h3).1
    rw [zip_len hl hm] at hk
    exact addQ_f (sumTo_bq hall h1 k) (mem_get hall h3) (by have := Nat.mul_le_mul_right (m + j + 1) (show k + 1 ≤ n by omega); rw [Nat.succ_mul] at this; rw [Nat.succ_mul] at hb; omega)
theorem dotQ_bq {n m j : Nat} {xs ys : List Rat} (hx : ∀ x ∈ xs, BQ m x) (hy : ∀ y ∈ ys, BQ j y) (h1 : 1 ≤ m + j) : BQ (n * (m + j + 1) + 1) (dotQ xs ys n) := sumTo_bq (zip_all (f := (· * ·)) hx hy fun _x _y a b => BQ.mul a b) h1 n
end Go.Proofs.YtejkcmklhmifaaaGreatDoor
