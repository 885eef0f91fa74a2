/- The document's answers' contracts, over what is held: times, divided, powers of 2. -/
import Derived.Test.YtefnhhkhdpihdaaDoorRefH
import Derived.Test.YtefnhhkhdpihdaaDoorRefDiv
import Derived.Test.YtefnhhkhdpihdaaDoorRefPow
namespace Go.Proofs.YtefnhhkhdpihdaaDoor
open Go Go.RowKit Go.Shelf
section
variable {w0 w : World} {L : List Num} {va vb : Value} {xs ys : List Nat}
theorem refMul_h (H : Held w0 w L) (i j : Nat) (hi : L[i]? = some (N8 va xs)) (hj : L[j]? = some (N8 vb ys)) (hx : xs.length ≤ 10000) (hy : ys.length ≤ 10000) :
    Calls Tryd.prog 23 #[va, vb] w (RefH w0 L (val 256 xs * val 256 ys) (xs.length + ys.length + 1)) :=
  (refMul_c w va vb xs ys (N8.ok H i hi).1 (N8.ok H j hj).1 (N8.ok H i hi).2.1.1 (N8.ok H j hj).2.1.1 (by omega) (by omega)).mono fun _ _ h => ref_h H (by omega) h
theorem refPow_h (H : Held w0 w L) (n : Nat) (hn : n ≤ 50000) : Calls Tryd.prog 31 #[.int .i64 n] w (RefH w0 L (2 ^ n) (n / 8 + 1)) :=
  (refPow_c w n (by omega)).mono fun _ _ h => ref_h H (by omega) h
def DivH (w0 : World) (L : List Num) (x y n : Nat) (e : Ending) (w' : World) : Prop :=
  ∃ A cap qs A2 cap2 rs, e = .returned (.tuple #[.slice A qs.length cap, .slice A2 rs.length cap2]) ∧ val 256 qs = x / y ∧ val 256 rs = x % y ∧ qs.length ≤ n ∧ rs.length ≤ n ∧ Can 256 qs ∧ Can 256 rs ∧
    Held w0 w' (L ++ [N8 (.slice A qs.length cap) qs, N8 (.slice A2 rs.length cap2) rs])
theorem refDiv_h (H : Held w0 w L) (i j : Nat) (hi : L[i]? = some (N8 va xs)) (hj : L[j]? = some (N8 vb ys)) (hx : xs.length ≤ 10000) (hy : ys.length ≤ 10000) (hp : 0 < val 256 ys) :
    Calls Tryd.prog 26 #[va, vb] w (DivH w0 L (val 256 xs) (val 256 ys) (xs.length + ys.length)) :=
  (refDiv_c w va vb xs ys (N8.ok H i hi).1 (N8.ok H j hj).1 (N8.ok H i hi).2.1.1 (N8.ok H j hj).2.1 hp hx hy).mono fun _ _ h => by
    obtain ⟨hb, A, cap, qs, A2, cap2, rs, rfl, h1, h2, h3, h4, h5, h6, h7, h8⟩ := h
    refine ⟨A, cap, qs, A2, cap2, rs, rfl, h5, h6, h7, h8, h3, h4, ?_⟩
    have := ((H.step hb).add (n := N8 (.slice A qs.length cap) qs) ⟨h1, h3, Nat.le_trans h7 (by omega)⟩).add (n := N8 (.slice A2 rs.length cap2) rs) ⟨h2, h4, Nat.le_trans h8 (by omega)⟩
    rwa [List.append_assoc] at this
end
end Go.Proofs.YtefnhhkhdpihdaaDoor
