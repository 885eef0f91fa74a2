/- The document's answers' contracts, over what is held; and the law's own 'is'. -/
import Derived.Test.YtdaoechbaejjmaaDoorHeldC
import Derived.Test.YtdaoechbaejjmaaDoorRefCmp
import Derived.Test.YtdaoechbaejjmaaDoorRefAdd
import Derived.Test.YtdaoechbaejjmaaDoorRefDiv
namespace Go.Proofs.YtdaoechbaejjmaaDoor
open Go Go.RowKit Go.Shelf

theorem N8.ok {w0 w : World} {L : List Num} (h : Held w0 w L) (i : Nat) {v : Value} {zs : List Nat} (hi : L[i]? = some (N8 v zs)) : Rd .i64 w v zs ∧ Can 256 zs ∧ zs.length ≤ 1000000 := h.get i hi
/-- A number to the base 256, held. -/
def RefH (w0 : World) (L : List Num) (x n : Nat) (e : Ending) (w' : World) : Prop :=
  ∃ A cap zs, e = .returned (.slice A zs.length cap) ∧ val 256 zs = x ∧ zs.length ≤ n ∧ Held w0 w' (L ++ [N8 (.slice A zs.length cap) zs])
theorem ref_h {w0 w w' : World} {L : List Num} {x n : Nat} {e : Ending} (H : Held w0 w L) (hn : n ≤ 1000000) (h : RefOut w x n e w') : RefH w0 L x n e w' := by
  obtain ⟨hb, A, cap, zs, rfl, hr, hc, hv, hl, _⟩ := h
  exact ⟨A, cap, zs, rfl, hv, hl, (H.step hb).add ⟨hr, hc, Nat.le_trans hl hn⟩⟩
section
variable {w0 w : World} {L : List Num} {va vb : Value} {xs ys : List Nat}
theorem refOf_h (H : Held w0 w L) (i : Nat) (hi : L[i]? = some (N32 va xs)) (hl : xs.length ≤ 10000) : Calls Tryd.prog 29 #[va] w (RefH w0 L (val 4294967296 xs) (4 * xs.length)) :=
  (refOf_c w va xs (N32.ok H i hi).1 (N32.ok H i hi).2.1.1 (by omega)).mono fun _ _ h => ref_h H (by omega) h
theorem refAdd_h (H : Held w0 w L) (i j : Nat) (hi : L[i]? = some (N8 va xs)) (hj : L[j]? = some (N8 vb ys)) (hx : xs.length ≤ 10000) (hy : ys.length ≤ 10000) :
    Calls Tryd.prog 26 #[va, vb] w (RefH w0 L (val 256 xs + val 256 ys) (max xs.length ys.length + 1)) :=
  (refAdd_c w va vb xs ys (N8.ok H i hi).1 (N8.ok H j hj).1 (N8.ok H i hi).2.1.1 (N8.ok H j hj).2.1.1 (by omega) (by omega)).mono fun _ _ h => ref_h H (by omega) h
theorem refSub_h (H : Held w0 w L) (i j : Nat) (hi : L[i]? = some (N8 va xs)) (hj : L[j]? = some (N8 vb ys)) (hle : val 256 ys ≤ val 256 xs) (hx : xs.length ≤ 10000) (hy : ys.length ≤ 10000) :
    Calls Tryd.prog 73 #[va, vb] w (RefH w0 L (val 256 xs - val 256 ys) xs.length) :=
  (refSub_c w va vb xs ys (N8.ok H i hi).1 (N8.ok H j hj).1 (N8.ok H i hi).2.1.1 (N8.ok H j hj).2.1 hle (by omega) (by omega)).mono fun _ _ h => ref_h H (by omega) h
theorem refCmp_h (H : Held w0 w L) (i j : Nat) (hi : L[i]? = some (N8 va xs)) (hj : L[j]? = some (N8 vb ys)) :
    Calls Tryd.prog 72 #[va, vb] w fun e w' => e = .returned (.int .i64 (ord3 (val 256 xs) (val 256 ys))) ∧ Held w0 w' L :=
  (refCmp_c w va vb xs ys (N8.ok H i hi).1 (N8.ok H j hj).1 (N8.ok H i hi).2.1.1 (N8.ok H j hj).2.1.1 (N8.ok H i hi).2.2 (N8.ok H j hj).2.2).mono fun _ _ h => by
    obtain ⟨rfl, rfl⟩ := h
    exact ⟨rfl, H⟩

end
end Go.Proofs.YtdaoechbaejjmaaDoor

/- The document's answers' contracts, over what is held: times, divided, powers of 2. -/
namespace Go.Proofs.YtdaoechbaejjmaaDoor
open Go Go.RowKit Go.Shelf
section
variable {w0 w : World} {L : List Num} {va vb : Value} {xs ys : List Nat}
theorem refMul_h (H : Held w0 w L) (i j : Nat) (hi : L[i]? = some (N8 va xs)) (hj : L[j]? = some (N8 vb ys)) (hx : xs.length ≤ 10000) (hy : ys.length ≤ 10000) :
    Calls Tryd.prog 25 #[va, vb] w (RefH w0 L (val 256 xs * val 256 ys) (xs.length + ys.length + 1)) :=
  (refMul_c w va vb xs ys (N8.ok H i hi).1 (N8.ok H j hj).1 (N8.ok H i hi).2.1.1 (N8.ok H j hj).2.1.1 (by omega) (by omega)).mono fun _ _ h => ref_h H (by omega) h
def DivH (w0 : World) (L : List Num) (x y n : Nat) (e : Ending) (w' : World) : Prop :=
  ∃ A cap qs A2 cap2 rs, e = .returned (.tuple #[.slice A qs.length cap, .slice A2 rs.length cap2]) ∧ val 256 qs = x / y ∧ val 256 rs = x % y ∧ qs.length ≤ n ∧ rs.length ≤ n ∧ Can 256 qs ∧ Can 256 rs ∧
    Held w0 w' (L ++ [N8 (.slice A qs.length cap) qs, N8 (.slice A2 rs.length cap2) rs])
theorem refDiv_h (H : Held w0 w L) (i j : Nat) (hi : L[i]? = some (N8 va xs)) (hj : L[j]? = some (N8 vb ys)) (hx : xs.length ≤ 10000) (hy : ys.length ≤ 10000) (hp : 0 < val 256 ys) :
    Calls Tryd.prog 30 #[va, vb] w (DivH w0 L (val 256 xs) (val 256 ys) (xs.length + ys.length)) :=
  (refDiv_c w va vb xs ys (N8.ok H i hi).1 (N8.ok H j hj).1 (N8.ok H i hi).2.1.1 (N8.ok H j hj).2.1 hp hx hy).mono fun _ _ h => by
    obtain ⟨hb, A, cap, qs, A2, cap2, rs, rfl, h1, h2, h3, h4, h5, h6, h7, h8⟩ := h
    refine ⟨A, cap, qs, A2, cap2, rs, rfl, h5, h6, h7, h8, h3, h4, ?_⟩
    have := ((H.step hb).add (n := N8 (.slice A qs.length cap) qs) ⟨h1, h3, Nat.le_trans h7 (by omega)⟩).add (n := N8 (.slice A2 rs.length cap2) rs) ⟨h2, h4, Nat.le_trans h8 (by omega)⟩
    rwa [List.append_assoc] at this
end
end Go.Proofs.YtdaoechbaejjmaaDoor
