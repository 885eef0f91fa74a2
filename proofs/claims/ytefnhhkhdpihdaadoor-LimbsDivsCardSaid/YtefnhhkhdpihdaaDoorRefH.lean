/- The document's answers' contracts, over what is held; and the law's own 'is'. -/
import Derived.Test.YtefnhhkhdpihdaaDoorHeldC
import Derived.Test.YtefnhhkhdpihdaaDoorRefCmp
import Derived.Test.YtefnhhkhdpihdaaDoorRefAdd
import Derived.Test.YtefnhhkhdpihdaaDoorRefSub
namespace Go.Proofs.YtefnhhkhdpihdaaDoor
open Go Go.RowKit Go.Shelf

theorem N8.ok {w0 w : World} {L : List Num} (h : Held w0 w L) (i : Nat) {v : Value} {zs : List Nat} (hi : L[i]? = some (N8 v zs)) : Rd .i64 w v zs ∧ Can 256 zs ∧ zs.length ≤ 1000000 := h.get i hi
/-- A number to the base 256, held. -/
def RefH (w0 : World) (L : List Num) (x n : Nat) (e : Ending) (w' : World) : Prop :=
  ∃ A cap zs, e = .returned (.slice A zs.length cap) ∧ val 256 zs = x ∧ zs.length ≤ n ∧ Held w0 w' (L ++ [N8 (.slice A zs.length cap) zs])
theorem ref_h {w0 w w' : World} {L : List Num} {x n : Nat} {e : Ending} (H : Held w0 w L) (hn : n ≤ 1000000) (h : RefOut w x n e w') : RefH w0 L x n e w' := by
  obtain ⟨hb, A, cap, zs, rfl, hr, hc, hv, hl, _⟩ := h
  exact ⟨A, cap, zs, rfl, hv, hl, (H.step hb).add ⟨hr, hc, Nat.le_trans hl hn⟩⟩
section
variable {w0 w : World} {L : List Num} {va vb : Value} {xs ys : List Nat}
theorem refOf_h (H : Held w0 w L) (i : Nat) (hi : L[i]? = some (N32 va xs)) (hl : xs.length ≤ 10000) : Calls Tryd.prog 15 #[va] w (RefH w0 L (val 4294967296 xs) (4 * xs.length)) :=
  (refOf_c w va xs (N32.ok H i hi).1 (N32.ok H i hi).2.1.1 (by omega)).mono fun _ _ h => ref_h H (by omega) h
theorem refAdd_h (H : Held w0 w L) (i j : Nat) (hi : L[i]? = some (N8 va xs)) (hj : L[j]? = some (N8 vb ys)) (hx : xs.length ≤ 10000) (hy : ys.length ≤ 10000) :
    Calls Tryd.prog 18 #[va, vb] w (RefH w0 L (val 256 xs + val 256 ys) (max xs.length ys.length + 1)) :=
  (refAdd_c w va vb xs ys (N8.ok H i hi).1 (N8.ok H j hj).1 (N8.ok H i hi).2.1.1 (N8.ok H j hj).2.1.1 (by omega) (by omega)).mono fun _ _ h => ref_h H (by omega) h
theorem refSub_h (H : Held w0 w L) (i j : Nat) (hi : L[i]? = some (N8 va xs)) (hj : L[j]? = some (N8 vb ys)) (hle : val 256 ys ≤ val 256 xs) (hx : xs.length ≤ 10000) (hy : ys.length ≤ 10000) :
    Calls Tryd.prog 21 #[va, vb] w (RefH w0 L (val 256 xs - val 256 ys) xs.length) :=
  (refSub_c w va vb xs ys (N8.ok H i hi).1 (N8.ok H j hj).1 (N8.ok H i hi).2.1.1 (N8.ok H j hj).2.1 hle (by omega) (by omega)).mono fun _ _ h => ref_h H (by omega) h
theorem refCmp_h (H : Held w0 w L) (i j : Nat) (hi : L[i]? = some (N8 va xs)) (hj : L[j]? = some (N8 vb ys)) :
    Calls Tryd.prog 20 #[va, vb] w fun e w' => e = .returned (.int .i64 (ord3 (val 256 xs) (val 256 ys))) ∧ Held w0 w' L :=
  (refCmp_c w va vb xs ys (N8.ok H i hi).1 (N8.ok H j hj).1 (N8.ok H i hi).2.1.1 (N8.ok H j hj).2.1.1 (N8.ok H i hi).2.2 (N8.ok H j hj).2.2).mono fun _ _ h => by
    obtain ⟨rfl, rfl⟩ := h
    exact ⟨rfl, H⟩

set_option maxRecDepth 100000 in
set_option maxHeartbeats 1000000 in
/-- Is a number just these digits? -/
theorem is_h (H : Held w0 w L) (i j : Nat) (hi : L[i]? = some (N32 va xs)) (hj : L[j]? = some (N8 vb ys)) (hl : xs.length ≤ 512) (hv : val 4294967296 xs = val 256 ys) :
    Calls Tryd.prog 17 #[va, vb] w fun e w' => e = .returned (.bool true) ∧ Held w0 w' L := by
  obtain ⟨A, cap, rfl, _⟩ := (N32.ok H i hi).1.form
  have H1 := Lib.hid H
  have Hi := Lib.hid hi
  have Hj := Lib.hid hj
  have Hv := Lib.hid (And.intro hl hv)
  clear H hi hj hv hl
  go_enter Tryd.func17, Tryd.ntmps17
  go_wp2_with fail
  refine (refBack_c w vb ys (N8.ok H1.out j Hj.out).1 (N8.ok H1.out j Hj.out).2.1 (N8.ok H1.out j Hj.out).2.2).mono ?_
  rintro e w1 ⟨hb, A1, c1, us, rfl, hr, hc, hu⟩
  have hx := (N32.ok H1.out i Hi.out)
  have he : xs = us := Can.eq hx.2.1 hc (by rw [Hv.out.2, hu])
  have H2 := Lib.hid (H1.out.step hb)
  have HE := Lib.hid (And.intro (hx.1.below hb) (And.intro hr he))
  clear hb hr hc hu hx he
  go_wp2_with fail
  refine (equal_u32 w1 _ _ xs us HE.out.1 HE.out.2.1).mono ?_
  rintro e w2 ⟨rfl, nq, rfl⟩
  have hq : eqL xs us = true := eqL_true HE.out.2.2
  rw [hq]
  have H3 := Lib.hid (H2.out.drewN nq)
  clear H2 HE hq H1
  generalize w1.drewN nq = w2 at *
  go_wp2_with fail
  refine (check_h H3.out i Hi.out Hv.out.1).mono ?_
  rintro e w3 ⟨rfl, h⟩
  have H4 := Lib.hid h
  clear h H3
  go_wp2_with fail
  go_ret
  exact ⟨rfl, H4.out⟩
end
end Go.Proofs.YtefnhhkhdpihdaaDoor
