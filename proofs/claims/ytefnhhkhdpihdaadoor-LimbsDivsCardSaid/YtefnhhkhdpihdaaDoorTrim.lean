/- A number without the noughts at its end. -/
import Derived.Test.YtefnhhkhdpihdaaDoorDown
namespace Go.Proofs.YtefnhhkhdpihdaaDoor
open Go Go.RowKit Go.Shelf
attribute [local go_sem] Oper.semAt_some

theorem boxed_step {X Y : World} {row : Option Nat} {B : Nat} {t : TypeId} {v : Value} (h : Boxed X B t v) (hg : X.grownBy Y row) (hr : ∀ r, row = some r → ∃ o : Obj, X.heap[r]? = some o ∧ o.isCells = false) : Boxed Y B t v :=
  boxed_own (β := Unit) B t (fun _ => v) () X Y row h hg hr

theorem down_in (n : Nat) (A : Option Addr) (len cap : Nat) (w : World) :
    CallsIn Fence.wide n Tryd.prog 68 #[.slice A len cap] w fun e w' => e = .returned (.func (.func 85) #[] #[.pointer (some ⟨w.heap.size, 0, none⟩)]) ∧ w' = w.alloc (.cells #[.slice A len cap] 23) := by
  refine callsIn_of_wp Tryd.func68 rfl trivial ?_ rfl
  simp only [Tryd.ntmps68, List.size_toArray, List.length_cons, List.length_nil, Nat.reduceAdd, Nat.reduceSub, Array.replicate_succ, Array.replicate_zero, List.push_toArray, List.append_toArray, List.nil_append, List.cons_append]
  gi_wp2
  go_ret
  exact ⟨rfl, rfl⟩

/-- What trim gives: the digits up to the last one that isn't 0. -/
def Trimmed (w : World) (zs : List Nat) (e : Ending) (w' : World) : Prop :=
  ∃ v n, e = .returned v ∧ n ≤ zs.length ∧ (n = 0 ∨ ∃ x, zs[n - 1]? = some x ∧ x ≠ 0) ∧ (∀ (j x : Nat), n ≤ j → zs[j]? = some x → x = 0) ∧ Rd .u32 w' v (zs.take n) ∧ Below w.heap.size w w' ∧ (n = 0 → v = .slice none 0 0)

/-- Between two rounds: the k last digits are 0. -/
def TrimI (w : World) (zs : List Nat) (v : Value) (k : Nat) (W : World) : Prop :=
  (∀ (j x : Nat), zs.length ≤ j + k → zs[j]? = some x → x = 0) ∧ Boxed W w.heap.size 23 v ∧ Boxed W (w.heap.size + 1) 23 (.slice none 0 0) ∧ Boxed W (w.heap.size + 2) 23 v ∧ Below w.heap.size w W
/-- .. and the digit ahead of them isn't: its piece stands in the result. -/
def TrimX (w : World) (zs : List Nat) (A : Option Addr) (k : Nat) (W : World) : Prop :=
  (∀ (j x : Nat), zs.length ≤ j + k → zs[j]? = some x → x = 0) ∧ (∀ i, k + i + 1 = zs.length → (∃ x, zs[i]? = some x ∧ x ≠ 0) ∧ Boxed W (w.heap.size + 1) 23 (.slice A (i + 1) (i + 1))) ∧ Below w.heap.size w W

theorem below_deferred {w W : World} {D : Nat} {o' : Obj} (hD : w.heap.size ≤ D) (hK : W.heap[D]? = some (.deferred (some []))) (hB : Below w.heap.size w W) : Below w.heap.size w (W.putObj D o') :=
  hB.trans (belowK_b (w := w) (Nat.le_refl _) W D _ _ hD hK rfl rfl)

set_option maxRecDepth 100000 in
set_option maxHeartbeats 2000000 in
theorem trim_c (w : World) (v : Value) (zs : List Nat) (hR : Rd .u32 w v zs) : Calls Tryd.prog 56 #[v] w (Trimmed w zs) := by
  obtain ⟨A, cap, rfl, hl, hc, hz⟩ := id hR
  refine (callsIn_wide (n := 4)).1 ?_
  refine callsIn_of_wp_marks Tryd.func56 rfl trivial ?_ rfl
  simp only [Tryd.ntmps56, List.size_toArray, List.length_cons, List.length_nil, Nat.reduceAdd, Nat.reduceSub, Array.replicate_succ, Array.replicate_zero, List.push_toArray, List.append_toArray, List.nil_append, List.cons_append]
  have HR := Lib.hid hR
  clear hz hR
  gi_wp2_with (refine ⟨trivial, ?_⟩; gi_at_call 68; refine (down_in _ _ _ _ _).mono ?_; rintro e w' ⟨rfl, rfl⟩)
  have b0 := Boxed.new w 23 (.slice A zs.length cap)
  have b1 := Boxed.new (w.alloc (.cells #[.slice A zs.length cap] 23)) 23 (.slice none 0 0)
  have b2 := Boxed.new ((w.alloc (.cells #[.slice A zs.length cap] 23)).alloc (.cells #[.slice none 0 0] 23)) 23 (.slice A zs.length cap)
  simp only [World.size_alloc] at b1 b2
  have hB0 : Below w.heap.size w (((w.alloc (.cells #[.slice A zs.length cap] 23)).alloc (.cells #[.slice none 0 0] 23)).alloc (.cells #[.slice A zs.length cap] 23)) :=
    (((Below.refl _ w).alloc (Nat.le_refl _) _).alloc (by simp) _).alloc (by simp; omega) _
  refine range_down (n := 4) (by omega) (Bs := w.heap.size + 2) (A := A) (cap := cap) (zs := zs) (by omega) rfl rfl (TrimI w zs (.slice A zs.length cap)) (TrimX w zs A) ?hI ?hIx ?h0 ?hbox ?hcell
    (fun i x => { tmps := #[.slice A zs.length cap, .pointer (some ⟨w.heap.size, 0, none⟩), .pointer (some ⟨w.heap.size + 1, 0, none⟩), .int .i64 (i : Int), .int .u32 (x : Int), .slice A zs.length cap,
      .func (.func 85) #[] #[.pointer (some ⟨w.heap.size + 2, 0, none⟩)], .int .i64 (i : Int), .int .u32 (x : Int), undef, undef, undef, undef, undef, undef, undef, undef], defers := [] }) ?assign ?body ?done ?stop
  case hI =>
    rintro k X Y row ⟨h1, h2, h3, h4, h5⟩ hg hr
    have hr' := fun r e => (hr r e).2
    exact ⟨h1, boxed_step h2 hg hr', boxed_step h3 hg hr', boxed_step h4 hg hr', h5.grown hg h5.size (fun r e => by have := (hr r e).1; simp at this; omega)⟩
  case hIx =>
    rintro k X Y row ⟨h1, h2, h5⟩ hg hr
    have hr' := fun r e => (hr r e).2
    exact ⟨h1, fun i hi => ⟨(h2 i hi).1, boxed_step (h2 i hi).2 hg hr'⟩, h5.grown hg h5.size (fun r e => by have := (hr r e).1; simp at this; omega)⟩
  case h0 => exact ⟨fun j x hj hx => by have := (List.getElem?_eq_some_iff.1 hx).1; omega, (b0.alloc _).alloc _, b1.alloc _, b2, hB0⟩
  case hbox => exact fun k W h => h.2.2.2.1.cell
  case hcell =>
    intro hz
    obtain ⟨_, _, e, _, _, h3⟩ := id HR.out
    obtain ⟨b, off, e1, hb, hcs⟩ := h3 hz
    injection e with e _ _
    rw [← e] at e1
    exact ⟨b, off, e1, fun k W i x hI hx => (hI.2.2.2.2.cell (p := ⟨b, off + i, none⟩) hb).trans (hcs i x hx)⟩
  case assign =>
    intro l i x W K hx hK
    gi_wp2
    exact hK
  case body =>
    rintro l k i x W hki hx ⟨h1, h2, h3, h4, h5⟩
    obtain ⟨b, off, rfl⟩ : ∃ b off, A = some ⟨b, off, none⟩ := by
      obtain ⟨_, _, e, _, _, h3⟩ := id HR.out
      obtain ⟨b, off, e1, hb, hcs⟩ := h3 (by omega)
      injection e with e _ _
      rw [← e] at e1
      exact ⟨b, off, e1⟩
    have hc0 := h2.cell
    have hc1 := h3.cell
    have hf1 := h3.frozen
    have Hx := Lib.hid hx
    have H1 := Lib.hid h1
    have Hki := Lib.hid hki
    have hil : i < zs.length := by omega
    clear hx h1 hki
    by_cases hx0 : x = 0
    · subst hx0
      gi_wp2
      refine ⟨KeepsFrom.refl _ _, fun j y hj hy => ?_, h2, h3, h4, h5⟩
      by_cases hji : j = i
      · subst hji; rw [Hx.out] at hy; injection hy with hy; exact hy.symm
      · exact H1.out j y (by have := Hki.out; omega) hy
    · have hxb : ((x : Int) != 0) = true := by rw [bne_iff_ne]; omega
      have hxb2 : ((x : Int) == 0) = false := by rw [beq_eq_false_iff_ne]; omega
      gi_wp2
      refine ⟨(KeepsOthers.setCell _ _ _).from _, H1.out, fun i' hi' => ?_, h5.setCell (p := ⟨w.heap.size + 1, 0, none⟩) (by simp) _⟩
      obtain rfl : i' = i := by have := Hki.out; omega
      exact ⟨⟨x, Hx.out, hx0⟩, h3.set _⟩
  case done =>
    rintro D W hD ⟨h1, h2, h3, h4, h5⟩ hK
    have hc1 := h3.cell
    have hf1 := h3.frozen
    have H1 := Lib.hid h1
    clear h1
    gi_wp2
    have hK' := (KeepsOthers.setCell W ⟨w.heap.size + 1, 0, none⟩ (.slice none 0 0)).same D _ hK rfl
    refine ⟨by simp, .inl ⟨_, _, rfl, run_takeDeferred hK', ?_⟩⟩
    have hc5 := (boxed_step (h3.set (.slice none 0 0)) (grownBy_putObj' _ D (.deferred none)) (fun r e => by cases e; exact ⟨_, hK', rfl⟩)).cell
    refine ⟨.slice none 0 0, by simp [results, Tryd.f56, go_sem, hc5], .slice none 0 0, 0, rfl, Nat.zero_le _, .inl rfl, fun j x _ hx => H1.out j x (by omega) hx, ?_, ?_, fun _ => rfl⟩
    · simpa using Rd.nil .u32 _ none
    · exact below_deferred (by simp at hD; omega) hK' (h5.setCell (p := ⟨w.heap.size + 1, 0, none⟩) (by simp) _)
  case stop =>
    rintro D k W hD hk ⟨h1, h2, h5⟩ hK
    obtain ⟨⟨x, hx, hx0⟩, hb⟩ := h2 (zs.length - 1 - k) (by omega)
    obtain ⟨i, hi⟩ : ∃ i, zs.length - 1 - k = i := ⟨_, rfl⟩
    rw [hi] at hx hb
    have H1 := Lib.hid h1
    have Hx := Lib.hid hx
    have Hi := Lib.hid hi
    clear h1 h2 hx hi
    gi_wp2
    refine ⟨by simp, .inl ⟨_, _, rfl, run_takeDeferred hK, ?_⟩⟩
    have hbd := boxed_step hb (grownBy_putObj' _ D (.deferred none)) (fun r e => by cases e; exact ⟨_, hK, rfl⟩)
    have hc5 := hbd.cell
    have hbe := below_deferred (o' := .deferred none) (by simp at hD; omega) hK h5
    have hil : i < zs.length := (List.getElem?_eq_some_iff.1 Hx.out).1
    refine ⟨.slice A (i + 1) (i + 1), by simp [results, Tryd.f56, go_sem, hc5], _, i + 1, rfl, by omega, .inr ⟨x, Hx.out, hx0⟩, fun j y hj hy => H1.out j y (by have := Hi.out; omega) hy, ?_, hbe, fun h => absurd h (by omega)⟩
    obtain ⟨_, _, e, _, _, h3⟩ := (HR.out).below hbe
    obtain ⟨b, off, e1, hbl, hcs⟩ := h3 (by omega)
    injection e with e _ _
    rw [← e] at e1
    subst e1
    have hln : (zs.take (i + 1)).length = i + 1 := by simp; omega
    refine ⟨_, i + 1, by rw [hln], by omega, by omega, fun _ => ⟨b, off, rfl, hbl, fun j y hy => ?_⟩⟩
    rw [List.getElem?_take] at hy
    split at hy
    · exact hcs j y hy
    · cases hy
end Go.Proofs.YtefnhhkhdpihdaaDoor
