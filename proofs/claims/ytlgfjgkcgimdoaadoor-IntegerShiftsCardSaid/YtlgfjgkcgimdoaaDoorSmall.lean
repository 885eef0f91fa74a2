/- A number as one of 64 bits. -/
import Derived.Test.YtlgfjgkcgimdoaaDoorBits
import Derived.Test.YtlgfjgkcgimdoaaDoorGuess
namespace Go.Proofs.YtlgfjgkcgimdoaaDoor
open Go Go.RowKit Go.Shelf
attribute [local go_sem] Oper.semAt_some

/-- The number, or 0 and ErrLimbs. -/
def two64 : Nat := 18446744073709551616
def SmallPost (w : World) (x : Nat) (e : Ending) (w' : World) : Prop :=
  Below w.heap.size w w' ∧ ((x < two64 ∧ e = .returned (.tuple #[.int .u64 (x : Int), .int .i64 0])) ∨ (two64 ≤ x ∧ e = .returned (.tuple #[.int .u64 0, .int .i64 11])))

def SmallI (w1 : World) (zs : List Nat) (v : Value) (k : Nat) (W : World) : Prop :=
  ∃ n : Nat, (∀ i, k + i = zs.length → n = val 4294967296 (zs.drop i)) ∧ Boxed W w1.heap.size 32 (.int .u64 (n : Int)) ∧ Boxed W (w1.heap.size + 1) 23 v ∧ Below w1.heap.size w1 W

theorem isBits_small {n x : Nat} (h : IsBits n x) (hn : n ≤ 64) : x < two64 :=
  Nat.lt_of_lt_of_le h.1 (Nat.le_trans (Nat.pow_le_pow_right (by omega) hn) (by decide))
theorem isBits_great {n x : Nat} (h : IsBits n x) (hn : 64 < n) : two64 ≤ x := by
  rcases h.2 with e | e
  · omega
  · exact Nat.le_trans (Nat.le_trans (by decide) (Nat.pow_le_pow_right (show 0 < 2 by omega) (show 64 ≤ n - 1 by omega))) e

theorem val_drop_le {zs : List Nat} {i : Nat} (h : i ≤ zs.length) : val 4294967296 (zs.drop i) ≤ val 4294967296 zs := by
  rw [val_split 4294967296 zs i h]
  have : 1 ≤ 4294967296 ^ i := Nat.pow_pos (by omega)
  have := Nat.mul_le_mul_right (val 4294967296 (zs.drop i)) this
  omega

set_option maxRecDepth 100000 in
set_option maxHeartbeats 2000000 in
theorem small_c (w : World) (v : Value) (zs : List Nat) (hR : Rd .u32 w v zs) (hzb : ∀ x ∈ zs, x < 4294967296) (hlen : zs.length ≤ 1000000) : Calls Tryd.prog 40 #[v] w (SmallPost w (val 4294967296 zs)) := by
  obtain ⟨A, cap, rfl, hl⟩ := hR.form
  have hbits := bits_c w _ zs hR hzb hlen
  refine (callsIn_wide (n := 6)).1 ?_
  refine callsIn_of_wp_marks Tryd.func40 rfl trivial ?_ rfl
  simp only [Tryd.ntmps40, List.size_toArray, List.length_cons, List.length_nil, Nat.reduceAdd, Nat.reduceSub, Array.replicate_succ, Array.replicate_zero, List.push_toArray, List.append_toArray, List.nil_append, List.cons_append]
  gi_wp2_with fail
  refine ⟨trivial, ?_⟩
  refine (callsIn_wide.2 hbits).mono ?_
  rintro e w1 ⟨hB1, nb, rfl, hnb⟩
  clear hbits
  by_cases hgt : 64 < nb
  · gi_wp2_with fail
    exact ⟨.tuple #[.int .u64 0, .int .i64 11], by simp [results, Tryd.f40, go_sem], hB1, .inr ⟨isBits_great hnb hgt, rfl⟩⟩
  · have hsm := isBits_small hnb (by omega)
    have hR1 := hR.below hB1
    have Hnb := Lib.hid hnb
    clear hR hnb
    gi_wp2_with (refine ⟨trivial, ?_⟩; gi_at_call 44; refine (down_in _ _ _ _ _).mono ?_; rintro e w' ⟨rfl, rfl⟩)
    have b0 := Boxed.new w1 32 (.int .u64 0)
    have b1 := Boxed.new (w1.alloc (.cells #[.int .u64 0] 32)) 23 (.slice A zs.length cap)
    simp only [World.size_alloc] at b1
    have hB0 : Below w1.heap.size w1 ((w1.alloc (.cells #[.int .u64 0] 32)).alloc (.cells #[.slice A zs.length cap] 23)) :=
      ((Below.refl _ w1).alloc (Nat.le_refl _) _).alloc (by simp) _
    refine range_down (n := 6) (by omega) (Bs := w1.heap.size + 1) (A := A) (cap := cap) (zs := zs) (by omega) rfl rfl (SmallI w1 zs (.slice A zs.length cap)) (fun _ _ => False) ?hI ?hIx ?h0 ?hbox ?hcell
      (fun i x => { tmps := #[.slice A zs.length cap, undef, .int .u64 0, .int .i64 0, .pointer (some ⟨w1.heap.size, 0, none⟩), undef, .int .u32 (x : Int), .slice A zs.length cap, .int .i64 (nb : Int), .bool (decide ((64 : Int) < (nb : Int))), .slice A zs.length cap,
        .func (.func 65) #[] #[.pointer (some ⟨w1.heap.size + 1, 0, none⟩)], .int .i64 (i : Int), .int .u32 (x : Int), undef, undef, undef, undef, undef, undef], defers := [] }) ?assign ?body ?done ?stop
    case hI =>
      rintro k X Y row ⟨n, h1, h2, h4, h5⟩ hg hr
      have hr' := fun r e => (hr r e).2
      exact ⟨n, h1, boxed_step h2 hg hr', boxed_step h4 hg hr', h5.grown hg h5.size (fun r e => by have := (hr r e).1; simp at this; omega)⟩
    case hIx => exact fun _ _ _ _ h _ _ => h
    case h0 => exact ⟨0, fun i hi => by rw [List.drop_of_length_le (by omega)]; rfl, b0.alloc _, b1, hB0⟩
    case hbox => exact fun k W h => by obtain ⟨_, _, _, h, _⟩ := h; exact h.cell
    case hcell =>
      intro hz
      obtain ⟨b, off, rfl, hb⟩ := hR1.addr hz
      exact ⟨b, off, rfl, fun k W i x hI hx => by obtain ⟨_, _, _, _, h5⟩ := hI; exact (h5.cell (p := ⟨b, off + i, none⟩) hb).trans (hR1.cell hx)⟩
    case assign =>
      intro l i x W K hx hK
      gi_wp2
      exact hK
    case body =>
      rintro l k i x W hki hx ⟨n, h1, h2, h4, h5⟩
      have hc0 := h2.cell
      have hf0 := h2.frozen
      have hxb := get_lt hzb hx
      have hn := h1 (i + 1) (by omega)
      have hnew : val 4294967296 (zs.drop i) = x + 4294967296 * n := by rw [drop_of_get hx, val_cons, hn]
      have hle := val_drop_le (zs := zs) (i := i) (by omega)
      unfold two64 at hsm
      have hnb : n < 4294967296 := by omega
      have hor := or64 hnb hxb
      have Hn := Lib.hid hnew
      have Hki := Lib.hid hki
      clear hn hnew hx hki h1 hsm hle
      gi_wp2
      refine ⟨(KeepsOthers.setCell _ _ _).from _, ⟨n * 4294967296 + x, fun i' hi' => ?_, h2.set _, h4.other (by omega) _, h5.setCell (p := ⟨w1.heap.size, 0, none⟩) (Nat.le_refl _) _⟩⟩
      obtain rfl : i' = i := by have := Hki.out; omega
      rw [Hn.out]; omega
    case done =>
      rintro D W hD ⟨n, h1, h2, h4, h5⟩ hK
      have hn := h1 0 (by omega)
      rw [List.drop_zero] at hn
      subst hn
      have hc0 := h2.cell
      clear h1
      gi_wp2
      refine ⟨by simp, .inl ⟨_, _, rfl, run_takeDeferred hK, ?_⟩⟩
      exact ⟨.tuple #[.int .u64 (val 4294967296 zs : Int), .int .i64 0], by simp [results, Tryd.f40, go_sem], (hB1.trans (below_deferred (w := w1) (by simp at hD; omega) hK h5 |>.mono hB1.size)), .inl ⟨hsm, rfl⟩⟩
    case stop => exact fun _ _ _ _ _ h _ => h.elim
end Go.Proofs.YtlgfjgkcgimdoaaDoor
