/- How many bits, and how many noughts at the end: of one digit, and of a number. -/
import Derived.Test.YtlgfjgkcgimdoaaDoorFit
import Derived.Shelf.Small.Bits
import Derived.Lib.TrailingZeros
import Derived.Shelf.Spec.TrailingZeros
namespace Go.Proofs.YtlgfjgkcgimdoaaDoor
open Go Go.RowKit Go.Shelf
attribute [local go_sem] Oper.semAt_some

def lays128_ren : Go.Shelf.Ren := ⟨fun | 128 => 45 | n => n, fun | 51 => 57 | 3 => 3 | 4 => 4 | 46 => 58 | 5 => 5 | 9 => 9 | n => n, fun | n => n⟩
theorem lays128 : Go.Proofs.Lays.n128 Tryd.prog lays128_ren := {
  mixed := by kernel_rfl
  f128 := Tryd.func45.trans (congrArg some (by kernel_rfl))
  t3 := Tryd.underlying3
  a3 := Tryd.isAgg3
  z3 := Tryd.sizeOf3
  v3 := Tryd.zeroValue3
  t4 := Tryd.underlying4
  a4 := Tryd.isAgg4
  z4 := Tryd.sizeOf4
  v4 := Tryd.zeroValue4
  t5 := Tryd.underlying5
  a5 := Tryd.isAgg5
  z5 := Tryd.sizeOf5
  v5 := Tryd.zeroValue5
  t9 := Tryd.underlying9
  a9 := Tryd.isAgg9
  z9 := Tryd.sizeOf9
  v9 := Tryd.zeroValue9
  t46 := Tryd.underlying58
  a46 := Tryd.isAgg58
  z46 := Tryd.sizeOf58
  v46 := Tryd.zeroValue58
  t51 := Tryd.underlying57
  a51 := Tryd.isAgg57
  z51 := Tryd.sizeOf57
  v51 := Tryd.zeroValue57 }
def lays133_ren : Go.Shelf.Ren := ⟨fun | 128 => 45 | 133 => 70 | n => n, fun | 51 => 57 | 3 => 3 | 4 => 4 | 46 => 58 | 5 => 5 | 9 => 9 | n => n, fun | n => n⟩
theorem lays133 : Go.Proofs.Lays.n133 Tryd.prog lays133_ren := {
  mixed := by kernel_rfl
  f128 := Tryd.func45.trans (congrArg some (by kernel_rfl))
  f133 := Tryd.func70.trans (congrArg some (by kernel_rfl))
  t3 := Tryd.underlying3
  a3 := Tryd.isAgg3
  z3 := Tryd.sizeOf3
  v3 := Tryd.zeroValue3
  t4 := Tryd.underlying4
  a4 := Tryd.isAgg4
  z4 := Tryd.sizeOf4
  v4 := Tryd.zeroValue4
  t5 := Tryd.underlying5
  a5 := Tryd.isAgg5
  z5 := Tryd.sizeOf5
  v5 := Tryd.zeroValue5
  t9 := Tryd.underlying9
  a9 := Tryd.isAgg9
  z9 := Tryd.sizeOf9
  v9 := Tryd.zeroValue9
  t46 := Tryd.underlying58
  a46 := Tryd.isAgg58
  z46 := Tryd.sizeOf58
  v46 := Tryd.zeroValue58
  t51 := Tryd.underlying57
  a51 := Tryd.isAgg57
  z51 := Tryd.sizeOf57
  v51 := Tryd.zeroValue57 }

/-- n bits are just enough for x. -/
def IsBits (n x : Nat) : Prop := x < 2 ^ n ∧ (n = 0 ∨ 2 ^ (n - 1) ≤ x)
theorem IsBits.eq {n m x : Nat} (h : IsBits n x) (k : IsBits m x) : n = m := by
  have a : ∀ {n m : Nat}, IsBits n x → IsBits m x → ¬ n < m := by
    intro n m h k hlt
    rcases k.2 with e | e
    · omega
    · have := Nat.pow_le_pow_right (show 0 < 2 by omega) (show n ≤ m - 1 by omega)
      have := h.1
      omega
  have := a h k; have := a k h; omega

theorem isBits_len {x : Nat} (hx : x < 18446744073709551616) : IsBits (Lib.bitLen x) x := by
  induction x using Nat.strongRecOn with
  | ind x ih =>
    by_cases h0 : x = 0
    · subst h0; exact ⟨by decide, .inl rfl⟩
    · rw [Lib.bitLen_half x h0 hx]
      obtain ⟨h1, h2⟩ := ih (x / 2) (by omega) (by omega)
      refine ⟨by rw [Nat.add_comm, Nat.pow_succ]; omega, .inr ?_⟩
      rw [Nat.add_sub_cancel_left]
      rcases h2 with h2 | h2
      · rw [h2]; simp; omega
      · rcases Nat.eq_zero_or_pos (Lib.bitLen (x / 2)) with h3 | h3
        · rw [h3]; simp; omega
        · obtain ⟨m, hm⟩ : ∃ m, Lib.bitLen (x / 2) = m + 1 := ⟨Lib.bitLen (x / 2) - 1, by omega⟩
          rw [hm] at h2 ⊢
          rw [Nat.pow_succ]
          simp at h2; omega

theorem len32_c (w : World) (x : Nat) (hx : x < 4294967296) : Calls Tryd.prog 45 #[.int .u32 x] w fun e w' => e = .returned (.int .i64 (Lib.bitLen x)) ∧ w = w' := by
  refine (Any.bits_Len32 lays128 x w (by omega) (by omega)).mono ?_
  rintro e w' ⟨rfl, rfl⟩
  exact ⟨by simp, rfl⟩
theorem lz32_c (w : World) (x : Nat) (hx : x < 4294967296) : Calls Tryd.prog 70 #[.int .u32 x] w fun e w' => e = .returned (.int .i64 (32 - (Lib.bitLen x : Int))) ∧ w = w' := by
  refine (Any.bits_LeadingZeros32 lays133 x w (by omega) (by omega)).mono ?_
  rintro e w' ⟨rfl, rfl⟩
  exact ⟨by simp, rfl⟩

/-- The table of noughts. -/
def Tab (w : World) : Prop := TabAt 0 Lib.deBruijn32tab w
theorem Tab.below {w w' : World} (h : Tab w) (hb : Below w.heap.size w w') : Tab w' := fun j hj => by
  have hc := h j hj
  have hlt : 0 < w.heap.size := by
    unfold World.cell? at hc
    split at hc
    · rename_i hh; exact (Array.getElem?_eq_some_iff.1 hh).1
    · cases hc
  exact (hb.cell (p := ⟨_, j, none⟩) hlt).trans hc

set_option maxHeartbeats 400000 in
theorem tz32_core (w : World) (x k j : Nat) (hxb : ((x : Int) == 0) = false) (key : bits BinOp.and IntKind.u32 (x : Int) (-(x : Int) % 4294967296) * 125613361 % 4294967296 / 134217728 = (j : Int))
    (hi : j < 32) (hk : k < 32) (hcell : w.cell? ⟨0, j, none⟩ = some (.int .u8 k)) :
    Calls Tryd.prog 51 #[.int .u32 x] w fun e w' => e = .returned (.int .i64 k) ∧ w = w' := by
  go_enter Tryd.func51, Tryd.ntmps51
  go_wp2_with (simp only [key])
  go_ret
  exact ⟨rfl, rfl⟩

theorem tz32_c (w : World) (x : Nat) (hx : x < 4294967296) (h0 : x ≠ 0) (hT : Tab w) : Calls Tryd.prog 51 #[.int .u32 x] w fun e w' => e = .returned (.int .i64 (Lib.ctz 32 x)) ∧ w = w' := by
  obtain ⟨hlow, hk⟩ := Lib.lowest_bit 32 x h0 hx
  obtain ⟨hi, htab⟩ := Lib.deBruijn32_at _ hk
  have hcell := hT _ hi
  rw [htab] at hcell
  exact tz32_core w x _ _ (by rw [beq_eq_false_iff_ne]; omega) (tz32_key x _ hx h0 hlow) hi hk hcell

def BitsPost (w : World) (x : Nat) (e : Ending) (w' : World) : Prop := Below w.heap.size w w' ∧ ∃ n : Nat, e = .returned (.int .i64 (n : Int)) ∧ IsBits n x

/-- Between two rounds. -/
def BitsI (w : World) (zs : List Nat) (v : Value) (k : Nat) (W : World) : Prop :=
  (∀ (j x : Nat), zs.length ≤ j + k → zs[j]? = some x → x = 0) ∧ Boxed W w.heap.size 3 (.int .i64 0) ∧ Boxed W (w.heap.size + 1) 23 v ∧ Below w.heap.size w W
def BitsX (w : World) (zs : List Nat) (k : Nat) (W : World) : Prop :=
  (∀ (j x : Nat), zs.length ≤ j + k → zs[j]? = some x → x = 0) ∧ (∀ i, k + i + 1 = zs.length → ∃ x : Nat, zs[i]? = some x ∧ x ≠ 0 ∧ Boxed W w.heap.size 3 (.int .i64 ((i * 32 + Lib.bitLen x : Nat) : Int))) ∧ Below w.heap.size w W

theorem pow_B (i : Nat) : (4294967296 : Nat) ^ i = 2 ^ (i * 32) := by
  rw [show (4294967296 : Nat) = 2 ^ 32 by decide, ← Nat.pow_mul, Nat.mul_comm]

theorem isBits_top {zs : List Nat} {i x : Nat} (hx : zs[i]? = some x) (hb : ∀ y ∈ zs, y < 4294967296) (h0 : x ≠ 0) (hz : ∀ (j y : Nat), i < j → zs[j]? = some y → y = 0) :
    IsBits (i * 32 + Lib.bitLen x) (val 4294967296 zs) := by
  have hi : i < zs.length := (List.getElem?_eq_some_iff.1 hx).1
  have hv : val 4294967296 zs = val 4294967296 (zs.take i) + 4294967296 ^ i * x := by
    rw [← val_take_succ hx, val_take_zeros hi (fun j y hj hy => hz j y (by omega) hy)]
  have hlow : val 4294967296 (zs.take i) < 4294967296 ^ i := by
    have := val_lt (B := 4294967296) (xs := zs.take i) (fun y hy => hb y (List.mem_of_mem_take hy))
    rwa [List.length_take, Nat.min_eq_left (by omega)] at this
  obtain ⟨h1, h2⟩ := isBits_len (show x < 18446744073709551616 by have := get_lt hb hx; omega)
  rw [pow_B] at hv hlow
  have hm := Nat.mul_le_mul_left (2 ^ (i * 32)) (show x + 1 ≤ 2 ^ Lib.bitLen x from h1)
  rw [Nat.mul_add, Nat.mul_one, ← Nat.pow_add] at hm
  refine ⟨by omega, .inr ?_⟩
  rcases h2 with h2 | h2
  · rw [h2] at h1; simp at h1; omega
  · have hm2 := Nat.mul_le_mul_left (2 ^ (i * 32)) h2
    rw [← Nat.pow_add] at hm2
    have : 0 < Lib.bitLen x := by
      rcases Nat.eq_zero_or_pos (Lib.bitLen x) with h | h
      · rw [h] at h1; simp at h1; omega
      · exact h
    rw [show i * 32 + Lib.bitLen x - 1 = i * 32 + (Lib.bitLen x - 1) by omega]
    omega

set_option maxRecDepth 100000 in
set_option maxHeartbeats 2000000 in
theorem bits_c (w : World) (v : Value) (zs : List Nat) (hR : Rd .u32 w v zs) (hzb : ∀ x ∈ zs, x < 4294967296) (hlen : zs.length ≤ 1000000) : Calls Tryd.prog 19 #[v] w (BitsPost w (val 4294967296 zs)) := by
  obtain ⟨A, cap, rfl, hl⟩ := hR.form
  refine (callsIn_wide (n := 6)).1 ?_
  refine callsIn_of_wp_marks Tryd.func19 rfl trivial ?_ rfl
  simp only [Tryd.ntmps19, List.size_toArray, List.length_cons, List.length_nil, Nat.reduceAdd, Nat.reduceSub, Array.replicate_succ, Array.replicate_zero, List.push_toArray, List.append_toArray, List.nil_append, List.cons_append]
  gi_wp2_with (refine ⟨trivial, ?_⟩; gi_at_call 44; refine (down_in _ _ _ _ _).mono ?_; rintro e w' ⟨rfl, rfl⟩)
  have b0 := Boxed.new w 3 (.int .i64 0)
  have b1 := Boxed.new (w.alloc (.cells #[.int .i64 0] 3)) 23 (.slice A zs.length cap)
  simp only [World.size_alloc] at b1
  have hB0 : Below w.heap.size w ((w.alloc (.cells #[.int .i64 0] 3)).alloc (.cells #[.slice A zs.length cap] 23)) :=
    ((Below.refl _ w).alloc (Nat.le_refl _) _).alloc (by simp) _
  refine range_down (n := 6) (by omega) (Bs := w.heap.size + 1) (A := A) (cap := cap) (zs := zs) (by omega) rfl rfl (BitsI w zs (.slice A zs.length cap)) (BitsX w zs) ?hI ?hIx ?h0 ?hbox ?hcell
    (fun i x => { tmps := #[.slice A zs.length cap, undef, .pointer (some ⟨w.heap.size, 0, none⟩), .int .i64 (i : Int), .int .u32 (x : Int), .slice A zs.length cap,
      .func (.func 65) #[] #[.pointer (some ⟨w.heap.size + 1, 0, none⟩)], .int .i64 (i : Int), .int .u32 (x : Int), undef, undef, undef, undef, undef, undef, undef], defers := [] }) ?assign ?body ?done ?stop
  case hI =>
    rintro k X Y row ⟨h1, h2, h4, h5⟩ hg hr
    have hr' := fun r e => (hr r e).2
    exact ⟨h1, boxed_step h2 hg hr', boxed_step h4 hg hr', h5.grown hg h5.size (fun r e => by have := (hr r e).1; simp at this; omega)⟩
  case hIx =>
    rintro k X Y row ⟨h1, h2, h5⟩ hg hr
    have hr' := fun r e => (hr r e).2
    exact ⟨h1, fun i hi => by obtain ⟨x, e1, e2, e3⟩ := h2 i hi; exact ⟨x, e1, e2, boxed_step e3 hg hr'⟩, h5.grown hg h5.size (fun r e => by have := (hr r e).1; simp at this; omega)⟩
  case h0 => exact ⟨fun j x hj hx => by have := (List.getElem?_eq_some_iff.1 hx).1; omega, b0.alloc _, b1, hB0⟩
  case hbox => exact fun k W h => h.2.2.1.cell
  case hcell =>
    intro hz
    obtain ⟨b, off, rfl, hb⟩ := hR.addr hz
    exact ⟨b, off, rfl, fun k W i x hI hx => (hI.2.2.2.cell (p := ⟨b, off + i, none⟩) hb).trans (hR.cell hx)⟩
  case assign =>
    intro l i x W K hx hK
    gi_wp2
    exact hK
  case body =>
    rintro l k i x W hki hx ⟨h1, h2, h4, h5⟩
    have hc0 := h2.cell
    have hf0 := h2.frozen
    have hxb := get_lt hzb hx
    have hil : i < zs.length := by omega
    have Hx := Lib.hid hx
    have H1 := Lib.hid h1
    have Hki := Lib.hid hki
    clear hx h1 hki
    by_cases hx0 : x = 0
    · subst hx0
      gi_wp2
      refine ⟨KeepsFrom.refl _ _, fun j y hj hy => ?_, h2, h4, h5⟩
      by_cases hji : j = i
      · subst hji; rw [Hx.out] at hy; injection hy with hy; exact hy.symm
      · exact H1.out j y (by have := Hki.out; omega) hy
    · have hxb1 : ((x : Int) != 0) = true := by rw [bne_iff_ne]; omega
      have hxb2 : ((x : Int) == 0) = false := by rw [beq_eq_false_iff_ne]; omega
      have hbl : Lib.bitLen x ≤ 32 := Lib.bitLen_le x 32 (by omega) hxb
      gi_wp2_with (refine ⟨trivial, ?_⟩; gi_at_call 45; refine (CallsIn.inRound l (callsIn_wide.2 (len32_c _ x hxb))).mono ?_; rintro e w' ⟨rfl, rfl⟩)
      have ei : (i : Int) * 32 + (Lib.bitLen x : Int) = ((i * 32 + Lib.bitLen x : Nat) : Int) := by omega
      rw [ei]
      refine ⟨(KeepsOthers.setCell _ _ _).from _, H1.out, fun i' hi' => ?_, h5.setCell (p := ⟨w.heap.size, 0, none⟩) (by simp) _⟩
      obtain rfl : i' = i := by have := Hki.out; omega
      exact ⟨x, Hx.out, hx0, h2.set _⟩
  case done =>
    rintro D W hD ⟨h1, h2, h4, h5⟩ hK
    have hc0 := h2.cell
    have hf0 := h2.frozen
    have H1 := Lib.hid h1
    clear h1
    gi_wp2
    have hK' := (KeepsOthers.setCell W ⟨w.heap.size, 0, none⟩ (.int .i64 0)).same D _ hK rfl
    refine ⟨by simp, .inl ⟨_, _, rfl, run_takeDeferred hK', ?_⟩⟩
    have hc5 := (boxed_step (h2.set (.int .i64 0)) (grownBy_putObj' _ D (.deferred none)) (fun r e => by cases e; exact ⟨_, hK', rfl⟩)).cell
    refine ⟨.int .i64 0, by simp [results, Tryd.f19, go_sem, hc5], below_deferred (by simp at hD; omega) hK' (h5.setCell (p := ⟨w.heap.size, 0, none⟩) (by simp) _), 0, rfl, ?_⟩
    have hz : val 4294967296 zs = 0 := val_zeros fun x hx => by
      obtain ⟨j, hj⟩ := List.mem_iff_getElem?.1 hx
      exact H1.out j x (by omega) hj
    rw [hz]
    exact ⟨by decide, .inl rfl⟩
  case stop =>
    rintro D k W hD hk ⟨h1, h2, h5⟩ hK
    obtain ⟨x, hx, hx0, hb⟩ := h2 (zs.length - 1 - k) (by omega)
    obtain ⟨i, hi⟩ : ∃ i, zs.length - 1 - k = i := ⟨_, rfl⟩
    rw [hi] at hx hb
    have H1 := Lib.hid h1
    have Hx := Lib.hid hx
    have Hi := Lib.hid hi
    clear h1 h2 hx hi
    gi_wp2
    refine ⟨by simp, .inl ⟨_, _, rfl, run_takeDeferred hK, ?_⟩⟩
    have hc5 := (boxed_step hb (grownBy_putObj' _ D (.deferred none)) (fun r e => by cases e; exact ⟨_, hK, rfl⟩)).cell
    refine ⟨.int .i64 ((i * 32 + Lib.bitLen x : Nat) : Int), by simp [results, Tryd.f19, go_sem, hc5], below_deferred (by simp at hD; omega) hK h5, _, rfl, ?_⟩
    exact isBits_top Hx.out hzb hx0 (fun j y hj hy => H1.out j y (by have := Hi.out; omega) hy)
end Go.Proofs.YtlgfjgkcgimdoaaDoor

/- How many noughts stand at the end of a number's bits. -/
namespace Go.Proofs.YtlgfjgkcgimdoaaDoor
open Go Go.RowKit

/-- t noughts stand at the end; 0 of 0. -/
def IsTail (t x : Nat) : Prop := (x = 0 ∧ t = 0) ∨ ∃ m, x = 2 ^ t * (2 * m + 1)

def TailPost (w : World) (x : Nat) (e : Ending) (w' : World) : Prop := w = w' ∧ ∃ n : Nat, e = .returned (.int .i64 (n : Int)) ∧ IsTail n x

theorem ctz_spec {x : Nat} (hx : x < 4294967296) (h0 : x ≠ 0) : ∃ m, x = 2 ^ Lib.ctz 32 x * (2 * m + 1) := by
  unfold Lib.ctz
  rw [if_neg h0]
  obtain ⟨m, hm, _⟩ := Lib.ctzFrom_spec 32 x (by omega) (by omega)
  exact ⟨m, hm⟩
theorem ctz_lt {x : Nat} (hx : x < 4294967296) (h0 : x ≠ 0) : Lib.ctz 32 x < 32 := by
  unfold Lib.ctz
  rw [if_neg h0]
  obtain ⟨m, _, h⟩ := Lib.ctzFrom_spec 32 x (by omega) (by omega)
  exact h

theorem isTail_low {zs : List Nat} {i x : Nat} (hx : zs[i]? = some x) (hb : ∀ y ∈ zs, y < 4294967296) (h0 : x ≠ 0) (hz : ∀ (j y : Nat), j < i → zs[j]? = some y → y = 0) :
    IsTail (i * 32 + Lib.ctz 32 x) (val 4294967296 zs) := by
  have hi : i < zs.length := (List.getElem?_eq_some_iff.1 hx).1
  have hlow : val 4294967296 (zs.take i) = 0 := val_zeros fun y hy => by
    obtain ⟨j, hj⟩ := List.mem_iff_getElem?.1 hy
    rw [List.getElem?_take] at hj
    split at hj
    · exact hz j y (by assumption) hj
    · cases hj
  have hxb := get_lt hb hx
  obtain ⟨m, hm⟩ := ctz_spec hxb h0
  have hk := ctz_lt hxb h0
  generalize Lib.ctz 32 x = t at *
  refine .inr ⟨m + 2 ^ (31 - t) * val 4294967296 (zs.drop (i + 1)), ?_⟩
  rw [val_split _ zs i (by omega), hlow, drop_of_get hx, val_cons, pow_B, Nat.zero_add, Nat.pow_add, Nat.mul_assoc]
  congr 1
  generalize val 4294967296 (zs.drop (i + 1)) = V
  have e : (4294967296 : Nat) = 2 ^ t * (2 * 2 ^ (31 - t)) := by
    rw [← Nat.pow_succ', ← Nat.pow_add, show t + (31 - t).succ = 32 by omega]
  rw [e]
  have e2 : 2 ^ t * (2 * 2 ^ (31 - t)) * V = 2 ^ t * (2 * (2 ^ (31 - t) * V)) := by rw [Nat.mul_assoc, Nat.mul_assoc]
  rw [e2]
  have e3 : 2 * (m + 2 ^ (31 - t) * V) + 1 = (2 * m + 1) + 2 * (2 ^ (31 - t) * V) := by omega
  rw [e3, Nat.mul_add, ← hm]

set_option maxRecDepth 100000 in
set_option maxHeartbeats 1000000 in
theorem tail_c (w : World) (hT : Tab w) (v : Value) (zs : List Nat) (hR : Rd .u32 w v zs) (hzb : ∀ x ∈ zs, x < 4294967296) (hlen : zs.length ≤ 1000000) : Calls Tryd.prog 33 #[v] w (TailPost w (val 4294967296 zs)) := by
  obtain ⟨A, cap, rfl, hl⟩ := hR.form
  have HT := Lib.hid hT
  clear hT
  go_enter Tryd.func33, Tryd.ntmps33
  go_wp2
  go_loop [7] (fun i => ∃ k : Nat, k ≤ zs.length ∧ i = .int .i64 k ∧ Hid (∀ (j y : Nat), j < k → zs[j]? = some y → y = 0)) (fun i => zs.length - (intOf i).toNat)
  case atStart => exact ⟨0, Nat.zero_le _, rfl, fun j y h _ => absurd h (by omega)⟩
  case round =>
    obtain ⟨k, hk, rfl, hz⟩ := hrel
    by_cases hlt : k < zs.length
    · have hx : zs[k]? = some zs[k] := List.getElem?_eq_getElem hlt
      obtain ⟨x, hxx⟩ : ∃ x, zs[k] = x := ⟨_, rfl⟩
      rw [hxx] at hx
      clear hxx
      obtain ⟨b, off, rfl, _⟩ := hR.addr (by omega)
      have hc := hR.cell hx
      have hxb := get_lt hzb hx
      have Hx := Lib.hid hx
      clear hx
      by_cases h0 : x = 0
      · subst h0
        go_wp2
        go_round
        case rel =>
          refine ⟨k + 1, by omega, by go_num, fun j y hj hy => ?_⟩
          by_cases hjk : j = k
          · subst hjk; rw [Hx.out] at hy; injection hy with hy; exact hy.symm
          · exact hz.out j y (by omega) hy
        case measure => simp [intOf]; omega
      · have hb1 : ((x : Int) != 0) = true := by rw [bne_iff_ne]; omega
        have hb2 : ((x : Int) == 0) = false := by rw [beq_eq_false_iff_ne]; omega
        have ht := tz32_c w x hxb h0 HT.out
        have hs := isTail_low Hx.out hzb h0 hz.out
        have hk32 := ctz_lt hxb h0
        have Hs := Lib.hid hs
        clear hs
        generalize Lib.ctz 32 x = t at ht Hs hk32
        go_wp2_with (go_at_call 51; refine ht.mono ?_; rintro e w' ⟨rfl, rfl⟩)
        go_ret
        exact ⟨rfl, k * 32 + t, by go_num, Hs.out⟩
    · obtain rfl : k = zs.length := by omega
      have h0 : val 4294967296 zs = 0 := val_zeros fun y hy => by
        obtain ⟨j, hj⟩ := List.mem_iff_getElem?.1 hy
        exact hz.out j y (List.getElem?_eq_some_iff.1 hj).1 hj
      have H0 := Lib.hid h0
      clear h0
      go_wp2
      go_ret
      exact ⟨rfl, 0, rfl, .inl ⟨H0.out, rfl⟩⟩
end Go.Proofs.YtlgfjgkcgimdoaaDoor
