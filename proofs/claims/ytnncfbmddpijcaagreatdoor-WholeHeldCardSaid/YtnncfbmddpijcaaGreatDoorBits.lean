
/- How many bits, and how many noughts at the end: of one digit, and of a number. -/
import Derived.Test.YtnncfbmddpijcaaGreatDoorFit
import Derived.Shelf.Small.Bits
import Derived.Lib.TrailingZeros
import Derived.Shelf.Spec.TrailingZeros
import Derived.Test.YtnncfbmddpijcaaGreatDoorTake
namespace Go.Proofs.YtnncfbmddpijcaaGreatDoor
open Go Go.RowKit Go.Shelf
attribute [local go_sem] Oper.semAt_some

def lays128_ren : Go.Shelf.Ren := ⟨fun | 128 => 92 | n => n, fun | 51 => 85 | 3 => 3 | 4 => 4 | 46 => 100 | 5 => 5 | 9 => 9 | n => n, fun | n => n⟩
theorem lays128 : Go.Proofs.Lays.n128 Tryz.prog lays128_ren := {
  mixed := by kernel_rfl
  f128 := Tryz.func92.trans (congrArg some (by kernel_rfl))
  t3 := Tryz.underlying3
  a3 := Tryz.isAgg3
  z3 := Tryz.sizeOf3
  v3 := Tryz.zeroValue3
  t4 := Tryz.underlying4
  a4 := Tryz.isAgg4
  z4 := Tryz.sizeOf4
  v4 := Tryz.zeroValue4
  t5 := Tryz.underlying5
  a5 := Tryz.isAgg5
  z5 := Tryz.sizeOf5
  v5 := Tryz.zeroValue5
  t9 := Tryz.underlying9
  a9 := Tryz.isAgg9
  z9 := Tryz.sizeOf9
  v9 := Tryz.zeroValue9
  t46 := Tryz.underlying100
  a46 := Tryz.isAgg100
  z46 := Tryz.sizeOf100
  v46 := Tryz.zeroValue100
  t51 := Tryz.underlying85
  a51 := Tryz.isAgg85
  z51 := Tryz.sizeOf85
  v51 := Tryz.zeroValue85 }
def lays133_ren : Go.Shelf.Ren := ⟨fun | 128 => 92 | 133 => 106 | n => n, fun | 51 => 85 | 3 => 3 | 4 => 4 | 46 => 100 | 5 => 5 | 9 => 9 | n => n, fun | n => n⟩
theorem lays133 : Go.Proofs.Lays.n133 Tryz.prog lays133_ren := {
  mixed := by kernel_rfl
  f128 := Tryz.func92.trans (congrArg some (by kernel_rfl))
  f133 := Tryz.func106.trans (congrArg some (by kernel_rfl))
  t3 := Tryz.underlying3
  a3 := Tryz.isAgg3
  z3 := Tryz.sizeOf3
  v3 := Tryz.zeroValue3
  t4 := Tryz.underlying4
  a4 := Tryz.isAgg4
  z4 := Tryz.sizeOf4
  v4 := Tryz.zeroValue4
  t5 := Tryz.underlying5
  a5 := Tryz.isAgg5
  z5 := Tryz.sizeOf5
  v5 := Tryz.zeroValue5
  t9 := Tryz.underlying9
  a9 := Tryz.isAgg9
  z9 := Tryz.sizeOf9
  v9 := Tryz.zeroValue9
  t46 := Tryz.underlying100
  a46 := Tryz.isAgg100
  z46 := Tryz.sizeOf100
  v46 := Tryz.zeroValue100
  t51 := Tryz.underlying85
  a51 := Tryz.isAgg85
  z51 := Tryz.sizeOf85
  v51 := Tryz.zeroValue85 }

/-- n bits are just enough for x. -/
def IsBits (n x : Nat) : Prop := x < 2 ^ n ∧ (n = 0 ∨ 2 ^ (n - 1) ≤ x)
theorem IsBits.eq {n m x : Nat} (h : IsBits n x) (k : IsBits m x) : n = m := by
  have a : ∀ {n m : Nat}, IsBits n x → IsBits m x → ¬ n < m := by
    intro n m h k hlt
    rcases k.2 with e | e
    · omega
    · have := Nat.pow_le_pow_right (show 0 < 2 by omega) (show n ≤ m - 1 by omega)
      have := h.1
      omega
  have := a h k; have := a k h; omega

theorem isBits_len {x : Nat} (hx : x < 18446744073709551616) : IsBits (Lib.bitLen x) x := by
  induction x using Nat.strongRecOn with
  | ind x ih =>
    by_cases h0 : x = 0
    · subst h0; exact ⟨by decide, .inl rfl⟩
    · rw [Lib.bitLen_half x h0 hx]
      obtain ⟨h1, h2⟩ := ih (x / 2) (by omega) (by omega)
      refine ⟨by rw [Nat.add_comm, Nat.pow_succ]; omega, .inr ?_⟩
      rw [Nat.add_sub_cancel_left]
      rcases h2 with h2 | h2
      · rw [h2]; simp; omega
      · rcases Nat.eq_zero_or_pos (Lib.bitLen (x / 2)) with h3 | h3
        · rw [h3]; simp; omega
        · obtain ⟨m, hm⟩ : ∃ m, Lib.bitLen (x / 2) = m + 1 := ⟨Lib.bitLen (x / 2) - 1, by omega⟩
          rw [hm] at h2 ⊢
          rw [Nat.pow_succ]
          simp at h2; omega

theorem len32_c (w : World) (x : Nat) (hx : x < 4294967296) : Calls Tryz.prog 92 #[.int .u32 x] w fun e w' => e = .returned (.int .i64 (Lib.bitLen x)) ∧ w = w' := by
  refine (Any.bits_Len32 lays128 x w (by omega) (by omega)).mono ?_
  rintro e w' ⟨rfl, rfl⟩
  exact ⟨by simp, rfl⟩
theorem lz32_c (w : World) (x : Nat) (hx : x < 4294967296) : Calls Tryz.prog 106 #[.int .u32 x] w fun e w' => e = .returned (.int .i64 (32 - (Lib.bitLen x : Int))) ∧ w = w' := by
  refine (Any.bits_LeadingZeros32 lays133 x w (by omega) (by omega)).mono ?_
  rintro e w' ⟨rfl, rfl⟩
  exact ⟨by simp, rfl⟩

/-- The table of noughts. -/
def Tab (w : World) : Prop := TabAt 0 Lib.deBruijn32tab w
theorem Tab.below {w w' : World} (h : Tab w) (hb : Below w.heap.size w w') : Tab w' := fun j hj => by
  have hc := h j hj
  have hlt : 0 < w.heap.size := by
    unfold World.cell? at hc
    split at hc
    · rename_i hh; exact (Array.getElem?_eq_some_iff.1 hh).1
    · cases hc
  exact (hb.cell (p := ⟨_, j, none⟩) hlt).trans hc

set_option maxHeartbeats 400000 in
theorem tz32_core (w : World) (x k j : Nat) (hxb : ((x : Int) == 0) = false) (key : bits BinOp.and IntKind.u32 (x : Int) (-(x : Int) % 4294967296) * 125613361 % 4294967296 / 134217728 = (j : Int))
    (hi : j < 32) (hk : k < 32) (hcell : w.cell? ⟨0, j, none⟩ = some (.int .u8 k)) :
    Calls Tryz.prog 89 #[.int .u32 x] w fun e w' => e = .returned (.int .i64 k) ∧ w = w' := by
  go_enter Tryz.func89, Tryz.ntmps89
  go_wp2_with (simp only [key])
  go_ret
  exact ⟨rfl, rfl⟩

theorem tz32_c (w : World) (x : Nat) (hx : x < 4294967296) (h0 : x ≠ 0) (hT : Tab w) : Calls Tryz.prog 89 #[.int .u32 x] w fun e w' => e = .returned (.int .i64 (Lib.ctz 32 x)) ∧ w = w' := by
  obtain ⟨hlow, hk⟩ := Lib.lowest_bit 32 x h0 hx
  obtain ⟨hi, htab⟩ := Lib.deBruijn32_at _ hk
  have hcell := hT _ hi
  rw [htab] at hcell
  exact tz32_core w x _ _ (by rw [beq_eq_false_iff_ne]; omega) (tz32_key x _ hx h0 hlow) hi hk hcell

def BitsPost (w : World) (x : Nat) (e : Ending) (w' : World) : Prop := Below w.heap.size w w' ∧ ∃ n : Nat, e = .returned (.int .i64 (n : Int)) ∧ IsBits n x

/-- Between two rounds. -/
def BitsI (w : World) (zs : List Nat) (v : Value) (k : Nat) (W : World) : Prop :=
  (∀ (j x : Nat), zs.length ≤ j + k → zs[j]? = some x → x = 0) ∧ Boxed W w.heap.size 3 (.int .i64 0) ∧ Boxed W (w.heap.size + 1) 23 v ∧ Below w.heap.size w W
def BitsX (w : World) (zs : List Nat) (k : Nat) (W : World) : Prop :=
  (∀ (j x : Nat), zs.length ≤ j + k → zs[j]? = some x → x = 0) ∧ (∀ i, k + i + 1 = zs.length → ∃ x : Nat, zs[i]? = some x ∧ x ≠ 0 ∧ Boxed W w.heap.size 3 (.int .i64 ((i * 32 + Lib.bitLen x : Nat) : Int))) ∧ Below w.heap.size w W

theorem pow_B (i : Nat) : (4294967296 : Nat) ^ i = 2 ^ (i * 32) := by
  rw [show (4294967296 : Nat) = 2 ^ 32 by decide, ← Nat.pow_mul, Nat.mul_comm]

theorem isBits_top {zs : List Nat} {i x : Nat} (hx : zs[i]? = some x) (hb : ∀ y ∈ zs, y < 4294967296) (h0 : x ≠ 0) (hz : ∀ (j y : Nat), i < j → zs[j]? = some y → y = 0) :
    IsBits (i * 32 + Lib.bitLen x) (val 4294967296 zs) := by
  have hi : i < zs.length := (List.getElem?_eq_some_iff.1 hx).1
  have hv : val 4294967296 zs = val 4294967296 (zs.take i) + 4294967296 ^ i * x := by
    rw [← val_take_succ hx, val_take_zeros hi (fun j y hj hy => hz j y (by omega) hy)]
  have hlow : val 4294967296 (zs.take i) < 4294967296 ^ i := by
    have := val_lt (B := 4294967296) (xs := zs.take i) (fun y hy => hb y (List.mem_of_mem_take hy))
    rwa [List.length_take, Nat.min_eq_left (by omega)] at this
  obtain ⟨h1, h2⟩ := isBits_len (show x < 18446744073709551616 by have := get_lt hb hx; omega)
  rw [pow_B] at hv hlow
  have hm := Nat.mul_le_mul_left (2 ^ (i * 32)) (show x + 1 ≤ 2 ^ Lib.bitLen x from h1)
  rw [Nat.mul_add, Nat.mul_one, ← Nat.pow_add] at hm
  refine ⟨by omega, .inr ?_⟩
  rcases h2 with h2 | h2
  · rw [h2] at h1; simp at h1; omega
  · have hm2 := Nat.mul_le_mul_left (2 ^ (i * 32)) h2
    rw [← Nat.pow_add] at hm2
    have : 0 < Lib.bitLen x := by
      rcases Nat.eq_zero_or_pos (Lib.bitLen x) with h | h
      · rw [h] at h1; simp at h1; omega
      · exact h
    rw [show i * 32 + Lib.bitLen x - 1 = i * 32 + (Lib.bitLen x - 1) by omega]
    omega

set_option maxRecDepth 100000 in
set_option maxHeartbeats 2000000 in
theorem bits_c (w : World) (v : Value) (zs : List Nat) (hR : Rd .u32 w v zs) (hzb : ∀ x ∈ zs, x < 4294967296) (hlen : zs.length ≤ 1000000) : Calls Tryz.prog 65 #[v] w (BitsPost w (val 4294967296 zs)) := by
  obtain ⟨A, cap, rfl, hl⟩ := hR.form
  refine (callsIn_wide (n := 6)).1 ?_
  refine callsIn_of_wp_marks Tryz.func65 rfl trivial ?_ rfl
  simp only [Tryz.ntmps65, List.size_toArray, List.length_cons, List.length_nil, Nat.reduceAdd, Nat.reduceSub, Array.replicate_succ, Array.replicate_zero, List.push_toArray, List.append_toArray, List.nil_append, List.cons_append]
  gi_wp2_with (refine ⟨trivial, ?_⟩; gi_at_call 91; refine (down_in _ _ _ _ _).mono ?_; rintro e w' ⟨rfl, rfl⟩)
  have b0 := Boxed.new w 3 (.int .i64 0)
  have b1 := Boxed.new (w.alloc (.cells #[.int .i64 0] 3)) 23 (.slice A zs.length cap)
  simp only [World.size_alloc] at b1
  have hB0 : Below w.heap.size w ((w.alloc (.cells #[.int .i64 0] 3)).alloc (.cells #[.slice A zs.length cap] 23)) :=
    ((Below.refl _ w).alloc (Nat.le_refl _) _).alloc (by simp) _
  refine range_down (n := 6) (by omega) (Bs := w.heap.size + 1) (A := A) (cap := cap) (zs := zs) (by omega) rfl rfl (BitsI w zs (.slice A zs.length cap)) (BitsX w zs) ?hI ?hIx ?h0 ?hbox ?hcell
    (fun i x => { tmps := #[.slice A zs.length cap, undef, .pointer (some ⟨w.heap.size, 0, none⟩), .int .i64 (i : Int), .int .u32 (x : Int), .slice A zs.length cap,
      .func (.func 104) #[] #[.pointer (some ⟨w.heap.size + 1, 0, none⟩)], .int .i64 (i : Int), .int .u32 (x : Int), undef, undef, undef, undef, undef, undef, undef], defers := [] }) ?assign ?body ?done ?stop
  case hI =>
    rintro k X Y row ⟨h1, h2, h4, h5⟩ hg hr
    have hr' := fun r e => (hr r e).2
    exact ⟨h1, boxed_step h2 hg hr', boxed_step h4 hg hr', h5.grown hg h5.size (fun r e => by have := (hr r e).1; simp at this; omega)⟩
  case hIx =>
    rintro k X Y row ⟨h1, h2, h5⟩ hg hr
    have hr' := fun r e => (hr r e).2
    exact ⟨h1, fun i hi => by obtain ⟨x, e1, e2, e3⟩ := h2 i hi; exact ⟨x, e1, e2, boxed_step e3 hg hr'⟩, h5.grown hg h5.size (fun r e => by have := (hr r e).1; simp at this; omega)⟩
  case h0 => exact ⟨fun j x hj hx => by have := (List.getElem?_eq_some_iff.1 hx).1; omega, b0.alloc _, b1, hB0⟩
  case hbox => exact fun k W h => h.2.2.1.cell
  case hcell =>
    intro hz
    obtain ⟨b, off, rfl, hb⟩ := hR.addr hz
    exact ⟨b, off, rfl, fun k W i x hI hx => (hI.2.2.2.cell (p := ⟨b, off + i, none⟩) hb).trans (hR.cell hx)⟩
  case assign =>
    intro l i x W K hx hK
    gi_wp2
    exact hK
  case body =>
    rintro l k i x W hki hx ⟨h1, h2, h4, h5⟩
    have hc0 := h2.cell
    have hf0 := h2.frozen
    have hxb := get_lt hzb hx
    have hil : i < zs.length := by omega
    have Hx := Lib.hid hx
    have H1 := Lib.hid h1
    have Hki := Lib.hid hki
    clear hx h1 hki
    by_cases hx0 : x = 0
    · subst hx0
      gi_wp2
      refine ⟨KeepsFrom.refl _ _, fun j y hj hy => ?_, h2, h4, h5⟩
      by_cases hji : j = i
      · subst hji; rw [Hx.out] at hy; injection hy with hy; exact hy.symm
      · exact H1.out j y (by have := Hki.out; omega) hy
    · have hxb1 : ((x : Int) != 0) = true := by rw [bne_iff_ne]; omega
      have hxb2 : ((x : Int) == 0) = false := by rw [beq_eq_false_iff_ne]; omega
      have hbl : Lib.bitLen x ≤ 32 := Lib.bitLen_le x 32 (by omega) hxb
      gi_wp2_with (refine ⟨trivial, ?_⟩; gi_at_call 92; refine (CallsIn.inRound l (callsIn_wide.2 (len32_c _ x hxb))).mono ?_; rintro e w' ⟨rfl, rfl⟩)
      have ei : (i : Int) * 32 + (Lib.bitLen x : Int) = ((i * 32 + Lib.bitLen x : Nat) : Int) := by omega
      rw [ei]
      refine ⟨(KeepsOthers.setCell _ _ _).from _, H1.out, fun i' hi' => ?_, h5.setCell (p := ⟨w.heap.size, 0, none⟩) (by simp) _⟩
      obtain rfl : i' = i := by have := Hki.out; omega
      exact ⟨x, Hx.out, hx0, h2.set _⟩
  case done =>
    rintro D W hD ⟨h1, h2, h4, h5⟩ hK
    have hc0 := h2.cell
    have hf0 := h2.frozen
    have H1 := Lib.hid h1
    clear h1
    gi_wp2
    have hK' := (KeepsOthers.setCell W ⟨w.heap.size, 0, none⟩ (.int .i64 0)).same D _ hK rfl
    refine ⟨by simp, .inl ⟨_, _, rfl, run_takeDeferred hK', ?_⟩⟩
    have hc5 := (boxed_step (h2.set (.int .i64 0)) (grownBy_putObj' _ D (.deferred none)) (fun r e => by cases e; exact ⟨_, hK', rfl⟩)).cell
    refine ⟨.int .i64 0, by simp [results, Tryz.f65, go_sem, hc5], below_deferred (by simp at hD; omega) hK' (h5.setCell (p := ⟨w.heap.size, 0, none⟩) (by simp) _), 0, rfl, ?_⟩
    have hz : val 4294967296 zs = 0 := val_zeros fun x hx => by
      obtain ⟨j, hj⟩ := List.mem_iff_getElem?.1 hx
      exact H1.out j x (by omega) hj
    rw [hz]
    exact ⟨by decide, .inl rfl⟩
  case stop =>
    rintro D k W hD hk ⟨h1, h2, h5⟩ hK
    obtain ⟨x, hx, hx0, hb⟩ := h2 (zs.length - 1 - k) (by omega)
    obtain ⟨i, hi⟩ : ∃ i, zs.length - 1 - k = i := ⟨_, rfl⟩
    rw [hi] at hx hb
    have H1 := Lib.hid h1
    have Hx := Lib.hid hx
    have Hi := Lib.hid hi
    clear h1 h2 hx hi
    gi_wp2
    refine ⟨by simp, .inl ⟨_, _, rfl, run_takeDeferred hK, ?_⟩⟩
    have hc5 := (boxed_step hb (grownBy_putObj' _ D (.deferred none)) (fun r e => by cases e; exact ⟨_, hK, rfl⟩)).cell
    refine ⟨.int .i64 ((i * 32 + Lib.bitLen x : Nat) : Int), by simp [results, Tryz.f65, go_sem, hc5], below_deferred (by simp at hD; omega) hK h5, _, rfl, ?_⟩
    exact isBits_top Hx.out hzb hx0 (fun j y hj hy => H1.out j y (by have := Hi.out; omega) hy)
end Go.Proofs.YtnncfbmddpijcaaGreatDoor

/- How many noughts stand at the end of a number's bits. -/
namespace Go.Proofs.YtnncfbmddpijcaaGreatDoor
open Go Go.RowKit

/-- t noughts stand at the end; 0 of 0. -/
def IsTail (t x : Nat) : Prop := (x = 0 ∧ t = 0) ∨ ∃ m, x = 2 ^ t * (2 * m + 1)

def TailPost (w : World) (x : Nat) (e : Ending) (w' : World) : Prop := w = w' ∧ ∃ n : Nat, e = .returned (.int .i64 (n : Int)) ∧ IsTail n x

theorem ctz_spec {x : Nat} (hx : x < 4294967296) (h0 : x ≠ 0) : ∃ m, x = 2 ^ Lib.ctz 32 x * (2 * m + 1) := by
  unfold Lib.ctz
  rw [if_neg h0]
  obtain ⟨m, hm, _⟩ := Lib.ctzFrom_spec 32 x (by omega) (by omega)
  exact ⟨m, hm⟩
theorem ctz_lt {x : Nat} (hx : x < 4294967296) (h0 : x ≠ 0) : Lib.ctz 32 x < 32 := by
  unfold Lib.ctz
  rw [if_neg h0]
  obtain ⟨m, _, h⟩ := Lib.ctzFrom_spec 32 x (by omega) (by omega)
  exact h

theorem isTail_low {zs : List Nat} {i x : Nat} (hx : zs[i]? = some x) (hb : ∀ y ∈ zs, y < 4294967296) (h0 : x ≠ 0) (hz : ∀ (j y : Nat), j < i → zs[j]? = some y → y = 0) :
    IsTail (i * 32 + Lib.ctz 32 x) (val 4294967296 zs) := by
  have hi : i < zs.length := (List.getElem?_eq_some_iff.1 hx).1
  have hlow : val 4294967296 (zs.take i) = 0 := val_zeros fun y hy => by
    obtain ⟨j, hj⟩ := List.mem_iff_getElem?.1 hy
    rw [List.getElem?_take] at hj
    split at hj
    · exact hz j y (by assumption) hj
    · cases hj
  have hxb := get_lt hb hx
  obtain ⟨m, hm⟩ := ctz_spec hxb h0
  have hk := ctz_lt hxb h0
  generalize Lib.ctz 32 x = t at *
  refine .inr ⟨m + 2 ^ (31 - t) * val 4294967296 (zs.drop (i + 1)), ?_⟩
  rw [val_split _ zs i (by omega), hlow, drop_of_get hx, val_cons, pow_B, Nat.zero_add, Nat.pow_add, Nat.mul_assoc]
  congr 1
  generalize val 4294967296 (zs.drop (i + 1)) = V
  have e : (4294967296 : Nat) = 2 ^ t * (2 * 2 ^ (31 - t)) := by
    rw [← Nat.pow_succ', ← Nat.pow_add, show t + (31 - t).succ = 32 by omega]
  rw [e]
  have e2 : 2 ^ t * (2 * 2 ^ (31 - t)) * V = 2 ^ t * (2 * (2 ^ (31 - t) * V)) := by rw [Nat.mul_assoc, Nat.mul_assoc]
  rw [e2]
  have e3 : 2 * (m + 2 ^ (31 - t) * V) + 1 = (2 * m + 1) + 2 * (2 ^ (31 - t) * V) := by omega
  rw [e3, Nat.mul_add, ← hm]

set_option maxRecDepth 100000 in
set_option maxHeartbeats 1000000 in
theorem tail_c (w : World) (hT : Tab w) (v : Value) (zs : List Nat) (hR : Rd .u32 w v zs) (hzb : ∀ x ∈ zs, x < 4294967296) (hlen : zs.length ≤ 1000000) : Calls Tryz.prog 62 #[v] w (TailPost w (val 4294967296 zs)) := by
  obtain ⟨A, cap, rfl, hl⟩ := hR.form
  have HT := Lib.hid hT
  clear hT
  go_enter Tryz.func62, Tryz.ntmps62
  go_wp2
  go_loop [7] (fun i => ∃ k : Nat, k ≤ zs.length ∧ i = .int .i64 k ∧ Hid (∀ (j y : Nat), j < k → zs[j]? = some y → y = 0)) (fun i => zs.length - (intOf i).toNat)
  case atStart => exact ⟨0, Nat.zero_le _, rfl, fun j y h _ => absurd h (by omega)⟩
  case round =>
    obtain ⟨k, hk, rfl, hz⟩ := hrel
    by_cases hlt : k < zs.length
    · have hx : zs[k]? = some zs[k] := List.getElem?_eq_getElem hlt
      obtain ⟨x, hxx⟩ : ∃ x, zs[k] = x := ⟨_, rfl⟩
      rw [hxx] at hx
      clear hxx
      obtain ⟨b, off, rfl, _⟩ := hR.addr (by omega)
      have hc := hR.cell hx
      have hxb := get_lt hzb hx
      have Hx := Lib.hid hx
      clear hx
      by_cases h0 : x = 0
      · subst h0
        go_wp2
        go_round
        case rel =>
          refine ⟨k + 1, by omega, by go_num, fun j y hj hy => ?_⟩
          by_cases hjk : j = k
          · subst hjk; rw [Hx.out] at hy; injection hy with hy; exact hy.symm
          · exact hz.out j y (by omega) hy
        case measure => simp [intOf]; omega
      · have hb1 : ((x : Int) != 0) = true := by rw [bne_iff_ne]; omega
        have hb2 : ((x : Int) == 0) = false := by rw [beq_eq_false_iff_ne]; omega
        have ht := tz32_c w x hxb h0 HT.out
        have hs := isTail_low Hx.out hzb h0 hz.out
        have hk32 := ctz_lt hxb h0
        have Hs := Lib.hid hs
        clear hs
        generalize Lib.ctz 32 x = t at ht Hs hk32
        go_wp2_with (go_at_call 89; refine ht.mono ?_; rintro e w' ⟨rfl, rfl⟩)
        go_ret
        exact ⟨rfl, k * 32 + t, by go_num, Hs.out⟩
    · obtain rfl : k = zs.length := by omega
      have h0 : val 4294967296 zs = 0 := val_zeros fun y hy => by
        obtain ⟨j, hj⟩ := List.mem_iff_getElem?.1 hy
        exact hz.out j y (List.getElem?_eq_some_iff.1 hj).1 hj
      have H0 := Lib.hid h0
      clear h0
      go_wp2
      go_ret
      exact ⟨rfl, 0, rfl, .inl ⟨H0.out, rfl⟩⟩
end Go.Proofs.YtnncfbmddpijcaaGreatDoor

/- A number as one of 64 bits. -/
namespace Go.Proofs.YtnncfbmddpijcaaGreatDoor
open Go Go.RowKit Go.Shelf
attribute [local go_sem] Oper.semAt_some

/-- The number, or 0 and ErrLimbs. -/
def two64 : Nat := 18446744073709551616
def SmallPost (w : World) (x : Nat) (e : Ending) (w' : World) : Prop :=
  Below w.heap.size w w' ∧ ((x < two64 ∧ e = .returned (.tuple #[.int .u64 (x : Int), .int .i64 0])) ∨ (two64 ≤ x ∧ e = .returned (.tuple #[.int .u64 0, .int .i64 11])))

def SmallI (w1 : World) (zs : List Nat) (v : Value) (k : Nat) (W : World) : Prop :=
  ∃ n : Nat, (∀ i, k + i = zs.length → n = val 4294967296 (zs.drop i)) ∧ Boxed W w1.heap.size 65 (.int .u64 (n : Int)) ∧ Boxed W (w1.heap.size + 1) 23 v ∧ Below w1.heap.size w1 W

theorem isBits_small {n x : Nat} (h : IsBits n x) (hn : n ≤ 64) : x < two64 :=
  Nat.lt_of_lt_of_le h.1 (Nat.le_trans (Nat.pow_le_pow_right (by omega) hn) (by decide))
theorem isBits_great {n x : Nat} (h : IsBits n x) (hn : 64 < n) : two64 ≤ x := by
  rcases h.2 with e | e
  · omega
  · exact Nat.le_trans (Nat.le_trans (by decide) (Nat.pow_le_pow_right (show 0 < 2 by omega) (show 64 ≤ n - 1 by omega))) e

theorem val_drop_le {zs : List Nat} {i : Nat} (h : i ≤ zs.length) : val 4294967296 (zs.drop i) ≤ val 4294967296 zs := by
  rw [val_split 4294967296 zs i h]
  have : 1 ≤ 4294967296 ^ i := Nat.pow_pos (by omega)
  have := Nat.mul_le_mul_right (val 4294967296 (zs.drop i)) this
  omega

set_option maxRecDepth 100000 in
set_option maxHeartbeats 2000000 in
theorem small_c (w : World) (v : Value) (zs : List Nat) (hR : Rd .u32 w v zs) (hzb : ∀ x ∈ zs, x < 4294967296) (hlen : zs.length ≤ 1000000) : Calls Tryz.prog 67 #[v] w (SmallPost w (val 4294967296 zs)) := by
  obtain ⟨A, cap, rfl, hl⟩ := hR.form
  have hbits := bits_c w _ zs hR hzb hlen
  refine (callsIn_wide (n := 6)).1 ?_
  refine callsIn_of_wp_marks Tryz.func67 rfl trivial ?_ rfl
  simp only [Tryz.ntmps67, List.size_toArray, List.length_cons, List.length_nil, Nat.reduceAdd, Nat.reduceSub, Array.replicate_succ, Array.replicate_zero, List.push_toArray, List.append_toArray, List.nil_append, List.cons_append]
  gi_wp2_with fail
  refine ⟨trivial, ?_⟩
  refine (callsIn_wide.2 hbits).mono ?_
  rintro e w1 ⟨hB1, nb, rfl, hnb⟩
  clear hbits
  by_cases hgt : 64 < nb
  · gi_wp2_with fail
    exact ⟨.tuple #[.int .u64 0, .int .i64 11], by simp [results, Tryz.f67, go_sem], hB1, .inr ⟨isBits_great hnb hgt, rfl⟩⟩
  · have hsm := isBits_small hnb (by omega)
    have hR1 := hR.below hB1
    have Hnb := Lib.hid hnb
    clear hR hnb
    gi_wp2_with (refine ⟨trivial, ?_⟩; gi_at_call 91; refine (down_in _ _ _ _ _).mono ?_; rintro e w' ⟨rfl, rfl⟩)
    have b0 := Boxed.new w1 65 (.int .u64 0)
    have b1 := Boxed.new (w1.alloc (.cells #[.int .u64 0] 65)) 23 (.slice A zs.length cap)
    simp only [World.size_alloc] at b1
    have hB0 : Below w1.heap.size w1 ((w1.alloc (.cells #[.int .u64 0] 65)).alloc (.cells #[.slice A zs.length cap] 23)) :=
      ((Below.refl _ w1).alloc (Nat.le_refl _) _).alloc (by simp) _
    refine range_down (n := 6) (by omega) (Bs := w1.heap.size + 1) (A := A) (cap := cap) (zs := zs) (by omega) rfl rfl (SmallI w1 zs (.slice A zs.length cap)) (fun _ _ => False) ?hI ?hIx ?h0 ?hbox ?hcell
      (fun i x => { tmps := #[.slice A zs.length cap, undef, .int .u64 0, .int .i64 0, .pointer (some ⟨w1.heap.size, 0, none⟩), undef, .int .u32 (x : Int), .slice A zs.length cap, .int .i64 (nb : Int), .bool (decide ((64 : Int) < (nb : Int))), .slice A zs.length cap,
        .func (.func 104) #[] #[.pointer (some ⟨w1.heap.size + 1, 0, none⟩)], .int .i64 (i : Int), .int .u32 (x : Int), undef, undef, undef, undef, undef, undef], defers := [] }) ?assign ?body ?done ?stop
    case hI =>
      rintro k X Y row ⟨n, h1, h2, h4, h5⟩ hg hr
      have hr' := fun r e => (hr r e).2
      exact ⟨n, h1, boxed_step h2 hg hr', boxed_step h4 hg hr', h5.grown hg h5.size (fun r e => by have := (hr r e).1; simp at this; omega)⟩
    case hIx => exact fun _ _ _ _ h _ _ => h
    case h0 => exact ⟨0, fun i hi => by rw [List.drop_of_length_le (by omega)]; rfl, b0.alloc _, b1, hB0⟩
    case hbox => exact fun k W h => by obtain ⟨_, _, _, h, _⟩ := h; exact h.cell
    case hcell =>
      intro hz
      obtain ⟨b, off, rfl, hb⟩ := hR1.addr hz
      exact ⟨b, off, rfl, fun k W i x hI hx => by obtain ⟨_, _, _, _, h5⟩ := hI; exact (h5.cell (p := ⟨b, off + i, none⟩) hb).trans (hR1.cell hx)⟩
    case assign =>
      intro l i x W K hx hK
      gi_wp2
      exact hK
    case body =>
      rintro l k i x W hki hx ⟨n, h1, h2, h4, h5⟩
      have hc0 := h2.cell
      have hf0 := h2.frozen
      have hxb := get_lt hzb hx
      have hn := h1 (i + 1) (by omega)
      have hnew : val 4294967296 (zs.drop i) = x + 4294967296 * n := by rw [drop_of_get hx, val_cons, hn]
      have hle := val_drop_le (zs := zs) (i := i) (by omega)
      unfold two64 at hsm
      have hnb : n < 4294967296 := by omega
      have hor := or64 hnb hxb
      have Hn := Lib.hid hnew
      have Hki := Lib.hid hki
      clear hn hnew hx hki h1 hsm hle
      gi_wp2
      refine ⟨(KeepsOthers.setCell _ _ _).from _, ⟨n * 4294967296 + x, fun i' hi' => ?_, h2.set _, h4.other (by omega) _, h5.setCell (p := ⟨w1.heap.size, 0, none⟩) (Nat.le_refl _) _⟩⟩
      obtain rfl : i' = i := by have := Hki.out; omega
      rw [Hn.out]; omega
    case done =>
      rintro D W hD ⟨n, h1, h2, h4, h5⟩ hK
      have hn := h1 0 (by omega)
      rw [List.drop_zero] at hn
      subst hn
      have hc0 := h2.cell
      clear h1
      gi_wp2
      refine ⟨by simp, .inl ⟨_, _, rfl, run_takeDeferred hK, ?_⟩⟩
      exact ⟨.tuple #[.int .u64 (val 4294967296 zs : Int), .int .i64 0], by simp [results, Tryz.f67, go_sem], (hB1.trans (below_deferred (w := w1) (by simp at hD; omega) hK h5 |>.mono hB1.size)), .inl ⟨hsm, rfl⟩⟩
    case stop => exact fun _ _ _ _ _ h _ => h.elim
end Go.Proofs.YtnncfbmddpijcaaGreatDoor

/- Digits shifted to the left: one digit more. -/
namespace Go.Proofs.YtnncfbmddpijcaaGreatDoor
open Go Go.RowKit

theorem shl_lt {x b : Nat} (hx : x < 4294967296) : x * 2 ^ b < 4294967296 * 2 ^ b := Nat.mul_lt_mul_of_pos_right hx (Nat.pow_pos (by omega))
theorem pow_le31 {b : Nat} (hb : b < 32) : 2 ^ b ≤ 2147483648 := Nat.le_trans (Nat.pow_le_pow_right (by omega) (show b ≤ 31 by omega)) (by decide)
theorem shl_wrap {x b : Nat} (hx : x < 4294967296) (hb : b < 32) : IntKind.u64.wrap ((x : Int) * 2 ^ b) = ((x * 2 ^ b : Nat) : Int) := by
  have h1 := shl_lt (b := b) hx
  have h2 := pow_le31 hb
  have e : ((x * 2 ^ b : Nat) : Int) = (x : Int) * 2 ^ b := by rw [Int.natCast_mul, Int.natCast_pow]; rfl
  rw [wrap_u64', ← e]
  omega
theorem pow_split {b : Nat} (hb : b < 32) : (4294967296 : Nat) = 2 ^ b * 2 ^ (32 - b) := by rw [← Nat.pow_add, show b + (32 - b) = 32 by omega]
theorem shl_low_mod {x b : Nat} (hb : b < 32) : (x * 2 ^ b % 4294967296) % 2 ^ b = 0 := by
  have h : 2 ^ b ∣ 4294967296 := ⟨_, pow_split hb⟩
  rw [Nat.mod_mod_of_dvd _ h, Nat.mul_mod_left]
theorem shl_or {lo x b : Nat} (hx : x < 4294967296) (hb : b < 32) (hlo : lo < 2 ^ b) :
    bits BinOp.or IntKind.u32 (lo : Int) (IntKind.u64.wrap ((x : Int) * 2 ^ b) % 4294967296) = ((lo + x * 2 ^ b % 4294967296 : Nat) : Int) := by
  have h2 := pow_le31 hb
  rw [shl_wrap hx hb, show ((x * 2 ^ b : Nat) : Int) % 4294967296 = ((x * 2 ^ b % 4294967296 : Nat) : Int) by omega, u32_or_nat _ _ (by omega) (by omega), Nat.or_comm, nat_join b _ _ (shl_low_mod hb) hlo, Nat.add_comm]
theorem shl_high {x b : Nat} (hx : x < 4294967296) (hb : b < 32) : IntKind.u64.wrap ((x : Int) * 2 ^ b) / 4294967296 % 4294967296 = ((x * 2 ^ b / 4294967296 : Nat) : Int) := by
  have h1 := shl_lt (b := b) hx
  have h2 := pow_le31 hb
  rw [shl_wrap hx hb]; omega
theorem shl_sum_lt {lo x b : Nat} (hb : b < 32) (hlo : lo < 2 ^ b) : lo + x * 2 ^ b % 4294967296 < 4294967296 := by
  have h1 := shl_low_mod (x := x) hb
  have h3 := Nat.mod_lt (x * 2 ^ b) (show 4294967296 > 0 by omega)
  have h4 := pow_split hb
  generalize x * 2 ^ b % 4294967296 = l at *
  obtain ⟨q, rfl⟩ : ∃ q, l = 2 ^ b * q := ⟨l / 2 ^ b, by have := Nat.div_add_mod l (2 ^ b); omega⟩
  have hq : q < 2 ^ (32 - b) := Nat.lt_of_mul_lt_mul_left (a := 2 ^ b) (by omega)
  have := Nat.mul_le_mul_left (2 ^ b) (show q + 1 ≤ 2 ^ (32 - b) from hq)
  rw [Nat.mul_add, Nat.mul_one] at this
  omega
theorem shl_high_lt {x b : Nat} (hx : x < 4294967296) : x * 2 ^ b / 4294967296 < 2 ^ b := by
  rw [Nat.div_lt_iff_lt_mul (by omega), Nat.mul_comm (2 ^ b)]
  exact shl_lt (b := b) hx

def Shifted (w : World) (zs : List Nat) (n : Nat) (e : Ending) (w' : World) : Prop :=
  Below w.heap.size w w' ∧ ∃ (g : Nat) (ss : List Nat), e = .returned (.slice (some ⟨g, 0, none⟩) (zs.length + n / 32 + 1) (zs.length + n / 32 + 1)) ∧ w.heap.size ≤ g ∧ ss.length = zs.length + n / 32 + 1 ∧ (∀ x ∈ ss, x < 4294967296) ∧
    val 4294967296 ss = val 4294967296 zs * 2 ^ n ∧ Own .u32 85 w' g ss

set_option maxRecDepth 100000 in
set_option maxHeartbeats 2000000 in
theorem shifted_c (w : World) (v : Value) (zs : List Nat) (n : Nat) (hR : Rd .u32 w v zs) (hzb : ∀ x ∈ zs, x < 4294967296) (hlen : zs.length ≤ 1000000) (hn : n ≤ 20000) :
    Calls Tryz.prog 79 #[v, .int .i64 n] w (Shifted w zs n) := by
  obtain ⟨A, cap, rfl, hl⟩ := hR.form
  obtain ⟨sk, hsk⟩ : ∃ sk, n / 32 = sk := ⟨_, rfl⟩
  obtain ⟨by_, hby⟩ : ∃ by_, n % 32 = by_ := ⟨_, rfl⟩
  have e1 : (n : Int) / 32 = (sk : Int) := by omega
  have e2 : (n : Int) % 32 = (by_ : Int) := by omega
  have hsk' : sk ≤ 625 := by omega
  have hby' : by_ < 32 := by omega
  have hmk := make_nat (zs.length + sk + 1) ((zs.length : Int) + (sk : Int) + 1) (by omega) (by omega)
  go_enter Tryz.func79, Tryz.ntmps79
  go_wp2_with fail
  rw [e2]
  have hO := Own.new w .u32 85 (List.replicate (zs.length + sk + 1) 0)
  have hR1 := hR.below ((Below.refl _ w).alloc (Nat.le_refl _) (.cells (nums .u32 (List.replicate (zs.length + sk + 1) 0)) 85))
  have hna := hR.away (Nat.le_refl _)
  have Hsk := Lib.hid hsk
  have Hby := Lib.hid hby
  clear hmk e1 e2 hR hsk hby
  go_loopw [23] (fun i wr => ∃ (k : Nat) (ss : List Nat), k ≤ zs.length ∧ i = .int .i64 k ∧ Hid (ss.length = zs.length + sk + 1) ∧ (∀ x ∈ ss, x < 4294967296) ∧
      Hid (val 4294967296 ss = val 4294967296 (zs.take k) * 2 ^ n) ∧ Hid (∀ (j x : Nat), k + sk < j → ss[j]? = some x → x = 0) ∧ Hid (∀ x, ss[k + sk]? = some x → x < 2 ^ by_) ∧
      Own .u32 85 wr w.heap.size ss ∧ Only w.heap.size (w.alloc (.cells (nums .u32 (List.replicate (zs.length + sk + 1) 0)) 85)) wr)
    (fun i _ => zs.length - (intOf i).toNat)
  case atStart =>
    refine ⟨0, _, Nat.zero_le _, rfl, by simp [Hid], mem_replicate_lt, by simp [Hid, val_replicate], ?_, ?_, hO, Only.refl _ _⟩
    · intro j x _ hx
      exact List.eq_of_mem_replicate (List.mem_of_getElem? hx)
    · intro x hx
      rw [List.eq_of_mem_replicate (List.mem_of_getElem? hx)]
      exact Nat.pow_pos (by omega)
  case round =>
    obtain ⟨k, ss, hk, rfl, hl', hss, hv, hz, hlow, hO', hG⟩ := hrel
    by_cases hlk : k < zs.length
    · have hx : zs[k]? = some zs[k] := List.getElem?_eq_getElem hlk
      obtain ⟨x, hxx⟩ : ∃ x, zs[k] = x := ⟨_, rfl⟩
      rw [hxx] at hx
      clear hxx
      have hxb := get_lt hzb hx
      have hR2 := hR1.grown hG hna
      obtain ⟨b, off, rfl, _⟩ := hR2.addr (by omega)
      have hcx := hR2.cell hx
      have hs1 : k + sk < ss.length := by have := hl'.out; omega
      have hs2 : k + sk + 1 < ss.length := by have := hl'.out; omega
      have hg1 : ss[k + sk]? = some ss[k + sk] := List.getElem?_eq_getElem hs1
      obtain ⟨lo, hlo⟩ : ∃ lo, ss[k + sk] = lo := ⟨_, rfl⟩
      rw [hlo] at hg1
      clear hlo
      have hg2 : ss[k + sk + 1]? = some 0 := by
        rw [List.getElem?_eq_getElem hs2, hz.out (k + sk + 1) _ (by omega) (List.getElem?_eq_getElem hs2)]
      have hlob := hlow.out lo hg1
      have hlo32 := get_lt hss hg1
      have hcg1 := hO'.cell hg1
      have hcg2 := hO'.cell hg2
      have hfg1 := hO'.frozen (k + sk)
      have hfg2 := hO'.frozen (k + sk + 1)
      have Hx := Lib.hid hx
      have Hg1 := Lib.hid hg1
      have Hg2 := Lib.hid hg2
      clear hx hg1 hg2
      go_wp2_with fail
      go_roundw
      case rel =>
        rw [shl_or hxb hby' hlob, shl_high hxb hby']
        have hsum := shl_sum_lt (x := x) hby' hlob
        have hhi := shl_high_lt (b := by_) hxb
        have h31 := pow_le31 hby'
        have hset2 : (ss.set (k + sk) (lo + x * 2 ^ by_ % 4294967296))[k + sk + 1]? = some 0 := by
          rw [List.getElem?_set_ne (by omega)]; exact Hg2.out
        refine ⟨k + 1, (ss.set (k + sk) (lo + x * 2 ^ by_ % 4294967296)).set (k + sk + 1) (x * 2 ^ by_ / 4294967296), by omega, by go_num, by rw [Hid, List.length_set, List.length_set]; exact hl'.out,
          mem_set_lt (mem_set_lt hss hsum) (by omega), ?_, ?_, ?_, (hO'.set _ _).set _ _, (hG.set _ _).set _ _⟩
        · have v1 := val_set (B := 4294967296) (y := lo + x * 2 ^ by_ % 4294967296) Hg1.out
          have v2 := val_set (B := 4294967296) (y := x * 2 ^ by_ / 4294967296) hset2
          rw [Hid, val_take_succ Hx.out, Nat.add_mul, ← hv.out]
          have e1 : 2 ^ n = 4294967296 ^ sk * 2 ^ by_ := by rw [pow_B, ← Nat.pow_add, show sk * 32 + by_ = n by have := Hsk.out; have := Hby.out; omega]
          have e2 : 4294967296 ^ k * x * 2 ^ n = 4294967296 ^ (k + sk) * (x * 2 ^ by_) := by
            rw [e1, Nat.pow_add]
            have : 4294967296 ^ k * x * (4294967296 ^ sk * 2 ^ by_) = 4294967296 ^ k * 4294967296 ^ sk * (x * 2 ^ by_) := by
              rw [Nat.mul_assoc, Nat.mul_assoc, Nat.mul_left_comm x]
            exact this
          have e3 : 4294967296 ^ (k + sk) * (x * 2 ^ by_) = 4294967296 ^ (k + sk) * (x * 2 ^ by_ % 4294967296) + 4294967296 ^ (k + sk + 1) * (x * 2 ^ by_ / 4294967296) := by
            rw [Nat.pow_succ, Nat.mul_assoc, ← Nat.mul_add]
            congr 1
            have := Nat.div_add_mod (x * 2 ^ by_) 4294967296
            omega
          rw [e2, e3]
          rw [Nat.mul_add] at v1
          omega
        · intro j y hj hy
          rw [List.getElem?_set_ne (by omega), List.getElem?_set_ne (by omega)] at hy
          exact hz.out j y (by omega) hy
        · intro y hy
          rw [show k + 1 + sk = k + sk + 1 by omega, List.getElem?_set_self (by rw [List.length_set]; exact hs2)] at hy
          injection hy with hy
          omega
      case measure => simp [intOf]; omega
    · obtain rfl : k = zs.length := by omega
      go_wp2_with fail
      go_ret
      have hv' := hv.out
      rw [List.take_length] at hv'
      refine ⟨Only.below ((Below.refl _ w).alloc (Nat.le_refl _) _) hG (Nat.le_refl _), w.heap.size, ss, ?_, Nat.le_refl _, by rw [Hsk.out]; exact hl'.out, hss, hv', hO'⟩
      rw [Hsk.out]; rfl
end Go.Proofs.YtnncfbmddpijcaaGreatDoor

/- Times a power of 2. -/
namespace Go.Proofs.YtnncfbmddpijcaaGreatDoor
open Go Go.RowKit

/-- None and ErrRange, or what it is. -/
def LeftPost (w : World) (x : Nat) (n : Int) (e : Ending) (w' : World) : Prop :=
  (n < 0 ∧ e = .returned (.tuple #[.slice none 0 0, .int .i64 1]) ∧ Below w.heap.size w w') ∨ (0 ≤ n ∧ Below w.heap.size w w' ∧
    ((Lim ≤ x * 2 ^ n.toNat ∧ e = .returned (.tuple #[.slice none 0 0, .int .i64 11])) ∨ (x * 2 ^ n.toNat < Lim ∧ ∃ v, e = .returned (.tuple #[v, .int .i64 0]) ∧ NumV w' v (x * 2 ^ n.toNat))))

def maxB : Nat := 16384
theorem lim_pow : Lim = 2 ^ maxB := by
  unfold Lim
  rw [pow_B, show maxL * 32 = maxB from rfl]
theorem isBits_lim_gt {b x n : Nat} (h : IsBits b x) (h0 : b ≠ 0) (hn : 16384 < n + b) : Lim ≤ x * 2 ^ n := by
  rcases h.2 with e | e
  · exact absurd e h0
  · have h1 := Nat.mul_le_mul_right (2 ^ n) e
    rw [← Nat.pow_add] at h1
    rw [lim_pow]
    exact Nat.le_trans (Nat.pow_le_pow_right (by omega) (show maxB ≤ b - 1 + n by unfold maxB; omega)) h1
theorem isBits_lim_le {b x n : Nat} (h : IsBits b x) (hn : n + b ≤ 16384) : x * 2 ^ n < Lim := by
  have h1 := Nat.mul_lt_mul_of_pos_right h.1 (show 0 < 2 ^ n from Nat.pow_pos (by omega))
  rw [← Nat.pow_add] at h1
  rw [lim_pow]
  exact Nat.lt_of_lt_of_le h1 (Nat.pow_le_pow_right (by omega) (show b + n ≤ maxB by unfold maxB; omega))

set_option maxRecDepth 100000 in
set_option maxHeartbeats 2000000 in
theorem left_c (w : World) (v : Value) (zs : List Nat) (n : Int) (hR : Rd .u32 w v zs) (hzb : ∀ x ∈ zs, x < 4294967296) (hlen : zs.length ≤ 1000000) (hlo : -9223372036854775808 ≤ n) (hhi : n ≤ 9223372036854775807) :
    Calls Tryz.prog 46 #[v, .int .i64 n] w (LeftPost w (val 4294967296 zs) n) := by
  have hbits := bits_c w v zs hR hzb hlen
  by_cases hn : n < 0
  · clear hbits
    go_enter Tryz.func46, Tryz.ntmps46
    go_wp2_with fail
    go_ret2
    exact .inl ⟨hn, rfl, Below.refl _ _⟩
  · obtain ⟨m, rfl⟩ : ∃ m : Nat, n = (m : Int) := ⟨n.toNat, by omega⟩
    go_enter Tryz.func46, Tryz.ntmps46
    go_wp2_with fail
    refine hbits.mono ?_
    rintro e w1 ⟨hB1, b, rfl, hb⟩
    clear hbits
    have hbl : b ≤ 32000000 := by
      rcases Nat.lt_or_ge 32000000 b with h | h
      · exfalso
        have h1 := val_lt hzb
        rw [pow_B] at h1
        rcases hb.2 with e | e
        · omega
        · have := Nat.pow_le_pow_right (show 0 < 2 by omega) (show zs.length * 32 ≤ b - 1 by omega)
          omega
      · exact h
    by_cases hb0 : b = 0
    · have hx0 : val 4294967296 zs = 0 := by have := hb.1; rw [hb0] at this; simp at this; exact this
      have hb0' : ((b : Int) == 0) = true := by rw [beq_iff_eq]; omega
      have Hb0 := Lib.hid hb0
      clear hb0
      go_wp2_with fail
      go_ret2
      refine .inr ⟨by omega, hB1, .inr ⟨?_, _, rfl, ?_⟩⟩
      · rw [hx0, Nat.zero_mul]; exact Nat.pow_pos (by omega)
      · rw [hx0, Nat.zero_mul]; exact NumV.nil _
    · have hb0' : ((b : Int) == 0) = false := by rw [beq_eq_false_iff_ne]; omega
      by_cases hbig : 16384 < m + b
      · have hbig' : decide ((16384 : Int) - (b : Int) < (m : Int)) = true := by rw [decide_eq_true_iff]; omega
        have hl := isBits_lim_gt hb hb0 hbig
        have Hl := Lib.hid hl
        clear hl
        go_wp2_with fail
        go_ret2
        exact .inr ⟨by omega, hB1, .inl ⟨Hl.out, rfl⟩⟩
      · have hbig' : decide ((16384 : Int) - (b : Int) < (m : Int)) = false := by rw [decide_eq_false_iff_not]; omega
        have hl := isBits_lim_le hb (show m + b ≤ 16384 by omega)
        have Hl := Lib.hid hl
        have ht := trim_num w1 v zs (hR.below hB1) hzb
        clear hl
        go_wp2_with fail
        refine ht.mono ?_
        rintro e w2 ⟨v2, us, rfl, hR2, hC2, hv2, hl2, hB2⟩
        have hB12 := below_trans hB1 hB2
        have hs := shifted_c w2 v2 us m hR2 hC2.1 (by omega) (by omega)
        have Hv2 := Lib.hid hv2
        clear ht hv2
        go_wp2_with fail
        refine hs.mono ?_
        rintro e w3 ⟨hB3, g, ss, rfl, hg, hsl, hsb, hsv, hO⟩
        have hB13 := below_trans hB12 hB3
        have hRs := hO.whole (by omega)
        have hfit := fit_c _ _ _ hRs hsb
        rw [hsl] at hfit
        have e2 : val 4294967296 ss = val 4294967296 zs * 2 ^ m := by rw [hsv, Hv2.out]
        rw [e2] at hfit
        have HF := Lib.hid hfit
        clear hs hRs hfit e2 hsl hsv
        go_wp2_with fail
        refine HF.out.mono ?_
        rintro e w' ⟨hBf, hF⟩
        have hBf' := below_trans hB13 hBf
        rcases hF with ⟨hlim, v, rfl, hN⟩ | ⟨hlim, rfl⟩
        · go_wp2_with fail
          go_ret2
          exact .inr ⟨by omega, hBf', .inr ⟨hlim, v, rfl, hN⟩⟩
        · exact absurd Hl.out (Nat.not_lt.2 hlim)
end Go.Proofs.YtnncfbmddpijcaaGreatDoor

/- Divided by a power of 2, rounded down. -/
namespace Go.Proofs.YtnncfbmddpijcaaGreatDoor
open Go Go.RowKit

def RightPost (w : World) (x : Nat) (n : Int) (e : Ending) (w' : World) : Prop :=
  (n < 0 ∧ e = .returned (.tuple #[.slice none 0 0, .int .i64 1]) ∧ Below w.heap.size w w') ∨ (0 ≤ n ∧ Below w.heap.size w w' ∧ ∃ v, e = .returned (.tuple #[v, .int .i64 0]) ∧ NumV w' v (x / 2 ^ n.toNat))

theorem div_drop {zs : List Nat} (h : ∀ x ∈ zs, x < 4294967296) {i : Nat} (hi : i ≤ zs.length) : val 4294967296 zs / 4294967296 ^ i = val 4294967296 (zs.drop i) := by
  rw [val_split 4294967296 zs i hi]
  have hlow : val 4294967296 (zs.take i) < 4294967296 ^ i := by
    have := val_lt (B := 4294967296) (xs := zs.take i) (fun z hz => h z (List.mem_of_mem_take hz))
    rwa [List.length_take, Nat.min_eq_left hi] at this
  rw [Nat.add_mul_div_left _ _ (Nat.pow_pos (by omega)), Nat.div_eq_of_lt hlow, Nat.zero_add]

theorem mod_succ (X B k : Nat) : X % B ^ (k + 1) = X % B ^ k + B ^ k * (X / B ^ k % B) := by
  rw [Nat.pow_succ, Nat.mod_mul]

theorem drop_two (zs : List Nat) {i x : Nat} (hx : zs[i]? = some x) : ∃ T, val 4294967296 (zs.drop i) = x + 4294967296 * (zs[i + 1]?.getD 0 + 4294967296 * T) := by
  rw [drop_of_get hx, val_cons]
  rcases hg : zs[i + 1]? with _ | y
  · refine ⟨0, ?_⟩
    rw [List.drop_of_length_le (by simpa using hg)]; simp
  · exact ⟨val 4294967296 (zs.drop (i + 1 + 1)), by rw [drop_of_get hg, val_cons]; rfl⟩

/-- A digit of what is left of a shift. -/
theorem shr_digit {zs : List Nat} (h : ∀ x ∈ zs, x < 4294967296) {n sk b k x : Nat} (hn : n = 32 * sk + b) (hb : b < 32) (hx : zs[k + sk]? = some x) :
    val 4294967296 zs / 2 ^ n / 4294967296 ^ k % 4294967296 = (zs[k + sk + 1]?.getD 0 * 4294967296 + x) / 2 ^ b % 4294967296 := by
  have hi := (List.getElem?_eq_some_iff.1 hx).1
  have e1 : val 4294967296 zs / 2 ^ n / 4294967296 ^ k = val 4294967296 (zs.drop (k + sk)) / 2 ^ b := by
    rw [← div_drop h (by omega), Nat.div_div_eq_div_mul, Nat.div_div_eq_div_mul, hn, Nat.pow_add, Nat.pow_add]
    congr 1
    rw [Nat.mul_comm 32 sk, ← pow_B, Nat.mul_comm (4294967296 ^ k), Nat.mul_assoc, Nat.mul_assoc, Nat.mul_comm (2 ^ b)]
  obtain ⟨T, hT⟩ := drop_two zs hx
  rw [e1, hT]
  generalize zs[k + sk + 1]?.getD 0 = y
  have e2 : x + 4294967296 * (y + 4294967296 * T) = (y * 4294967296 + x) + 2 ^ b * (2 ^ (32 - b) * 4294967296 * T) := by
    have hp := pow_split hb
    rw [Nat.mul_add, ← Nat.mul_assoc, ← Nat.mul_assoc (2 ^ b), ← Nat.mul_assoc (2 ^ b), ← hp]; omega
  rw [e2, Nat.add_mul_div_left _ _ (Nat.pow_pos (by omega)), Nat.mul_right_comm, Nat.add_mul_mod_self_right]

theorem only_drewN' (g : Nat) (w : World) (n : Nat) : Only g w (w.drewN n) := ⟨rfl, rfl, rfl, Nat.le_refl _, fun _ _ _ => rfl⟩

theorem digit_q (w : World) (v : Value) (zs : List Nat) (h : Rd .u32 w v zs) (i : Nat) :
    Calls Tryz.prog 98 #[v, .int .i64 i] w fun e w' => e = .returned (.int .u32 ((zs[i]?.getD 0 : Nat) : Int)) ∧ w' = w :=
  (digit_c w v zs h i).mono fun _ _ h => ⟨h.1, h.2.symm⟩

set_option maxRecDepth 100000 in
set_option maxHeartbeats 1000000 in
theorem right_c (w : World) (v : Value) (zs : List Nat) (n : Int) (hR : Rd .u32 w v zs) (hzb : ∀ x ∈ zs, x < 4294967296) (hlen : zs.length ≤ 1000000) (hlo : -9223372036854775808 ≤ n) (hhi : n ≤ 9223372036854775807) (hfits : Hid (val 4294967296 zs / 2 ^ n.toNat < Lim)) :
    Calls Tryz.prog 90 #[v, .int .i64 n] w (RightPost w (val 4294967296 zs) n) := by
  by_cases hn : n < 0
  · go_enter Tryz.func90, Tryz.ntmps90
    go_wp2_with fail
    go_ret2
    exact .inl ⟨hn, rfl, Below.refl _ _⟩
  · obtain ⟨m, rfl⟩ : ∃ m : Nat, n = (m : Int) := ⟨n.toNat, by omega⟩
    have ht := trim_num w v zs hR hzb
    obtain ⟨sk, hsk⟩ : ∃ sk, m / 32 = sk := ⟨_, rfl⟩
    obtain ⟨by_, hby⟩ : ∃ by_, m % 32 = by_ := ⟨_, rfl⟩
    have e1 : (m : Int) / 32 = (sk : Int) := by omega
    have e2 : (m : Int) % 32 = (by_ : Int) := by omega
    have hmn : m = 32 * sk + by_ := by omega
    have hby' : by_ < 32 := by omega
    have hskm : sk ≤ m := by omega
    have Hmn := Lib.hid hmn
    clear hmn hsk hby
    go_enter Tryz.func90, Tryz.ntmps90
    go_wp2_with fail
    refine ht.mono ?_
    rintro e w1 ⟨v1, us, rfl, hR1, hC, hv, hl, hB1⟩
    obtain ⟨A, cap, rfl, _⟩ := hR1.form
    have Hv := Lib.hid hv
    have E2 := Lib.hid e2
    have hlu : us.length ≤ 1000000 := by omega
    clear ht hv e2
    by_cases hout : us.length ≤ sk
    · have hz : val 4294967296 zs / 2 ^ m = 0 := by
        rw [← Hv.out, Hmn.out, Nat.pow_add, Nat.mul_comm 32 sk, ← pow_B, ← Nat.div_div_eq_div_mul, Nat.div_eq_of_lt (Nat.lt_of_lt_of_le (val_lt hC.1) (Nat.pow_le_pow_right (by omega) hout)), Nat.zero_div]
      have Hz := Lib.hid hz
      clear hz
      go_wp2_with fail
      go_ret2
      refine .inr ⟨by omega, hB1, _, rfl, ?_⟩
      simp only [Int.toNat_natCast]
      rw [Hz.out]; exact NumV.nil _
    · have hmk := make_nat (us.length - sk) ((us.length : Int) - (sk : Int)) (by omega) (by omega)
      go_wp2_with fail
      rw [E2.out]
      have hO := Own.new w1 .u32 85 (List.replicate (us.length - sk) 0)
      have hBm := hB1.trans (((Below.refl _ w1).alloc (Nat.le_refl _) (.cells (nums .u32 (List.replicate (us.length - sk) 0)) 85)).mono hB1.size)
      have hRu := hR1.below ((Below.refl _ w1).alloc (Nat.le_refl _) (.cells (nums .u32 (List.replicate (us.length - sk) 0)) 85))
      have hna := hR1.away (Nat.le_refl _)
      have hgle := hB1.size
      clear hmk e1 hR1 hB1
      obtain ⟨L, hL⟩ : ∃ L, us.length - sk = L := ⟨_, rfl⟩
      have hLs : us.length = L + sk := by omega
      rw [hL] at hO hBm hRu ⊢
      have HL := Lib.hid hLs
      have hL1 : L ≤ 1000000 := by omega
      have hL2 : L + sk ≤ us.length := by omega
      clear hL hLs
      go_loopw [30] (fun i wr => ∃ (k : Nat) (ss : List Nat), k ≤ L ∧ i = .int .i64 k ∧ Hid (ss.length = L) ∧ (∀ x ∈ ss, x < 4294967296) ∧
          Hid (val 4294967296 (ss.take k) = val 4294967296 us / 2 ^ m % 4294967296 ^ k) ∧ Own .u32 85 wr w1.heap.size ss ∧ Only w1.heap.size (w1.alloc (.cells (nums .u32 (List.replicate L 0)) 85)) wr)
        (fun i _ => L - (intOf i).toNat)
      case atStart => exact ⟨0, _, Nat.zero_le _, rfl, by simp [Hid], mem_replicate_lt, by simp [Hid, Nat.mod_one], hO, Only.refl _ _⟩
      case round =>
        obtain ⟨k, ss, hk, rfl, hl', hss, hvs, hO', hG⟩ := hrel
        by_cases hlk : k < L
        · have hx : us[k + sk]? = some us[k + sk] := List.getElem?_eq_getElem (by omega)
          obtain ⟨x, hxx⟩ : ∃ x, us[k + sk] = x := ⟨_, rfl⟩
          rw [hxx] at hx
          clear hxx
          have hxb := get_lt hC.1 hx
          have hR2 := hRu.grown hG hna
          obtain ⟨b, off, rfl, _⟩ := hR2.addr (by omega)
          have hcx := hR2.cell hx
          have hks : k < ss.length := by have := hl'.out; omega
          have hcg := hO'.cell (List.getElem?_eq_getElem hks)
          have hfg := hO'.frozen k
          have hyb := digit_lt hC.1 (k + sk + 1)
          have hdig := fun W (hW : Rd .u32 W (.slice (some ⟨b, off, none⟩) us.length cap) us) => digit_q W _ us hW (k + sk + 1)
          have hstep := shr_digit hC.1 Hmn.out hby' hx
          have ei : ((k + sk + 1 : Nat) : Int) = (k : Int) + (sk : Int) + 1 := by omega
          rw [ei] at hdig
          generalize us[k + sk + 1]?.getD 0 = y at hyb hdig hstep
          have hor := or64 hyb hxb
          have hlt1 : (k : Int) + (sk : Int) < (us.length : Int) := by omega
          have hge1 : 0 ≤ (k : Int) + (sk : Int) := by omega
          have htn : ((k : Int) + (sk : Int)).toNat = k + sk := by omega
          have hdig' : ∀ q, Calls Tryz.prog 98 #[.slice (some ⟨b, off, none⟩) us.length cap, .int .i64 ((k : Int) + (sk : Int) + 1)] (wr.drewN q) fun e w' => e = .returned (.int .u32 (y : Int)) ∧ w' = wr.drewN q := fun q => hdig _ hR2
          have HD := Lib.hid hdig'
          have Hx := Lib.hid hx
          have Hst := Lib.hid hstep
          clear hdig hdig' hx hstep ei
          go_wp2_with fail
          go_quiet ((go_at_call 98; exact Calls.quiet_of_same (HD.out _)))
          go_wp2_with fail
          go_roundw
          case rel =>
            have es : ((y : Int) * 4294967296 + (x : Int)) / 2 ^ by_ % 4294967296 = (((y * 4294967296 + x) / 2 ^ by_ % 4294967296 : Nat) : Int) := by
              rw [Int.natCast_emod, Int.natCast_ediv, Int.natCast_pow, Int.natCast_add, Int.natCast_mul]; rfl
            rw [es]
            refine ⟨k + 1, ss.set k ((y * 4294967296 + x) / 2 ^ by_ % 4294967296), by omega, by go_num, by rw [Hid, List.length_set]; exact hl'.out, mem_set_lt hss (Nat.mod_lt _ (by omega)), ?_, (show Own .u32 85 (wr.drewN nq) _ ss from hO').set _ _, (hG.trans (only_drewN' _ _ _)).set _ _⟩
            rw [Hid, take_set_succ hks, hvs.out, mod_succ, Hst.out]
          case measure => simp [intOf]; omega
        · obtain rfl : k = L := by omega
          have hRs := hO'.whole (by have := hl'.out; omega)
          have hfit := fit_c _ _ _ hRs hss
          rw [hl'.out] at hfit
          have e2 : val 4294967296 ss = val 4294967296 zs / 2 ^ m := by
            have h := hvs.out
            rw [List.take_of_length_le (by have := hl'.out; omega)] at h
            rw [h, ← Hv.out, Nat.mod_eq_of_lt]
            rw [Hmn.out, Nat.pow_add, Nat.mul_comm 32 sk, ← pow_B, ← Nat.div_div_eq_div_mul]
            refine Nat.lt_of_le_of_lt (Nat.div_le_self _ _) ?_
            rw [Nat.div_lt_iff_lt_mul (Nat.pow_pos (by omega)), ← Nat.pow_add, ← HL.out]
            exact val_lt hC.1
          rw [e2] at hfit
          have hBx : Below w.heap.size w wr := hG.below hBm hgle
          have HF := Lib.hid hfit
          clear hRs hfit e2
          go_wp2_with fail
          refine HF.out.mono ?_
          rintro e w' ⟨hBf, hF⟩
          have hBf' := below_trans hBx hBf
          rcases hF with ⟨hlim, v, rfl, hN⟩ | ⟨hlim, rfl⟩
          · go_wp2_with fail
            go_ret2
            exact .inr ⟨by omega, hBf', v, rfl, by simpa using hN⟩
          · exact absurd hfits.out (Nat.not_lt.2 (by simpa using hlim))
end Go.Proofs.YtnncfbmddpijcaaGreatDoor
