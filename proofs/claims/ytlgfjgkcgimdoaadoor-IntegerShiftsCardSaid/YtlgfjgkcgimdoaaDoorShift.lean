/- Digits shifted to the left: one digit more. -/
import Derived.Test.YtlgfjgkcgimdoaaDoorAdd
import Derived.Test.YtlgfjgkcgimdoaaDoorBits
namespace Go.Proofs.YtlgfjgkcgimdoaaDoor
open Go Go.RowKit

theorem shl_lt {x b : Nat} (hx : x < 4294967296) : x * 2 ^ b < 4294967296 * 2 ^ b := Nat.mul_lt_mul_of_pos_right hx (Nat.pow_pos (by omega))
theorem pow_le31 {b : Nat} (hb : b < 32) : 2 ^ b ≤ 2147483648 := Nat.le_trans (Nat.pow_le_pow_right (by omega) (show b ≤ 31 by omega)) (by decide)
theorem shl_wrap {x b : Nat} (hx : x < 4294967296) (hb : b < 32) : IntKind.u64.wrap ((x : Int) * 2 ^ b) = ((x * 2 ^ b : Nat) : Int) := by
  have h1 := shl_lt (b := b) hx
  have h2 := pow_le31 hb
  have e : ((x * 2 ^ b : Nat) : Int) = (x : Int) * 2 ^ b := by rw [Int.natCast_mul, Int.natCast_pow]; rfl
  rw [wrap_u64', ← e]
  omega
theorem pow_split {b : Nat} (hb : b < 32) : (4294967296 : Nat) = 2 ^ b * 2 ^ (32 - b) := by rw [← Nat.pow_add, show b + (32 - b) = 32 by omega]
theorem shl_low_mod {x b : Nat} (hb : b < 32) : (x * 2 ^ b % 4294967296) % 2 ^ b = 0 := by
  have h : 2 ^ b ∣ 4294967296 := ⟨_, pow_split hb⟩
  rw [Nat.mod_mod_of_dvd _ h, Nat.mul_mod_left]
theorem shl_or {lo x b : Nat} (hx : x < 4294967296) (hb : b < 32) (hlo : lo < 2 ^ b) :
    bits BinOp.or IntKind.u32 (lo : Int) (IntKind.u64.wrap ((x : Int) * 2 ^ b) % 4294967296) = ((lo + x * 2 ^ b % 4294967296 : Nat) : Int) := by
  have h2 := pow_le31 hb
  rw [shl_wrap hx hb, show ((x * 2 ^ b : Nat) : Int) % 4294967296 = ((x * 2 ^ b % 4294967296 : Nat) : Int) by omega, u32_or_nat _ _ (by omega) (by omega), Nat.or_comm, nat_join b _ _ (shl_low_mod hb) hlo, Nat.add_comm]
theorem shl_high {x b : Nat} (hx : x < 4294967296) (hb : b < 32) : IntKind.u64.wrap ((x : Int) * 2 ^ b) / 4294967296 % 4294967296 = ((x * 2 ^ b / 4294967296 : Nat) : Int) := by
  have h1 := shl_lt (b := b) hx
  have h2 := pow_le31 hb
  rw [shl_wrap hx hb]; omega
theorem shl_sum_lt {lo x b : Nat} (hb : b < 32) (hlo : lo < 2 ^ b) : lo + x * 2 ^ b % 4294967296 < 4294967296 := by
  have h1 := shl_low_mod (x := x) hb
  have h3 := Nat.mod_lt (x * 2 ^ b) (show 4294967296 > 0 by omega)
  have h4 := pow_split hb
  generalize x * 2 ^ b % 4294967296 = l at *
  obtain ⟨q, rfl⟩ : ∃ q, l = 2 ^ b * q := ⟨l / 2 ^ b, by have := Nat.div_add_mod l (2 ^ b); omega⟩
  have hq : q < 2 ^ (32 - b) := Nat.lt_of_mul_lt_mul_left (a := 2 ^ b) (by omega)
  have := Nat.mul_le_mul_left (2 ^ b) (show q + 1 ≤ 2 ^ (32 - b) from hq)
  rw [Nat.mul_add, Nat.mul_one] at this
  omega
theorem shl_high_lt {x b : Nat} (hx : x < 4294967296) : x * 2 ^ b / 4294967296 < 2 ^ b := by
  rw [Nat.div_lt_iff_lt_mul (by omega), Nat.mul_comm (2 ^ b)]
  exact shl_lt (b := b) hx

def Shifted (w : World) (zs : List Nat) (n : Nat) (e : Ending) (w' : World) : Prop :=
  Below w.heap.size w w' ∧ ∃ (g : Nat) (ss : List Nat), e = .returned (.slice (some ⟨g, 0, none⟩) (zs.length + n / 32 + 1) (zs.length + n / 32 + 1)) ∧ w.heap.size ≤ g ∧ ss.length = zs.length + n / 32 + 1 ∧ (∀ x ∈ ss, x < 4294967296) ∧
    val 4294967296 ss = val 4294967296 zs * 2 ^ n ∧ Own .u32 57 w' g ss

set_option maxRecDepth 100000 in
set_option maxHeartbeats 2000000 in
theorem shifted_c (w : World) (v : Value) (zs : List Nat) (n : Nat) (hR : Rd .u32 w v zs) (hzb : ∀ x ∈ zs, x < 4294967296) (hlen : zs.length ≤ 1000000) (hn : n ≤ 20000) :
    Calls Tryd.prog 29 #[v, .int .i64 n] w (Shifted w zs n) := by
  obtain ⟨A, cap, rfl, hl⟩ := hR.form
  obtain ⟨sk, hsk⟩ : ∃ sk, n / 32 = sk := ⟨_, rfl⟩
  obtain ⟨by_, hby⟩ : ∃ by_, n % 32 = by_ := ⟨_, rfl⟩
  have e1 : (n : Int) / 32 = (sk : Int) := by omega
  have e2 : (n : Int) % 32 = (by_ : Int) := by omega
  have hsk' : sk ≤ 625 := by omega
  have hby' : by_ < 32 := by omega
  have hmk := make_nat (zs.length + sk + 1) ((zs.length : Int) + (sk : Int) + 1) (by omega) (by omega)
  go_enter Tryd.func29, Tryd.ntmps29
  go_wp2_with fail
  rw [e2]
  have hO := Own.new w .u32 57 (List.replicate (zs.length + sk + 1) 0)
  have hR1 := hR.below ((Below.refl _ w).alloc (Nat.le_refl _) (.cells (nums .u32 (List.replicate (zs.length + sk + 1) 0)) 57))
  have hna := hR.away (Nat.le_refl _)
  have Hsk := Lib.hid hsk
  have Hby := Lib.hid hby
  clear hmk e1 e2 hR hsk hby
  go_loopw [23] (fun i wr => ∃ (k : Nat) (ss : List Nat), k ≤ zs.length ∧ i = .int .i64 k ∧ Hid (ss.length = zs.length + sk + 1) ∧ (∀ x ∈ ss, x < 4294967296) ∧
      Hid (val 4294967296 ss = val 4294967296 (zs.take k) * 2 ^ n) ∧ Hid (∀ (j x : Nat), k + sk < j → ss[j]? = some x → x = 0) ∧ Hid (∀ x, ss[k + sk]? = some x → x < 2 ^ by_) ∧
      Own .u32 57 wr w.heap.size ss ∧ Only w.heap.size (w.alloc (.cells (nums .u32 (List.replicate (zs.length + sk + 1) 0)) 57)) wr)
    (fun i _ => zs.length - (intOf i).toNat)
  case atStart =>
    refine ⟨0, _, Nat.zero_le _, rfl, by simp [Hid], mem_replicate_lt, by simp [Hid, val_replicate], ?_, ?_, hO, Only.refl _ _⟩
    · intro j x _ hx
      exact List.eq_of_mem_replicate (List.mem_of_getElem? hx)
    · intro x hx
      rw [List.eq_of_mem_replicate (List.mem_of_getElem? hx)]
      exact Nat.pow_pos (by omega)
  case round =>
    obtain ⟨k, ss, hk, rfl, hl', hss, hv, hz, hlow, hO', hG⟩ := hrel
    by_cases hlk : k < zs.length
    · have hx : zs[k]? = some zs[k] := List.getElem?_eq_getElem hlk
      obtain ⟨x, hxx⟩ : ∃ x, zs[k] = x := ⟨_, rfl⟩
      rw [hxx] at hx
      clear hxx
      have hxb := get_lt hzb hx
      have hR2 := hR1.grown hG hna
      obtain ⟨b, off, rfl, _⟩ := hR2.addr (by omega)
      have hcx := hR2.cell hx
      have hs1 : k + sk < ss.length := by have := hl'.out; omega
      have hs2 : k + sk + 1 < ss.length := by have := hl'.out; omega
      have hg1 : ss[k + sk]? = some ss[k + sk] := List.getElem?_eq_getElem hs1
      obtain ⟨lo, hlo⟩ : ∃ lo, ss[k + sk] = lo := ⟨_, rfl⟩
      rw [hlo] at hg1
      clear hlo
      have hg2 : ss[k + sk + 1]? = some 0 := by
        rw [List.getElem?_eq_getElem hs2, hz.out (k + sk + 1) _ (by omega) (List.getElem?_eq_getElem hs2)]
      have hlob := hlow.out lo hg1
      have hlo32 := get_lt hss hg1
      have hcg1 := hO'.cell hg1
      have hcg2 := hO'.cell hg2
      have hfg1 := hO'.frozen (k + sk)
      have hfg2 := hO'.frozen (k + sk + 1)
      have Hx := Lib.hid hx
      have Hg1 := Lib.hid hg1
      have Hg2 := Lib.hid hg2
      clear hx hg1 hg2
      go_wp2_with fail
      go_roundw
      case rel =>
        rw [shl_or hxb hby' hlob, shl_high hxb hby']
        have hsum := shl_sum_lt (x := x) hby' hlob
        have hhi := shl_high_lt (b := by_) hxb
        have h31 := pow_le31 hby'
        have hset2 : (ss.set (k + sk) (lo + x * 2 ^ by_ % 4294967296))[k + sk + 1]? = some 0 := by
          rw [List.getElem?_set_ne (by omega)]; exact Hg2.out
        refine ⟨k + 1, (ss.set (k + sk) (lo + x * 2 ^ by_ % 4294967296)).set (k + sk + 1) (x * 2 ^ by_ / 4294967296), by omega, by go_num, by rw [Hid, List.length_set, List.length_set]; exact hl'.out,
          mem_set_lt (mem_set_lt hss hsum) (by omega), ?_, ?_, ?_, (hO'.set _ _).set _ _, (hG.set _ _).set _ _⟩
        · have v1 := val_set (B := 4294967296) (y := lo + x * 2 ^ by_ % 4294967296) Hg1.out
          have v2 := val_set (B := 4294967296) (y := x * 2 ^ by_ / 4294967296) hset2
          rw [Hid, val_take_succ Hx.out, Nat.add_mul, ← hv.out]
          have e1 : 2 ^ n = 4294967296 ^ sk * 2 ^ by_ := by rw [pow_B, ← Nat.pow_add, show sk * 32 + by_ = n by have := Hsk.out; have := Hby.out; omega]
          have e2 : 4294967296 ^ k * x * 2 ^ n = 4294967296 ^ (k + sk) * (x * 2 ^ by_) := by
            rw [e1, Nat.pow_add]
            have : 4294967296 ^ k * x * (4294967296 ^ sk * 2 ^ by_) = 4294967296 ^ k * 4294967296 ^ sk * (x * 2 ^ by_) := by
              rw [Nat.mul_assoc, Nat.mul_assoc, Nat.mul_left_comm x]
            exact this
          have e3 : 4294967296 ^ (k + sk) * (x * 2 ^ by_) = 4294967296 ^ (k + sk) * (x * 2 ^ by_ % 4294967296) + 4294967296 ^ (k + sk + 1) * (x * 2 ^ by_ / 4294967296) := by
            rw [Nat.pow_succ, Nat.mul_assoc, ← Nat.mul_add]
            congr 1
            have := Nat.div_add_mod (x * 2 ^ by_) 4294967296
            omega
          rw [e2, e3]
          rw [Nat.mul_add] at v1
          omega
        · intro j y hj hy
          rw [List.getElem?_set_ne (by omega), List.getElem?_set_ne (by omega)] at hy
          exact hz.out j y (by omega) hy
        · intro y hy
          rw [show k + 1 + sk = k + sk + 1 by omega, List.getElem?_set_self (by rw [List.length_set]; exact hs2)] at hy
          injection hy with hy
          omega
      case measure => simp [intOf]; omega
    · obtain rfl : k = zs.length := by omega
      go_wp2_with fail
      go_ret
      have hv' := hv.out
      rw [List.take_length] at hv'
      refine ⟨Only.below ((Below.refl _ w).alloc (Nat.le_refl _) _) hG (Nat.le_refl _), w.heap.size, ss, ?_, Nat.le_refl _, by rw [Hsk.out]; exact hl'.out, hss, hv', hO'⟩
      rw [Hsk.out]; rfl
end Go.Proofs.YtlgfjgkcgimdoaaDoor

/- Times a power of 2. -/
namespace Go.Proofs.YtlgfjgkcgimdoaaDoor
open Go Go.RowKit

/-- None and ErrRange, or what it is. -/
def LeftPost (w : World) (x : Nat) (n : Int) (e : Ending) (w' : World) : Prop :=
  (n < 0 ∧ e = .returned (.tuple #[.slice none 0 0, .int .i64 1]) ∧ Below w.heap.size w w') ∨ (0 ≤ n ∧ Below w.heap.size w w' ∧
    ((Lim ≤ x * 2 ^ n.toNat ∧ e = .returned (.tuple #[.slice none 0 0, .int .i64 11])) ∨ (x * 2 ^ n.toNat < Lim ∧ ∃ v, e = .returned (.tuple #[v, .int .i64 0]) ∧ NumV w' v (x * 2 ^ n.toNat))))

def maxB : Nat := 16384
theorem lim_pow : Lim = 2 ^ maxB := by
  unfold Lim
  rw [pow_B, show maxL * 32 = maxB from rfl]
theorem isBits_lim_gt {b x n : Nat} (h : IsBits b x) (h0 : b ≠ 0) (hn : 16384 < n + b) : Lim ≤ x * 2 ^ n := by
  rcases h.2 with e | e
  · exact absurd e h0
  · have h1 := Nat.mul_le_mul_right (2 ^ n) e
    rw [← Nat.pow_add] at h1
    rw [lim_pow]
    exact Nat.le_trans (Nat.pow_le_pow_right (by omega) (show maxB ≤ b - 1 + n by unfold maxB; omega)) h1
theorem isBits_lim_le {b x n : Nat} (h : IsBits b x) (hn : n + b ≤ 16384) : x * 2 ^ n < Lim := by
  have h1 := Nat.mul_lt_mul_of_pos_right h.1 (show 0 < 2 ^ n from Nat.pow_pos (by omega))
  rw [← Nat.pow_add] at h1
  rw [lim_pow]
  exact Nat.lt_of_lt_of_le h1 (Nat.pow_le_pow_right (by omega) (show b + n ≤ maxB by unfold maxB; omega))

set_option maxRecDepth 100000 in
set_option maxHeartbeats 2000000 in
theorem left_c (w : World) (v : Value) (zs : List Nat) (n : Int) (hR : Rd .u32 w v zs) (hzb : ∀ x ∈ zs, x < 4294967296) (hlen : zs.length ≤ 1000000) (hlo : -9223372036854775808 ≤ n) (hhi : n ≤ 9223372036854775807) :
    Calls Tryd.prog 7 #[v, .int .i64 n] w (LeftPost w (val 4294967296 zs) n) := by
  have hbits := bits_c w v zs hR hzb hlen
  by_cases hn : n < 0
  · clear hbits
    go_enter Tryd.func7, Tryd.ntmps7
    go_wp2_with fail
    go_ret2
    exact .inl ⟨hn, rfl, Below.refl _ _⟩
  · obtain ⟨m, rfl⟩ : ∃ m : Nat, n = (m : Int) := ⟨n.toNat, by omega⟩
    go_enter Tryd.func7, Tryd.ntmps7
    go_wp2_with fail
    refine hbits.mono ?_
    rintro e w1 ⟨hB1, b, rfl, hb⟩
    clear hbits
    have hbl : b ≤ 32000000 := by
      rcases Nat.lt_or_ge 32000000 b with h | h
      · exfalso
        have h1 := val_lt hzb
        rw [pow_B] at h1
        rcases hb.2 with e | e
        · omega
        · have := Nat.pow_le_pow_right (show 0 < 2 by omega) (show zs.length * 32 ≤ b - 1 by omega)
          omega
      · exact h
    by_cases hb0 : b = 0
    · have hx0 : val 4294967296 zs = 0 := by have := hb.1; rw [hb0] at this; simp at this; exact this
      have hb0' : ((b : Int) == 0) = true := by rw [beq_iff_eq]; omega
      have Hb0 := Lib.hid hb0
      clear hb0
      go_wp2_with fail
      go_ret2
      refine .inr ⟨by omega, hB1, .inr ⟨?_, _, rfl, ?_⟩⟩
      · rw [hx0, Nat.zero_mul]; exact Nat.pow_pos (by omega)
      · rw [hx0, Nat.zero_mul]; exact NumV.nil _
    · have hb0' : ((b : Int) == 0) = false := by rw [beq_eq_false_iff_ne]; omega
      by_cases hbig : 16384 < m + b
      · have hbig' : decide ((16384 : Int) - (b : Int) < (m : Int)) = true := by rw [decide_eq_true_iff]; omega
        have hl := isBits_lim_gt hb hb0 hbig
        have Hl := Lib.hid hl
        clear hl
        go_wp2_with fail
        go_ret2
        exact .inr ⟨by omega, hB1, .inl ⟨Hl.out, rfl⟩⟩
      · have hbig' : decide ((16384 : Int) - (b : Int) < (m : Int)) = false := by rw [decide_eq_false_iff_not]; omega
        have hl := isBits_lim_le hb (show m + b ≤ 16384 by omega)
        have Hl := Lib.hid hl
        have ht := trim_num w1 v zs (hR.below hB1) hzb
        clear hl
        go_wp2_with fail
        refine ht.mono ?_
        rintro e w2 ⟨v2, us, rfl, hR2, hC2, hv2, hl2, hB2⟩
        have hB12 := below_trans hB1 hB2
        have hs := shifted_c w2 v2 us m hR2 hC2.1 (by omega) (by omega)
        have Hv2 := Lib.hid hv2
        clear ht hv2
        go_wp2_with fail
        refine hs.mono ?_
        rintro e w3 ⟨hB3, g, ss, rfl, hg, hsl, hsb, hsv, hO⟩
        have hB13 := below_trans hB12 hB3
        have hRs := hO.whole (by omega)
        have hfit := fit_c _ _ _ hRs hsb
        rw [hsl] at hfit
        have e2 : val 4294967296 ss = val 4294967296 zs * 2 ^ m := by rw [hsv, Hv2.out]
        rw [e2] at hfit
        have HF := Lib.hid hfit
        clear hs hRs hfit e2 hsl hsv
        go_wp2_with fail
        refine HF.out.mono ?_
        rintro e w' ⟨hBf, hF⟩
        have hBf' := below_trans hB13 hBf
        rcases hF with ⟨hlim, v, rfl, hN⟩ | ⟨hlim, rfl⟩
        · go_wp2_with fail
          go_ret2
          exact .inr ⟨by omega, hBf', .inr ⟨hlim, v, rfl, hN⟩⟩
        · exact absurd Hl.out (Nat.not_lt.2 hlim)
end Go.Proofs.YtlgfjgkcgimdoaaDoor
