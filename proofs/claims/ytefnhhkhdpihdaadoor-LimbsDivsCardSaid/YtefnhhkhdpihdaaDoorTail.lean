/- How many noughts stand at the end of a number's bits. -/
import Derived.Test.YtefnhhkhdpihdaaDoorBits
namespace Go.Proofs.YtefnhhkhdpihdaaDoor
open Go Go.RowKit

/-- t noughts stand at the end; 0 of 0. -/
def IsTail (t x : Nat) : Prop := (x = 0 ∧ t = 0) ∨ ∃ m, x = 2 ^ t * (2 * m + 1)

def TailPost (w : World) (x : Nat) (e : Ending) (w' : World) : Prop := w = w' ∧ ∃ n : Nat, e = .returned (.int .i64 (n : Int)) ∧ IsTail n x

theorem ctz_spec {x : Nat} (hx : x < 4294967296) (h0 : x ≠ 0) : ∃ m, x = 2 ^ Lib.ctz 32 x * (2 * m + 1) := by
  unfold Lib.ctz
  rw [if_neg h0]
  obtain ⟨m, hm, _⟩ := Lib.ctzFrom_spec 32 x (by omega) (by omega)
  exact ⟨m, hm⟩
theorem ctz_lt {x : Nat} (hx : x < 4294967296) (h0 : x ≠ 0) : Lib.ctz 32 x < 32 := by
  unfold Lib.ctz
  rw [if_neg h0]
  obtain ⟨m, _, h⟩ := Lib.ctzFrom_spec 32 x (by omega) (by omega)
  exact h

theorem isTail_low {zs : List Nat} {i x : Nat} (hx : zs[i]? = some x) (hb : ∀ y ∈ zs, y < 4294967296) (h0 : x ≠ 0) (hz : ∀ (j y : Nat), j < i → zs[j]? = some y → y = 0) :
    IsTail (i * 32 + Lib.ctz 32 x) (val 4294967296 zs) := by
  have hi : i < zs.length := (List.getElem?_eq_some_iff.1 hx).1
  have hlow : val 4294967296 (zs.take i) = 0 := val_zeros fun y hy => by
    obtain ⟨j, hj⟩ := List.mem_iff_getElem?.1 hy
    rw [List.getElem?_take] at hj
    split at hj
    · exact hz j y (by assumption) hj
    · cases hj
  have hxb := get_lt hb hx
  obtain ⟨m, hm⟩ := ctz_spec hxb h0
  have hk := ctz_lt hxb h0
  generalize Lib.ctz 32 x = t at *
  refine .inr ⟨m + 2 ^ (31 - t) * val 4294967296 (zs.drop (i + 1)), ?_⟩
  rw [val_split _ zs i (by omega), hlow, drop_of_get hx, val_cons, pow_B, Nat.zero_add, Nat.pow_add, Nat.mul_assoc]
  congr 1
  generalize val 4294967296 (zs.drop (i + 1)) = V
  have e : (4294967296 : Nat) = 2 ^ t * (2 * 2 ^ (31 - t)) := by
    rw [← Nat.pow_succ', ← Nat.pow_add, show t + (31 - t).succ = 32 by omega]
  rw [e]
  have e2 : 2 ^ t * (2 * 2 ^ (31 - t)) * V = 2 ^ t * (2 * (2 ^ (31 - t) * V)) := by rw [Nat.mul_assoc, Nat.mul_assoc]
  rw [e2]
  have e3 : 2 * (m + 2 ^ (31 - t) * V) + 1 = (2 * m + 1) + 2 * (2 ^ (31 - t) * V) := by omega
  rw [e3, Nat.mul_add, ← hm]

set_option maxRecDepth 100000 in
set_option maxHeartbeats 1000000 in
theorem tail_c (w : World) (hT : Tab w) (v : Value) (zs : List Nat) (hR : Rd .u32 w v zs) (hzb : ∀ x ∈ zs, x < 4294967296) (hlen : zs.length ≤ 1000000) : Calls Tryd.prog 32 #[v] w (TailPost w (val 4294967296 zs)) := by
  obtain ⟨A, cap, rfl, hl⟩ := hR.form
  have HT := Lib.hid hT
  clear hT
  go_enter Tryd.func32, Tryd.ntmps32
  go_wp2
  go_loop [7] (fun i => ∃ k : Nat, k ≤ zs.length ∧ i = .int .i64 k ∧ Hid (∀ (j y : Nat), j < k → zs[j]? = some y → y = 0)) (fun i => zs.length - (intOf i).toNat)
  case atStart => exact ⟨0, Nat.zero_le _, rfl, fun j y h _ => absurd h (by omega)⟩
  case round =>
    obtain ⟨k, hk, rfl, hz⟩ := hrel
    by_cases hlt : k < zs.length
    · have hx : zs[k]? = some zs[k] := List.getElem?_eq_getElem hlt
      obtain ⟨x, hxx⟩ : ∃ x, zs[k] = x := ⟨_, rfl⟩
      rw [hxx] at hx
      clear hxx
      obtain ⟨b, off, rfl, _⟩ := hR.addr (by omega)
      have hc := hR.cell hx
      have hxb := get_lt hzb hx
      have Hx := Lib.hid hx
      clear hx
      by_cases h0 : x = 0
      · subst h0
        go_wp2
        go_round
        case rel =>
          refine ⟨k + 1, by omega, by go_num, fun j y hj hy => ?_⟩
          by_cases hjk : j = k
          · subst hjk; rw [Hx.out] at hy; injection hy with hy; exact hy.symm
          · exact hz.out j y (by omega) hy
        case measure => simp [intOf]; omega
      · have hb1 : ((x : Int) != 0) = true := by rw [bne_iff_ne]; omega
        have hb2 : ((x : Int) == 0) = false := by rw [beq_eq_false_iff_ne]; omega
        have ht := tz32_c w x hxb h0 HT.out
        have hs := isTail_low Hx.out hzb h0 hz.out
        have hk32 := ctz_lt hxb h0
        have Hs := Lib.hid hs
        clear hs
        generalize Lib.ctz 32 x = t at ht Hs hk32
        go_wp2_with (go_at_call 72; refine ht.mono ?_; rintro e w' ⟨rfl, rfl⟩)
        go_ret
        exact ⟨rfl, k * 32 + t, by go_num, Hs.out⟩
    · obtain rfl : k = zs.length := by omega
      have h0 : val 4294967296 zs = 0 := val_zeros fun y hy => by
        obtain ⟨j, hj⟩ := List.mem_iff_getElem?.1 hy
        exact hz.out j y (List.getElem?_eq_some_iff.1 hj).1 hj
      have H0 := Lib.hid h0
      clear h0
      go_wp2
      go_ret
      exact ⟨rfl, 0, rfl, .inl ⟨H0.out, rfl⟩⟩
end Go.Proofs.YtefnhhkhdpihdaaDoor
