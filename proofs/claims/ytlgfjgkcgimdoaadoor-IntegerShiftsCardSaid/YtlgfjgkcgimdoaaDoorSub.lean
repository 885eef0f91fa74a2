/- The first one less the second one. -/
import Derived.Test.YtlgfjgkcgimdoaaDoorAdd
import Derived.Test.YtlgfjgkcgimdoaaDoorCmp
namespace Go.Proofs.YtlgfjgkcgimdoaaDoor
open Go Go.RowKit

/-- None and ErrLess, or what is left. -/
def SubPost (w : World) (x y : Nat) (e : Ending) (w' : World) : Prop :=
  (x < y ∧ e = .returned (.tuple #[.slice none 0 0, .int .i64 12]) ∧ Below w.heap.size w w') ∨ (y ≤ x ∧ Fitted w (x - y) e w')

/-- One place more of a difference. -/
theorem less_step {B i s c' x y c : Nat} {S S' X Y : Nat} (h : S + Y = X + c * B ^ i) (hs : s + y + c = x + c' * B) (hS : S' = S + B ^ i * s) :
    S' + (Y + B ^ i * y) = (X + B ^ i * x) + c' * B ^ (i + 1) := by
  have h1 := congrArg (B ^ i * ·) hs
  simp only [Nat.mul_add] at h1
  rw [hS, Nat.pow_succ]
  have e1 : c' * (B ^ i * B) = B ^ i * (c' * B) := by rw [Nat.mul_comm (B ^ i) B, ← Nat.mul_assoc, Nat.mul_comm (c' * B)]
  have e3 : c * B ^ i = B ^ i * c := Nat.mul_comm _ _
  omega

theorem bor_step {x y c : Nat} (hx : x < 4294967296) (hy : y < 4294967296) (hc : c ≤ 1) : (x + 8589934592 - y - c) % 4294967296 + y + c = x + bor x y c * 4294967296 := by
  unfold bor
  by_cases h : x < y + c
  · rw [if_pos h]; omega
  · rw [if_neg h]; omega
theorem bor_le (x y c : Nat) : bor x y c ≤ 1 := by unfold bor; split <;> omega

set_option maxRecDepth 100000 in
set_option maxHeartbeats 2000000 in
theorem sub_c (w : World) (va vb : Value) (xs ys : List Nat) (ha : Rd .u32 w va xs) (hb : Rd .u32 w vb ys) (hxs : ∀ x ∈ xs, x < 4294967296) (hys : ∀ x ∈ ys, x < 4294967296)
    (hla : xs.length ≤ 1000000) (hlb : ys.length ≤ 1000000) :
    Calls Tryd.prog 47 #[va, vb] w (SubPost w (val 4294967296 xs) (val 4294967296 ys)) := by
  have hcmp := compare_c w va vb xs ys ha hb hxs hys hla hlb
  go_enter Tryd.func47, Tryd.ntmps47
  go_wp2_with fail
  refine hcmp.mono ?_
  rintro e w0 ⟨rfl, hB0⟩
  clear hcmp
  by_cases hlt : val 4294967296 xs < val 4294967296 ys
  · rw [ord3_lt hlt]
    go_wp2_with fail
    go_ret2
    exact .inl ⟨hlt, rfl, hB0⟩
  · have hge : 0 ≤ ord3 (val 4294967296 xs) (val 4294967296 ys) := by
      rcases Nat.lt_or_ge (val 4294967296 ys) (val 4294967296 xs) with h | h
      · rw [ord3_gt h]; omega
      · rw [show val 4294967296 xs = val 4294967296 ys by omega, ord3_eq]; omega
    have hdec : decide (ord3 (val 4294967296 xs) (val 4294967296 ys) < 0) = false := by rw [decide_eq_false_iff_not]; omega
    generalize ord3 (val 4294967296 xs) (val 4294967296 ys) = o at hge hdec ⊢
    have ht1 := trim_num w0 va xs (ha.below hB0) hxs
    have Hge := Lib.hid hlt
    clear hlt
    go_wp2_with fail
    refine ht1.mono ?_
    rintro e w1 ⟨v1, us, rfl, hR1, hC1, hv1, hl1, hB1⟩
    have hB01 := below_trans hB0 hB1
    have ht2 := trim_num w1 vb ys (hb.below hB01) hys
    clear ht1
    go_wp2_with fail
    refine ht2.mono ?_
    rintro e w2 ⟨v2, vs, rfl, hR2, hC2, hv2, hl2, hB2⟩
    have hRu := hR1.below hB2
    have hRv := hR2
    have hB := below_trans hB01 hB2
    obtain ⟨A1, c1, rfl, _⟩ := hRu.form
    obtain ⟨A2, c2, rfl, _⟩ := hRv.form
    have Hu := Lib.hid hv1
    have Hv := Lib.hid hv2
    have hlu : us.length ≤ 1000000 := by omega
    have hlv : vs.length ≤ 1000000 := by omega
    have hle : vs.length ≤ us.length := by
      rcases Nat.lt_or_ge us.length vs.length with h | h
      · exfalso
        have h1 := val_lt hC1.1
        have h2 := hC2.ge (by intro e; rw [e] at h; simp at h)
        have h3 := Nat.pow_le_pow_right (show 0 < 4294967296 by omega) (show us.length ≤ vs.length - 1 by omega)
        have := Hge.out
        omega
      · exact h
    have hmk := make_nat us.length (us.length : Int) rfl (by omega)
    clear ht2 hv1 hv2 hl1 hl2 hR1 hR2 hB1 hB2 ha hb hxs hys hla hlb hB0 hB01
    go_wp2_with fail
    clear hmk
    have hO := Own.new w2 .u32 57 (List.replicate us.length 0)
    have hBm := hB.trans (((Below.refl _ w2).alloc (Nat.le_refl _) (.cells (nums .u32 (List.replicate us.length 0)) 57)).mono hB.size)
    have hRu1 := hRu.below ((Below.refl _ w2).alloc (Nat.le_refl _) (.cells (nums .u32 (List.replicate us.length 0)) 57))
    have hRv1 := hRv.below ((Below.refl _ w2).alloc (Nat.le_refl _) (.cells (nums .u32 (List.replicate us.length 0)) 57))
    have hnu := hRu.away (Nat.le_refl _)
    have hnv := hRv.away (Nat.le_refl _)
    have hgle := hB.size
    clear hRu hRv hB
    go_loopw [7, 23] (fun c i wr => ∃ (k : Nat) (ss : List Nat) (cy : Nat), k ≤ us.length ∧ i = .int .i64 k ∧ c = .int .u32 cy ∧ cy ≤ 1 ∧ Hid (ss.length = us.length) ∧ (∀ x ∈ ss, x < 4294967296) ∧
        Hid (val 4294967296 (ss.take k) + val 4294967296 (vs.take k) = val 4294967296 (us.take k) + cy * 4294967296 ^ k) ∧ Own .u32 57 wr w2.heap.size ss ∧ Only w2.heap.size (w2.alloc (.cells (nums .u32 (List.replicate us.length 0)) 57)) wr)
      (fun _ i _ => us.length - (intOf i).toNat)
    case atStart => exact ⟨0, _, 0, Nat.zero_le _, rfl, rfl, by omega, by simp [Hid], mem_replicate_lt, by simp [Hid], hO, Only.refl _ _⟩
    case round =>
      obtain ⟨k, ss, cy, hk, rfl, rfl, hcy, hl', hss, hv, hO', hG⟩ := hrel
      by_cases hlk : k < us.length
      · have hx : us[k]? = some us[k] := List.getElem?_eq_getElem hlk
        obtain ⟨x, hxx⟩ : ∃ x, us[k] = x := ⟨_, rfl⟩
        rw [hxx] at hx
        clear hxx
        have hxb := get_lt hC1.1 hx
        have hRu2 := hRu1.grown hG hnu
        have hRv2 := hRv1.grown hG hnv
        obtain ⟨b, off, rfl, _⟩ := hRu2.addr (by omega)
        have hcx := hRu2.cell hx
        have hsl : k < ss.length := by have := hl'.out; omega
        have hs0 : ss[k]? = some ss[k] := List.getElem?_eq_getElem hsl
        have hcg := hO'.cell hs0
        have hfg := hO'.frozen k
        have Hx := Lib.hid hx
        clear hx hs0
        go_wp2_with fail
        refine (digit_c _ _ vs hRv2 k).mono ?_
        rintro e w' ⟨rfl, rfl⟩
        have hyb := digit_lt hC2.1 k
        have hvy := val_take_digit 4294967296 vs k
        have Hvy := Lib.hid hvy
        clear hvy
        generalize vs[k]?.getD 0 = y at hyb Hvy ⊢
        go_wp2_with fail
        refine (sub32_c _ x y cy hxb hyb hcy).mono ?_
        rintro e w' ⟨rfl, rfl⟩
        have Hb := Lib.hid (bor_step hxb hyb hcy)
        have hbl := bor_le x y cy
        generalize bor x y cy = c' at Hb hbl ⊢
        go_wp2_with fail
        go_roundw
        case rel =>
          refine ⟨k + 1, ss.set k ((x + 8589934592 - y - cy) % 4294967296), c', by omega, by go_num, rfl, hbl, by rw [Hid, List.length_set]; exact hl'.out, mem_set_lt hss (by omega), ?_, hO'.set _ _, Only.set hG _ _⟩
          have hst := less_step (s := (x + 8589934592 - y - cy) % 4294967296) (c' := c') (x := x) (y := y) hv.out Hb.out (take_set_succ hsl)
          rw [Hid, val_take_succ Hx.out, Hvy.out]; exact hst
        case measure => simp [intOf]; omega
      · obtain rfl : k = us.length := by omega
        have hRs := hO'.whole (by have := hl'.out; omega)
        have hfit := fit_c _ _ _ hRs hss
        rw [hl'.out] at hfit
        have e2 : val 4294967296 ss = val 4294967296 xs - val 4294967296 ys := by
          have h := hv.out
          have e1 : ss.take us.length = ss := List.take_of_length_le (by have := hl'.out; omega)
          rw [e1, List.take_length, List.take_of_length_le hle] at h
          have hlts := val_lt hss
          rw [hl'.out] at hlts
          have h0 : cy = 0 := by
            rcases Nat.eq_zero_or_pos cy with hc0 | hc0
            · exact hc0
            · exfalso
              have := Nat.mul_le_mul_right (4294967296 ^ us.length) hc0
              rw [Nat.one_mul] at this
              have := Hge.out; have := Hu.out; have := Hv.out
              omega
          rw [h0, Nat.zero_mul] at h
          have := Hu.out; have := Hv.out
          omega
        rw [e2] at hfit
        have hBx : Below w.heap.size w wr := hG.below hBm hgle
        have HF := Lib.hid hfit
        clear hRs hfit e2
        go_wp2_with fail
        refine HF.out.mono ?_
        rintro e w' ⟨hBf, hF⟩
        have hBf' := below_trans hBx hBf
        rcases hF with ⟨hlim, v, rfl, hN⟩ | ⟨hlim, rfl⟩
        · go_wp2_with fail
          go_ret2
          exact .inr ⟨by have := Hge.out; omega, hBf', .inl ⟨hlim, v, rfl, hN⟩⟩
        · go_wp2_with fail
          go_ret2
          exact .inr ⟨by have := Hge.out; omega, hBf', .inr ⟨hlim, rfl⟩⟩
end Go.Proofs.YtlgfjgkcgimdoaaDoor
