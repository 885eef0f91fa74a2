
/- What is answered: digits without noughts at the end, if they are not too many. -/
import Derived.Test.YtnncfbmddpijcaaGreatDoorTrim
import Derived.Test.YtnncfbmddpijcaaGreatDoorNum
import Derived.Test.YtnncfbmddpijcaaGreatDoorTake
import Derived.Deep.QuietTactic
import Derived.BigQuiet
namespace Go.Proofs.YtnncfbmddpijcaaGreatDoor
open Go Go.RowKit

/-- The number x stands in v. -/
def NumV (w : World) (v : Value) (x : Nat) : Prop := ∃ zs, Rd .u32 w v zs ∧ Can 4294967296 zs ∧ val 4294967296 zs = x
theorem NumV.below {w w' : World} {v : Value} {x : Nat} (h : NumV w v x) (hb : Below w.heap.size w w') : NumV w' v x := by
  obtain ⟨zs, h1, h2, h3⟩ := h
  exact ⟨zs, h1.below hb, h2, h3⟩
theorem NumV.nil (w : World) : NumV w (.slice none 0 0) 0 := ⟨[], Rd.nil _ _ _, Can.nil _, rfl⟩

def TrimNum (w : World) (zs : List Nat) (e : Ending) (w' : World) : Prop :=
  ∃ v zs', e = .returned v ∧ Rd .u32 w' v zs' ∧ Can 4294967296 zs' ∧ val 4294967296 zs' = val 4294967296 zs ∧ zs'.length ≤ zs.length ∧ Below w.heap.size w w'

theorem trim_num (w : World) (v : Value) (zs : List Nat) (hR : Rd .u32 w v zs) (hb : ∀ x ∈ zs, x < 4294967296) : Calls Tryz.prog 69 #[v] w (TrimNum w zs) := by
  refine (trim_c w v zs hR).mono ?_
  rintro e w' ⟨v', n, rfl, hn, hz, h0, hR', hB, _⟩
  exact ⟨v', zs.take n, rfl, hR', Can.take hb hn hz, val_take_zeros hn h0, by simp; omega, hB⟩

def TrimNil (w : World) (zs : List Nat) (e : Ending) (w' : World) : Prop :=
  ∃ v zs', e = .returned v ∧ Rd .u32 w' v zs' ∧ Can 4294967296 zs' ∧ val 4294967296 zs' = val 4294967296 zs ∧ zs'.length ≤ zs.length ∧ Below w.heap.size w w' ∧ (zs'.length = 0 → v = .slice none 0 0)

theorem trim_nil (w : World) (v : Value) (zs : List Nat) (hR : Rd .u32 w v zs) (hb : ∀ x ∈ zs, x < 4294967296) : Calls Tryz.prog 69 #[v] w (TrimNil w zs) := by
  refine (trim_c w v zs hR).mono ?_
  rintro e w' ⟨v', n, rfl, hn, hz, h0, hR', hB, hnil⟩
  exact ⟨v', zs.take n, rfl, hR', Can.take hb hn hz, val_take_zeros hn h0, by simp; omega, hB, fun hl => hnil (by rw [List.length_take] at hl; omega)⟩

/-- Numbers of at most MaxLimbs digits are less than this. -/
def maxL : Nat := 512
def Lim : Nat := 4294967296 ^ maxL
theorem len_of_lim {zs : List Nat} (h : Can 4294967296 zs) (hv : val 4294967296 zs < Lim) : zs.length ≤ 512 := h.len_le (n := maxL) (by omega) hv
theorem lim_of_len {zs : List Nat} (h : ∀ x ∈ zs, x < 4294967296) (hl : zs.length ≤ 512) : val 4294967296 zs < Lim :=
  Nat.lt_of_lt_of_le (val_lt h) (Nat.pow_le_pow_right (by omega) hl)
theorem lim_le_of_len {zs : List Nat} (h : Can 4294967296 zs) (hl : 512 < zs.length) : Lim ≤ val 4294967296 zs :=
  Nat.le_trans (Nat.pow_le_pow_right (by omega) (show maxL ≤ zs.length - 1 by unfold maxL; omega)) (h.ge (by intro e; rw [e] at hl; simp at hl))

/-- A number and no error, or none and ErrLimbs. -/
def Fitted (w : World) (x : Nat) (e : Ending) (w' : World) : Prop :=
  Below w.heap.size w w' ∧ ((x < Lim ∧ ∃ v, e = .returned (.tuple #[v, .int .i64 0]) ∧ NumV w' v x) ∨ (Lim ≤ x ∧ e = .returned (.tuple #[.slice none 0 0, .int .i64 11])))

set_option maxHeartbeats 400000 in
theorem fit_c (w : World) (v : Value) (zs : List Nat) (hR : Rd .u32 w v zs) (hb : ∀ x ∈ zs, x < 4294967296) : Calls Tryz.prog 73 #[v] w (Fitted w (val 4294967296 zs)) := by
  have ht := trim_num w v zs hR hb
  go_enter Tryz.func73, Tryz.ntmps73
  go_wp2_with fail
  refine ht.mono ?_
  rintro e w1 ⟨v1, ys, rfl, hR1, hC, hv, hl, hB⟩
  obtain ⟨A, cap, rfl, h1, h2, h3⟩ := id hR1
  have Hv := Lib.hid hv
  clear ht hv h3
  by_cases hlt : 512 < ys.length
  · go_wp2
    go_ret2
    exact ⟨hB, .inr ⟨by rw [← Hv.out]; exact lim_le_of_len hC hlt, rfl⟩⟩
  · go_wp2
    go_ret2
    exact ⟨hB, .inl ⟨by rw [← Hv.out]; exact lim_of_len hC.1 (by omega), _, rfl, ys, hR1, hC, Hv.out⟩⟩
end Go.Proofs.YtnncfbmddpijcaaGreatDoor

/- May a number be? A small number. -/
namespace Go.Proofs.YtnncfbmddpijcaaGreatDoor
open Go Go.RowKit

/-- What Check answers of digits. -/
def checkOf (zs : List Nat) : Int := if 512 < zs.length then 11 else if zs.getLast? = some 0 then 2 else 0
theorem checkOf_long {zs : List Nat} (h : 512 < zs.length) : checkOf zs = 11 := by unfold checkOf; rw [if_pos h]
theorem checkOf_form {zs : List Nat} (h : ¬ 512 < zs.length) (h' : zs.getLast? = some 0) : checkOf zs = 2 := by unfold checkOf; rw [if_neg h, if_pos h']
theorem checkOf_ok {zs : List Nat} (h : ¬ 512 < zs.length) (h' : zs.getLast? ≠ some 0) : checkOf zs = 0 := by unfold checkOf; rw [if_neg h, if_neg h']

set_option maxRecDepth 100000 in
set_option maxHeartbeats 400000 in
theorem check_c (w : World) (v : Value) (zs : List Nat) (hR : Rd .u32 w v zs) : Calls Tryz.prog 29 #[v] w fun e w' => e = .returned (.int .i64 (checkOf zs)) ∧ w = w' := by
  obtain ⟨A, cap, rfl, hl⟩ := hR.form
  by_cases h5 : 512 < zs.length
  · rw [checkOf_long h5]
    go_enter Tryz.func29, Tryz.ntmps29
    go_wp2
    go_ret
    exact ⟨rfl, rfl⟩
  · by_cases h0 : 0 < zs.length
    · obtain ⟨b, off, rfl, _⟩ := hR.addr h0
      have hx : zs[zs.length - 1]? = some zs[zs.length - 1] := List.getElem?_eq_getElem (by omega)
      obtain ⟨x, hxx⟩ : ∃ x, zs[zs.length - 1] = x := ⟨_, rfl⟩
      rw [hxx] at hx
      have hc := hR.cell hx
      have hlast : zs.getLast? = some x := by rw [List.getLast?_eq_getElem?]; exact hx
      clear hxx hx
      by_cases hx0 : x = 0
      · subst hx0
        rw [checkOf_form h5 hlast]
        clear hlast
        go_enter Tryz.func29, Tryz.ntmps29
        go_wp2
        go_ret
        exact ⟨rfl, rfl⟩
      · have hxb : ((x : Int) == 0) = false := by rw [beq_eq_false_iff_ne]; omega
        rw [checkOf_ok h5 (by rw [hlast]; simp; omega)]
        clear hlast
        go_enter Tryz.func29, Tryz.ntmps29
        go_wp2
        go_ret
        exact ⟨rfl, rfl⟩
    · have hz : zs = [] := List.eq_nil_of_length_eq_zero (by omega)
      subst hz
      rw [checkOf_ok h5 (by simp)]
      go_enter Tryz.func29, Tryz.ntmps29
      go_wp2
      go_ret
      exact ⟨rfl, rfl⟩

/-- A new number. -/
def NumNew (w : World) (x : Nat) (e : Ending) (w' : World) : Prop := Below w.heap.size w w' ∧ ∃ v, e = .returned v ∧ NumV w' v x

set_option maxHeartbeats 400000 in
theorem of_c (w : World) (n : Nat) (hn : n < 18446744073709551616) : Calls Tryz.prog 32 #[.int .u64 n] w (NumNew w n) := by
  go_enter Tryz.func32, Tryz.ntmps32
  go_wp2_with fail
  have e : (#[Value.int .u32 ((n : Int) % 4294967296), Value.int .u32 ((n : Int) / 4294967296)] : Array Value) = nums .u32 [n % 4294967296, n / 4294967296] := by simp [nums]
  rw [e]
  have hO := Own.new w .u32 85 [n % 4294967296, n / 4294967296]
  have hR := hO.whole (by simp)
  refine (trim_num _ _ _ hR (by intro x hx; simp at hx; omega)).mono ?_
  rintro e w' ⟨v, zs, rfl, hR', hC, hv, _, hB⟩
  have hB' := below_trans ((Below.refl _ w).alloc (Nat.le_refl _) _) hB
  have Hv := Lib.hid hv
  clear hv hO hR e
  go_wp2_with fail
  go_ret
  refine ⟨hB', v, rfl, zs, hR', hC, ?_⟩
  rw [Hv.out]
  simp; omega
end Go.Proofs.YtnncfbmddpijcaaGreatDoor

/- Both together. -/
namespace Go.Proofs.YtnncfbmddpijcaaGreatDoor
open Go Go.RowKit

theorem info_u32 : (Tryz.prog.info? 85).map (fun i => (i.zero, i.size, i.bytes)) = some (some (.int .u32 0), 1, 4) := by kernel_rfl

theorem make_nat (n : Nat) (z : Int) (hz : z = (n : Int)) (hn : n ≤ 2000000) (w : World) :
    (Instr.makeSlice 23 (.int .i64 z) (.int .i64 z)).run Tryz.prog w = .ok (.slice (some ⟨w.heap.size, 0, none⟩) n n) (w.alloc (.cells (nums .u32 (List.replicate n 0)) 85)) :=
  run_make_nums 23 85 .u32 4 Tryz.underlying23 info_u32 n z hz (by omega) (by omega) w

theorem digit_lt {zs : List Nat} (h : ∀ x ∈ zs, x < 4294967296) (i : Nat) : zs[i]?.getD 0 < 4294967296 := by
  rcases hg : zs[i]? with _ | x
  · simp
  · exact get_lt h hg
theorem val_take_digit (B : Nat) (zs : List Nat) (i : Nat) : val B (zs.take (i + 1)) = val B (zs.take i) + B ^ i * zs[i]?.getD 0 := by
  rcases hg : zs[i]? with _ | x
  · have : zs.length ≤ i := by simpa using hg
    rw [List.take_of_length_le (by omega), List.take_of_length_le this]; simp
  · exact val_take_succ hg

theorem mem_replicate_lt {n : Nat} : ∀ x ∈ List.replicate n 0, x < 4294967296 := fun x hx => by
  have := List.eq_of_mem_replicate hx; omega

/-- One place more of a sum. -/
theorem plus_step {B i s c' x y c : Nat} {S S' X Y : Nat} (h : S + c * B ^ i = X + Y) (hs : s + c' * B = x + y + c) (hS : S' = S + B ^ i * s) :
    S' + c' * B ^ (i + 1) = (X + B ^ i * x) + (Y + B ^ i * y) := by
  have h1 := congrArg (B ^ i * ·) hs
  simp only [Nat.mul_add] at h1
  rw [hS, Nat.pow_succ]
  have e1 : c' * (B ^ i * B) = B ^ i * (c' * B) := by rw [Nat.mul_comm (B ^ i) B, ← Nat.mul_assoc, Nat.mul_comm (c' * B)]
  have e3 : c * B ^ i = B ^ i * c := Nat.mul_comm _ _
  omega

set_option maxRecDepth 100000 in
set_option maxHeartbeats 2000000 in
theorem add_c (w : World) (va vb : Value) (xs ys : List Nat) (ha : Rd .u32 w va xs) (hb : Rd .u32 w vb ys) (hxs : ∀ x ∈ xs, x < 4294967296) (hys : ∀ x ∈ ys, x < 4294967296)
    (hla : xs.length ≤ 1000000) (hlb : ys.length ≤ 1000000) :
    Calls Tryz.prog 75 #[va, vb] w (Fitted w (val 4294967296 xs + val 4294967296 ys)) := by
  have ht1 := trim_num w va xs ha hxs
  go_enter Tryz.func75, Tryz.ntmps75
  go_wp2_with fail
  refine ht1.mono ?_
  rintro e w1 ⟨v1, xs', rfl, hR1, hC1, hv1, hl1, hB1⟩
  have ht2 := trim_num w1 vb ys (hb.below hB1) hys
  clear ht1
  go_wp2_with fail
  refine ht2.mono ?_
  rintro e w2 ⟨v2, ys', rfl, hR2, hC2, hv2, hl2, hB2⟩
  have hR1' := hR1.below hB2
  have hB := below_trans hB1 hB2
  obtain ⟨A1, c1, rfl, _⟩ := hR1'.form
  obtain ⟨A2, c2, rfl, _⟩ := hR2.form
  have Hs : Hid (val 4294967296 xs' + val 4294967296 ys' = val 4294967296 xs + val 4294967296 ys) := by rw [Hid, hv1, hv2]
  have hl1' : xs'.length ≤ 1000000 := by omega
  have hl2' : ys'.length ≤ 1000000 := by omega
  clear ht2 hv1 hv2 hl1 hl2 hR1 hB1 hB2 ha hb hxs hys hla hlb
  by_cases hsw : xs'.length < ys'.length
  focus
    have Hs' : Hid (val 4294967296 ys' + val 4294967296 xs' = val 4294967296 xs + val 4294967296 ys) := by rw [Hid, ← Hs.out, Nat.add_comm]
    have hlt : xs'.length ≤ ys'.length := by omega
    have hmk := make_nat (ys'.length + 1) ((ys'.length : Int) + 1) (by omega) (by omega)
    go_wp2_with fail
    clear hmk Hs hsw hl1'
    obtain ⟨us, hus⟩ : ∃ us, us = ys' := ⟨_, rfl⟩
    subst hus
    obtain ⟨vs, hvs⟩ : ∃ vs, vs = xs' := ⟨_, rfl⟩
    subst hvs
    have hRu := hR2
    have hRv := hR1'
    have hCu := hC2
    have hCv := hC1
    have hlu := hl2'
    clear hR1' hR2 hC1 hC2 hl2'
  rotate_left
  focus
    have Hs' : Hid (val 4294967296 xs' + val 4294967296 ys' = val 4294967296 xs + val 4294967296 ys) := Hs
    have hlt : ys'.length ≤ xs'.length := by omega
    have hmk := make_nat (xs'.length + 1) ((xs'.length : Int) + 1) (by omega) (by omega)
    go_wp2_with fail
    clear hmk Hs hsw hl2'
    obtain ⟨us, hus⟩ : ∃ us, us = xs' := ⟨_, rfl⟩
    subst hus
    obtain ⟨vs, hvs⟩ : ∃ vs, vs = ys' := ⟨_, rfl⟩
    subst hvs
    have hRu := hR1'
    have hRv := hR2
    have hCu := hC1
    have hCv := hC2
    have hlu := hl1'
    clear hR1' hR2 hC1 hC2 hl1'
  all_goals
    have hO := Own.new w2 .u32 85 (List.replicate (us.length + 1) 0)
    have hBm := hB.trans (((Below.refl _ w2).alloc (Nat.le_refl _) (.cells (nums .u32 (List.replicate (us.length + 1) 0)) 85)).mono hB.size)
    have hRu1 := hRu.below ((Below.refl _ w2).alloc (Nat.le_refl _) (.cells (nums .u32 (List.replicate (us.length + 1) 0)) 85))
    have hRv1 := hRv.below ((Below.refl _ w2).alloc (Nat.le_refl _) (.cells (nums .u32 (List.replicate (us.length + 1) 0)) 85))
    have hnu := hRu.away (Nat.le_refl _)
    have hnv := hRv.away (Nat.le_refl _)
    have hgle := hB.size
    clear hRu hRv hB
    go_loopw [7, 27] (fun c i wr => ∃ (k : Nat) (ss : List Nat) (cy : Nat), k ≤ us.length ∧ i = .int .i64 k ∧ c = .int .u32 cy ∧ cy ≤ 1 ∧ Hid (ss.length = us.length + 1) ∧ (∀ x ∈ ss, x < 4294967296) ∧
        Hid (val 4294967296 (ss.take k) + cy * 4294967296 ^ k = val 4294967296 (us.take k) + val 4294967296 (vs.take k)) ∧ Own .u32 85 wr w2.heap.size ss ∧ Only w2.heap.size (w2.alloc (.cells (nums .u32 (List.replicate (us.length + 1) 0)) 85)) wr)
      (fun _ i _ => us.length - (intOf i).toNat)
    case atStart => exact ⟨0, _, 0, Nat.zero_le _, rfl, rfl, by omega, by simp [Hid], mem_replicate_lt, by simp [Hid], hO, Only.refl _ _⟩
    case round =>
      obtain ⟨k, ss, cy, hk, rfl, rfl, hcy, hl', hss, hv, hO', hG⟩ := hrel
      by_cases hlk : k < us.length
      · have hx : us[k]? = some us[k] := List.getElem?_eq_getElem hlk
        obtain ⟨x, hxx⟩ : ∃ x, us[k] = x := ⟨_, rfl⟩
        rw [hxx] at hx
        clear hxx
        have hxb := get_lt hCu.1 hx
        have hRu2 := hRu1.grown hG hnu
        have hRv2 := hRv1.grown hG hnv
        obtain ⟨b, off, rfl, _⟩ := hRu2.addr (by omega)
        have hcx := hRu2.cell hx
        have hsl : k < ss.length := by have := hl'.out; omega
        have hs0 : ss[k]? = some ss[k] := List.getElem?_eq_getElem hsl
        have hcg := hO'.cell hs0
        have hfg := hO'.frozen k
        have Hx := Lib.hid hx
        clear hx hs0
        go_wp2_with fail
        refine (digit_c _ _ vs hRv2 k).mono ?_
        rintro e w' ⟨rfl, rfl⟩
        have hyb := digit_lt hCv.1 k
        have hvy := val_take_digit 4294967296 vs k
        have Hvy := Lib.hid hvy
        clear hvy
        generalize vs[k]?.getD 0 = y at hyb Hvy ⊢
        go_wp2_with fail
        refine (add32_c _ x y cy hxb hyb hcy).mono ?_
        rintro e w' ⟨rfl, rfl⟩
        go_wp2_with fail
        go_roundw
        case rel =>
          refine ⟨k + 1, ss.set k ((x + y + cy) % 4294967296), (x + y + cy) / 4294967296, by omega, by go_num, rfl, by omega, by rw [Hid, List.length_set]; exact hl'.out, mem_set_lt hss (by omega), ?_, hO'.set _ _, Only.set hG _ _⟩
          have hst := plus_step (s := (x + y + cy) % 4294967296) (c' := (x + y + cy) / 4294967296) (x := x) (y := y) hv.out (by omega) (take_set_succ hsl)
          rw [Hid, hst, val_take_succ Hx.out, Hvy.out]
        case measure => simp [intOf]; omega
      · obtain rfl : k = us.length := by omega
        have hsl : us.length < ss.length := by have := hl'.out; omega
        have hs0 : ss[us.length]? = some ss[us.length] := List.getElem?_eq_getElem hsl
        have hcg := hO'.cell hs0
        have hfg := hO'.frozen us.length
        have hvs := take_set_succ (B := 4294967296) (y := cy) hsl
        rw [List.take_of_length_le (by rw [List.length_set]; have := hl'.out; omega)] at hvs
        have hO2 := hO'.set us.length cy
        have hRs := hO2.whole (by rw [List.length_set]; have := hl'.out; omega)
        have hfit := fit_c _ _ _ hRs (mem_set_lt hss (by omega))
        have e1 : (ss.set us.length cy).length = us.length + 1 := by rw [List.length_set]; exact hl'.out
        rw [e1] at hfit
        have e2 : val 4294967296 (ss.set us.length cy) = val 4294967296 xs + val 4294967296 ys := by
          rw [hvs, ← Hs'.out]
          have h := hv.out
          rw [List.take_length, List.take_of_length_le hlt] at h
          rw [Nat.mul_comm]; exact h
        rw [e2] at hfit
        have hBx : Below w.heap.size w (wr.setCell ⟨w2.heap.size, us.length, none⟩ (.int .u32 (cy : Int))) := (Only.set hG us.length (.int .u32 (cy : Int))).below hBm hgle
        have HF := Lib.hid hfit
        clear hs0 hvs hO2 hRs hfit e1 e2
        go_wp2_with fail
        refine HF.out.mono ?_
        rintro e w' ⟨hBf, hF⟩
        have hBf' := below_trans hBx hBf
        rcases hF with ⟨hlim, v, rfl, hN⟩ | ⟨hlim, rfl⟩
        · go_wp2_with fail
          go_ret2
          exact ⟨hBf', .inl ⟨hlim, v, rfl, hN⟩⟩
        · go_wp2_with fail
          go_ret2
          exact ⟨hBf', .inr ⟨hlim, rfl⟩⟩
end Go.Proofs.YtnncfbmddpijcaaGreatDoor

/- One times the other. -/
namespace Go.Proofs.YtnncfbmddpijcaaGreatDoor
open Go Go.RowKit

theorem mul_lim {us vs : List Nat} (hu : Can 4294967296 us) (hv : Can 4294967296 vs) (h0 : us ≠ []) (h1 : vs ≠ []) (hl : 512 < us.length + vs.length - 1) : Lim ≤ val 4294967296 us * val 4294967296 vs := by
  have a := Nat.mul_le_mul (hu.ge h0) (hv.ge h1)
  rw [← Nat.pow_add] at a
  have : 0 < us.length := List.length_pos_iff.2 h0
  have : 0 < vs.length := List.length_pos_iff.2 h1
  exact Nat.le_trans (Nat.pow_le_pow_right (by omega) (show maxL ≤ us.length - 1 + (vs.length - 1) by unfold maxL; omega)) a

/-- One row more of a product. -/
theorem row_step {B k x c vp vm vm' V U : Nat} {lv : Nat} (h : vp + B ^ k * vm = U * V) (h' : vm' + c * B ^ lv = vm + x * V) : vp + B ^ k * (vm' + B ^ lv * c) = (U + B ^ k * x) * V := by
  have e : vm' + B ^ lv * c = vm + x * V := by rw [Nat.mul_comm]; exact h'
  rw [e, Nat.mul_add, Nat.add_mul, ← h, Nat.mul_assoc]; omega

theorem replicate_pos {n : Nat} (h : 0 < n) : List.replicate n 0 = (0 : Nat) :: List.replicate (n - 1) 0 := by
  obtain ⟨m, rfl⟩ : ∃ m, n = m + 1 := ⟨n - 1, by omega⟩
  simp [List.replicate_succ]

set_option maxRecDepth 100000 in
set_option maxHeartbeats 2000000 in
theorem mul_c (w : World) (va vb : Value) (xs ys : List Nat) (ha : Rd .u32 w va xs) (hb : Rd .u32 w vb ys) (hxs : ∀ x ∈ xs, x < 4294967296) (hys : ∀ x ∈ ys, x < 4294967296)
    (hla : xs.length ≤ 1000000) (hlb : ys.length ≤ 1000000) :
    Calls Tryz.prog 39 #[va, vb] w (Fitted w (val 4294967296 xs * val 4294967296 ys)) := by
  have ht1 := trim_num w va xs ha hxs
  go_enter Tryz.func39, Tryz.ntmps39
  go_wp2_with fail
  refine ht1.mono ?_
  rintro e w1 ⟨v1, us, rfl, hR1, hC1, hv1, hl1, hB1⟩
  have ht2 := trim_num w1 vb ys (hb.below hB1) hys
  clear ht1
  go_wp2_with fail
  refine ht2.mono ?_
  rintro e w2 ⟨v2, vs, rfl, hR2, hC2, hv2, hl2, hB2⟩
  have hR1' := hR1.below hB2
  have hB := below_trans hB1 hB2
  obtain ⟨A1, c1, rfl, _⟩ := hR1'.form
  obtain ⟨A2, c2, rfl, _⟩ := hR2.form
  have Hs : Hid (val 4294967296 us * val 4294967296 vs = val 4294967296 xs * val 4294967296 ys) := by rw [Hid, hv1, hv2]
  have hl1' : us.length ≤ 1000000 := by omega
  have hl2' : vs.length ≤ 1000000 := by omega
  clear ht2 hv1 hv2 hl1 hl2 hR1 hB1 hB2 ha hb hxs hys hla hlb
  by_cases hu0 : us.length = 0
  · have hu0' : ((us.length : Int) == 0) = true := by rw [beq_iff_eq]; omega
    have hus : us = [] := List.eq_nil_of_length_eq_zero hu0
    have Hz := Lib.hid hu0
    clear hu0
    go_wp2_with fail
    go_ret2
    have e : val 4294967296 xs * val 4294967296 ys = 0 := by rw [← Hs.out, hus]; simp
    exact ⟨hB, .inl ⟨by rw [e]; exact Nat.pow_pos (by omega), _, rfl, by rw [e]; exact NumV.nil _⟩⟩
  · have hu0' : ((us.length : Int) == 0) = false := by rw [beq_eq_false_iff_ne]; omega
    by_cases hv0 : vs.length = 0
    · have hv0' : ((vs.length : Int) == 0) = true := by rw [beq_iff_eq]; omega
      have hvs : vs = [] := List.eq_nil_of_length_eq_zero hv0
      have Hz := Lib.hid hv0
      clear hv0
      go_wp2_with fail
      go_ret2
      have e : val 4294967296 xs * val 4294967296 ys = 0 := by rw [← Hs.out, hvs]; simp
      exact ⟨hB, .inl ⟨by rw [e]; exact Nat.pow_pos (by omega), _, rfl, by rw [e]; exact NumV.nil _⟩⟩
    · have hv0' : ((vs.length : Int) == 0) = false := by rw [beq_eq_false_iff_ne]; omega
      have hup : 0 < us.length := by omega
      have hvp : 0 < vs.length := by omega
      clear hu0 hv0
      by_cases hbig : 512 < us.length + vs.length - 1
      · have hbig' : decide ((512 : Int) < (us.length : Int) + (vs.length : Int) - 1) = true := by rw [decide_eq_true_iff]; omega
        go_wp2_with fail
        go_ret2
        exact ⟨hB, .inr ⟨by rw [← Hs.out]; exact mul_lim hC1 hC2 (List.length_pos_iff.1 hup) (List.length_pos_iff.1 hvp) hbig, rfl⟩⟩
      · have hbig' : decide ((512 : Int) < (us.length : Int) + (vs.length : Int) - 1) = false := by rw [decide_eq_false_iff_not]; omega
        have hmk := make_nat (us.length + vs.length) ((us.length : Int) + (vs.length : Int)) (by omega) (by omega)
        go_wp2_with fail
        clear hmk hbig'
        have hO := Own.new w2 .u32 85 (List.replicate (us.length + vs.length) 0)
        have hBm := hB.trans (((Below.refl _ w2).alloc (Nat.le_refl _) (.cells (nums .u32 (List.replicate (us.length + vs.length) 0)) 85)).mono hB.size)
        have hRu1 := hR1'.below ((Below.refl _ w2).alloc (Nat.le_refl _) (.cells (nums .u32 (List.replicate (us.length + vs.length) 0)) 85))
        have hRv1 := hR2.below ((Below.refl _ w2).alloc (Nat.le_refl _) (.cells (nums .u32 (List.replicate (us.length + vs.length) 0)) 85))
        have hnu := hR1'.away (Nat.le_refl _)
        have hnv := hR2.away (Nat.le_refl _)
        have hgle := hB.size
        clear hR1' hR2 hB
        go_loopw [36] (fun i wr => ∃ (k : Nat) (r : List Nat), k ≤ us.length ∧ i = .int .i64 k ∧ Hid (r.length = k + vs.length) ∧ (∀ x ∈ r, x < 4294967296) ∧
            Hid (val 4294967296 r = val 4294967296 (us.take k) * val 4294967296 vs) ∧ Own .u32 85 wr w2.heap.size (r ++ List.replicate (us.length - k) 0) ∧
            Only w2.heap.size (w2.alloc (.cells (nums .u32 (List.replicate (us.length + vs.length) 0)) 85)) wr)
          (fun i _ => us.length - (intOf i).toNat)
        case atStart => exact ⟨0, List.replicate vs.length 0, Nat.zero_le _, rfl, by simp [Hid], mem_replicate_lt, by simp [Hid, val_replicate], by rw [Nat.sub_zero, List.replicate_append_replicate, show vs.length + us.length = us.length + vs.length by omega]; exact hO, Only.refl _ _⟩
        case round =>
          obtain ⟨k, r, hk, rfl, hrl, hrb, hv, hO', hG⟩ := hrel
          by_cases hlk : k < us.length
          · have hx : us[k]? = some us[k] := List.getElem?_eq_getElem hlk
            obtain ⟨x, hxx⟩ : ∃ x, us[k] = x := ⟨_, rfl⟩
            rw [hxx] at hx
            clear hxx
            have hxb := get_lt hC1.1 hx
            have hRu2 := hRu1.grown hG hnu
            have hRv2 := hRv1.grown hG hnv
            obtain ⟨b, off, rfl, _⟩ := hRu2.addr hup
            have hcx := hRu2.cell hx
            have hpl : (r.take k).length = k := by rw [List.length_take]; have := hrl.out; omega
            have hml : Hid ((r.drop k).length = vs.length) := by rw [Hid, List.length_drop]; have := hrl.out; omega
            have hO2 : Own .u32 85 wr w2.heap.size (r.take k ++ r.drop k ++ List.replicate (us.length - k) 0) := by rw [List.take_append_drop]; exact hO'
            have hcall := addTimes_c wr w2.heap.size (us.length + vs.length - k) (r.take k) (r.drop k) (List.replicate (us.length - k) 0) vs _ x hO2 (fun y hy => hrb y (List.mem_of_mem_drop hy)) hRv2 hC2.1 hnv hml hxb
            rw [hpl] at hcall
            have HC := Lib.hid hcall
            have Hx := Lib.hid hx
            have Hpl := Lib.hid hpl
            have HO' := Lib.hid hO'
            clear hcall hx hpl hO2
            go_wp2_with fail
            refine HC.out.mono ?_
            rintro e w3 ⟨m', c, rfl, hl', hb', hc', hv', hO3, hG3⟩
            have hml' : m'.length = vs.length := hl'.trans hml.out
            have hzz : (r.take k ++ m' ++ List.replicate (us.length - k) 0)[k + vs.length]? = some 0 := by
              rw [List.getElem?_append_right (by rw [List.length_append, Hpl.out, hml']; omega), List.length_append, Hpl.out, hml', Nat.sub_self, replicate_pos (by omega)]; rfl
            have hset : (r.take k ++ m' ++ List.replicate (us.length - k) 0).set (k + vs.length) c = (r.take k ++ m' ++ [c]) ++ List.replicate (us.length - (k + 1)) 0 := by
              rw [List.set_append_right _ _ (by rw [List.length_append, Hpl.out, hml']; omega), List.length_append, Hpl.out, hml', Nat.sub_self, replicate_pos (by omega)]
              simp [Nat.sub_sub]
            have hcz := hO3.cell hzz
            have hfz := hO3.frozen (k + vs.length)
            have hO4 := hO3.set (k + vs.length) c
            rw [hset] at hO4
            have hv4 : val 4294967296 (r.take k ++ m' ++ [c]) = val 4294967296 (us.take (k + 1)) * val 4294967296 vs := by
              rw [List.append_assoc, val_append, val_append, Hpl.out, hml', val_take_succ Hx.out]
              simp only [val_cons, val_nil, Nat.mul_zero, Nat.add_zero]
              refine row_step (vm := val 4294967296 (r.drop k)) ?_ (by rw [← hml.out]; exact hv')
              rw [← hv.out]; exact (val_split _ _ _ (by have := hrl.out; omega)).symm
            have hlen4 : (r.take k ++ m' ++ [c]).length = k + 1 + vs.length := by simp only [List.length_append, Hpl.out, hml', List.length_cons, List.length_nil]; omega
            have hb4 : ∀ y ∈ r.take k ++ m' ++ [c], y < 4294967296 := by
              intro y hy
              rcases List.mem_append.1 hy with hy | hy
              · rcases List.mem_append.1 hy with hy | hy
                · exact hrb y (List.mem_of_mem_take hy)
                · exact hb' y hy
              · simp at hy; omega
            have Hml' := Lib.hid hml'
            have Hv4 := Lib.hid hv4
            have Hlen4 := Lib.hid hlen4
            clear hl' hv' hml' hzz hset hv4 hlen4
            go_wp2_with fail
            go_roundw
            case rel => exact ⟨k + 1, _, by omega, by go_num, Hlen4, hb4, Hv4, hO4, (hG.trans hG3).set _ _⟩
            case measure => simp [intOf]; omega
          · obtain rfl : k = us.length := by omega
            have hO2 : Own .u32 85 wr w2.heap.size r := by simpa using hO'
            have hRs := hO2.whole (by have := hrl.out; omega)
            have hfit := fit_c _ _ _ hRs hrb
            rw [hrl.out] at hfit
            have e2 : val 4294967296 r = val 4294967296 xs * val 4294967296 ys := by
              rw [hv.out, List.take_length, Hs.out]
            rw [e2] at hfit
            have hBx : Below w.heap.size w wr := hG.below hBm hgle
            have HF := Lib.hid hfit
            clear hO2 hRs hfit e2 hO'
            go_wp2_with fail
            refine HF.out.mono ?_
            rintro e w' ⟨hBf, hF⟩
            have hBf' := below_trans hBx hBf
            rcases hF with ⟨hlim, v, rfl, hN⟩ | ⟨hlim, rfl⟩
            · go_wp2_with fail
              go_ret2
              exact ⟨hBf', .inl ⟨hlim, v, rfl, hN⟩⟩
            · go_wp2_with fail
              go_ret2
              exact ⟨hBf', .inr ⟨hlim, rfl⟩⟩
end Go.Proofs.YtnncfbmddpijcaaGreatDoor

/- One order; the same digits. -/
namespace Go.Proofs.YtnncfbmddpijcaaGreatDoor
open Go Go.RowKit

/-- -1, 0, 1: less, the same, more. -/
def ord3 (x y : Nat) : Int := if x < y then -1 else if y < x then 1 else 0
theorem ord3_lt {x y : Nat} (h : x < y) : ord3 x y = -1 := by unfold ord3; rw [if_pos h]
theorem ord3_gt {x y : Nat} (h : y < x) : ord3 x y = 1 := by unfold ord3; rw [if_neg (by omega), if_pos h]
theorem ord3_eq (x : Nat) : ord3 x x = 0 := by unfold ord3; rw [if_neg (by omega), if_neg (by omega)]

theorem Rd.len_le {k : IntKind} {w : World} {v : Value} {zs : List Nat} (h : Rd k w v zs) : zs.length ≤ 70368744177664 := by
  obtain ⟨A, cap, _, h1, h2, _⟩ := h
  omega

def eqL (xs ys : List Nat) : Bool := decide (xs = ys)
def EqPost (w : World) (xs ys : List Nat) (e : Ending) (w' : World) : Prop := e = .returned (.bool (eqL xs ys)) ∧ ∃ nq, w' = w.drewN nq
theorem eqL_true {xs ys : List Nat} (h : xs = ys) : eqL xs ys = true := by simp [eqL, h]
theorem eqL_false {xs ys : List Nat} (h : xs ≠ ys) : eqL xs ys = false := by simp [eqL, h]
theorem EqPost.below {w w' : World} {xs ys : List Nat} {e : Ending} (h : EqPost w xs ys e w') : e = .returned (.bool (eqL xs ys)) ∧ Below w.heap.size w w' := by
  obtain ⟨rfl, nq, rfl⟩ := h
  exact ⟨rfl, below_drewN' _ _⟩

set_option maxHeartbeats 400000 in
theorem cmp_int (w : World) (x y : Nat) : Calls Tryz.prog 87 #[.int .i64 x, .int .i64 y] w fun e w' => e = .returned (.int .i64 (ord3 x y)) ∧ w = w' := by
  rcases Nat.lt_trichotomy x y with h | h | h
  · rw [ord3_lt h]
    go_enter Tryz.func87, Tryz.ntmps87
    go_wp2
    go_ret
    exact ⟨rfl, rfl⟩
  · subst h
    rw [ord3_eq]
    go_enter Tryz.func87, Tryz.ntmps87
    go_wp2
    go_ret
    exact ⟨rfl, rfl⟩
  · rw [ord3_gt h]
    go_enter Tryz.func87, Tryz.ntmps87
    go_wp2
    go_ret
    exact ⟨rfl, rfl⟩

set_option maxHeartbeats 400000 in
theorem cmp_u32 (w : World) (x y : Nat) : Calls Tryz.prog 99 #[.int .u32 x, .int .u32 y] w fun e w' => e = .returned (.int .i64 (ord3 x y)) ∧ w = w' := by
  rcases Nat.lt_trichotomy x y with h | h | h
  · rw [ord3_lt h]
    go_enter Tryz.func99, Tryz.ntmps99
    go_wp2
    go_ret
    exact ⟨rfl, rfl⟩
  · subst h
    rw [ord3_eq]
    go_enter Tryz.func99, Tryz.ntmps99
    go_wp2
    go_ret
    exact ⟨rfl, rfl⟩
  · rw [ord3_gt h]
    go_enter Tryz.func99, Tryz.ntmps99
    go_wp2
    go_ret
    exact ⟨rfl, rfl⟩


end Go.Proofs.YtnncfbmddpijcaaGreatDoor

/- Which of two numbers is less. -/
namespace Go.Proofs.YtnncfbmddpijcaaGreatDoor
open Go Go.RowKit Go.Shelf
attribute [local go_sem] Oper.semAt_some

def CmpPost (w : World) (x y : Nat) (e : Ending) (w' : World) : Prop := e = .returned (.int .i64 (ord3 x y)) ∧ Below w.heap.size w w'

theorem Rd.box {k : IntKind} {w : World} {B : Nat} {t : TypeId} {x u v : Value} {zs : List Nat} (hb : Boxed w B t x) (hx : ∀ k' z, x ≠ .int k' z) (h : Rd k w v zs) : Rd k (w.setCell ⟨B, 0, none⟩ u) v zs := by
  obtain ⟨A, cap, rfl, h1, h2, h3⟩ := h
  refine ⟨A, cap, rfl, h1, h2, fun h0 => ?_⟩
  obtain ⟨b, off, rfl, hlt, hc⟩ := h3 h0
  have hne : b ≠ B := by
    rintro rfl
    have h4 := hc 0 _ (List.getElem?_eq_getElem h0)
    have h5 : w.heap[b]? = some (.cells #[x] t (0, 0)) := hb
    rcases off with _ | o
    · simp [World.cell?, h5] at h4; exact hx _ _ h4
    · simp [World.cell?, h5] at h4
  exact ⟨b, off, rfl, by simpa [World.setCell] using hlt, fun j y hy => (World.cell?_of_block (w := w) (Below.heap_setCell w ⟨B, 0, none⟩ u b hne)).trans (hc j y hy)⟩

theorem ord3_len {us vs : List Nat} (hu : Can 4294967296 us) (hv : Can 4294967296 vs) (h : us.length ≠ vs.length) : ord3 us.length vs.length = ord3 (val 4294967296 us) (val 4294967296 vs) := by
  have key : ∀ {ps qs : List Nat}, Can 4294967296 ps → Can 4294967296 qs → ps.length < qs.length → val 4294967296 ps < val 4294967296 qs := by
    intro ps qs ha hb hl
    have h1 := val_lt ha.1
    have h2 := hb.ge (by intro e; rw [e] at hl; simp at hl)
    exact Nat.lt_of_lt_of_le h1 (Nat.le_trans (Nat.pow_le_pow_right (by omega) (by omega)) h2)
  rcases Nat.lt_trichotomy us.length vs.length with h' | h' | h'
  · rw [ord3_lt h', ord3_lt (key hu hv h')]
  · exact absurd h' h
  · rw [ord3_gt h', ord3_gt (key hv hu h')]

theorem drop_eq_of_get {us vs : List Nat} {i : Nat} (h : ∀ j, i ≤ j → us[j]? = vs[j]?) : us.drop i = vs.drop i := by
  apply List.ext_getElem?
  intro j
  rw [List.getElem?_drop, List.getElem?_drop]
  exact h _ (by omega)

theorem ord3_digit {us vs : List Nat} {i x y : Nat} (hu : ∀ z ∈ us, z < 4294967296) (hv : ∀ z ∈ vs, z < 4294967296) (hx : us[i]? = some x) (hy : vs[i]? = some y) (hne : x ≠ y) (h : ∀ j, i + 1 ≤ j → us[j]? = vs[j]?) :
    ord3 x y = ord3 (val 4294967296 us) (val 4294967296 vs) := by
  have key : ∀ {ps qs : List Nat} {a b : Nat}, (∀ z ∈ ps, z < 4294967296) → ps[i]? = some a → qs[i]? = some b → (∀ j, i + 1 ≤ j → ps[j]? = qs[j]?) → a < b → val 4294967296 ps < val 4294967296 qs := by
    intro ps qs a b ha h1 h2 h3 hlt
    have l1 := (List.getElem?_eq_some_iff.1 h1).1
    have l2 := (List.getElem?_eq_some_iff.1 h2).1
    rw [val_split _ ps i (by omega), val_split _ qs i (by omega), drop_of_get h1, drop_of_get h2, drop_eq_of_get h3]
    have hlow : val 4294967296 (ps.take i) < 4294967296 ^ i := by
      have := val_lt (B := 4294967296) (xs := ps.take i) (fun z hz => ha z (List.mem_of_mem_take hz))
      rwa [List.length_take, Nat.min_eq_left (by omega)] at this
    simp only [val_cons, Nat.mul_add]
    have hm := Nat.mul_le_mul_left (4294967296 ^ i) (show a + 1 ≤ b from hlt)
    rw [Nat.mul_add, Nat.mul_one] at hm
    omega
  rcases Nat.lt_trichotomy x y with h' | h' | h'
  · rw [ord3_lt h', ord3_lt (key hu hx hy h h')]
  · exact absurd h' hne
  · rw [ord3_gt h', ord3_gt (key hv hy hx (fun j hj => (h j hj).symm) h')]

/-- Between two rounds: the k last digits are the same. -/
def CmpI (n : Nat) (w3 : World) (us vs : List Nat) (vb vu : Value) (k : Nat) (W : World) : Prop :=
  (∀ j, us.length ≤ j + k → us[j]? = vs[j]?) ∧ Boxed W n 23 vb ∧ Boxed W (n + 1) 3 (.int .i64 0) ∧ Boxed W w3.heap.size 23 vu ∧ Below w3.heap.size w3 W
def CmpX (w : World) (us vs : List Nat) (k : Nat) (W : World) : Prop :=
  (∀ j, us.length ≤ j + k → us[j]? = vs[j]?) ∧ (∀ i, k + i + 1 = us.length → ∃ x y : Nat, us[i]? = some x ∧ vs[i]? = some y ∧ x ≠ y ∧ Boxed W (w.heap.size + 1) 3 (.int .i64 (ord3 x y))) ∧ Below w.heap.size w W

/-- The one way out that a region has here. -/
def onlyNormal (K : Act → World → Prop) : Exit → Act → World → Prop
  | .normal, a, w => K a w
  | _, _, _ => False
theorem onlyNormal_then {K : Act → World → Prop} {Q : Exit → Act → World → Prop} (e : Exit) (a : Act) (w : World) (h : onlyNormal K e a w) : Exit.then K Q e a w := by
  cases e with
  | normal => exact h
  | _ => exact h.elim

set_option maxRecDepth 100000 in
set_option maxHeartbeats 2000000 in
theorem compare_c (w : World) (va vb : Value) (xs ys : List Nat) (ha : Rd .u32 w va xs) (hb : Rd .u32 w vb ys) (hxs : ∀ x ∈ xs, x < 4294967296) (hys : ∀ x ∈ ys, x < 4294967296)
    (hla : xs.length ≤ 1000000) (hlb : ys.length ≤ 1000000) :
    Calls Tryz.prog 76 #[va, vb] w (CmpPost w (val 4294967296 xs) (val 4294967296 ys)) := by
  refine (callsIn_wide (n := 6)).1 ?_
  refine callsIn_of_wp_marks Tryz.func76 rfl trivial ?_ rfl
  simp only [Tryz.ntmps76, List.size_toArray, List.length_cons, List.length_nil, Nat.reduceAdd, Nat.reduceSub, Array.replicate_succ, Array.replicate_zero, List.push_toArray, List.append_toArray, List.nil_append, List.cons_append]
  obtain ⟨A2, c2, rfl, _⟩ := hb.form
  gi_wp2_with fail
  have b0 := (Boxed.new w 23 (.slice A2 ys.length c2)).alloc (.cells #[.int .i64 0] 3)
  have b1 := Boxed.new (w.alloc (.cells #[.slice A2 ys.length c2] 23)) 3 (.int .i64 0)
  simp only [World.size_alloc] at b1
  have hB0 : Below w.heap.size w ((w.alloc (.cells #[.slice A2 ys.length c2] 23)).alloc (.cells #[.int .i64 0] 3)) :=
    ((Below.refl _ w).alloc (Nat.le_refl _) _).alloc (by simp) _
  have hs0 : w.heap.size + 2 = ((w.alloc (.cells #[.slice A2 ys.length c2] 23)).alloc (.cells #[.int .i64 0] 3)).heap.size := by simp
  generalize (w.alloc (.cells #[.slice A2 ys.length c2] 23)).alloc (.cells #[.int .i64 0] 3) = W0 at *
  have hmix : Tryz.prog.follows .mixedOrders = true := by kernel_rfl
  have hc0 := b0.cell
  have hf0 := b0.frozen
  have C1 : Hid (CallsIn Fence.wide 5 Tryz.prog 69 #[va] W0.drew fun e w1 => ∃ B1 d1 us, e = .returned (.slice B1 us.length d1) ∧ w1.cell? ⟨w.heap.size, 0, none⟩ = some (.slice A2 ys.length c2) ∧ w1.frozen? ⟨w.heap.size, 0, none⟩ = false ∧
      Hid (Rd .u32 w1 (.slice B1 us.length d1) us ∧ Can 4294967296 us ∧ val 4294967296 us = val 4294967296 xs ∧ us.length ≤ xs.length ∧ Below w.heap.size w w1) ∧
      Hid (CallsIn Fence.wide 5 Tryz.prog 69 #[.slice A2 ys.length c2] w1 fun e w2 => ∃ B2 d2 vs, e = .returned (.slice B2 vs.length d2) ∧ w2.cell? ⟨w.heap.size, 0, none⟩ = some (.slice A2 ys.length c2) ∧ w2.frozen? ⟨w.heap.size, 0, none⟩ = false ∧
        Hid (Rd .u32 w2 (.slice B1 us.length d1) us ∧ Rd .u32 w2 (.slice B2 vs.length d2) vs ∧ Can 4294967296 vs ∧ val 4294967296 vs = val 4294967296 ys ∧ vs.length ≤ ys.length ∧ Below w.heap.size w w2 ∧ Boxed w2 w.heap.size 23 (.slice A2 ys.length c2) ∧ Boxed w2 (w.heap.size + 1) 3 (.int .i64 0)))) := by
    refine callsIn_wide.2 ((trim_num W0.drew va xs (ha.below hB0.drew) hxs).mono ?_)
    rintro e w1 ⟨v1, us, rfl, hR1, hC1, hv1, hl1, hB1⟩
    have hs1 : W0.drew.heap.size = w.heap.size + 2 := hs0.symm
    have hBw1 : Below w.heap.size w w1 := (hB0.drew (w := W0)).trans (hB1.mono (by omega))
    have b01 : Boxed w1 w.heap.size 23 (.slice A2 ys.length c2) := (hB1.block _ (by omega)).trans b0
    have b11 : Boxed w1 (w.heap.size + 1) 3 (.int .i64 0) := (hB1.block _ (by omega)).trans b1
    obtain ⟨B1, d1, rfl, _⟩ := hR1.form
    refine ⟨B1, d1, us, rfl, b01.cell, b01.frozen, ⟨hR1, hC1, hv1, hl1, hBw1⟩, callsIn_wide.2 ((trim_num w1 _ ys (hb.below hBw1) hys).mono ?_)⟩
    rintro e w2 ⟨v2, vs, rfl, hR2, hC2, hv2, hl2, hB2⟩
    have hs2 := hB1.size
    have b02 : Boxed w2 w.heap.size 23 (.slice A2 ys.length c2) := (hB2.block _ (by omega)).trans b01
    have b12 : Boxed w2 (w.heap.size + 1) 3 (.int .i64 0) := (hB2.block _ (by omega)).trans b11
    obtain ⟨B2, d2, rfl, _⟩ := hR2.form
    exact ⟨B2, d2, vs, rfl, b02.cell, b02.frozen, hR1.below hB2, hR2, hC2, hv2, hl2, hBw1.trans (hB2.mono (by omega)), b02, b12⟩
  clear b0 b1 hB0 hs0 ha hb hxs hys
  refine wpIn_mono ?_ onlyNormal_then
  gi_region_with_o (first | (refine ⟨trivial, ?_⟩; gi_at_call 69; refine C1.out.mono ?_; clear C1; rintro e w1 ⟨B1, d1, us, rfl, hc1, hf1, H1, C2⟩) | (refine ⟨trivial, ?_⟩; gi_at_call 69; refine C2.out.mono ?_; clear C2; rintro e w2 ⟨B2, d2, vs, rfl, hc2, hf2, H2⟩))
  all_goals
    simp only [onlyNormal]
  all_goals
    obtain ⟨hRu, hRv, hCv, hvv, hlv, hBw, bb, br⟩ := H2.out
    obtain ⟨_, hCu, hvu, hlu, _⟩ := H1.out
    have hus : us.length ≤ 1000000 := by omega
    have hvs : vs.length ≤ 1000000 := by omega
    have Hvu := Lib.hid hvu
    have Hvv := Lib.hid hvv
    have hRu3 := hRu.box (u := .slice B2 vs.length d2) bb (by intro _ _ e; cases e)
    have hRv3 := hRv.box (u := .slice B2 vs.length d2) bb (by intro _ _ e; cases e)
    have bb3 := bb.set (.slice B2 vs.length d2)
    have br3 := br.other (B' := w.heap.size) (by omega) (.slice B2 vs.length d2)
    have hB3 := hBw.setCell (p := ⟨w.heap.size, 0, none⟩) (Nat.le_refl _) (.slice B2 vs.length d2)
    generalize w2.setCell ⟨w.heap.size, 0, none⟩ (.slice B2 vs.length d2) = W3 at *
    clear hRu hRv hvu hvv hlu hlv hBw bb br H1 H2 hc2 hf2 hla hlb hmix hc0 hf0 hc1 hf1
    have hcb := bb3.cell
    have hcr := br3.cell
    have hfr := br3.frozen
    have hn3 := br3.lt
    by_cases hl : us.length = vs.length
    · have hl' : ((us.length : Int) != (vs.length : Int)) = false := by rw [bne_eq_false_iff_eq]; omega
      have hle : us.length ≤ vs.length := by omega
      have Hl := Lib.hid hl
      clear hl
      gi_wp2_with (refine ⟨trivial, ?_⟩; gi_at_call 91; refine (down_in _ _ _ _ _).mono ?_; rintro e w' ⟨rfl, rfl⟩)
      have hBa : Below W3.heap.size W3 (W3.alloc (.cells #[.slice B1 us.length d1] 23)) := (Below.refl _ W3).alloc (Nat.le_refl _) _
      refine range_down (n := 6) (by omega) (Bs := W3.heap.size) (A := B1) (cap := d1) (zs := us) (by omega) rfl rfl (CmpI w.heap.size W3 us vs (.slice B2 vs.length d2) (.slice B1 us.length d1)) (CmpX w us vs) ?hI ?hIx ?h0 ?hbox ?hcell
        (fun i x => { tmps := #[.slice B1 us.length d1, .slice A2 ys.length c2, undef, .pointer (some ⟨w.heap.size, 0, none⟩), .pointer (some ⟨w.heap.size + 1, 0, none⟩), .int .i64 (i : Int), .int .u32 (x : Int), va, .slice B1 us.length d1, .slice A2 ys.length c2, .slice B2 vs.length d2,
          .slice B1 us.length d1, .int .i64 us.length, .slice B2 vs.length d2, .int .i64 vs.length, .bool false, undef, undef, undef, undef, undef, .slice B1 us.length d1,
          .func (.func 104) #[] #[.pointer (some ⟨W3.heap.size, 0, none⟩)], .int .i64 (i : Int), .int .u32 (x : Int), undef, undef, undef, undef, undef, undef, undef, undef, undef, undef, undef, undef], defers := [] }) ?assign ?body ?done ?stop
      case hI =>
        rintro k X Y row ⟨h1, h2, h3, h4, h5⟩ hg hr
        have hr' := fun r e => (hr r e).2
        exact ⟨h1, boxed_step h2 hg hr', boxed_step h3 hg hr', boxed_step h4 hg hr', h5.grown hg h5.size (fun r e => by have := (hr r e).1; simp at this; omega)⟩
      case hIx =>
        rintro k X Y row ⟨h1, h2, h5⟩ hg hr
        have hr' := fun r e => (hr r e).2
        exact ⟨h1, fun i hi => by obtain ⟨x, y, e1, e2, e3, e4⟩ := h2 i hi; exact ⟨x, y, e1, e2, e3, boxed_step e4 hg hr'⟩, h5.grown hg h5.size (fun r e => by have := (hr r e).1; simp at this; have := hB3.size; omega)⟩
      case h0 =>
        refine ⟨fun j hj => ?_, bb3.alloc _, br3.alloc _, Boxed.new W3 _ _, hBa⟩
        rw [List.getElem?_eq_none (by omega), List.getElem?_eq_none (by have := Hl.out; omega)]
      case hbox => exact fun k W h => h.2.2.2.1.cell
      case hcell =>
        intro hz
        obtain ⟨b, off, rfl, hb⟩ := hRu3.addr hz
        exact ⟨b, off, rfl, fun k W i x hI hx => (hI.2.2.2.2.cell (p := ⟨b, off + i, none⟩) hb).trans (hRu3.cell hx)⟩
      case assign =>
        intro l i x W K hx hK
        gi_wp2
        exact hK
      case body =>
        rintro l k i x W hki hx ⟨h1, h2, h3, h4, h5⟩
        have hiv : i < vs.length := by omega
        have hy : vs[i]? = some vs[i] := List.getElem?_eq_getElem hiv
        obtain ⟨y, hyy⟩ : ∃ y, vs[i] = y := ⟨_, rfl⟩
        rw [hyy] at hy
        clear hyy
        obtain ⟨b', off', rfl, hb'⟩ := hRv3.addr (by omega)
        have hcy := (h5.cell (p := ⟨b', off' + i, none⟩) hb').trans (hRv3.cell hy)
        have hc2 := h2.cell
        have hc3 := h3.cell
        have hf3 := h3.frozen
        have Hx := Lib.hid hx
        have Hy := Lib.hid hy
        have H1 := Lib.hid h1
        have Hki := Lib.hid hki
        clear hx hy h1 hki
        by_cases hxy : x = y
        · have hne : ((x : Int) != (y : Int)) = false := by rw [bne_eq_false_iff_eq]; omega
          have hne2 : ((x : Int) == (y : Int)) = true := by rw [beq_iff_eq]; omega
          have Hxy := Lib.hid hxy
          clear hxy
          gi_wp2
          refine ⟨KeepsFrom.refl _ _, fun j hj => ?_, h2, h3, h4, h5⟩
          by_cases hji : j = i
          · subst hji; rw [Hx.out, Hy.out, Hxy.out]
          · exact H1.out j (by have := Hki.out; omega)
        · have hne : ((x : Int) != (y : Int)) = true := by rw [bne_iff_ne]; omega
          have hne2 : ((x : Int) == (y : Int)) = false := by rw [beq_eq_false_iff_ne]; omega
          gi_wp2_with (refine ⟨trivial, ?_⟩; gi_at_call 99; refine (CallsIn.inRound l (callsIn_wide.2 (cmp_u32 _ x y))).mono ?_; rintro e w' ⟨rfl, rfl⟩)
          refine ⟨(KeepsOthers.setCell _ _ _).from _, H1.out, fun i' hi' => ?_, (hB3.trans (h5.mono hB3.size)).setCell (p := ⟨w.heap.size + 1, 0, none⟩) (by simp) _⟩
          obtain rfl : i' = i := by have := Hki.out; omega
          exact ⟨x, y, Hx.out, Hy.out, hxy, h3.set _⟩
      case done =>
        rintro D W hD ⟨h1, h2, h3, h4, h5⟩ hK
        have hc3 := h3.cell
        have hf3 := h3.frozen
        have H1 := Lib.hid h1
        clear h1
        gi_wp2
        have hK' := (KeepsOthers.setCell W ⟨w.heap.size + 1, 0, none⟩ (.int .i64 0)).same D _ hK rfl
        refine ⟨by simp, .inl ⟨_, _, rfl, run_takeDeferred hK', ?_⟩⟩
        have hc5 := (boxed_step (h3.set (.int .i64 0)) (grownBy_putObj' _ D (.deferred none)) (fun r e => by cases e; exact ⟨_, hK', rfl⟩)).cell
        have he : us = vs := List.ext_getElem? fun j => H1.out j (by omega)
        refine ⟨.int .i64 0, by simp [results, Tryz.f76, go_sem, hc5], ?_, below_deferred (by simp at hD; have := hB3.size; omega) hK' ((hB3.trans (h5.mono hB3.size)).setCell (p := ⟨w.heap.size + 1, 0, none⟩) (by simp) _)⟩
        rw [← Hvu.out, ← Hvv.out, he, ord3_eq]
      case stop =>
        rintro D k W hD hk ⟨h1, h2, h5⟩ hK
        obtain ⟨x, y, hx, hy, hxy, hb⟩ := h2 (us.length - 1 - k) (by omega)
        obtain ⟨i, hi⟩ : ∃ i, us.length - 1 - k = i := ⟨_, rfl⟩
        rw [hi] at hx hy
        have H1 := Lib.hid h1
        have Hx := Lib.hid hx
        have Hy := Lib.hid hy
        have Hi := Lib.hid hi
        clear h1 h2 hx hy hi
        gi_wp2
        refine ⟨by simp, .inl ⟨_, _, rfl, run_takeDeferred hK, ?_⟩⟩
        have hc5 := (boxed_step hb (grownBy_putObj' _ D (.deferred none)) (fun r e => by cases e; exact ⟨_, hK, rfl⟩)).cell
        refine ⟨.int .i64 (ord3 x y), by simp [results, Tryz.f76, go_sem, hc5], ?_, below_deferred (by simp at hD; have := hB3.size; omega) hK h5⟩
        rw [← Hvu.out, ← Hvv.out, ord3_digit hCu.1 hCv.1 Hx.out Hy.out hxy (fun j hj => H1.out j (by have := Hi.out; omega))]
    · have hl' : ((us.length : Int) != (vs.length : Int)) = true := by rw [bne_iff_ne]; omega
      gi_wp2_with (refine ⟨trivial, ?_⟩; gi_at_call 87; refine (callsIn_wide.2 (cmp_int _ us.length vs.length)).mono ?_; rintro e w' ⟨rfl, rfl⟩)
      have hc5 := (br3.set (.int .i64 (ord3 us.length vs.length))).cell
      refine ⟨.int .i64 (ord3 us.length vs.length), by simp [results, Tryz.f76, go_sem, hc5], ?_, hB3.setCell (p := ⟨w.heap.size + 1, 0, none⟩) (by simp) _⟩
      rw [← Hvu.out, ← Hvv.out, ord3_len hCu hCv hl]
end Go.Proofs.YtnncfbmddpijcaaGreatDoor

/- The first one less the second one. -/
namespace Go.Proofs.YtnncfbmddpijcaaGreatDoor
open Go Go.RowKit

/-- None and ErrLess, or what is left. -/
def SubPost (w : World) (x y : Nat) (e : Ending) (w' : World) : Prop :=
  (x < y ∧ e = .returned (.tuple #[.slice none 0 0, .int .i64 12]) ∧ Below w.heap.size w w') ∨ (y ≤ x ∧ Fitted w (x - y) e w')

/-- One place more of a difference. -/
theorem less_step {B i s c' x y c : Nat} {S S' X Y : Nat} (h : S + Y = X + c * B ^ i) (hs : s + y + c = x + c' * B) (hS : S' = S + B ^ i * s) :
    S' + (Y + B ^ i * y) = (X + B ^ i * x) + c' * B ^ (i + 1) := by
  have h1 := congrArg (B ^ i * ·) hs
  simp only [Nat.mul_add] at h1
  rw [hS, Nat.pow_succ]
  have e1 : c' * (B ^ i * B) = B ^ i * (c' * B) := by rw [Nat.mul_comm (B ^ i) B, ← Nat.mul_assoc, Nat.mul_comm (c' * B)]
  have e3 : c * B ^ i = B ^ i * c := Nat.mul_comm _ _
  omega

theorem bor_step {x y c : Nat} (hx : x < 4294967296) (hy : y < 4294967296) (hc : c ≤ 1) : (x + 8589934592 - y - c) % 4294967296 + y + c = x + bor x y c * 4294967296 := by
  unfold bor
  by_cases h : x < y + c
  · rw [if_pos h]; omega
  · rw [if_neg h]; omega
theorem bor_le (x y c : Nat) : bor x y c ≤ 1 := by unfold bor; split <;> omega

set_option maxRecDepth 100000 in
set_option maxHeartbeats 2000000 in
theorem sub_c (w : World) (va vb : Value) (xs ys : List Nat) (ha : Rd .u32 w va xs) (hb : Rd .u32 w vb ys) (hxs : ∀ x ∈ xs, x < 4294967296) (hys : ∀ x ∈ ys, x < 4294967296)
    (hla : xs.length ≤ 1000000) (hlb : ys.length ≤ 1000000) :
    Calls Tryz.prog 77 #[va, vb] w (SubPost w (val 4294967296 xs) (val 4294967296 ys)) := by
  have hcmp := compare_c w va vb xs ys ha hb hxs hys hla hlb
  go_enter Tryz.func77, Tryz.ntmps77
  go_wp2_with fail
  refine hcmp.mono ?_
  rintro e w0 ⟨rfl, hB0⟩
  clear hcmp
  by_cases hlt : val 4294967296 xs < val 4294967296 ys
  · rw [ord3_lt hlt]
    go_wp2_with fail
    go_ret2
    exact .inl ⟨hlt, rfl, hB0⟩
  · have hge : 0 ≤ ord3 (val 4294967296 xs) (val 4294967296 ys) := by
      rcases Nat.lt_or_ge (val 4294967296 ys) (val 4294967296 xs) with h | h
      · rw [ord3_gt h]; omega
      · rw [show val 4294967296 xs = val 4294967296 ys by omega, ord3_eq]; omega
    have hdec : decide (ord3 (val 4294967296 xs) (val 4294967296 ys) < 0) = false := by rw [decide_eq_false_iff_not]; omega
    generalize ord3 (val 4294967296 xs) (val 4294967296 ys) = o at hge hdec ⊢
    have ht1 := trim_num w0 va xs (ha.below hB0) hxs
    have Hge := Lib.hid hlt
    clear hlt
    go_wp2_with fail
    refine ht1.mono ?_
    rintro e w1 ⟨v1, us, rfl, hR1, hC1, hv1, hl1, hB1⟩
    have hB01 := below_trans hB0 hB1
    have ht2 := trim_num w1 vb ys (hb.below hB01) hys
    clear ht1
    go_wp2_with fail
    refine ht2.mono ?_
    rintro e w2 ⟨v2, vs, rfl, hR2, hC2, hv2, hl2, hB2⟩
    have hRu := hR1.below hB2
    have hRv := hR2
    have hB := below_trans hB01 hB2
    obtain ⟨A1, c1, rfl, _⟩ := hRu.form
    obtain ⟨A2, c2, rfl, _⟩ := hRv.form
    have Hu := Lib.hid hv1
    have Hv := Lib.hid hv2
    have hlu : us.length ≤ 1000000 := by omega
    have hlv : vs.length ≤ 1000000 := by omega
    have hle : vs.length ≤ us.length := by
      rcases Nat.lt_or_ge us.length vs.length with h | h
      · exfalso
        have h1 := val_lt hC1.1
        have h2 := hC2.ge (by intro e; rw [e] at h; simp at h)
        have h3 := Nat.pow_le_pow_right (show 0 < 4294967296 by omega) (show us.length ≤ vs.length - 1 by omega)
        have := Hge.out
        omega
      · exact h
    have hmk := make_nat us.length (us.length : Int) rfl (by omega)
    clear ht2 hv1 hv2 hl1 hl2 hR1 hR2 hB1 hB2 ha hb hxs hys hla hlb hB0 hB01
    go_wp2_with fail
    clear hmk
    have hO := Own.new w2 .u32 85 (List.replicate us.length 0)
    have hBm := hB.trans (((Below.refl _ w2).alloc (Nat.le_refl _) (.cells (nums .u32 (List.replicate us.length 0)) 85)).mono hB.size)
    have hRu1 := hRu.below ((Below.refl _ w2).alloc (Nat.le_refl _) (.cells (nums .u32 (List.replicate us.length 0)) 85))
    have hRv1 := hRv.below ((Below.refl _ w2).alloc (Nat.le_refl _) (.cells (nums .u32 (List.replicate us.length 0)) 85))
    have hnu := hRu.away (Nat.le_refl _)
    have hnv := hRv.away (Nat.le_refl _)
    have hgle := hB.size
    clear hRu hRv hB
    go_loopw [7, 23] (fun c i wr => ∃ (k : Nat) (ss : List Nat) (cy : Nat), k ≤ us.length ∧ i = .int .i64 k ∧ c = .int .u32 cy ∧ cy ≤ 1 ∧ Hid (ss.length = us.length) ∧ (∀ x ∈ ss, x < 4294967296) ∧
        Hid (val 4294967296 (ss.take k) + val 4294967296 (vs.take k) = val 4294967296 (us.take k) + cy * 4294967296 ^ k) ∧ Own .u32 85 wr w2.heap.size ss ∧ Only w2.heap.size (w2.alloc (.cells (nums .u32 (List.replicate us.length 0)) 85)) wr)
      (fun _ i _ => us.length - (intOf i).toNat)
    case atStart => exact ⟨0, _, 0, Nat.zero_le _, rfl, rfl, by omega, by simp [Hid], mem_replicate_lt, by simp [Hid], hO, Only.refl _ _⟩
    case round =>
      obtain ⟨k, ss, cy, hk, rfl, rfl, hcy, hl', hss, hv, hO', hG⟩ := hrel
      by_cases hlk : k < us.length
      · have hx : us[k]? = some us[k] := List.getElem?_eq_getElem hlk
        obtain ⟨x, hxx⟩ : ∃ x, us[k] = x := ⟨_, rfl⟩
        rw [hxx] at hx
        clear hxx
        have hxb := get_lt hC1.1 hx
        have hRu2 := hRu1.grown hG hnu
        have hRv2 := hRv1.grown hG hnv
        obtain ⟨b, off, rfl, _⟩ := hRu2.addr (by omega)
        have hcx := hRu2.cell hx
        have hsl : k < ss.length := by have := hl'.out; omega
        have hs0 : ss[k]? = some ss[k] := List.getElem?_eq_getElem hsl
        have hcg := hO'.cell hs0
        have hfg := hO'.frozen k
        have Hx := Lib.hid hx
        clear hx hs0
        go_wp2_with fail
        refine (digit_c _ _ vs hRv2 k).mono ?_
        rintro e w' ⟨rfl, rfl⟩
        have hyb := digit_lt hC2.1 k
        have hvy := val_take_digit 4294967296 vs k
        have Hvy := Lib.hid hvy
        clear hvy
        generalize vs[k]?.getD 0 = y at hyb Hvy ⊢
        go_wp2_with fail
        refine (sub32_c _ x y cy hxb hyb hcy).mono ?_
        rintro e w' ⟨rfl, rfl⟩
        have Hb := Lib.hid (bor_step hxb hyb hcy)
        have hbl := bor_le x y cy
        generalize bor x y cy = c' at Hb hbl ⊢
        go_wp2_with fail
        go_roundw
        case rel =>
          refine ⟨k + 1, ss.set k ((x + 8589934592 - y - cy) % 4294967296), c', by omega, by go_num, rfl, hbl, by rw [Hid, List.length_set]; exact hl'.out, mem_set_lt hss (by omega), ?_, hO'.set _ _, Only.set hG _ _⟩
          have hst := less_step (s := (x + 8589934592 - y - cy) % 4294967296) (c' := c') (x := x) (y := y) hv.out Hb.out (take_set_succ hsl)
          rw [Hid, val_take_succ Hx.out, Hvy.out]; exact hst
        case measure => simp [intOf]; omega
      · obtain rfl : k = us.length := by omega
        have hRs := hO'.whole (by have := hl'.out; omega)
        have hfit := fit_c _ _ _ hRs hss
        rw [hl'.out] at hfit
        have e2 : val 4294967296 ss = val 4294967296 xs - val 4294967296 ys := by
          have h := hv.out
          have e1 : ss.take us.length = ss := List.take_of_length_le (by have := hl'.out; omega)
          rw [e1, List.take_length, List.take_of_length_le hle] at h
          have hlts := val_lt hss
          rw [hl'.out] at hlts
          have h0 : cy = 0 := by
            rcases Nat.eq_zero_or_pos cy with hc0 | hc0
            · exact hc0
            · exfalso
              have := Nat.mul_le_mul_right (4294967296 ^ us.length) hc0
              rw [Nat.one_mul] at this
              have := Hge.out; have := Hu.out; have := Hv.out
              omega
          rw [h0, Nat.zero_mul] at h
          have := Hu.out; have := Hv.out
          omega
        rw [e2] at hfit
        have hBx : Below w.heap.size w wr := hG.below hBm hgle
        have HF := Lib.hid hfit
        clear hRs hfit e2
        go_wp2_with fail
        refine HF.out.mono ?_
        rintro e w' ⟨hBf, hF⟩
        have hBf' := below_trans hBx hBf
        rcases hF with ⟨hlim, v, rfl, hN⟩ | ⟨hlim, rfl⟩
        · go_wp2_with fail
          go_ret2
          exact .inr ⟨by have := Hge.out; omega, hBf', .inl ⟨hlim, v, rfl, hN⟩⟩
        · go_wp2_with fail
          go_ret2
          exact .inr ⟨by have := Hge.out; omega, hBf', .inr ⟨hlim, rfl⟩⟩
end Go.Proofs.YtnncfbmddpijcaaGreatDoor
