/- Both together. -/
import Derived.Test.YtlgfjgkcgimdoaaDoorFit
namespace Go.Proofs.YtlgfjgkcgimdoaaDoor
open Go Go.RowKit

theorem info_u32 : (Tryd.prog.info? 57).map (fun i => (i.zero, i.size, i.bytes)) = some (some (.int .u32 0), 1, 4) := by kernel_rfl

theorem make_nat (n : Nat) (z : Int) (hz : z = (n : Int)) (hn : n ≤ 2000000) (w : World) :
    (Instr.makeSlice 23 (.int .i64 z) (.int .i64 z)).run Tryd.prog w = .ok (.slice (some ⟨w.heap.size, 0, none⟩) n n) (w.alloc (.cells (nums .u32 (List.replicate n 0)) 57)) :=
  run_make_nums 23 57 .u32 4 Tryd.underlying23 info_u32 n z hz (by omega) (by omega) w

theorem digit_lt {zs : List Nat} (h : ∀ x ∈ zs, x < 4294967296) (i : Nat) : zs[i]?.getD 0 < 4294967296 := by
  rcases hg : zs[i]? with _ | x
  · simp
  · exact get_lt h hg
theorem val_take_digit (B : Nat) (zs : List Nat) (i : Nat) : val B (zs.take (i + 1)) = val B (zs.take i) + B ^ i * zs[i]?.getD 0 := by
  rcases hg : zs[i]? with _ | x
  · have : zs.length ≤ i := by simpa using hg
    rw [List.take_of_length_le (by omega), List.take_of_length_le this]; simp
  · exact val_take_succ hg

theorem mem_replicate_lt {n : Nat} : ∀ x ∈ List.replicate n 0, x < 4294967296 := fun x hx => by
  have := List.eq_of_mem_replicate hx; omega

/-- One place more of a sum. -/
theorem plus_step {B i s c' x y c : Nat} {S S' X Y : Nat} (h : S + c * B ^ i = X + Y) (hs : s + c' * B = x + y + c) (hS : S' = S + B ^ i * s) :
    S' + c' * B ^ (i + 1) = (X + B ^ i * x) + (Y + B ^ i * y) := by
  have h1 := congrArg (B ^ i * ·) hs
  simp only [Nat.mul_add] at h1
  rw [hS, Nat.pow_succ]
  have e1 : c' * (B ^ i * B) = B ^ i * (c' * B) := by rw [Nat.mul_comm (B ^ i) B, ← Nat.mul_assoc, Nat.mul_comm (c' * B)]
  have e3 : c * B ^ i = B ^ i * c := Nat.mul_comm _ _
  omega

set_option maxRecDepth 100000 in
set_option maxHeartbeats 2000000 in
theorem add_c (w : World) (va vb : Value) (xs ys : List Nat) (ha : Rd .u32 w va xs) (hb : Rd .u32 w vb ys) (hxs : ∀ x ∈ xs, x < 4294967296) (hys : ∀ x ∈ ys, x < 4294967296)
    (hla : xs.length ≤ 1000000) (hlb : ys.length ≤ 1000000) :
    Calls Tryd.prog 34 #[va, vb] w (Fitted w (val 4294967296 xs + val 4294967296 ys)) := by
  have ht1 := trim_num w va xs ha hxs
  go_enter Tryd.func34, Tryd.ntmps34
  go_wp2_with fail
  refine ht1.mono ?_
  rintro e w1 ⟨v1, xs', rfl, hR1, hC1, hv1, hl1, hB1⟩
  have ht2 := trim_num w1 vb ys (hb.below hB1) hys
  clear ht1
  go_wp2_with fail
  refine ht2.mono ?_
  rintro e w2 ⟨v2, ys', rfl, hR2, hC2, hv2, hl2, hB2⟩
  have hR1' := hR1.below hB2
  have hB := below_trans hB1 hB2
  obtain ⟨A1, c1, rfl, _⟩ := hR1'.form
  obtain ⟨A2, c2, rfl, _⟩ := hR2.form
  have Hs : Hid (val 4294967296 xs' + val 4294967296 ys' = val 4294967296 xs + val 4294967296 ys) := by rw [Hid, hv1, hv2]
  have hl1' : xs'.length ≤ 1000000 := by omega
  have hl2' : ys'.length ≤ 1000000 := by omega
  clear ht2 hv1 hv2 hl1 hl2 hR1 hB1 hB2 ha hb hxs hys hla hlb
  by_cases hsw : xs'.length < ys'.length
  focus
    have Hs' : Hid (val 4294967296 ys' + val 4294967296 xs' = val 4294967296 xs + val 4294967296 ys) := by rw [Hid, ← Hs.out, Nat.add_comm]
    have hlt : xs'.length ≤ ys'.length := by omega
    have hmk := make_nat (ys'.length + 1) ((ys'.length : Int) + 1) (by omega) (by omega)
    go_wp2_with fail
    clear hmk Hs hsw hl1'
    obtain ⟨us, hus⟩ : ∃ us, us = ys' := ⟨_, rfl⟩
    subst hus
    obtain ⟨vs, hvs⟩ : ∃ vs, vs = xs' := ⟨_, rfl⟩
    subst hvs
    have hRu := hR2
    have hRv := hR1'
    have hCu := hC2
    have hCv := hC1
    have hlu := hl2'
    clear hR1' hR2 hC1 hC2 hl2'
  rotate_left
  focus
    have Hs' : Hid (val 4294967296 xs' + val 4294967296 ys' = val 4294967296 xs + val 4294967296 ys) := Hs
    have hlt : ys'.length ≤ xs'.length := by omega
    have hmk := make_nat (xs'.length + 1) ((xs'.length : Int) + 1) (by omega) (by omega)
    go_wp2_with fail
    clear hmk Hs hsw hl2'
    obtain ⟨us, hus⟩ : ∃ us, us = xs' := ⟨_, rfl⟩
    subst hus
    obtain ⟨vs, hvs⟩ : ∃ vs, vs = ys' := ⟨_, rfl⟩
    subst hvs
    have hRu := hR1'
    have hRv := hR2
    have hCu := hC1
    have hCv := hC2
    have hlu := hl1'
    clear hR1' hR2 hC1 hC2 hl1'
  all_goals
    have hO := Own.new w2 .u32 57 (List.replicate (us.length + 1) 0)
    have hBm := hB.trans (((Below.refl _ w2).alloc (Nat.le_refl _) (.cells (nums .u32 (List.replicate (us.length + 1) 0)) 57)).mono hB.size)
    have hRu1 := hRu.below ((Below.refl _ w2).alloc (Nat.le_refl _) (.cells (nums .u32 (List.replicate (us.length + 1) 0)) 57))
    have hRv1 := hRv.below ((Below.refl _ w2).alloc (Nat.le_refl _) (.cells (nums .u32 (List.replicate (us.length + 1) 0)) 57))
    have hnu := hRu.away (Nat.le_refl _)
    have hnv := hRv.away (Nat.le_refl _)
    have hgle := hB.size
    clear hRu hRv hB
    go_loopw [7, 27] (fun c i wr => ∃ (k : Nat) (ss : List Nat) (cy : Nat), k ≤ us.length ∧ i = .int .i64 k ∧ c = .int .u32 cy ∧ cy ≤ 1 ∧ Hid (ss.length = us.length + 1) ∧ (∀ x ∈ ss, x < 4294967296) ∧
        Hid (val 4294967296 (ss.take k) + cy * 4294967296 ^ k = val 4294967296 (us.take k) + val 4294967296 (vs.take k)) ∧ Own .u32 57 wr w2.heap.size ss ∧ Only w2.heap.size (w2.alloc (.cells (nums .u32 (List.replicate (us.length + 1) 0)) 57)) wr)
      (fun _ i _ => us.length - (intOf i).toNat)
    case atStart => exact ⟨0, _, 0, Nat.zero_le _, rfl, rfl, by omega, by simp [Hid], mem_replicate_lt, by simp [Hid], hO, Only.refl _ _⟩
    case round =>
      obtain ⟨k, ss, cy, hk, rfl, rfl, hcy, hl', hss, hv, hO', hG⟩ := hrel
      by_cases hlk : k < us.length
      · have hx : us[k]? = some us[k] := List.getElem?_eq_getElem hlk
        obtain ⟨x, hxx⟩ : ∃ x, us[k] = x := ⟨_, rfl⟩
        rw [hxx] at hx
        clear hxx
        have hxb := get_lt hCu.1 hx
        have hRu2 := hRu1.grown hG hnu
        have hRv2 := hRv1.grown hG hnv
        obtain ⟨b, off, rfl, _⟩ := hRu2.addr (by omega)
        have hcx := hRu2.cell hx
        have hsl : k < ss.length := by have := hl'.out; omega
        have hs0 : ss[k]? = some ss[k] := List.getElem?_eq_getElem hsl
        have hcg := hO'.cell hs0
        have hfg := hO'.frozen k
        have Hx := Lib.hid hx
        clear hx hs0
        go_wp2_with fail
        refine (digit_c _ _ vs hRv2 k).mono ?_
        rintro e w' ⟨rfl, rfl⟩
        have hyb := digit_lt hCv.1 k
        have hvy := val_take_digit 4294967296 vs k
        have Hvy := Lib.hid hvy
        clear hvy
        generalize vs[k]?.getD 0 = y at hyb Hvy ⊢
        go_wp2_with fail
        refine (add32_c _ x y cy hxb hyb hcy).mono ?_
        rintro e w' ⟨rfl, rfl⟩
        go_wp2_with fail
        go_roundw
        case rel =>
          refine ⟨k + 1, ss.set k ((x + y + cy) % 4294967296), (x + y + cy) / 4294967296, by omega, by go_num, rfl, by omega, by rw [Hid, List.length_set]; exact hl'.out, mem_set_lt hss (by omega), ?_, hO'.set _ _, Only.set hG _ _⟩
          have hst := plus_step (s := (x + y + cy) % 4294967296) (c' := (x + y + cy) / 4294967296) (x := x) (y := y) hv.out (by omega) (take_set_succ hsl)
          rw [Hid, hst, val_take_succ Hx.out, Hvy.out]
        case measure => simp [intOf]; omega
      · obtain rfl : k = us.length := by omega
        have hsl : us.length < ss.length := by have := hl'.out; omega
        have hs0 : ss[us.length]? = some ss[us.length] := List.getElem?_eq_getElem hsl
        have hcg := hO'.cell hs0
        have hfg := hO'.frozen us.length
        have hvs := take_set_succ (B := 4294967296) (y := cy) hsl
        rw [List.take_of_length_le (by rw [List.length_set]; have := hl'.out; omega)] at hvs
        have hO2 := hO'.set us.length cy
        have hRs := hO2.whole (by rw [List.length_set]; have := hl'.out; omega)
        have hfit := fit_c _ _ _ hRs (mem_set_lt hss (by omega))
        have e1 : (ss.set us.length cy).length = us.length + 1 := by rw [List.length_set]; exact hl'.out
        rw [e1] at hfit
        have e2 : val 4294967296 (ss.set us.length cy) = val 4294967296 xs + val 4294967296 ys := by
          rw [hvs, ← Hs'.out]
          have h := hv.out
          rw [List.take_length, List.take_of_length_le hlt] at h
          rw [Nat.mul_comm]; exact h
        rw [e2] at hfit
        have hBx : Below w.heap.size w (wr.setCell ⟨w2.heap.size, us.length, none⟩ (.int .u32 (cy : Int))) := (Only.set hG us.length (.int .u32 (cy : Int))).below hBm hgle
        have HF := Lib.hid hfit
        clear hs0 hvs hO2 hRs hfit e1 e2
        go_wp2_with fail
        refine HF.out.mono ?_
        rintro e w' ⟨hBf, hF⟩
        have hBf' := below_trans hBx hBf
        rcases hF with ⟨hlim, v, rfl, hN⟩ | ⟨hlim, rfl⟩
        · go_wp2_with fail
          go_ret2
          exact ⟨hBf', .inl ⟨hlim, v, rfl, hN⟩⟩
        · go_wp2_with fail
          go_ret2
          exact ⟨hBf', .inr ⟨hlim, rfl⟩⟩
end Go.Proofs.YtlgfjgkcgimdoaaDoor
