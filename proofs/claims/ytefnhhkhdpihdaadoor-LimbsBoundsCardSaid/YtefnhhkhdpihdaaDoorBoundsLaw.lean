/- LimbsBounds: the walk. -/
import Derived.Test.YtefnhhkhdpihdaaDoorHeldC
import Derived.Test.YtefnhhkhdpihdaaDoorRound
namespace Go.Proofs.YtefnhhkhdpihdaaDoor
open Go Go.RowKit Go.Shelf

/-- The highest digit, so often. -/
def tops (n : Nat) : List Nat := List.replicate n 4294967295
theorem tops_val (n : Nat) : val 4294967296 (tops n) + 1 = 4294967296 ^ n := by
  unfold tops
  induction n with
  | zero => rfl
  | succ n ih =>
    rw [List.replicate_succ, val_cons, Nat.pow_succ]
    have h := congrArg (4294967296 * ·) ih
    simp only [Nat.mul_add, Nat.mul_one] at h
    rw [Nat.mul_comm (4294967296 ^ n)]
    omega
theorem tops_lt (n : Nat) : ∀ x ∈ tops n, x < 4294967296 := fun x hx => by
  have := List.eq_of_mem_replicate hx; omega
theorem tops_len (n : Nat) : (tops n).length = n := List.length_replicate ..
theorem tops_last {n : Nat} : (tops n).getLast? ≠ some 0 := by
  intro e
  have h2 := List.mem_of_getLast? e
  have := List.eq_of_mem_replicate h2
  omega
/-- k digits are laid. -/
def filled (n k : Nat) : List Nat := List.replicate k 4294967295 ++ List.replicate (n - k) 0
theorem filled_len {n k : Nat} (hk : k ≤ n) : (filled n k).length = n := by
  have := hk
  simp [filled]; omega
theorem filled_get {n k : Nat} (h : k < n) : (filled n k)[k]? = some 0 := by
  unfold filled
  rw [List.getElem?_append_right (by simp), List.length_replicate, Nat.sub_self, show n - k = (n - (k + 1)) + 1 by omega]
  rfl
theorem filled_set {n k : Nat} (h : k < n) : (filled n k).set k 4294967295 = filled n (k + 1) := by
  unfold filled
  rw [List.set_append_right _ _ (by simp), List.length_replicate, Nat.sub_self, show n - k = (n - (k + 1)) + 1 by omega, List.replicate_succ, List.set_cons_zero, List.replicate_succ', List.append_assoc]
  rfl
theorem filled_all (n : Nat) : filled n n = tops n := by simp [filled, tops]
theorem big_mul {P Q B x y : Nat} (hB : 3 ≤ B) (hP : 0 < P) (hQ : 0 < Q) (hx : x + 1 = P * B) (hy : y + 1 = Q * B) : P * Q * B ≤ x * y := by
  obtain ⟨c, rfl⟩ : ∃ c, B = c + 1 := ⟨B - 1, by omega⟩
  rw [Nat.mul_add, Nat.mul_one] at hx hy
  have g1 : P * c ≤ x := by omega
  have g2 : Q * c ≤ y := by omega
  refine Nat.le_trans ?_ (Nat.mul_le_mul g1 g2)
  rw [Nat.mul_mul_mul_comm]
  refine Nat.mul_le_mul_left _ ?_
  have := Nat.mul_le_mul_left c (show 2 ≤ c by omega)
  omega
theorem tops_mul_lim {n m : Nat} (hn : 0 < n) (hm : 0 < m) (h : 512 < n + m) : Lim ≤ val 4294967296 (tops n) * val 4294967296 (tops m) := by
  obtain ⟨a, rfl⟩ : ∃ a, n = a + 1 := ⟨n - 1, by omega⟩
  obtain ⟨b, rfl⟩ : ∃ b, m = b + 1 := ⟨m - 1, by omega⟩
  have h1 := tops_val (a + 1)
  have h2 := tops_val (b + 1)
  rw [Nat.pow_succ] at h1 h2
  have h3 := big_mul (by omega) (Nat.pow_pos (by omega)) (Nat.pow_pos (by omega)) h1 h2
  rw [← Nat.pow_add, ← Nat.pow_succ] at h3
  exact Nat.le_trans (Nat.pow_le_pow_right (by omega) (show maxL ≤ (a + b).succ by unfold maxL; omega)) h3
theorem tops_mul_fit {n m : Nat} (h : n + m ≤ 512) : val 4294967296 (tops n) * val 4294967296 (tops m) < Lim :=
  lim_of (mul_pow_lt (by have := tops_val n; omega) (by have := tops_val m; omega)) h
theorem tops_add_lim {n m : Nat} (hn : 0 < n) (hm : 0 < m) (h : n = maxL ∨ m = maxL) : Lim ≤ val 4294967296 (tops n) + val 4294967296 (tops m) := by
  have h1 := tops_val n
  have h2 := tops_val m
  have p1 : 4294967296 ^ 1 ≤ 4294967296 ^ n := Nat.pow_le_pow_right (by omega) hn
  have p2 : 4294967296 ^ 1 ≤ 4294967296 ^ m := Nat.pow_le_pow_right (by omega) hm
  rcases h with rfl | rfl
  · have e : Lim = 4294967296 ^ maxL := rfl
    generalize 4294967296 ^ maxL = q at *
    omega
  · have e : Lim = 4294967296 ^ maxL := rfl
    generalize 4294967296 ^ maxL = q at *
    omega
theorem tops_add_fit {n m : Nat} (h : n ≤ 511 ∧ m ≤ 511) : val 4294967296 (tops n) + val 4294967296 (tops m) < Lim := by
  have h1 := tops_val n
  have h2 := tops_val m
  obtain ⟨e, he⟩ : ∃ e : Nat, e = 511 := ⟨_, rfl⟩
  have p1 : 4294967296 ^ n ≤ 4294967296 ^ e := Nat.pow_le_pow_right (by omega) (by omega)
  have p2 : 4294967296 ^ m ≤ 4294967296 ^ e := Nat.pow_le_pow_right (by omega) (by omega)
  exact lim_of (n := e + 1) (add_pow_lt (by omega) (by omega) (by omega)) (by omega)

set_option maxRecDepth 100000 in
set_option maxHeartbeats 4000000 in
theorem bounds_law (w : World) (hT : Tab w) (n : Int) (hlo : -9223372036854775808 ≤ n) (hhi : n ≤ 9223372036854775807) (m : Int) (hlo2 : -9223372036854775808 ≤ m) (hhi2 : m ≤ 9223372036854775807) :
    Calls Tryd.prog 8 #[.int .i64 n, .int .i64 m] w fun e w' => e = .returned (.bool true) ∧ Below w.heap.size w w' := by
  have HT := Lib.hid hT
  clear hT
  go_enter Tryd.func8, Tryd.ntmps8
  go_wp2_with fail
  refine (reckons_c w HT.out).mono ?_
  rintro e w1 ⟨rfl, B⟩
  have HB1 := Lib.hid B
  clear B
  by_cases h1 : n < 1
  · go_wp2_with fail
    go_ret
    exact ⟨rfl, HB1.out⟩
  by_cases h2 : m < 1
  · go_wp2_with fail
    go_ret
    exact ⟨rfl, HB1.out⟩
  by_cases h3 : n > 600
  · go_wp2_with fail
    go_ret
    exact ⟨rfl, HB1.out⟩
  by_cases h4 : m > 600
  · go_wp2_with fail
    go_ret
    exact ⟨rfl, HB1.out⟩
  obtain ⟨a, rfl⟩ : ∃ a : Nat, n = (a : Int) := ⟨n.toNat, by omega⟩
  obtain ⟨b, rfl⟩ : ∃ b : Nat, m = (b : Int) := ⟨m.toNat, by omega⟩
  have hmka := make_nat a (a : Int) rfl (by omega)
  have hmkb := make_nat b (b : Int) rfl (by omega)
  go_wp2_with fail
  go_region
  focus
    have hOa : Own .u32 35 (((w1.alloc (.cells (nums .u32 (List.replicate a 0)) 35)).alloc (.cells (nums .u32 (List.replicate b 0)) 35)).drew) w1.heap.size (filled a 0) := (Own.new w1 .u32 35 (List.replicate a 0)).alloc (.cells (nums .u32 (List.replicate b 0)) 35)
    have hOb : Own .u32 35 (((w1.alloc (.cells (nums .u32 (List.replicate a 0)) 35)).alloc (.cells (nums .u32 (List.replicate b 0)) 35)).drew) (w1.heap.size + 1) (filled b 0) := by
      have h := Own.new (w1.alloc (.cells (nums .u32 (List.replicate a 0)) 35)) .u32 35 (List.replicate b 0)
      rw [World.size_alloc] at h
      exact h
    have hB : Below w.heap.size w (((w1.alloc (.cells (nums .u32 (List.replicate a 0)) 35)).alloc (.cells (nums .u32 (List.replicate b 0)) 35)).drew) :=
      Below.drew ((HB1.out.alloc (Below.size HB1.out) _).alloc (by have := Below.size HB1.out; rw [World.size_alloc]; exact Nat.le_succ_of_le this) _)
    have hga := Below.size HB1.out
    have hgb : w.heap.size ≤ w1.heap.size + 1 := by omega
    have hne : w1.heap.size ≠ w1.heap.size + 1 := by omega
    generalize ((w1.alloc (.cells (nums .u32 (List.replicate a 0)) 35)).alloc (.cells (nums .u32 (List.replicate b 0)) 35)).drew = W at *
    generalize w1.heap.size + 1 = gb at *
    generalize w1.heap.size = ga at *
  rotate_left
  focus
    have hOb : Own .u32 35 (((w1.alloc (.cells (nums .u32 (List.replicate b 0)) 35)).alloc (.cells (nums .u32 (List.replicate a 0)) 35)).drew) w1.heap.size (filled b 0) := (Own.new w1 .u32 35 (List.replicate b 0)).alloc (.cells (nums .u32 (List.replicate a 0)) 35)
    have hOa : Own .u32 35 (((w1.alloc (.cells (nums .u32 (List.replicate b 0)) 35)).alloc (.cells (nums .u32 (List.replicate a 0)) 35)).drew) (w1.heap.size + 1) (filled a 0) := by
      have h := Own.new (w1.alloc (.cells (nums .u32 (List.replicate b 0)) 35)) .u32 35 (List.replicate a 0)
      rw [World.size_alloc] at h
      exact h
    have hB : Below w.heap.size w (((w1.alloc (.cells (nums .u32 (List.replicate b 0)) 35)).alloc (.cells (nums .u32 (List.replicate a 0)) 35)).drew) :=
      Below.drew ((HB1.out.alloc (Below.size HB1.out) _).alloc (by have := Below.size HB1.out; rw [World.size_alloc]; exact Nat.le_succ_of_le this) _)
    have hgb := Below.size HB1.out
    have hga : w.heap.size ≤ w1.heap.size + 1 := by omega
    have hne : w1.heap.size + 1 ≠ w1.heap.size := by omega
    generalize ((w1.alloc (.cells (nums .u32 (List.replicate b 0)) 35)).alloc (.cells (nums .u32 (List.replicate a 0)) 35)).drew = W at *
    generalize w1.heap.size + 1 = ga at *
    generalize w1.heap.size = gb at *
  all_goals
    have HO := Lib.hid (And.intro hOa (And.intro hOb hB))
    have HG := Lib.hid (And.intro hga (And.intro hgb hne))
    clear hOa hOb hB hga hgb hne hmka hmkb HB1
    go_wp2_with fail
    go_loopw [36] (fun i wr => ∃ k : Nat, k ≤ a ∧ i = .int .i64 k ∧ Hid (Own .u32 35 wr ga (filled a k) ∧ Own .u32 35 wr gb (filled b 0) ∧ Below w.heap.size w wr)) (fun i _ => a - (intOf i).toNat)
    case atStart => exact ⟨0, by omega, rfl, HO.out⟩
    case round =>
      obtain ⟨k, hk, rfl, H⟩ := hrel
      by_cases hlt : k < a
      · have hcg := H.out.1.cell (filled_get hlt)
        have hfg := H.out.1.frozen k
        go_wp2_with fail
        go_roundw
        case rel =>
          refine ⟨k + 1, by omega, by go_num, ?_, H.out.2.1.far (fun e => HG.out.2.2 e.symm) _, H.out.2.2.setCell (by exact HG.out.1) _⟩
          have := H.out.1.set k 4294967295
          rw [filled_set hlt] at this
          exact this
        case measure => simp [intOf]; omega
      · obtain rfl : k = a := by omega
        have HP := Lib.hid H.out
        clear H HO
        go_wp2_with fail
        go_loopw [45] (fun i wr => ∃ q : Nat, q ≤ b ∧ i = .int .i64 q ∧ Hid (Own .u32 35 wr ga (filled k k) ∧ Own .u32 35 wr gb (filled b q) ∧ Below w.heap.size w wr)) (fun i _ => b - (intOf i).toNat)
        case atStart => exact ⟨0, by omega, rfl, HP.out⟩
        case round =>
          obtain ⟨q, hq, rfl, H⟩ := hrel
          clear HP
          by_cases hlt2 : q < b
          · have hcg := H.out.2.1.cell (filled_get hlt2)
            have hfg := H.out.2.1.frozen q
            go_wp2_with fail
            go_roundw
            case rel =>
              refine ⟨q + 1, by omega, by go_num, H.out.1.far (fun e => HG.out.2.2 e) _, ?_, H.out.2.2.setCell (by exact HG.out.2.1) _⟩
              have := H.out.2.1.set q 4294967295
              rw [filled_set hlt2] at this
              exact this
            case measure => simp [intOf]; omega
          · obtain rfl : q = b := by omega
            have hRa := H.out.1.whole (by rw [filled_len (Nat.le_refl _)]; omega)
            have hRb := H.out.2.1.whole (by rw [filled_len (Nat.le_refl _)]; omega)
            rw [filled_len (Nat.le_refl _), filled_all] at hRa hRb
            have hck := check_c wr _ _ hRa
            have HR := Lib.hid (And.intro hRa (And.intro hRb H.out.2.2))
            clear hRa hRb H
            by_cases hbig : 512 < k
            · rw [checkOf_long (by rw [tops_len]; exact hbig)] at hck
              go_wp2_with (go_at_call 33; refine hck.mono ?_; rintro e w' ⟨rfl, rfl⟩)
              go_ret
              exact ⟨rfl, HR.out.2.2⟩
            rw [checkOf_ok (by rw [tops_len]; exact hbig) tops_last] at hck
            by_cases hbig2 : 512 < q
            · have hbd : decide ((512 : Int) < (q : Int)) = true := by rw [decide_eq_true_iff]; omega
              go_wp2_with (go_at_call 33; refine hck.mono ?_; rintro e w' ⟨rfl, rfl⟩)
              go_ret
              exact ⟨rfl, HR.out.2.2⟩
            go_wp2_with (go_at_call 33; refine hck.mono ?_; rintro e w' ⟨rfl, rfl⟩)
            refine (mul_c wr _ _ (tops k) (tops q) HR.out.1 HR.out.2.1 (tops_lt k) (tops_lt q) (by rw [tops_len]; omega) (by rw [tops_len]; omega)).mono ?_
            rintro e w2 ⟨hb2, hm⟩
            have HM := Lib.hid (And.intro (HR.out.1.below hb2) (And.intro (HR.out.2.1.below hb2) (HR.out.2.2.trans (hb2.mono (Below.size HR.out.2.2)))))
            clear hck
            have fin : ∀ (W2 : World), Below w2.heap.size w2 W2 → Below w.heap.size w W2 := fun W2 h => HM.out.2.2.trans (h.mono (Below.size HM.out.2.2))
            have HF := Lib.hid fin
            clear fin hb2
            by_cases hsum : k + q ≤ 512
            · have hs1 : (k : Int) + (q : Int) ≤ 512 := by omega
              have hsd : decide ((k : Int) + (q : Int) ≤ 512) = true := decide_eq_true hs1
              rcases hm with ⟨_, v, rfl, hN⟩ | ⟨hl, _⟩
              · obtain ⟨zs, hz, _⟩ := hN
                obtain ⟨A, cap, rfl, _⟩ := hz.form
                clear hz
                have hmd : decide (max (k : Int) (q : Int) + 1 ≤ 512) = true := by rw [decide_eq_true_iff]; omega
                go_wp2_with fail
                refine (add_c w2 _ _ (tops k) (tops q) HM.out.1 HM.out.2.1 (tops_lt k) (tops_lt q) (by rw [tops_len]; omega) (by rw [tops_len]; omega)).mono ?_
                rintro e w3 ⟨hb3, ha⟩
                have HB3 := Lib.hid (HF.out w3 hb3)
                clear hb3
                rcases ha with ⟨_, v, rfl, hN⟩ | ⟨hl, _⟩
                · obtain ⟨us, hz, _⟩ := hN
                  obtain ⟨A2, cap2, rfl, _⟩ := hz.form
                  clear hz
                  go_wp2_with fail
                  all_goals
                    go_ret
                    exact ⟨rfl, HB3.out⟩
                · exact absurd (tops_add_fit (n := k) (m := q) (by omega)) (by omega)
              · exact absurd (tops_mul_fit hsum) (by omega)
            · have hs1 : ¬ (k : Int) + (q : Int) ≤ 512 := by omega
              have hsd : decide ((k : Int) + (q : Int) ≤ 512) = false := decide_eq_false hs1
              rcases hm with ⟨hl, _⟩ | ⟨_, rfl⟩
              · exact absurd (tops_mul_lim (n := k) (m := q) (by omega) (by omega) (by omega)) (by omega)
              go_wp2_with fail
              refine (add_c w2 _ _ (tops k) (tops q) HM.out.1 HM.out.2.1 (tops_lt k) (tops_lt q) (by rw [tops_len]; omega) (by rw [tops_len]; omega)).mono ?_
              rintro e w3 ⟨hb3, ha⟩
              have HB3 := Lib.hid (HF.out w3 hb3)
              clear hb3
              by_cases hmx : k = 512 ∨ q = 512
              · rcases ha with ⟨hl, _⟩ | ⟨_, rfl⟩
                · exact absurd (tops_add_lim (n := k) (m := q) (by omega) (by omega) (by unfold maxL; omega)) (by omega)
                have hmd : decide (max (k : Int) (q : Int) + 1 ≤ 512) = false := by rw [decide_eq_false_iff_not]; omega
                go_wp2_with fail
                all_goals
                  go_ret
                  exact ⟨rfl, HB3.out⟩
              · have hmd : decide (max (k : Int) (q : Int) + 1 ≤ 512) = true := by rw [decide_eq_true_iff]; omega
                rcases ha with ⟨_, v, rfl, hN⟩ | ⟨hl, _⟩
                · obtain ⟨us, hz, _⟩ := hN
                  obtain ⟨A2, cap2, rfl, _⟩ := hz.form
                  clear hz
                  go_wp2_with fail
                  all_goals
                    go_ret
                    exact ⟨rfl, HB3.out⟩
                · exact absurd (tops_add_fit (n := k) (m := q) (by omega)) (by omega)
end Go.Proofs.YtefnhhkhdpihdaaDoor
