/- The document's answer: one times the other. -/
import Derived.Test.YtphpaejgcahgbaaGreatDoorRefOf
import Derived.Test.YtphpaejgcahgbaaGreatDoorHeld
import Derived.StillTailTactics
namespace Go.Proofs.YtphpaejgcahgbaaGreatDoor
open Go Go.RowKit Go.Shelf

theorem make_ref (n : Nat) (z : Int) (hz : z = (n : Int)) (hn : n ≤ 2000000) (w : World) :
    (Instr.makeSlice 28 (.int .i64 z) (.int .i64 z)).run Tryz.prog w = .ok (.slice (some ⟨w.heap.size, 0, none⟩) n n) (w.alloc (.cells (nums .i64 (List.replicate n 0)) 3)) :=
  run_make_nums 28 3 .i64 8 Tryz.underlying28 ref_info n z hz (by omega) (by omega) w

theorem mul_place {P x y V : Nat} {k j S L : Nat} (h : S = L + 256 ^ k * (x * V)) (hP : P = 256 ^ j) : S + 256 ^ (k + j) * (x * y) = L + 256 ^ k * (x * (V + P * y)) := by
  subst hP
  rw [h, Nat.pow_add, Nat.mul_add, Nat.mul_add, Nat.mul_assoc, Nat.mul_left_comm (256 ^ j) x y]
  omega
theorem take_mul_step {x V Y T k : Nat} (h : T = V * Y) : T + 256 ^ k * (x * Y) = (V + 256 ^ k * x) * Y := by
  rw [h, Nat.add_mul, Nat.mul_assoc]
theorem last_zero {ms : List Nat} {p x : Nat} (hl : ms.length = p + 1) (hx : ms[p]? = some x) (hv : val 256 ms < 256 ^ p) : x = 0 := by
  have h1 := val_take_succ (B := 256) hx
  rw [← hl, List.take_length] at h1
  rcases Nat.eq_zero_or_pos x with h | h
  · exact h
  · have := Nat.mul_le_mul_left (256 ^ p) h
    omega

/-- Between two rounds of the carrying. -/
def CarryI (n p T : Nat) (ms : List Nat) : Prop := ms.length = n ∧ val 256 ms = T ∧ (∀ (j x : Nat), j < p → ms[j]? = some x → x < 256) ∧ (∀ x, ms[p]? = some x → x < 66000) ∧ (∀ (j x : Nat), p < j → ms[j]? = some x → x < 65536)
theorem carry_step {n p T c d : Nat} {ms : List Nat} (h : CarryI n p T ms) (hc : ms[p]? = some c) (hd : ms[p + 1]? = some d) : CarryI n (p + 1) T ((ms.set (p + 1) (d + c / 256)).set p (c % 256)) := by
  obtain ⟨h1, h2, h3, h4, h5⟩ := h
  have hp := (List.getElem?_eq_some_iff.1 hd).1
  have hcb := h4 c hc
  have hdb := h5 (p + 1) d (by omega) hd
  rw [List.set_comm _ _ (by omega)]
  refine ⟨by simp [h1], ?_, ?_, ?_, ?_⟩
  · rw [val_set2 hc hd (by omega), h2]
  · intro j x hj hx
    rw [List.getElem?_set_ne (by omega)] at hx
    by_cases e : j = p
    · subst e
      rw [List.getElem?_set_self (by omega)] at hx
      injection hx with hx; omega
    · rw [List.getElem?_set_ne (by omega)] at hx
      exact h3 j x (by omega) hx
  · intro x hx
    rw [List.getElem?_set_self (by simp; omega)] at hx
    injection hx with hx; omega
  · intro j x hj hx
    rw [List.getElem?_set_ne (by omega), List.getElem?_set_ne (by omega)] at hx
    exact h5 j x (by omega) hx

theorem wrap_i64_nat {z : Int} {n : Nat} (h : z = (n : Int)) (hn : n < 9223372036854775808) : IntKind.i64.wrap z = (n : Int) := by
  subst h
  simp [IntKind.wrap, IntKind.bits, IntKind.signed]
  omega

set_option maxRecDepth 100000 in
set_option maxHeartbeats 4000000 in
theorem refMul_c (w : World) (va vb : Value) (xs ys : List Nat) (ha : Rd .i64 w va xs) (hb : Rd .i64 w vb ys) (hxs : ∀ x ∈ xs, x < 256) (hys : ∀ x ∈ ys, x < 256) (hla : xs.length ≤ 100000) (hlb : ys.length ≤ 100000) :
    Calls Tryz.prog 24 #[va, vb] w (RefOut w (val 256 xs * val 256 ys) (xs.length + ys.length + 1)) := by
  obtain ⟨A, cap, rfl, hcapa⟩ := ha.form
  obtain ⟨A2, cap2, rfl, hcapb⟩ := hb.form
  have hmk := make_ref (xs.length + ys.length + 1) ((xs.length : Int) + (ys.length : Int) + 1) (by omega) (by omega)
  have HX := Lib.hid (And.intro hxs (And.intro hys (And.intro ha hb)))
  clear hxs hys ha hb
  go_enter Tryz.func24, Tryz.ntmps24
  go_wp2_with fail
  have hO := Own.new w .i64 3 (List.replicate (xs.length + ys.length + 1) 0)
  have hB0 := (Below.refl w.heap.size w).alloc (Nat.le_refl _) (.cells (nums .i64 (List.replicate (xs.length + ys.length + 1) 0)) 3)
  obtain ⟨n, hn⟩ : ∃ n, n = xs.length + ys.length + 1 := ⟨_, rfl⟩
  rw [← hn] at hO hB0 ⊢
  have Hn := Lib.hid hn
  have hnb : n ≤ 200001 := by omega
  clear hmk hn
  go_loopw [6] (fun i wr => ∃ (k : Nat) (ls : List Nat), k ≤ xs.length ∧ i = .int .i64 k ∧ Hid (ls.length = n ∧ (∀ x ∈ ls, x < 256) ∧ val 256 ls = val 256 (xs.take k) * val 256 ys ∧ Own .i64 3 wr w.heap.size ls ∧ Below w.heap.size w wr))
    (fun i _ => xs.length - (intOf i).toNat)
  case atStart => exact ⟨0, _, by omega, rfl, by simp, fun x hx => by have := List.eq_of_mem_replicate hx; omega, by simp [val_replicate], hO, hB0⟩
  case round =>
    obtain ⟨k, ls, hk, rfl, H⟩ := hrel
    by_cases hlt : k < xs.length
    · have hx : xs[k]? = some xs[k] := List.getElem?_eq_getElem hlt
      obtain ⟨x, hxx⟩ : ∃ x, xs[k] = x := ⟨_, rfl⟩
      rw [hxx] at hx
      clear hxx
      obtain ⟨b, off, rfl, hbl⟩ := HX.out.2.2.1.addr (by omega)
      have hxb := get_lt HX.out.1 hx
      have Hx := Lib.hid hx
      clear hx hO hB0
      go_wp2_with fail
      obtain ⟨wo, hwo⟩ : ∃ wo : World, wo = wr := ⟨_, rfl⟩
      go_loopw [7] (fun q wq => ∃ (j : Nat) (ms : List Nat), j ≤ ys.length ∧ q = .int .i64 j ∧ Hid (ms.length = n ∧ (∀ z ∈ ms, z < 65536) ∧ ms.drop (k + j) = ls.drop (k + j) ∧ val 256 ms = val 256 ls + 256 ^ k * (x * val 256 (ys.take j)) ∧
          Own .i64 3 wq w.heap.size ms ∧ Below w.heap.size w wq)) (fun q _ => ys.length - (intOf q).toNat)
      case atStart =>
        obtain ⟨h1, h2, h3, h4, h5⟩ := H.out
        exact ⟨0, ls, by omega, rfl, h1, fun z hz => by have := h2 z hz; omega, rfl, by simp, h4, h5⟩
      case round =>
        obtain ⟨j, ms, hj, rfl, H2⟩ := hrel
        by_cases hlj : j < ys.length
        · have hy : ys[j]? = some ys[j] := List.getElem?_eq_getElem hlj
          obtain ⟨y, hyy⟩ : ∃ y, ys[j] = y := ⟨_, rfl⟩
          rw [hyy] at hy
          clear hyy
          obtain ⟨bk, offk, rfl, hbk⟩ := HX.out.2.2.2.addr (by omega)
          have hyb := get_lt HX.out.2.1 hy
          have hml : k + j < ms.length := by have := H2.out.1; have := Hn.out; omega
          have hc : ms[k + j]? = some ms[k + j] := List.getElem?_eq_getElem hml
          obtain ⟨c, hcc⟩ : ∃ c, ms[k + j] = c := ⟨_, rfl⟩
          rw [hcc] at hc
          clear hcc
          have hcb : c < 256 := get_lt H.out.2.1 (by rw [← get_of_drop H2.out.2.2.1]; exact hc)
          have hcx : wr.cell? ⟨b, off + k, none⟩ = some (.int .i64 (x : Int)) := (HX.out.2.2.1.below H2.out.2.2.2.2.2).cell Hx.out
          have hcy : wr.cell? ⟨bk, offk + j, none⟩ = some (.int .i64 (y : Int)) := (HX.out.2.2.2.below H2.out.2.2.2.2.2).cell hy
          obtain ⟨idx, hidx⟩ : ∃ idx, idx = k + j := ⟨_, rfl⟩
          have hcg : wr.cell? ⟨w.heap.size, idx, none⟩ = some (.int .i64 (c : Int)) := by rw [hidx]; exact H2.out.2.2.2.2.1.cell hc
          have hfg : wr.frozen? ⟨w.heap.size, idx, none⟩ = false := H2.out.2.2.2.2.1.frozen idx
          have Hy := Lib.hid hy
          have Hc := Lib.hid hc
          have hmm : x * y ≤ 255 * 255 := Nat.mul_le_mul (by omega) (by omega)
          obtain ⟨m, hm⟩ : ∃ m, x * y = m := ⟨_, rfl⟩
          rw [hm] at hmm
          obtain ⟨s, hs⟩ : ∃ s, s = c + m := ⟨_, rfl⟩
          have hw1 : IntKind.i64.wrap ((k : Int) + (j : Int)) = (idx : Int) := wrap_i64_nat (by omega) (by omega)
          have hw2 : IntKind.i64.wrap ((x : Int) * (y : Int)) = (m : Int) := wrap_i64_nat (by rw [← hm]; exact (Int.natCast_mul x y).symm) (by omega)
          have hw3 : IntKind.i64.wrap ((c : Int) + (m : Int)) = (s : Int) := wrap_i64_nat (by omega) (by omega)
          have hi1 : (idx : Int) < (n : Int) := by have := H2.out.1; omega
          have hik : (k : Int) < (xs.length : Int) := by omega
          have hij : (j : Int) < (ys.length : Int) := by omega
          have Hm := Lib.hid (And.intro hm (And.intro hs hidx))
          clear hy hc hm hs hidx
          go_wp2_with fail
          go_still_tail 17, (by kernel_rfl)
          change wpList _ _ _ _ _ wr.drew
          have HF := Lib.hid hfg
          go_wp2_with fail
          go_roundw
          case rel =>
            obtain ⟨h1, h2, h3, h4, h5, h6⟩ := H2.out
            obtain ⟨hm, rfl, rfl⟩ := Hm.out
            refine ⟨j + 1, ms.set (k + j) (c + m), by omega, by go_num, by simp [h1], mem_set_lt h2 (by omega), ?_, ?_, (Own.set (w := wr.drew) h5 _ _), (Below.trans h6 (below_drewN _ wr 1)).setCell (Nat.le_refl _) _⟩
            · rw [← Nat.add_assoc, drop_set_succ]; exact drop_succ_eq h3
            · rw [val_set_add Hc.out, val_take_succ Hy.out, ← hm]
              exact mul_place h4 rfl
          case measure => simp [intOf]; omega
        · obtain rfl : j = ys.length := by omega
          go_wp2_with fail
          obtain ⟨wo2, hwo2⟩ : ∃ wo2 : World, wo2 = wr := ⟨_, rfl⟩
          go_loopw [8] (fun q wq => ∃ (p : Nat) (us : List Nat), p + 1 ≤ n ∧ q = .int .i64 p ∧ Hid (CarryI n p (val 256 (xs.take (k + 1)) * val 256 ys) us ∧ Own .i64 3 wq w.heap.size us ∧ Below w.heap.size w wq)) (fun q _ => n - (intOf q).toNat)
          case atStart =>
            obtain ⟨h1, h2, h3, h4, h5, h6⟩ := H2.out
            refine ⟨0, ms, by have := Hn.out; omega, rfl, ⟨h1, ?_, fun j y h => absurd h (by omega), fun y hy => ?_, fun j y _ hy => h2 y (List.mem_of_getElem? hy)⟩, h5, h6⟩
            · rw [h4, List.take_length, val_take_succ Hx.out]
              exact take_mul_step H.out.2.2.1
            · have := h2 y (List.mem_of_getElem? hy); omega
          case round =>
            obtain ⟨p, us, hp, rfl, H3⟩ := hrel
            by_cases hpn : p + 1 < n
            · obtain ⟨c, hc⟩ : ∃ c, us[p]? = some c := ⟨_, List.getElem?_eq_getElem (by have := H3.out.1.1; omega)⟩
              obtain ⟨d, hd⟩ : ∃ d, us[p + 1]? = some d := ⟨_, List.getElem?_eq_getElem (by have := H3.out.1.1; omega)⟩
              have hcb := H3.out.1.2.2.2.1 c hc
              have hdb := H3.out.1.2.2.2.2 (p + 1) d (by omega) hd
              have hcg := H3.out.2.1.cell hc
              have hdg := H3.out.2.1.cell hd
              have hfg := H3.out.2.1.frozen p
              have hfg1 := H3.out.2.1.frozen (p + 1)
              have hst := carry_step H3.out.1 hc hd
              have hO1 := H3.out.2.1.set (p + 1) (d + c / 256)
              have hcg1 := hO1.cell (i := p) (x := c) (by rw [List.getElem?_set_ne (by omega)]; exact hc)
              have hfg2 := hO1.frozen p
              obtain ⟨p1, hp1⟩ : ∃ p1, p1 = p + 1 := ⟨_, rfl⟩
              have hs : ((d + c / 256 : Nat) : Int) = (d : Int) + (c : Int) / 256 := by omega
              obtain ⟨r, hr⟩ : ∃ r, r = c % 256 := ⟨_, rfl⟩
              rw [← hp1] at hdg hfg1
              rw [← hp1, hs] at hcg1 hfg2
              have hw1 : IntKind.i64.wrap ((p : Int) + 1) = (p1 : Int) := wrap_i64_nat (by omega) (by omega)
              have hi1 : (p1 : Int) < (n : Int) := by omega
              have hi2 : (p : Int) < (n : Int) := by omega
              have HS := Lib.hid (And.intro hst (And.intro hp1 (And.intro hs hr)))
              clear hc hd hst hO1 hr hp1 hs
              go_wp2_with fail
              go_still_tail 12, (by kernel_rfl)
              change wpList _ _ _ _ _ wr.drew
              go_wp2_with fail
              go_roundw
              case rel =>
                obtain ⟨hst, rfl, hs, hr⟩ := HS.out
                obtain ⟨_, h5, h6⟩ := H3.out
                rw [show (c : Int) % 256 = ((c % 256 : Nat) : Int) by omega, ← hs]
                exact ⟨p + 1, (us.set (p + 1) (d + c / 256)).set p (c % 256), by omega, by go_num, hst, Own.set (Own.set (w := wr.drew) h5 _ _) _ _, ((Below.trans h6 (below_drewN _ wr 1)).setCell (Nat.le_refl _) _).setCell (Nat.le_refl _) _⟩
              case measure => have := HS.out.2.1; simp [intOf]; omega
            · obtain rfl : n = p + 1 := by omega
              go_wp2_with fail
              go_roundw
              case rel =>
                obtain ⟨⟨h1, h2, h3, h4, h5⟩, h6, h7⟩ := H3.out
                refine ⟨k + 1, us, by omega, by go_num, h1, fun z hz => ?_, h2, h6, h7⟩
                obtain ⟨i, hi⟩ := List.mem_iff_getElem?.1 hz
                have hil := (List.getElem?_eq_some_iff.1 hi).1
                by_cases e : i < p
                · exact h3 i z e hi
                · obtain rfl : i = p := by omega
                  have hlim : val 256 us < 256 ^ i := by
                    rw [h2]
                    have a1 := val_lt (B := 256) (xs := xs.take (k + 1)) fun y hy => HX.out.1 y (List.mem_of_mem_take hy)
                    have a2 := val_lt HX.out.2.1
                    have a3 : i = xs.length + ys.length := by have := Hn.out; omega
                    rw [a3]
                    refine Nat.lt_of_lt_of_le (mul_pow_lt a1 a2) (Nat.pow_le_pow_right (by omega) (by simp; omega))
                  have := last_zero h1 hi hlim
                  omega
              case measure => simp [intOf]; omega
    · obtain rfl : k = xs.length := by omega
      obtain ⟨h1, h2, h3, h4, h5⟩ := H.out
      rw [List.take_length] at h3
      have hrd := h4.whole (by omega)
      have hcut := cut_c wr (some ⟨w.heap.size, 0, none⟩) ls.length ls hrd h2 (by omega)
      rw [h1] at hcut
      have HC := Lib.hid hcut
      clear hcut
      have HF := Lib.hid (And.intro h3 (And.intro h5 h1))
      clear h1 h2 h3 h4 h5 hrd H hO hB0
      go_wp2_with fail
      refine HC.out.mono ?_
      rintro e w' ⟨rfl, es, rfl, hr, hcn', hv, hl⟩
      have HO := Lib.hid (And.intro hr (And.intro hcn' (And.intro hv hl)))
      clear hr hcn' hv hl HC
      go_wp2_with fail
      go_ret
      exact ⟨HF.out.2.1, _, n, es, rfl, HO.out.1, HO.out.2.1, HO.out.2.2.1.trans HF.out.1, by have := HO.out.2.2.2; have := HF.out.2.2; have := Hn.out; omega, fun e => (by cases e), fun ad e => by injection e with e; subst e; exact Nat.le_refl _⟩
end Go.Proofs.YtphpaejgcahgbaaGreatDoor
