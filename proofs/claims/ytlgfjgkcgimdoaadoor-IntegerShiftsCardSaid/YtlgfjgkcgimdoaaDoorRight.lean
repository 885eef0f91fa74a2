/- Divided by a power of 2, rounded down. -/
import Derived.Test.YtlgfjgkcgimdoaaDoorShift
import Derived.Test.YtlgfjgkcgimdoaaDoorGuess
namespace Go.Proofs.YtlgfjgkcgimdoaaDoor
open Go Go.RowKit

def RightPost (w : World) (x : Nat) (n : Int) (e : Ending) (w' : World) : Prop :=
  (n < 0 ∧ e = .returned (.tuple #[.slice none 0 0, .int .i64 1]) ∧ Below w.heap.size w w') ∨ (0 ≤ n ∧ Below w.heap.size w w' ∧ ∃ v, e = .returned (.tuple #[v, .int .i64 0]) ∧ NumV w' v (x / 2 ^ n.toNat))

theorem div_drop {zs : List Nat} (h : ∀ x ∈ zs, x < 4294967296) {i : Nat} (hi : i ≤ zs.length) : val 4294967296 zs / 4294967296 ^ i = val 4294967296 (zs.drop i) := by
  rw [val_split 4294967296 zs i hi]
  have hlow : val 4294967296 (zs.take i) < 4294967296 ^ i := by
    have := val_lt (B := 4294967296) (xs := zs.take i) (fun z hz => h z (List.mem_of_mem_take hz))
    rwa [List.length_take, Nat.min_eq_left hi] at this
  rw [Nat.add_mul_div_left _ _ (Nat.pow_pos (by omega)), Nat.div_eq_of_lt hlow, Nat.zero_add]

theorem mod_succ (X B k : Nat) : X % B ^ (k + 1) = X % B ^ k + B ^ k * (X / B ^ k % B) := by
  rw [Nat.pow_succ, Nat.mod_mul]

theorem drop_two (zs : List Nat) {i x : Nat} (hx : zs[i]? = some x) : ∃ T, val 4294967296 (zs.drop i) = x + 4294967296 * (zs[i + 1]?.getD 0 + 4294967296 * T) := by
  rw [drop_of_get hx, val_cons]
  rcases hg : zs[i + 1]? with _ | y
  · refine ⟨0, ?_⟩
    rw [List.drop_of_length_le (by simpa using hg)]; simp
  · exact ⟨val 4294967296 (zs.drop (i + 1 + 1)), by rw [drop_of_get hg, val_cons]; rfl⟩

/-- A digit of what is left of a shift. -/
theorem shr_digit {zs : List Nat} (h : ∀ x ∈ zs, x < 4294967296) {n sk b k x : Nat} (hn : n = 32 * sk + b) (hb : b < 32) (hx : zs[k + sk]? = some x) :
    val 4294967296 zs / 2 ^ n / 4294967296 ^ k % 4294967296 = (zs[k + sk + 1]?.getD 0 * 4294967296 + x) / 2 ^ b % 4294967296 := by
  have hi := (List.getElem?_eq_some_iff.1 hx).1
  have e1 : val 4294967296 zs / 2 ^ n / 4294967296 ^ k = val 4294967296 (zs.drop (k + sk)) / 2 ^ b := by
    rw [← div_drop h (by omega), Nat.div_div_eq_div_mul, Nat.div_div_eq_div_mul, hn, Nat.pow_add, Nat.pow_add]
    congr 1
    rw [Nat.mul_comm 32 sk, ← pow_B, Nat.mul_comm (4294967296 ^ k), Nat.mul_assoc, Nat.mul_assoc, Nat.mul_comm (2 ^ b)]
  obtain ⟨T, hT⟩ := drop_two zs hx
  rw [e1, hT]
  generalize zs[k + sk + 1]?.getD 0 = y
  have e2 : x + 4294967296 * (y + 4294967296 * T) = (y * 4294967296 + x) + 2 ^ b * (2 ^ (32 - b) * 4294967296 * T) := by
    have hp := pow_split hb
    rw [Nat.mul_add, ← Nat.mul_assoc, ← Nat.mul_assoc (2 ^ b), ← Nat.mul_assoc (2 ^ b), ← hp]; omega
  rw [e2, Nat.add_mul_div_left _ _ (Nat.pow_pos (by omega)), Nat.mul_right_comm, Nat.add_mul_mod_self_right]

theorem only_drewN' (g : Nat) (w : World) (n : Nat) : Only g w (w.drewN n) := ⟨rfl, rfl, rfl, Nat.le_refl _, fun _ _ _ => rfl⟩

theorem digit_q (w : World) (v : Value) (zs : List Nat) (h : Rd .u32 w v zs) (i : Nat) :
    Calls Tryd.prog 50 #[v, .int .i64 i] w fun e w' => e = .returned (.int .u32 ((zs[i]?.getD 0 : Nat) : Int)) ∧ w' = w :=
  (digit_c w v zs h i).mono fun _ _ h => ⟨h.1, h.2.symm⟩

set_option maxRecDepth 100000 in
set_option maxHeartbeats 1000000 in
theorem right_c (w : World) (v : Value) (zs : List Nat) (n : Int) (hR : Rd .u32 w v zs) (hzb : ∀ x ∈ zs, x < 4294967296) (hlen : zs.length ≤ 1000000) (hlo : -9223372036854775808 ≤ n) (hhi : n ≤ 9223372036854775807) (hfits : Hid (val 4294967296 zs / 2 ^ n.toNat < Lim)) :
    Calls Tryd.prog 32 #[v, .int .i64 n] w (RightPost w (val 4294967296 zs) n) := by
  by_cases hn : n < 0
  · go_enter Tryd.func32, Tryd.ntmps32
    go_wp2_with fail
    go_ret2
    exact .inl ⟨hn, rfl, Below.refl _ _⟩
  · obtain ⟨m, rfl⟩ : ∃ m : Nat, n = (m : Int) := ⟨n.toNat, by omega⟩
    have ht := trim_num w v zs hR hzb
    obtain ⟨sk, hsk⟩ : ∃ sk, m / 32 = sk := ⟨_, rfl⟩
    obtain ⟨by_, hby⟩ : ∃ by_, m % 32 = by_ := ⟨_, rfl⟩
    have e1 : (m : Int) / 32 = (sk : Int) := by omega
    have e2 : (m : Int) % 32 = (by_ : Int) := by omega
    have hmn : m = 32 * sk + by_ := by omega
    have hby' : by_ < 32 := by omega
    have hskm : sk ≤ m := by omega
    have Hmn := Lib.hid hmn
    clear hmn hsk hby
    go_enter Tryd.func32, Tryd.ntmps32
    go_wp2_with fail
    refine ht.mono ?_
    rintro e w1 ⟨v1, us, rfl, hR1, hC, hv, hl, hB1⟩
    obtain ⟨A, cap, rfl, _⟩ := hR1.form
    have Hv := Lib.hid hv
    have E2 := Lib.hid e2
    have hlu : us.length ≤ 1000000 := by omega
    clear ht hv e2
    by_cases hout : us.length ≤ sk
    · have hz : val 4294967296 zs / 2 ^ m = 0 := by
        rw [← Hv.out, Hmn.out, Nat.pow_add, Nat.mul_comm 32 sk, ← pow_B, ← Nat.div_div_eq_div_mul, Nat.div_eq_of_lt (Nat.lt_of_lt_of_le (val_lt hC.1) (Nat.pow_le_pow_right (by omega) hout)), Nat.zero_div]
      have Hz := Lib.hid hz
      clear hz
      go_wp2_with fail
      go_ret2
      refine .inr ⟨by omega, hB1, _, rfl, ?_⟩
      simp only [Int.toNat_natCast]
      rw [Hz.out]; exact NumV.nil _
    · have hmk := make_nat (us.length - sk) ((us.length : Int) - (sk : Int)) (by omega) (by omega)
      go_wp2_with fail
      rw [E2.out]
      have hO := Own.new w1 .u32 57 (List.replicate (us.length - sk) 0)
      have hBm := hB1.trans (((Below.refl _ w1).alloc (Nat.le_refl _) (.cells (nums .u32 (List.replicate (us.length - sk) 0)) 57)).mono hB1.size)
      have hRu := hR1.below ((Below.refl _ w1).alloc (Nat.le_refl _) (.cells (nums .u32 (List.replicate (us.length - sk) 0)) 57))
      have hna := hR1.away (Nat.le_refl _)
      have hgle := hB1.size
      clear hmk e1 hR1 hB1
      obtain ⟨L, hL⟩ : ∃ L, us.length - sk = L := ⟨_, rfl⟩
      have hLs : us.length = L + sk := by omega
      rw [hL] at hO hBm hRu ⊢
      have HL := Lib.hid hLs
      have hL1 : L ≤ 1000000 := by omega
      have hL2 : L + sk ≤ us.length := by omega
      clear hL hLs
      go_loopw [30] (fun i wr => ∃ (k : Nat) (ss : List Nat), k ≤ L ∧ i = .int .i64 k ∧ Hid (ss.length = L) ∧ (∀ x ∈ ss, x < 4294967296) ∧
          Hid (val 4294967296 (ss.take k) = val 4294967296 us / 2 ^ m % 4294967296 ^ k) ∧ Own .u32 57 wr w1.heap.size ss ∧ Only w1.heap.size (w1.alloc (.cells (nums .u32 (List.replicate L 0)) 57)) wr)
        (fun i _ => L - (intOf i).toNat)
      case atStart => exact ⟨0, _, Nat.zero_le _, rfl, by simp [Hid], mem_replicate_lt, by simp [Hid, Nat.mod_one], hO, Only.refl _ _⟩
      case round =>
        obtain ⟨k, ss, hk, rfl, hl', hss, hvs, hO', hG⟩ := hrel
        by_cases hlk : k < L
        · have hx : us[k + sk]? = some us[k + sk] := List.getElem?_eq_getElem (by omega)
          obtain ⟨x, hxx⟩ : ∃ x, us[k + sk] = x := ⟨_, rfl⟩
          rw [hxx] at hx
          clear hxx
          have hxb := get_lt hC.1 hx
          have hR2 := hRu.grown hG hna
          obtain ⟨b, off, rfl, _⟩ := hR2.addr (by omega)
          have hcx := hR2.cell hx
          have hks : k < ss.length := by have := hl'.out; omega
          have hcg := hO'.cell (List.getElem?_eq_getElem hks)
          have hfg := hO'.frozen k
          have hyb := digit_lt hC.1 (k + sk + 1)
          have hdig := fun W (hW : Rd .u32 W (.slice (some ⟨b, off, none⟩) us.length cap) us) => digit_q W _ us hW (k + sk + 1)
          have hstep := shr_digit hC.1 Hmn.out hby' hx
          have ei : ((k + sk + 1 : Nat) : Int) = (k : Int) + (sk : Int) + 1 := by omega
          rw [ei] at hdig
          generalize us[k + sk + 1]?.getD 0 = y at hyb hdig hstep
          have hor := or64 hyb hxb
          have hlt1 : (k : Int) + (sk : Int) < (us.length : Int) := by omega
          have hge1 : 0 ≤ (k : Int) + (sk : Int) := by omega
          have htn : ((k : Int) + (sk : Int)).toNat = k + sk := by omega
          have hdig' : ∀ q, Calls Tryd.prog 50 #[.slice (some ⟨b, off, none⟩) us.length cap, .int .i64 ((k : Int) + (sk : Int) + 1)] (wr.drewN q) fun e w' => e = .returned (.int .u32 (y : Int)) ∧ w' = wr.drewN q := fun q => hdig _ hR2
          have HD := Lib.hid hdig'
          have Hx := Lib.hid hx
          have Hst := Lib.hid hstep
          clear hdig hdig' hx hstep ei
          go_wp2_with fail
          go_quiet ((go_at_call 50; exact Calls.quiet_of_same (HD.out _)))
          go_wp2_with fail
          go_roundw
          case rel =>
            have es : ((y : Int) * 4294967296 + (x : Int)) / 2 ^ by_ % 4294967296 = (((y * 4294967296 + x) / 2 ^ by_ % 4294967296 : Nat) : Int) := by
              rw [Int.natCast_emod, Int.natCast_ediv, Int.natCast_pow, Int.natCast_add, Int.natCast_mul]; rfl
            rw [es]
            refine ⟨k + 1, ss.set k ((y * 4294967296 + x) / 2 ^ by_ % 4294967296), by omega, by go_num, by rw [Hid, List.length_set]; exact hl'.out, mem_set_lt hss (Nat.mod_lt _ (by omega)), ?_, (show Own .u32 57 (wr.drewN nq) _ ss from hO').set _ _, (hG.trans (only_drewN' _ _ _)).set _ _⟩
            rw [Hid, take_set_succ hks, hvs.out, mod_succ, Hst.out]
          case measure => simp [intOf]; omega
        · obtain rfl : k = L := by omega
          have hRs := hO'.whole (by have := hl'.out; omega)
          have hfit := fit_c _ _ _ hRs hss
          rw [hl'.out] at hfit
          have e2 : val 4294967296 ss = val 4294967296 zs / 2 ^ m := by
            have h := hvs.out
            rw [List.take_of_length_le (by have := hl'.out; omega)] at h
            rw [h, ← Hv.out, Nat.mod_eq_of_lt]
            rw [Hmn.out, Nat.pow_add, Nat.mul_comm 32 sk, ← pow_B, ← Nat.div_div_eq_div_mul]
            refine Nat.lt_of_le_of_lt (Nat.div_le_self _ _) ?_
            rw [Nat.div_lt_iff_lt_mul (Nat.pow_pos (by omega)), ← Nat.pow_add, ← HL.out]
            exact val_lt hC.1
          rw [e2] at hfit
          have hBx : Below w.heap.size w wr := hG.below hBm hgle
          have HF := Lib.hid hfit
          clear hRs hfit e2
          go_wp2_with fail
          refine HF.out.mono ?_
          rintro e w' ⟨hBf, hF⟩
          have hBf' := below_trans hBx hBf
          rcases hF with ⟨hlim, v, rfl, hN⟩ | ⟨hlim, rfl⟩
          · go_wp2_with fail
            go_ret2
            exact .inr ⟨by omega, hBf', v, rfl, by simpa using hN⟩
          · exact absurd hfits.out (Nat.not_lt.2 (by simpa using hlim))
end Go.Proofs.YtlgfjgkcgimdoaaDoor
