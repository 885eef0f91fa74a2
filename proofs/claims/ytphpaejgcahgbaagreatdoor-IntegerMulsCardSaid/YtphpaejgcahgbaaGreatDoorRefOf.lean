/- The document's answer: its digits to the base 256: cut, and of digits to the base 2^32. -/
import Derived.Test.YtphpaejgcahgbaaGreatDoorHeld
import Derived.Test.YtphpaejgcahgbaaGreatDoorNum
namespace Go.Proofs.YtphpaejgcahgbaaGreatDoor
open Go Go.RowKit Go.Shelf

theorem ref_info : (Tryz.prog.info? 3).map (fun i => (i.zero, i.size, i.bytes)) = some (some (.int .i64 0), 1, 8) := by kernel_rfl

/-- A number to the base 256, of at most n digits. -/
def RefOut (w : World) (x n : Nat) (e : Ending) (w' : World) : Prop :=
  Below w.heap.size w w' ∧ ∃ A cap ds, e = .returned (.slice A ds.length cap) ∧ Rd .i64 w' (.slice A ds.length cap) ds ∧ Can 256 ds ∧ val 256 ds = x ∧ ds.length ≤ n ∧ Fresh w.heap.size A cap

set_option maxRecDepth 100000 in
set_option maxHeartbeats 1000000 in
theorem cut_c (w : World) (A : Option Addr) (cap : Nat) (zs : List Nat) (hR : Rd .i64 w (.slice A zs.length cap) zs) (hzb : ∀ x ∈ zs, x < 256) (hlen : zs.length ≤ 1000000) :
    Calls Tryz.prog 95 #[.slice A zs.length cap] w fun e w' => w = w' ∧ ∃ ds, e = .returned (.slice A ds.length cap) ∧ Rd .i64 w (.slice A ds.length cap) ds ∧ Can 256 ds ∧ val 256 ds = val 256 zs ∧ ds.length ≤ zs.length := by
  have hcap : zs.length ≤ cap := by obtain ⟨_, _, e, h⟩ := hR.form; injection e with _ _ e; omega
  go_enter Tryz.func95, Tryz.ntmps95
  go_wp2_with fail
  go_loop [3] (fun n => ∃ k : Nat, k ≤ zs.length ∧ n = .int .i64 k ∧ Hid (∀ (j x : Nat), k ≤ j → zs[j]? = some x → x = 0)) (fun n => (intOf n).toNat)
  case atStart => exact ⟨zs.length, Nat.le_refl _, rfl, fun j x hj hx => by have := (List.getElem?_eq_some_iff.1 hx).1; omega⟩
  case round =>
    obtain ⟨k, hk, rfl, hz⟩ := hrel
    rcases Nat.eq_zero_or_pos k with rfl | hp
    · have hfin : val 256 zs = 0 := by rw [← val_take_zeros (n := 0) (by omega) (fun j x h hx => hz.out j x h hx)]; rfl
      have Hf := Lib.hid hfin
      clear hfin
      go_wp2_with fail
      go_ret
      exact ⟨rfl, [], rfl, ⟨A, cap, rfl, by simp, by simp, fun h => absurd h (by simp)⟩, Can.nil _, Hf.out.symm, by simp⟩
    · have hx : zs[k - 1]? = some zs[k - 1] := List.getElem?_eq_getElem (by omega)
      obtain ⟨x, hxx⟩ : ∃ x, zs[k - 1] = x := ⟨_, rfl⟩
      rw [hxx] at hx
      clear hxx
      obtain ⟨b, off, rfl, hbl⟩ := hR.addr (by omega)
      have hc := hR.cell hx
      obtain ⟨j, rfl⟩ : ∃ j, k = j + 1 := ⟨k - 1, by omega⟩
      rw [Nat.add_sub_cancel] at hx hc
      have e1 : ((j + 1 : Nat) : Int) - 1 = (j : Int) := by omega
      have Hx := Lib.hid hx
      clear hx
      by_cases h0 : x = 0
      · have hb : ((x : Int) == 0) = true := by rw [beq_iff_eq]; omega
        go_wp2_with fail
        go_round
        case rel =>
          refine ⟨j, by omega, by go_num, fun i y hi hy => ?_⟩
          by_cases e : i = j
          · subst e; rw [Hx.out] at hy; injection hy with hy; omega
          · exact hz.out i y (by omega) hy
        case measure => simp [intOf]
      · have hb : ((x : Int) == 0) = false := by rw [beq_eq_false_iff_ne]; omega
        go_wp2_with fail
        go_ret
        have hl : (zs.take (j + 1)).length = j + 1 := by simp; omega
        refine ⟨rfl, zs.take (j + 1), by rw [hl]; rfl, ?_, Can.take hzb hk (.inr ⟨x, by simpa using Hx.out, h0⟩), val_take_zeros hk fun i y hi hy => hz.out i y hi hy, by omega⟩
        refine ⟨_, cap, rfl, by omega, by omega, fun _ => ⟨b, off, rfl, hbl, fun i y hy => ?_⟩⟩
        rw [List.getElem?_take] at hy
        split at hy
        · exact hR.cell hy
        · cases hy

set_option maxRecDepth 100000 in
set_option maxHeartbeats 2000000 in
theorem refOf_c (w : World) (v : Value) (zs : List Nat) (hR : Rd .u32 w v zs) (hzb : ∀ x ∈ zs, x < 4294967296) (hlen : zs.length ≤ 100000) :
    Calls Tryz.prog 83 #[v] w (RefOut w (val 4294967296 zs) (4 * zs.length)) := by
  obtain ⟨A, cap, rfl, hcap⟩ := hR.form
  have HR := Lib.hid (And.intro hR hzb)
  clear hR hzb
  go_enter Tryz.func83, Tryz.ntmps83
  go_wp2_with fail
  go_loopw [3, 4] (fun o i wr => ∃ (k : Nat) (ds : List Nat), k ≤ zs.length ∧ i = .int .i64 k ∧ Hid (ds.length = 4 * k ∧ (∀ x ∈ ds, x < 256) ∧ val 256 ds = val 4294967296 (zs.take k) ∧ Grown .i64 3 w.heap.size wr o ds ∧ Below w.heap.size w wr))
    (fun _ i _ => zs.length - (intOf i).toNat)
  case atStart => exact ⟨0, [], Nat.zero_le _, rfl, by simp, by simp, by simp, Grown.nil _ _ _ _, Below.refl _ _⟩
  case round =>
    obtain ⟨k, ds, hk, rfl, H⟩ := hrel
    by_cases hlt : k < zs.length
    · have hx : zs[k]? = some zs[k] := List.getElem?_eq_getElem hlt
      obtain ⟨x, hxx⟩ : ∃ x, zs[k] = x := ⟨_, rfl⟩
      rw [hxx] at hx
      clear hxx
      obtain ⟨b, off, rfl, hbl⟩ := HR.out.1.addr (by omega)
      have hc := (HR.out.1.below (H.out.2.2.2.2)).cell hx
      have hxb := get_lt HR.out.2 hx
      have Hx := Lib.hid hx
      clear hx
      go_wp2_with fail
      obtain ⟨wo, hwo⟩ : ∃ wo : World, wo = wr := ⟨_, rfl⟩
      go_loopw [3, 5, 6] (fun o n j wq => ∃ (r m : Nat) (us : List Nat), r ≤ 4 ∧ j = .int .i64 r ∧ n = .int .i64 m ∧ m < 4294967296 ∧ Hid (us.length = 4 * k + r ∧ (∀ y ∈ us, y < 256) ∧ val 256 us + 256 ^ (4 * k + r) * m = val 4294967296 (zs.take (k + 1)) ∧ m * 256 ^ r < 4294967296 ∧
          Grown .i64 3 w.heap.size wq o us ∧ Below w.heap.size w wq)) (fun _ _ j _ => 4 - (intOf j).toNat)
      case atStart =>
        obtain ⟨h1, h2, h3, h4, h5⟩ := H.out
        exact ⟨0, x, ds, by omega, rfl, rfl, hxb, by omega, h2, by rw [val_take_succ Hx.out, h3, pow_four, Nat.add_zero], by omega, h4, h5⟩
      case round =>
        obtain ⟨r, m, us, hr, rfl, rfl, hm, H2⟩ := hrel
        by_cases hr4 : r < 4
        · have hmi : (m : Int).tmod 256 = ((m % 256 : Nat) : Int) := (Int.ofNat_tmod m 256).symm
          go_wp2_with (at_builtin; refine wpList_app1 rfl _ _ 28 rfl w.heap.size 3 8 Tryz.underlying28 ref_info (by omega) _ us _ _ (m % 256) hmi rfl H2.out.2.2.2.2.1 rfl ?_ w H2.out.2.2.2.2.2 (Below.size H2.out.2.2.2.2.2) ?_)
          · have := H2.out.1; omega
          · intro v' w1 hG hB _
            have HN := Lib.hid (And.intro hG hB)
            clear hG hB
            go_wp2_with fail
            go_roundw
            case rel =>
              obtain ⟨h1, h2, h3, h5, _, _⟩ := H2.out
              refine ⟨r + 1, m / 256, us ++ [m % 256], by omega, by go_num, by rw [show (m : Int) / 256 = ((m / 256 : Nat) : Int) by omega], by omega, by simp; omega, mem_push_lt h2 (by omega), ?_, ?_, HN.out.1, HN.out.2⟩
              · rw [val_push, h1, ← h3, show 4 * k + (r + 1) = 4 * k + r + 1 by omega, Nat.pow_succ, Nat.mul_assoc, Nat.add_assoc, ← Nat.mul_add]
                have : m % 256 + 256 * (m / 256) = m := by omega
                rw [this]
              · rw [Nat.pow_succ, ← Nat.mul_assoc, Nat.mul_right_comm]
                exact Nat.lt_of_le_of_lt (Nat.mul_le_mul_right _ (Nat.div_mul_le_self m 256)) h5
            case measure => simp [intOf]; omega
        · obtain rfl : r = 4 := by omega
          have hm0 : m = 0 := by have := H2.out.2.2.2.1; omega
          subst hm0
          go_wp2_with fail
          go_roundw
          case rel =>
            obtain ⟨h1, h2, h3, _, h5, h6⟩ := H2.out
            exact ⟨k + 1, us, by omega, by go_num, by omega, h2, by simpa using h3, h5, h6⟩
          case measure => simp [intOf]; omega
    · obtain rfl : k = zs.length := by omega
      obtain ⟨h1, h2, h3, h4, h5⟩ := H.out
      rw [List.take_length] at h3
      have hrd := h4.rd (by omega)
      obtain ⟨A0, c0, rfl, hfr⟩ := h4.form
      have HC := Lib.hid (cut_c wr A0 c0 ds hrd h2 (by omega))
      have HF := Lib.hid (And.intro h3 (And.intro h5 (And.intro h1 hfr)))
      clear h1 h2 h3 h4 h5 hrd H hfr
      go_wp2_with fail
      refine HC.out.mono ?_
      rintro e w' ⟨rfl, es, rfl, hr, hcn, hv, hl⟩
      have HO := Lib.hid (And.intro hr (And.intro hcn (And.intro hv hl)))
      clear hr hcn hv hl HC
      go_wp2_with fail
      go_ret
      exact ⟨HF.out.2.1, A0, c0, es, rfl, HO.out.1, HO.out.2.1, HO.out.2.2.1.trans HF.out.1, by have := HO.out.2.2.2; have := HF.out.2.2.1; omega, HF.out.2.2.2⟩
end Go.Proofs.YtphpaejgcahgbaaGreatDoor

/- The document's answer: digits to the base 2^32 again. -/
namespace Go.Proofs.YtphpaejgcahgbaaGreatDoor
open Go Go.RowKit Go.Shelf

/-- The highest r of four digits. -/
def back4 (xs : List Nat) (i : Nat) : Nat → Nat
  | 0 => 0
  | r + 1 => back4 xs i r * 256 + dig xs (i + (3 - r))
theorem back4_lt {xs : List Nat} (h : ∀ x ∈ xs, x < 256) (i : Nat) : ∀ r, back4 xs i r < 256 ^ r
  | 0 => by simp [back4]
  | r + 1 => by
    have h1 := back4_lt h i r
    have h2 := dig_lt (by omega) h (i + (3 - r))
    rw [back4, Nat.pow_succ]
    have := Nat.mul_le_mul_right 256 (show back4 xs i r + 1 ≤ 256 ^ r from h1)
    omega
theorem back4_four (xs : List Nat) (i : Nat) : back4 xs i 4 = four xs i := by
  simp only [back4, four, Nat.sub_zero, Nat.sub_self, Nat.reduceSub, Nat.add_zero]; omega

def BackOut (w : World) (x : Nat) (e : Ending) (w' : World) : Prop :=
  Below w.heap.size w w' ∧ ∃ A cap us, e = .returned (.slice A us.length cap) ∧ Rd .u32 w' (.slice A us.length cap) us ∧ Can 4294967296 us ∧ val 4294967296 us = x

set_option maxRecDepth 100000 in
set_option maxHeartbeats 2000000 in
theorem refBack_c (w : World) (v : Value) (ds : List Nat) (hR : Rd .i64 w v ds) (hC : Can 256 ds) (hlen : ds.length ≤ 1000000) :
    Calls Tryz.prog 90 #[v] w (BackOut w (val 256 ds)) := by
  obtain ⟨A, cap, rfl, hcap⟩ := hR.form
  have HR := Lib.hid (And.intro hR hC)
  clear hR hC
  go_enter Tryz.func90, Tryz.ntmps90
  go_wp2_with fail
  go_loopw [3, 4] (fun o i wr => ∃ (k : Nat) (us : List Nat), 4 * k ≤ ds.length + 3 ∧ i = .int .i64 (4 * k : Nat) ∧ Hid (us.length = k ∧ (∀ x ∈ us, x < 4294967296) ∧ val 4294967296 us = val 256 (ds.take (4 * k)) ∧ Grown .u32 113 w.heap.size wr o us ∧ Below w.heap.size w wr))
    (fun _ i _ => ds.length + 4 - (intOf i).toNat)
  case atStart => exact ⟨0, [], by omega, rfl, by simp, by simp, by simp, Grown.nil _ _ _ _, Below.refl _ _⟩
  case round =>
    obtain ⟨k, us, hk, rfl, H⟩ := hrel
    by_cases hlt : 4 * k < ds.length
    · go_wp2_with fail
      go_loop [5, 6] (fun n j => ∃ (r m : Nat), r ≤ 4 ∧ j = .int .i64 (3 - (r : Int)) ∧ n = .int .i64 m ∧ m < 4294967296 ∧ Hid (m = back4 ds (4 * k) r)) (fun _ j => (intOf j + 1).toNat)
      case atStart => exact ⟨0, 0, by omega, rfl, rfl, by omega, rfl⟩
      case round =>
        obtain ⟨r, m, hr, rfl, rfl, hm, Hm⟩ := hrel
        by_cases hr4 : r < 4
        · have hsm : m < 16777216 := by
            have h1 := back4_lt HR.out.2.1 (4 * k) r
            have h2 : 256 ^ r ≤ 256 ^ 3 := Nat.pow_le_pow_right (by omega) (by omega)
            rw [← Hm.out] at h1
            omega
          obtain ⟨q, hq⟩ : ∃ q, 3 - r = q := ⟨_, rfl⟩
          have eq1 : (3 - (r : Int)) = (q : Int) := by omega
          rw [eq1]
          have hq3 : q + r = 3 := by omega
          by_cases hin : 4 * k + q < ds.length
          · have hx : ds[4 * k + q]? = some ds[4 * k + q] := List.getElem?_eq_getElem hin
            obtain ⟨x, hxx⟩ : ∃ x, ds[4 * k + q] = x := ⟨_, rfl⟩
            rw [hxx] at hx
            clear hxx
            obtain ⟨b, off, rfl, hbl⟩ := HR.out.1.addr (by omega)
            have hc := (HR.out.1.below (H.out.2.2.2.2)).cell hx
            have hxb := get_lt HR.out.2.1 hx
            have hd := dig_of_get hx
            have Hd := Lib.hid hd
            clear hx hd
            have hidx : 4 * (k : Int) + (q : Int) < (ds.length : Int) := by omega
            go_wp2_with fail
            go_round
            case rel => exact ⟨r + 1, m * 256 + x, by omega, by go_num, by go_num, by omega, by rw [Hid, back4, ← Hm.out, hq, Hd.out]⟩
            case measure => simp [intOf]
          · have hd := dig_ge (xs := ds) (i := 4 * k + q) (by omega)
            have Hd := Lib.hid hd
            clear hd
            have hidx : ¬ 4 * (k : Int) + (q : Int) < (ds.length : Int) := by omega
            go_wp2_with fail
            go_round
            case rel => exact ⟨r + 1, m * 256, by omega, by go_num, by go_num, by omega, by rw [Hid, back4, ← Hm.out, hq, Hd.out]; rfl⟩
            case measure => simp [intOf]
        · obtain rfl : r = 4 := by omega
          go_wp2_with (at_builtin; refine wpList_app1 rfl (.tmp 33) (.tmp 36) 22 rfl w.heap.size 113 4 Tryz.underlying22 info_u32 (by omega) _ us _ _ m rfl rfl H.out.2.2.2.1 rfl ?_ w H.out.2.2.2.2 (Below.size H.out.2.2.2.2) ?_)
          · have := H.out.1; omega
          · intro v' w1 hG hB _
            have HN := Lib.hid (And.intro hG hB)
            clear hG hB
            go_wp2_with fail
            go_roundw
            case rel =>
              obtain ⟨h1, h2, h3, _, _⟩ := H.out
              refine ⟨k + 1, us ++ [m], by omega, by go_num, by simp; omega, mem_push_lt h2 hm, ?_, HN.out.1, HN.out.2⟩
              rw [val_push, h3, h1, show 4 * (k + 1) = 4 * k + 4 by omega, val_take_four, Hm.out, back4_four, pow_four]
            case measure => simp [intOf]; omega
    · obtain ⟨h1, h2, h3, h4, h5⟩ := H.out
      rw [List.take_of_length_le (by omega)] at h3
      have hrd := h4.rd (by omega)
      have hcan : Can 4294967296 us := can_of_ge h2 (by
        rcases Nat.eq_zero_or_pos us.length with h0 | hp
        · exact .inl (List.eq_nil_of_length_eq_zero h0)
        · right
          have hne : ds ≠ [] := by intro e; rw [e] at hk; simp at hk; omega
          rw [h3, pow_four]
          exact Nat.le_trans (Nat.pow_le_pow_right (by omega) (by omega)) (HR.out.2.ge hne))
      obtain ⟨A', cap', rfl, _⟩ := hrd.form
      have HF := Lib.hid (And.intro h5 (And.intro hrd (And.intro hcan h3)))
      clear h1 h2 h3 h4 h5 hrd hcan H
      go_wp2_with fail
      go_ret
      exact ⟨HF.out.1, A', cap', us, rfl, HF.out.2.1, HF.out.2.2.1, HF.out.2.2.2⟩
end Go.Proofs.YtphpaejgcahgbaaGreatDoor
