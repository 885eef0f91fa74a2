/- The document's answer: digits to the base 2^32 again. -/
import Derived.Test.YtefnhhkhdpihdaaDoorRefOf
namespace Go.Proofs.YtefnhhkhdpihdaaDoor
open Go Go.RowKit Go.Shelf

/-- The highest r of four digits. -/
def back4 (xs : List Nat) (i : Nat) : Nat → Nat
  | 0 => 0
  | r + 1 => back4 xs i r * 256 + dig xs (i + (3 - r))
theorem back4_lt {xs : List Nat} (h : ∀ x ∈ xs, x < 256) (i : Nat) : ∀ r, back4 xs i r < 256 ^ r
  | 0 => by simp [back4]
  | r + 1 => by
    have h1 := back4_lt h i r
    have h2 := dig_lt (by omega) h (i + (3 - r))
    rw [back4, Nat.pow_succ]
    have := Nat.mul_le_mul_right 256 (show back4 xs i r + 1 ≤ 256 ^ r from h1)
    omega
theorem back4_four (xs : List Nat) (i : Nat) : back4 xs i 4 = four xs i := by
  simp only [back4, four, Nat.sub_zero, Nat.sub_self, Nat.reduceSub, Nat.add_zero]; omega

def BackOut (w : World) (x : Nat) (e : Ending) (w' : World) : Prop :=
  Below w.heap.size w w' ∧ ∃ A cap us, e = .returned (.slice A us.length cap) ∧ Rd .u32 w' (.slice A us.length cap) us ∧ Can 4294967296 us ∧ val 4294967296 us = x

set_option maxRecDepth 100000 in
set_option maxHeartbeats 2000000 in
theorem refBack_c (w : World) (v : Value) (ds : List Nat) (hR : Rd .i64 w v ds) (hC : Can 256 ds) (hlen : ds.length ≤ 1000000) :
    Calls Tryd.prog 61 #[v] w (BackOut w (val 256 ds)) := by
  obtain ⟨A, cap, rfl, hcap⟩ := hR.form
  have HR := Lib.hid (And.intro hR hC)
  clear hR hC
  go_enter Tryd.func61, Tryd.ntmps61
  go_wp2_with fail
  go_loopw [3, 4] (fun o i wr => ∃ (k : Nat) (us : List Nat), 4 * k ≤ ds.length + 3 ∧ i = .int .i64 (4 * k : Nat) ∧ Hid (us.length = k ∧ (∀ x ∈ us, x < 4294967296) ∧ val 4294967296 us = val 256 (ds.take (4 * k)) ∧ Grown .u32 35 w.heap.size wr o us ∧ Below w.heap.size w wr))
    (fun _ i _ => ds.length + 4 - (intOf i).toNat)
  case atStart => exact ⟨0, [], by omega, rfl, by simp, by simp, by simp, Grown.nil _ _ _ _, Below.refl _ _⟩
  case round =>
    obtain ⟨k, us, hk, rfl, H⟩ := hrel
    by_cases hlt : 4 * k < ds.length
    · go_wp2_with fail
      go_loop [5, 6] (fun n j => ∃ (r m : Nat), r ≤ 4 ∧ j = .int .i64 (3 - (r : Int)) ∧ n = .int .i64 m ∧ m < 4294967296 ∧ Hid (m = back4 ds (4 * k) r)) (fun _ j => (intOf j + 1).toNat)
      case atStart => exact ⟨0, 0, by omega, rfl, rfl, by omega, rfl⟩
      case round =>
        obtain ⟨r, m, hr, rfl, rfl, hm, Hm⟩ := hrel
        by_cases hr4 : r < 4
        · have hsm : m < 16777216 := by
            have h1 := back4_lt HR.out.2.1 (4 * k) r
            have h2 : 256 ^ r ≤ 256 ^ 3 := Nat.pow_le_pow_right (by omega) (by omega)
            rw [← Hm.out] at h1
            omega
          obtain ⟨q, hq⟩ : ∃ q, 3 - r = q := ⟨_, rfl⟩
          have eq1 : (3 - (r : Int)) = (q : Int) := by omega
          rw [eq1]
          have hq3 : q + r = 3 := by omega
          by_cases hin : 4 * k + q < ds.length
          · have hx : ds[4 * k + q]? = some ds[4 * k + q] := List.getElem?_eq_getElem hin
            obtain ⟨x, hxx⟩ : ∃ x, ds[4 * k + q] = x := ⟨_, rfl⟩
            rw [hxx] at hx
            clear hxx
            obtain ⟨b, off, rfl, hbl⟩ := HR.out.1.addr (by omega)
            have hc := (HR.out.1.below (H.out.2.2.2.2)).cell hx
            have hxb := get_lt HR.out.2.1 hx
            have hd := dig_of_get hx
            have Hd := Lib.hid hd
            clear hx hd
            have hidx : 4 * (k : Int) + (q : Int) < (ds.length : Int) := by omega
            go_wp2_with fail
            go_round
            case rel => exact ⟨r + 1, m * 256 + x, by omega, by go_num, by go_num, by omega, by rw [Hid, back4, ← Hm.out, hq, Hd.out]⟩
            case measure => simp [intOf]
          · have hd := dig_ge (xs := ds) (i := 4 * k + q) (by omega)
            have Hd := Lib.hid hd
            clear hd
            have hidx : ¬ 4 * (k : Int) + (q : Int) < (ds.length : Int) := by omega
            go_wp2_with fail
            go_round
            case rel => exact ⟨r + 1, m * 256, by omega, by go_num, by go_num, by omega, by rw [Hid, back4, ← Hm.out, hq, Hd.out]; rfl⟩
            case measure => simp [intOf]
        · obtain rfl : r = 4 := by omega
          go_wp2_with (at_builtin; refine wpList_app1 rfl (.tmp 33) (.tmp 36) 22 rfl w.heap.size 35 4 Tryd.underlying22 info_u32 (by omega) _ us _ _ m rfl rfl H.out.2.2.2.1 rfl ?_ w H.out.2.2.2.2 (Below.size H.out.2.2.2.2) ?_)
          · have := H.out.1; omega
          · intro v' w1 hG hB _
            have HN := Lib.hid (And.intro hG hB)
            clear hG hB
            go_wp2_with fail
            go_roundw
            case rel =>
              obtain ⟨h1, h2, h3, _, _⟩ := H.out
              refine ⟨k + 1, us ++ [m], by omega, by go_num, by simp; omega, mem_push_lt h2 hm, ?_, HN.out.1, HN.out.2⟩
              rw [val_push, h3, h1, show 4 * (k + 1) = 4 * k + 4 by omega, val_take_four, Hm.out, back4_four, pow_four]
            case measure => simp [intOf]; omega
    · obtain ⟨h1, h2, h3, h4, h5⟩ := H.out
      rw [List.take_of_length_le (by omega)] at h3
      have hrd := h4.rd (by omega)
      have hcan : Can 4294967296 us := can_of_ge h2 (by
        rcases Nat.eq_zero_or_pos us.length with h0 | hp
        · exact .inl (List.eq_nil_of_length_eq_zero h0)
        · right
          have hne : ds ≠ [] := by intro e; rw [e] at hk; simp at hk; omega
          rw [h3, pow_four]
          exact Nat.le_trans (Nat.pow_le_pow_right (by omega) (by omega)) (HR.out.2.ge hne))
      obtain ⟨A', cap', rfl, _⟩ := hrd.form
      have HF := Lib.hid (And.intro h5 (And.intro hrd (And.intro hcan h3)))
      clear h1 h2 h3 h4 h5 hrd hcan H
      go_wp2_with fail
      go_ret
      exact ⟨HF.out.1, A', cap', us, rfl, HF.out.2.1, HF.out.2.2.1, HF.out.2.2.2⟩
end Go.Proofs.YtefnhhkhdpihdaaDoor
