/- One digit's product is added to a row. -/
import Derived.Test.YtefnhhkhdpihdaaDoorDigit
namespace Go.Proofs.YtefnhhkhdpihdaaDoor
open Go Go.RowKit

set_option maxHeartbeats 1000000 in
theorem addTimes_c (w : World) (g cap : Nat) (p m q ys : List Nat) (v : Value) (d : Nat) (hO : Own .u32 35 w g (p ++ m ++ q)) (hm : ∀ x ∈ m, x < 4294967296)
    (hR : Rd .u32 w v ys) (hys : ∀ x ∈ ys, x < 4294967296) (hne : 0 < ys.length → blk v ≠ some g) (hlen : Hid (m.length = ys.length)) (hd : d < 4294967296) :
    Calls Tryd.prog 63 #[.slice (some ⟨g, p.length, none⟩) ys.length cap, v, .int .u32 d] w fun e w' =>
      ∃ (m' : List Nat) (c : Nat), e = .returned (.int .u32 (c : Int)) ∧ m'.length = m.length ∧ (∀ x ∈ m', x < 4294967296) ∧ c < 4294967296 ∧
        val 4294967296 m' + c * 4294967296 ^ m.length = val 4294967296 m + d * val 4294967296 ys ∧ Own .u32 35 w' g (p ++ m' ++ q) ∧ Only g w w' := by
  obtain ⟨A, capb, rfl, hl, hc, hz⟩ := id hR
  go_enter Tryd.func63, Tryd.ntmps63
  go_wp2
  go_loopw [7, 12] (fun c i wr => ∃ (k : Nat) (m' : List Nat) (cy : Nat), k ≤ ys.length ∧ i = .int .i64 k ∧ c = .int .u64 cy ∧ cy < 4294967296 ∧ Hid (m'.length = ys.length) ∧ (∀ x ∈ m', x < 4294967296) ∧
      Hid (val 4294967296 (m'.take k) + cy * 4294967296 ^ k = val 4294967296 (m.take k) + d * val 4294967296 (ys.take k)) ∧ Hid (m'.drop k = m.drop k) ∧ Own .u32 35 wr g (p ++ m' ++ q) ∧ Only g w wr)
    (fun _ i _ => ys.length - (intOf i).toNat)
  case atStart => exact ⟨0, m, 0, Nat.zero_le _, rfl, rfl, by omega, hlen, hm, by simp [Hid], rfl, hO, Only.refl _ _⟩
  case round =>
    obtain ⟨k, m', cy, hk, rfl, rfl, hcy, hl', hm', hv, hdr, hO', hG⟩ := hrel
    by_cases hlt : k < ys.length
    · have hy : ys[k]? = some ys[k] := List.getElem?_eq_getElem hlt
      have hlm : k < m'.length := by have := hl'.out; omega
      have hx : m'[k]? = some m'[k] := List.getElem?_eq_getElem hlm
      obtain ⟨y, hyy⟩ : ∃ y, ys[k] = y := ⟨_, rfl⟩
      obtain ⟨x, hxx⟩ : ∃ x, m'[k] = x := ⟨_, rfl⟩
      rw [hyy] at hy; rw [hxx] at hx
      clear hyy hxx
      have hyb := get_lt hys hy
      have hxb := get_lt hm' hx
      obtain ⟨b, off, rfl, hb, _⟩ := hz (by omega)
      have hcb := (Rd.grown hR hG hne).cell hy
      have hcg := hO'.cell (mid_get (p := p) (q := q) hx)
      have hfg := hO'.frozen (p.length + k)
      have hp1 : (y : Int) * (d : Int) ≤ 18446744065119617025 := by
        have := Nat.mul_le_mul (show y ≤ 4294967295 by omega) (show d ≤ 4294967295 by omega)
        have e : ((y * d : Nat) : Int) = (y : Int) * (d : Int) := Int.natCast_mul y d
        omega
      have hp0 : 0 ≤ (y : Int) * (d : Int) := Int.mul_nonneg (by omega) (by omega)
      have Hy := Lib.hid hy
      have Hx := Lib.hid hx
      clear hy hx hz
      go_wp2
      go_roundw
      case rel =>
        obtain ⟨t, ht⟩ : ∃ t, t = cy + (y * d + x) := ⟨_, rfl⟩
        have et : (cy : Int) + ((y : Int) * (d : Int) + (x : Int)) = (t : Int) := by rw [ht, Int.natCast_add, Int.natCast_add, Int.natCast_mul]
        have htb : t < 18446744073709551616 := by
          have : ((y * d : Nat) : Int) = (y : Int) * (d : Int) := Int.natCast_mul y d
          omega
        rw [et]
        have e2 : (t : Int) % 4294967296 = ((t % 4294967296 : Nat) : Int) := by omega
        have e3 : (t : Int) / 4294967296 = ((t / 4294967296 : Nat) : Int) := by omega
        rw [e2, e3]
        refine ⟨k + 1, m'.set k (t % 4294967296), t / 4294967296, by omega, by go_num, rfl, by omega, by rw [Hid, List.length_set]; exact hl'.out, mem_set_lt hm' (by omega), ?_, ?_, hO'.set_mid hlm _, Only.set hG _ _⟩
        · have hmx : m[k]? = some x := by rw [← get_of_drop hdr.out]; exact Hx.out
          have hst := times_step (s := t % 4294967296) (c' := t / 4294967296) (x := x) (y := y) hv.out (by omega) (take_set_succ hlm)
          rw [Hid, hst, val_take_succ hmx, val_take_succ Hy.out]
        · rw [Hid, drop_set_succ]; exact drop_succ_eq hdr.out
      case measure => simp [intOf]; omega
    · obtain rfl : k = ys.length := by omega
      go_wp2
      go_ret
      have e1 : m'.take ys.length = m' := List.take_of_length_le (by have := hl'.out; omega)
      have e2 : m.take ys.length = m := List.take_of_length_le (by have := hlen.out; omega)
      have hv' := hv.out
      rw [e1, e2, List.take_length] at hv'
      refine ⟨m', cy, rfl, hl'.out.trans hlen.out.symm, hm', hcy, by rw [hlen.out]; exact hv', hO', hG⟩
end Go.Proofs.YtefnhhkhdpihdaaDoor
