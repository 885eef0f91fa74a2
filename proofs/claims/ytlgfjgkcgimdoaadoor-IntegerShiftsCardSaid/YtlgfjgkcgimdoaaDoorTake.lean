/- One digit's product is added to a row. -/
import Derived.Test.YtlgfjgkcgimdoaaDoorMem
namespace Go.Proofs.YtlgfjgkcgimdoaaDoor
open Go Go.RowKit

set_option maxHeartbeats 1000000 in
theorem addTimes_c (w : World) (g cap : Nat) (p m q ys : List Nat) (v : Value) (d : Nat) (hO : Own .u32 57 w g (p ++ m ++ q)) (hm : ∀ x ∈ m, x < 4294967296)
    (hR : Rd .u32 w v ys) (hys : ∀ x ∈ ys, x < 4294967296) (hne : 0 < ys.length → blk v ≠ some g) (hlen : Hid (m.length = ys.length)) (hd : d < 4294967296) :
    Calls Tryd.prog 53 #[.slice (some ⟨g, p.length, none⟩) ys.length cap, v, .int .u32 d] w fun e w' =>
      ∃ (m' : List Nat) (c : Nat), e = .returned (.int .u32 (c : Int)) ∧ m'.length = m.length ∧ (∀ x ∈ m', x < 4294967296) ∧ c < 4294967296 ∧
        val 4294967296 m' + c * 4294967296 ^ m.length = val 4294967296 m + d * val 4294967296 ys ∧ Own .u32 57 w' g (p ++ m' ++ q) ∧ Only g w w' := by
  obtain ⟨A, capb, rfl, hl, hc, hz⟩ := id hR
  go_enter Tryd.func53, Tryd.ntmps53
  go_wp2
  go_loopw [7, 12] (fun c i wr => ∃ (k : Nat) (m' : List Nat) (cy : Nat), k ≤ ys.length ∧ i = .int .i64 k ∧ c = .int .u64 cy ∧ cy < 4294967296 ∧ Hid (m'.length = ys.length) ∧ (∀ x ∈ m', x < 4294967296) ∧
      Hid (val 4294967296 (m'.take k) + cy * 4294967296 ^ k = val 4294967296 (m.take k) + d * val 4294967296 (ys.take k)) ∧ Hid (m'.drop k = m.drop k) ∧ Own .u32 57 wr g (p ++ m' ++ q) ∧ Only g w wr)
    (fun _ i _ => ys.length - (intOf i).toNat)
  case atStart => exact ⟨0, m, 0, Nat.zero_le _, rfl, rfl, by omega, hlen, hm, by simp [Hid], rfl, hO, Only.refl _ _⟩
  case round =>
    obtain ⟨k, m', cy, hk, rfl, rfl, hcy, hl', hm', hv, hdr, hO', hG⟩ := hrel
    by_cases hlt : k < ys.length
    · have hy : ys[k]? = some ys[k] := List.getElem?_eq_getElem hlt
      have hlm : k < m'.length := by have := hl'.out; omega
      have hx : m'[k]? = some m'[k] := List.getElem?_eq_getElem hlm
      obtain ⟨y, hyy⟩ : ∃ y, ys[k] = y := ⟨_, rfl⟩
      obtain ⟨x, hxx⟩ : ∃ x, m'[k] = x := ⟨_, rfl⟩
      rw [hyy] at hy; rw [hxx] at hx
      clear hyy hxx
      have hyb := get_lt hys hy
      have hxb := get_lt hm' hx
      obtain ⟨b, off, rfl, hb, _⟩ := hz (by omega)
      have hcb := (Rd.grown hR hG hne).cell hy
      have hcg := hO'.cell (mid_get (p := p) (q := q) hx)
      have hfg := hO'.frozen (p.length + k)
      have hp1 : (y : Int) * (d : Int) ≤ 18446744065119617025 := by
        have := Nat.mul_le_mul (show y ≤ 4294967295 by omega) (show d ≤ 4294967295 by omega)
        have e : ((y * d : Nat) : Int) = (y : Int) * (d : Int) := Int.natCast_mul y d
        omega
      have hp0 : 0 ≤ (y : Int) * (d : Int) := Int.mul_nonneg (by omega) (by omega)
      have Hy := Lib.hid hy
      have Hx := Lib.hid hx
      clear hy hx hz
      go_wp2
      go_roundw
      case rel =>
        obtain ⟨t, ht⟩ : ∃ t, t = cy + (y * d + x) := ⟨_, rfl⟩
        have et : (cy : Int) + ((y : Int) * (d : Int) + (x : Int)) = (t : Int) := by rw [ht, Int.natCast_add, Int.natCast_add, Int.natCast_mul]
        have htb : t < 18446744073709551616 := by
          have : ((y * d : Nat) : Int) = (y : Int) * (d : Int) := Int.natCast_mul y d
          omega
        rw [et]
        have e2 : (t : Int) % 4294967296 = ((t % 4294967296 : Nat) : Int) := by omega
        have e3 : (t : Int) / 4294967296 = ((t / 4294967296 : Nat) : Int) := by omega
        rw [e2, e3]
        refine ⟨k + 1, m'.set k (t % 4294967296), t / 4294967296, by omega, by go_num, rfl, by omega, by rw [Hid, List.length_set]; exact hl'.out, mem_set_lt hm' (by omega), ?_, ?_, hO'.set_mid hlm _, Only.set hG _ _⟩
        · have hmx : m[k]? = some x := by rw [← get_of_drop hdr.out]; exact Hx.out
          have hst := times_step (s := t % 4294967296) (c' := t / 4294967296) (x := x) (y := y) hv.out (by omega) (take_set_succ hlm)
          rw [Hid, hst, val_take_succ hmx, val_take_succ Hy.out]
        · rw [Hid, drop_set_succ]; exact drop_succ_eq hdr.out
      case measure => simp [intOf]; omega
    · obtain rfl : k = ys.length := by omega
      go_wp2
      go_ret
      have e1 : m'.take ys.length = m' := List.take_of_length_le (by have := hl'.out; omega)
      have e2 : m.take ys.length = m := List.take_of_length_le (by have := hlen.out; omega)
      have hv' := hv.out
      rw [e1, e2, List.take_length] at hv'
      refine ⟨m', cy, rfl, hl'.out.trans hlen.out.symm, hm', hcy, by rw [hlen.out]; exact hv', hO', hG⟩
end Go.Proofs.YtlgfjgkcgimdoaaDoor

/- One digit's product is taken from a row. -/
namespace Go.Proofs.YtlgfjgkcgimdoaaDoor
open Go Go.RowKit

/-- One place more of a product by one digit, taken away. -/
theorem minus_step {B i s c' x y o cy : Nat} {S S' V Y : Nat} (h : S + o * Y = V + cy * B ^ i) (hs : s + (cy + y * o) = x + c' * B) (hS : S' = S + B ^ i * s) :
    S' + o * (Y + B ^ i * y) = (V + B ^ i * x) + c' * B ^ (i + 1) := by
  have h1 := congrArg (B ^ i * ·) hs
  simp only [Nat.mul_add] at h1
  rw [hS, Nat.pow_succ, Nat.mul_add]
  have e1 : c' * (B ^ i * B) = B ^ i * (c' * B) := by rw [Nat.mul_comm (B ^ i) B, ← Nat.mul_assoc, Nat.mul_comm (c' * B)]
  have e2 : o * (B ^ i * y) = B ^ i * (y * o) := by rw [Nat.mul_left_comm, Nat.mul_comm o y]
  have e3 : cy * B ^ i = B ^ i * cy := Nat.mul_comm _ _
  omega

/-- Nothing, or that much. -/
def owe (b : Bool) (n : Nat) : Nat := if b then n else 0

theorem carry_le {cy y o t : Nat} (hy : y < 4294967296) (hc : cy ≤ o) (ht : t = cy + y * o) : t ≤ o * 4294967296 := by
  have : (y + 1) * o ≤ 4294967296 * o := Nat.mul_le_mul_right _ hy
  rw [Nat.add_mul, Nat.one_mul] at this
  rw [ht, Nat.mul_comm o]; omega

set_option maxHeartbeats 2000000 in
theorem subTimes_c (w : World) (g cap : Nat) (p m q ys : List Nat) (v : Value) (o : Nat) (hO : Own .u32 57 w g (p ++ m ++ q)) (hm : ∀ x ∈ m, x < 4294967296)
    (hR : Rd .u32 w v ys) (hys : ∀ x ∈ ys, x < 4294967296) (hne : 0 < ys.length → blk v ≠ some g) (hlen : Hid (m.length = ys.length + 1)) (ho : o < 4294967296) :
    Calls Tryd.prog 82 #[.slice (some ⟨g, p.length, none⟩) (ys.length + 1) cap, v, .int .u32 o] w fun e w' =>
      ∃ (m' : List Nat) (sh : Bool), e = .returned (.bool sh) ∧ m'.length = m.length ∧ (∀ x ∈ m', x < 4294967296) ∧
        val 4294967296 m' + o * val 4294967296 ys = val 4294967296 m + owe sh (4294967296 ^ m.length) ∧ Own .u32 57 w' g (p ++ m' ++ q) ∧ Only g w w' := by
  obtain ⟨A, capb, rfl, hl, hc, hz⟩ := id hR
  go_enter Tryd.func82, Tryd.ntmps82
  go_wp2
  go_loopw [7, 14] (fun c i wr => ∃ (k : Nat) (m' : List Nat) (cy : Nat), k ≤ ys.length ∧ i = .int .i64 k ∧ c = .int .u64 cy ∧ cy ≤ o ∧ Hid (m'.length = ys.length + 1) ∧ (∀ x ∈ m', x < 4294967296) ∧
      Hid (val 4294967296 (m'.take k) + o * val 4294967296 (ys.take k) = val 4294967296 (m.take k) + cy * 4294967296 ^ k) ∧ Hid (m'.drop k = m.drop k) ∧ Own .u32 57 wr g (p ++ m' ++ q) ∧ Only g w wr)
    (fun _ i _ => ys.length - (intOf i).toNat)
  case atStart => exact ⟨0, m, 0, Nat.zero_le _, rfl, rfl, by omega, hlen, hm, by simp [Hid], rfl, hO, Only.refl _ _⟩
  case round =>
    obtain ⟨k, m', cy, hk, rfl, rfl, hcy, hl', hm', hv, hdr, hO', hG⟩ := hrel
    by_cases hlt : k < ys.length
    · have hy : ys[k]? = some ys[k] := List.getElem?_eq_getElem hlt
      have hlm : k < m'.length := by have := hl'.out; omega
      have hx : m'[k]? = some m'[k] := List.getElem?_eq_getElem hlm
      obtain ⟨y, hyy⟩ : ∃ y, ys[k] = y := ⟨_, rfl⟩
      obtain ⟨x, hxx⟩ : ∃ x, m'[k] = x := ⟨_, rfl⟩
      rw [hyy] at hy; rw [hxx] at hx
      clear hyy hxx
      have hyb := get_lt hys hy
      have hxb := get_lt hm' hx
      obtain ⟨b, off, rfl, hb, _⟩ := hz (by omega)
      have hcb := (Rd.grown hR hG hne).cell hy
      have hcg := hO'.cell (mid_get (p := p) (q := q) hx)
      have hfg := hO'.frozen (p.length + k)
      have ecast : ((y * o : Nat) : Int) = (y : Int) * (o : Int) := Int.natCast_mul y o
      have hp1 : (y : Int) * (o : Int) ≤ 18446744065119617025 := by
        have := Nat.mul_le_mul (show y ≤ 4294967295 by omega) (show o ≤ 4294967295 by omega)
        omega
      have hp0 : 0 ≤ (y : Int) * (o : Int) := Int.mul_nonneg (by omega) (by omega)
      obtain ⟨t, ht⟩ : ∃ t, t = cy + y * o := ⟨_, rfl⟩
      have et : (cy : Int) + (y : Int) * (o : Int) = (t : Int) := by rw [ht, Int.natCast_add, ecast]
      have htb : t < 18446744073709551616 := by omega
      have htc := carry_le hyb hcy ht
      have e2 : (t : Int) % 4294967296 = ((t % 4294967296 : Nat) : Int) := by omega
      have e3 : (t : Int) / 4294967296 = ((t / 4294967296 : Nat) : Int) := by omega
      have Hy := Lib.hid hy
      have Hx := Lib.hid hx
      have Het := Lib.hid et
      have Ht := Lib.hid ht
      have He2 := Lib.hid e2
      have He3 := Lib.hid e3
      have hmx : m[k]? = some x := by rw [← get_of_drop hdr.out]; exact hx
      have Hmx := Lib.hid hmx
      have hdiv : (t / 4294967296 : Nat) ≤ 4294967295 := by omega
      have hmod : (t % 4294967296 : Nat) < 4294967296 := by omega
      clear hy hx hz ecast et ht e2 e3 hmx
      by_cases hlo : x < t % 4294967296
      · have hlo' : decide ((x : Int) < ((cy : Int) + (y : Int) * (o : Int)) % 4294967296) = true := by
          rw [decide_eq_true_iff, Het.out, He2.out]; omega
        have hup : ((cy : Int) + (y : Int) * (o : Int)) / 4294967296 ≤ 4294967294 := by
          rw [Het.out]; omega
        go_wp2
        go_roundw
        case rel =>
          have e4 : ((x : Int) - ((cy : Int) + (y : Int) * (o : Int))) % 4294967296 = ((x + 4294967296 - t % 4294967296 : Nat) : Int) := by rw [Het.out]; omega
          have e5 : ((cy : Int) + (y : Int) * (o : Int)) / 4294967296 + 1 = ((t / 4294967296 + 1 : Nat) : Int) := by rw [Het.out, He3.out]; omega
          rw [e4, e5]
          refine ⟨k + 1, m'.set k (x + 4294967296 - t % 4294967296), t / 4294967296 + 1, by omega, by go_num, rfl, by omega, by rw [Hid, List.length_set]; exact hl'.out, mem_set_lt hm' (by omega), ?_, ?_, hO'.set_mid hlm _, Only.set hG _ _⟩
          · have hst := minus_step (s := x + 4294967296 - t % 4294967296) (c' := t / 4294967296 + 1) (x := x) (y := y) hv.out (by rw [← Ht.out]; omega) (take_set_succ hlm)
            rw [Hid, val_take_succ Hmx.out, val_take_succ Hy.out]; exact hst
          · rw [Hid, drop_set_succ]; exact drop_succ_eq hdr.out
        case measure => simp [intOf]; omega
      · have hlo' : decide ((x : Int) < ((cy : Int) + (y : Int) * (o : Int)) % 4294967296) = false := by
          rw [decide_eq_false_iff_not, Het.out, He2.out]; omega
        go_wp2
        go_roundw
        case rel =>
          have e4 : ((x : Int) - ((cy : Int) + (y : Int) * (o : Int))) % 4294967296 = ((x - t % 4294967296 : Nat) : Int) := by rw [Het.out]; omega
          have e5 : ((cy : Int) + (y : Int) * (o : Int)) / 4294967296 = ((t / 4294967296 : Nat) : Int) := by rw [Het.out, He3.out]
          rw [e4, e5]
          refine ⟨k + 1, m'.set k (x - t % 4294967296), t / 4294967296, by omega, by go_num, rfl, by omega, by rw [Hid, List.length_set]; exact hl'.out, mem_set_lt hm' (by omega), ?_, ?_, hO'.set_mid hlm _, Only.set hG _ _⟩
          · have hst := minus_step (s := x - t % 4294967296) (c' := t / 4294967296) (x := x) (y := y) hv.out (by rw [← Ht.out]; omega) (take_set_succ hlm)
            rw [Hid, val_take_succ Hmx.out, val_take_succ Hy.out]; exact hst
          · rw [Hid, drop_set_succ]; exact drop_succ_eq hdr.out
        case measure => simp [intOf]; omega
    · obtain rfl : k = ys.length := by omega
      have hlm : ys.length < m'.length := by have := hl'.out; omega
      have hx : m'[ys.length]? = some m'[ys.length] := List.getElem?_eq_getElem hlm
      obtain ⟨x, hxx⟩ : ∃ x, m'[ys.length] = x := ⟨_, rfl⟩
      rw [hxx] at hx
      clear hxx
      have hxb := get_lt hm' hx
      have hcg := hO'.cell (mid_get (p := p) (q := q) hx)
      have hfg := hO'.frozen (p.length + ys.length)
      have hmx : m[ys.length]? = some x := by rw [← get_of_drop hdr.out]; exact hx
      have hv1 := val_take_succ (B := 4294967296) hmx
      have hv2 := take_set_succ (B := 4294967296) (y := (x + 4294967296 - cy) % 4294967296) hlm
      rw [List.take_of_length_le (by have := hlen.out; omega)] at hv1
      rw [List.take_of_length_le (by rw [List.length_set]; have := hl'.out; omega)] at hv2
      have hv3 := hv.out
      rw [List.take_length] at hv3
      have Hmx := Lib.hid hmx
      have Hx := Lib.hid hx
      have Hv1 := Lib.hid hv1
      have Hv2 := Lib.hid hv2
      have Hv3 := Lib.hid hv3
      clear hmx hx hv1 hv2 hv3 hz
      go_wp2
      go_ret
      have e4 : ((x : Int) - (cy : Int)) % 4294967296 = (((x + 4294967296 - cy) % 4294967296 : Nat) : Int) := by omega
      refine ⟨m'.set ys.length ((x + 4294967296 - cy) % 4294967296), decide (x < cy), rfl, ?_, mem_set_lt hm' (by omega), ?_, ?_, Only.set hG _ _⟩
      · rw [List.length_set, hl'.out, hlen.out]
      · have h1 := Hv1.out
        have h2 := Hv2.out
        have h3 := Hv3.out
        rw [hlen.out, Nat.pow_succ, h1, h2]
        have hs : (x + 4294967296 - cy) % 4294967296 + cy = x + owe (decide (x < cy)) 4294967296 := by
          unfold owe
          by_cases hb : x < cy
          · simp [hb]; omega
          · simp [hb]; omega
        have h4 := congrArg (4294967296 ^ ys.length * ·) hs
        simp only [Nat.mul_add] at h4
        have h5 : owe (decide (x < cy)) (4294967296 ^ ys.length * 4294967296) = 4294967296 ^ ys.length * owe (decide (x < cy)) 4294967296 := by
          unfold owe
          by_cases hb : x < cy
          · simp [hb]
          · simp [hb]
        have h6 : cy * 4294967296 ^ ys.length = 4294967296 ^ ys.length * cy := Nat.mul_comm _ _
        rw [h5]; omega
      · rw [e4]; exact hO'.set_mid hlm _
end Go.Proofs.YtlgfjgkcgimdoaaDoor
