/- One digit's product is added to a row. -/
import Derived.Test.YtnncfbmddpijcaaGreatDoorNum
import Derived.Deep.RegionWith
namespace Go.Proofs.YtnncfbmddpijcaaGreatDoor
open Go Go.RowKit

set_option maxHeartbeats 1000000 in
theorem addTimes_c (w : World) (g cap : Nat) (p m q ys : List Nat) (v : Value) (d : Nat) (hO : Own .u32 85 w g (p ++ m ++ q)) (hm : ∀ x ∈ m, x < 4294967296)
    (hR : Rd .u32 w v ys) (hys : ∀ x ∈ ys, x < 4294967296) (hne : 0 < ys.length → blk v ≠ some g) (hlen : Hid (m.length = ys.length)) (hd : d < 4294967296) :
    Calls Tryz.prog 72 #[.slice (some ⟨g, p.length, none⟩) ys.length cap, v, .int .u32 d] w fun e w' =>
      ∃ (m' : List Nat) (c : Nat), e = .returned (.int .u32 (c : Int)) ∧ m'.length = m.length ∧ (∀ x ∈ m', x < 4294967296) ∧ c < 4294967296 ∧
        val 4294967296 m' + c * 4294967296 ^ m.length = val 4294967296 m + d * val 4294967296 ys ∧ Own .u32 85 w' g (p ++ m' ++ q) ∧ Only g w w' := by
  obtain ⟨A, capb, rfl, hl, hc, hz⟩ := id hR
  go_enter Tryz.func72, Tryz.ntmps72
  go_wp2
  go_loopw [7, 12] (fun c i wr => ∃ (k : Nat) (m' : List Nat) (cy : Nat), k ≤ ys.length ∧ i = .int .i64 k ∧ c = .int .u64 cy ∧ cy < 4294967296 ∧ Hid (m'.length = ys.length) ∧ (∀ x ∈ m', x < 4294967296) ∧
      Hid (val 4294967296 (m'.take k) + cy * 4294967296 ^ k = val 4294967296 (m.take k) + d * val 4294967296 (ys.take k)) ∧ Hid (m'.drop k = m.drop k) ∧ Own .u32 85 wr g (p ++ m' ++ q) ∧ Only g w wr)
    (fun _ i _ => ys.length - (intOf i).toNat)
  case atStart => exact ⟨0, m, 0, Nat.zero_le _, rfl, rfl, by omega, hlen, hm, by simp [Hid], rfl, hO, Only.refl _ _⟩
  case round =>
    obtain ⟨k, m', cy, hk, rfl, rfl, hcy, hl', hm', hv, hdr, hO', hG⟩ := hrel
    by_cases hlt : k < ys.length
    · have hy : ys[k]? = some ys[k] := List.getElem?_eq_getElem hlt
      have hlm : k < m'.length := by have := hl'.out; omega
      have hx : m'[k]? = some m'[k] := List.getElem?_eq_getElem hlm
      obtain ⟨y, hyy⟩ : ∃ y, ys[k] = y := ⟨_, rfl⟩
      obtain ⟨x, hxx⟩ : ∃ x, m'[k] = x := ⟨_, rfl⟩
      rw [hyy] at hy; rw [hxx] at hx
      clear hyy hxx
      have hyb := get_lt hys hy
      have hxb := get_lt hm' hx
      obtain ⟨b, off, rfl, hb, _⟩ := hz (by omega)
      have hcb := (Rd.grown hR hG hne).cell hy
      have hcg := hO'.cell (mid_get (p := p) (q := q) hx)
      have hfg := hO'.frozen (p.length + k)
      have hp1 : (y : Int) * (d : Int) ≤ 18446744065119617025 := by
        have := Nat.mul_le_mul (show y ≤ 4294967295 by omega) (show d ≤ 4294967295 by omega)
        have e : ((y * d : Nat) : Int) = (y : Int) * (d : Int) := Int.natCast_mul y d
        omega
      have hp0 : 0 ≤ (y : Int) * (d : Int) := Int.mul_nonneg (by omega) (by omega)
      have Hy := Lib.hid hy
      have Hx := Lib.hid hx
      clear hy hx hz
      go_wp2
      go_roundw
      case rel =>
        obtain ⟨t, ht⟩ : ∃ t, t = cy + (y * d + x) := ⟨_, rfl⟩
        have et : (cy : Int) + ((y : Int) * (d : Int) + (x : Int)) = (t : Int) := by rw [ht, Int.natCast_add, Int.natCast_add, Int.natCast_mul]
        have htb : t < 18446744073709551616 := by
          have : ((y * d : Nat) : Int) = (y : Int) * (d : Int) := Int.natCast_mul y d
          omega
        rw [et]
        have e2 : (t : Int) % 4294967296 = ((t % 4294967296 : Nat) : Int) := by omega
        have e3 : (t : Int) / 4294967296 = ((t / 4294967296 : Nat) : Int) := by omega
        rw [e2, e3]
        refine ⟨k + 1, m'.set k (t % 4294967296), t / 4294967296, by omega, by go_num, rfl, by omega, by rw [Hid, List.length_set]; exact hl'.out, mem_set_lt hm' (by omega), ?_, ?_, hO'.set_mid hlm _, Only.set hG _ _⟩
        · have hmx : m[k]? = some x := by rw [← get_of_drop hdr.out]; exact Hx.out
          have hst := times_step (s := t % 4294967296) (c' := t / 4294967296) (x := x) (y := y) hv.out (by omega) (take_set_succ hlm)
          rw [Hid, hst, val_take_succ hmx, val_take_succ Hy.out]
        · rw [Hid, drop_set_succ]; exact drop_succ_eq hdr.out
      case measure => simp [intOf]; omega
    · obtain rfl : k = ys.length := by omega
      go_wp2
      go_ret
      have e1 : m'.take ys.length = m' := List.take_of_length_le (by have := hl'.out; omega)
      have e2 : m.take ys.length = m := List.take_of_length_le (by have := hlen.out; omega)
      have hv' := hv.out
      rw [e1, e2, List.take_length] at hv'
      refine ⟨m', cy, rfl, hl'.out.trans hlen.out.symm, hm', hcy, by rw [hlen.out]; exact hv', hO', hG⟩
end Go.Proofs.YtnncfbmddpijcaaGreatDoor

/- One digit's product is taken from a row. -/
namespace Go.Proofs.YtnncfbmddpijcaaGreatDoor
open Go Go.RowKit

/-- One place more of a product by one digit, taken away. -/
theorem minus_step {B i s c' x y o cy : Nat} {S S' V Y : Nat} (h : S + o * Y = V + cy * B ^ i) (hs : s + (cy + y * o) = x + c' * B) (hS : S' = S + B ^ i * s) :
    S' + o * (Y + B ^ i * y) = (V + B ^ i * x) + c' * B ^ (i + 1) := by
  have h1 := congrArg (B ^ i * ·) hs
  simp only [Nat.mul_add] at h1
  rw [hS, Nat.pow_succ, Nat.mul_add]
  have e1 : c' * (B ^ i * B) = B ^ i * (c' * B) := by rw [Nat.mul_comm (B ^ i) B, ← Nat.mul_assoc, Nat.mul_comm (c' * B)]
  have e2 : o * (B ^ i * y) = B ^ i * (y * o) := by rw [Nat.mul_left_comm, Nat.mul_comm o y]
  have e3 : cy * B ^ i = B ^ i * cy := Nat.mul_comm _ _
  omega

/-- Nothing, or that much. -/
def owe (b : Bool) (n : Nat) : Nat := if b then n else 0

theorem carry_le {cy y o t : Nat} (hy : y < 4294967296) (hc : cy ≤ o) (ht : t = cy + y * o) : t ≤ o * 4294967296 := by
  have : (y + 1) * o ≤ 4294967296 * o := Nat.mul_le_mul_right _ hy
  rw [Nat.add_mul, Nat.one_mul] at this
  rw [ht, Nat.mul_comm o]; omega

set_option maxHeartbeats 2000000 in
theorem subTimes_c (w : World) (g cap : Nat) (p m q ys : List Nat) (v : Value) (o : Nat) (hO : Own .u32 85 w g (p ++ m ++ q)) (hm : ∀ x ∈ m, x < 4294967296)
    (hR : Rd .u32 w v ys) (hys : ∀ x ∈ ys, x < 4294967296) (hne : 0 < ys.length → blk v ≠ some g) (hlen : Hid (m.length = ys.length + 1)) (ho : o < 4294967296) :
    Calls Tryz.prog 110 #[.slice (some ⟨g, p.length, none⟩) (ys.length + 1) cap, v, .int .u32 o] w fun e w' =>
      ∃ (m' : List Nat) (sh : Bool), e = .returned (.bool sh) ∧ m'.length = m.length ∧ (∀ x ∈ m', x < 4294967296) ∧
        val 4294967296 m' + o * val 4294967296 ys = val 4294967296 m + owe sh (4294967296 ^ m.length) ∧ Own .u32 85 w' g (p ++ m' ++ q) ∧ Only g w w' := by
  obtain ⟨A, capb, rfl, hl, hc, hz⟩ := id hR
  go_enter Tryz.func110, Tryz.ntmps110
  go_wp2
  go_loopw [7, 14] (fun c i wr => ∃ (k : Nat) (m' : List Nat) (cy : Nat), k ≤ ys.length ∧ i = .int .i64 k ∧ c = .int .u64 cy ∧ cy ≤ o ∧ Hid (m'.length = ys.length + 1) ∧ (∀ x ∈ m', x < 4294967296) ∧
      Hid (val 4294967296 (m'.take k) + o * val 4294967296 (ys.take k) = val 4294967296 (m.take k) + cy * 4294967296 ^ k) ∧ Hid (m'.drop k = m.drop k) ∧ Own .u32 85 wr g (p ++ m' ++ q) ∧ Only g w wr)
    (fun _ i _ => ys.length - (intOf i).toNat)
  case atStart => exact ⟨0, m, 0, Nat.zero_le _, rfl, rfl, by omega, hlen, hm, by simp [Hid], rfl, hO, Only.refl _ _⟩
  case round =>
    obtain ⟨k, m', cy, hk, rfl, rfl, hcy, hl', hm', hv, hdr, hO', hG⟩ := hrel
    by_cases hlt : k < ys.length
    · have hy : ys[k]? = some ys[k] := List.getElem?_eq_getElem hlt
      have hlm : k < m'.length := by have := hl'.out; omega
      have hx : m'[k]? = some m'[k] := List.getElem?_eq_getElem hlm
      obtain ⟨y, hyy⟩ : ∃ y, ys[k] = y := ⟨_, rfl⟩
      obtain ⟨x, hxx⟩ : ∃ x, m'[k] = x := ⟨_, rfl⟩
      rw [hyy] at hy; rw [hxx] at hx
      clear hyy hxx
      have hyb := get_lt hys hy
      have hxb := get_lt hm' hx
      obtain ⟨b, off, rfl, hb, _⟩ := hz (by omega)
      have hcb := (Rd.grown hR hG hne).cell hy
      have hcg := hO'.cell (mid_get (p := p) (q := q) hx)
      have hfg := hO'.frozen (p.length + k)
      have ecast : ((y * o : Nat) : Int) = (y : Int) * (o : Int) := Int.natCast_mul y o
      have hp1 : (y : Int) * (o : Int) ≤ 18446744065119617025 := by
        have := Nat.mul_le_mul (show y ≤ 4294967295 by omega) (show o ≤ 4294967295 by omega)
        omega
      have hp0 : 0 ≤ (y : Int) * (o : Int) := Int.mul_nonneg (by omega) (by omega)
      obtain ⟨t, ht⟩ : ∃ t, t = cy + y * o := ⟨_, rfl⟩
      have et : (cy : Int) + (y : Int) * (o : Int) = (t : Int) := by rw [ht, Int.natCast_add, ecast]
      have htb : t < 18446744073709551616 := by omega
      have htc := carry_le hyb hcy ht
      have e2 : (t : Int) % 4294967296 = ((t % 4294967296 : Nat) : Int) := by omega
      have e3 : (t : Int) / 4294967296 = ((t / 4294967296 : Nat) : Int) := by omega
      have Hy := Lib.hid hy
      have Hx := Lib.hid hx
      have Het := Lib.hid et
      have Ht := Lib.hid ht
      have He2 := Lib.hid e2
      have He3 := Lib.hid e3
      have hmx : m[k]? = some x := by rw [← get_of_drop hdr.out]; exact hx
      have Hmx := Lib.hid hmx
      have hdiv : (t / 4294967296 : Nat) ≤ 4294967295 := by omega
      have hmod : (t % 4294967296 : Nat) < 4294967296 := by omega
      clear hy hx hz ecast et ht e2 e3 hmx
      by_cases hlo : x < t % 4294967296
      · have hlo' : decide ((x : Int) < ((cy : Int) + (y : Int) * (o : Int)) % 4294967296) = true := by
          rw [decide_eq_true_iff, Het.out, He2.out]; omega
        have hup : ((cy : Int) + (y : Int) * (o : Int)) / 4294967296 ≤ 4294967294 := by
          rw [Het.out]; omega
        go_wp2
        go_roundw
        case rel =>
          have e4 : ((x : Int) - ((cy : Int) + (y : Int) * (o : Int))) % 4294967296 = ((x + 4294967296 - t % 4294967296 : Nat) : Int) := by rw [Het.out]; omega
          have e5 : ((cy : Int) + (y : Int) * (o : Int)) / 4294967296 + 1 = ((t / 4294967296 + 1 : Nat) : Int) := by rw [Het.out, He3.out]; omega
          rw [e4, e5]
          refine ⟨k + 1, m'.set k (x + 4294967296 - t % 4294967296), t / 4294967296 + 1, by omega, by go_num, rfl, by omega, by rw [Hid, List.length_set]; exact hl'.out, mem_set_lt hm' (by omega), ?_, ?_, hO'.set_mid hlm _, Only.set hG _ _⟩
          · have hst := minus_step (s := x + 4294967296 - t % 4294967296) (c' := t / 4294967296 + 1) (x := x) (y := y) hv.out (by rw [← Ht.out]; omega) (take_set_succ hlm)
            rw [Hid, val_take_succ Hmx.out, val_take_succ Hy.out]; exact hst
          · rw [Hid, drop_set_succ]; exact drop_succ_eq hdr.out
        case measure => simp [intOf]; omega
      · have hlo' : decide ((x : Int) < ((cy : Int) + (y : Int) * (o : Int)) % 4294967296) = false := by
          rw [decide_eq_false_iff_not, Het.out, He2.out]; omega
        go_wp2
        go_roundw
        case rel =>
          have e4 : ((x : Int) - ((cy : Int) + (y : Int) * (o : Int))) % 4294967296 = ((x - t % 4294967296 : Nat) : Int) := by rw [Het.out]; omega
          have e5 : ((cy : Int) + (y : Int) * (o : Int)) / 4294967296 = ((t / 4294967296 : Nat) : Int) := by rw [Het.out, He3.out]
          rw [e4, e5]
          refine ⟨k + 1, m'.set k (x - t % 4294967296), t / 4294967296, by omega, by go_num, rfl, by omega, by rw [Hid, List.length_set]; exact hl'.out, mem_set_lt hm' (by omega), ?_, ?_, hO'.set_mid hlm _, Only.set hG _ _⟩
          · have hst := minus_step (s := x - t % 4294967296) (c' := t / 4294967296) (x := x) (y := y) hv.out (by rw [← Ht.out]; omega) (take_set_succ hlm)
            rw [Hid, val_take_succ Hmx.out, val_take_succ Hy.out]; exact hst
          · rw [Hid, drop_set_succ]; exact drop_succ_eq hdr.out
        case measure => simp [intOf]; omega
    · obtain rfl : k = ys.length := by omega
      have hlm : ys.length < m'.length := by have := hl'.out; omega
      have hx : m'[ys.length]? = some m'[ys.length] := List.getElem?_eq_getElem hlm
      obtain ⟨x, hxx⟩ : ∃ x, m'[ys.length] = x := ⟨_, rfl⟩
      rw [hxx] at hx
      clear hxx
      have hxb := get_lt hm' hx
      have hcg := hO'.cell (mid_get (p := p) (q := q) hx)
      have hfg := hO'.frozen (p.length + ys.length)
      have hmx : m[ys.length]? = some x := by rw [← get_of_drop hdr.out]; exact hx
      have hv1 := val_take_succ (B := 4294967296) hmx
      have hv2 := take_set_succ (B := 4294967296) (y := (x + 4294967296 - cy) % 4294967296) hlm
      rw [List.take_of_length_le (by have := hlen.out; omega)] at hv1
      rw [List.take_of_length_le (by rw [List.length_set]; have := hl'.out; omega)] at hv2
      have hv3 := hv.out
      rw [List.take_length] at hv3
      have Hmx := Lib.hid hmx
      have Hx := Lib.hid hx
      have Hv1 := Lib.hid hv1
      have Hv2 := Lib.hid hv2
      have Hv3 := Lib.hid hv3
      clear hmx hx hv1 hv2 hv3 hz
      go_wp2
      go_ret
      have e4 : ((x : Int) - (cy : Int)) % 4294967296 = (((x + 4294967296 - cy) % 4294967296 : Nat) : Int) := by omega
      refine ⟨m'.set ys.length ((x + 4294967296 - cy) % 4294967296), decide (x < cy), rfl, ?_, mem_set_lt hm' (by omega), ?_, ?_, Only.set hG _ _⟩
      · rw [List.length_set, hl'.out, hlen.out]
      · have h1 := Hv1.out
        have h2 := Hv2.out
        have h3 := Hv3.out
        rw [hlen.out, Nat.pow_succ, h1, h2]
        have hs : (x + 4294967296 - cy) % 4294967296 + cy = x + owe (decide (x < cy)) 4294967296 := by
          unfold owe
          by_cases hb : x < cy
          · simp [hb]; omega
          · simp [hb]; omega
        have h4 := congrArg (4294967296 ^ ys.length * ·) hs
        simp only [Nat.mul_add] at h4
        have h5 : owe (decide (x < cy)) (4294967296 ^ ys.length * 4294967296) = 4294967296 ^ ys.length * owe (decide (x < cy)) 4294967296 := by
          unfold owe
          by_cases hb : x < cy
          · simp [hb]
          · simp [hb]
        have h6 : cy * 4294967296 ^ ys.length = 4294967296 ^ ys.length * cy := Nat.mul_comm _ _
        rw [h5]; omega
      · rw [e4]; exact hO'.set_mid hlm _
end Go.Proofs.YtnncfbmddpijcaaGreatDoor

/- How often one number goes into another one, guessed by the highest digits: right, or one too many. -/
namespace Go.Proofs.YtnncfbmddpijcaaGreatDoor
open Go Go.RowKit

theorem or64 {x y : Nat} (hx : x < 4294967296) (hy : y < 4294967296) : bits BinOp.or IntKind.u64 ((x : Int) * 4294967296) (y : Int) = ((x * 4294967296 + y : Nat) : Int) := by
  rw [← join_low hy, ← u64_or_nat _ _ (by omega) (by omega)]; rfl

/-- What is guessed: right, or one too many. -/
def Guessed (w : World) (U V : Nat) (e : Ending) (w' : World) : Prop :=
  ∃ (o nq : Nat), e = .returned (.int .u32 o) ∧ w' = w.drewN nq ∧ o < 4294967296 ∧ U < (o + 1) * V ∧ o * V ≤ U + V

set_option maxRecDepth 100000 in
set_option maxHeartbeats 4000000 in
theorem guess_c (w : World) (c1 c2 : Nat) (n : Nat) (hn : n < 70368744177664) (ga gb oa ob : Nat) (u0 u1 u2 high next : Nat)
    (h0 : w.cell? ⟨ga, oa + (n + 2), none⟩ = some (.int .u32 u0)) (h1 : w.cell? ⟨ga, oa + (n + 1), none⟩ = some (.int .u32 u1)) (h2 : w.cell? ⟨ga, oa + n, none⟩ = some (.int .u32 u2))
    (h3 : w.cell? ⟨gb, ob + (n + 1), none⟩ = some (.int .u32 high)) (h4 : w.cell? ⟨gb, ob + n, none⟩ = some (.int .u32 next))
    (b0 : u0 < 4294967296) (b1 : u1 < 4294967296) (b2 : u2 < 4294967296) (b3 : high < 4294967296) (b4 : next < 4294967296) (b5 : 0 < high)
    (U V P Ul Vl : Nat) (hU : Hid (U = (u0 * 4294967296 + u1) * (4294967296 * P) + u2 * P + Ul)) (hUl : Ul < P) (hV : Hid (V = high * (4294967296 * P) + next * P + Vl)) (hVl : Vl < P) (hUV : Hid (U < 4294967296 * V)) :
    Calls Tryz.prog 109 #[.slice (some ⟨ga, oa, none⟩) (n + 3) c1, .slice (some ⟨gb, ob, none⟩) (n + 2) c2] w (Guessed w U V) := by
  obtain ⟨top, htop⟩ : ∃ top, top = u0 * 4294967296 + u1 := ⟨_, rfl⟩
  have htb : top < 18446744073709551616 := by omega
  have hor := or64 b0 b1
  rw [← htop] at hor
  have hU' := hU.out
  rw [← htop] at hU'
  obtain ⟨q, hq⟩ : ∃ q, q = top / high := ⟨_, rfl⟩
  have hdv : (top : Int) / (high : Int) = (q : Int) := by rw [hq]; exact (Int.natCast_ediv top high).symm
  obtain ⟨qh, hqh⟩ : ∃ qh, qh = q * high := ⟨_, rfl⟩
  have hmul : (q : Int) * (high : Int) = (qh : Int) := by rw [hqh]; exact (Int.natCast_mul q high).symm
  have hqle : qh ≤ top := by rw [hqh, hq]; exact Nat.div_mul_le_self top high
  have hqtop : q ≤ top := by rw [hq]; exact Nat.div_le_self _ _
  have hi1 := guess_init hU' hUl b2 hV.out b5
  rw [← hq] at hi1
  have h1h : (1 : Int) ≤ (high : Int) := by omega
  have hqt : top < (q + 1) * high := by rw [hq]; exact Nat.lt_div_mul_add b5 |> fun h => by rw [Nat.add_mul, Nat.one_mul]; exact h
  have HU := Lib.hid hU'
  have Hi1 := Lib.hid hi1
  have Hq := Lib.hid hq
  have Hqh := Lib.hid hqh
  have Htop := Lib.hid htop
  have Hqt := Lib.hid hqt
  clear hU' hi1 hq hqh htop hU hqt
  have start : ∃ o r : Nat, ((q ≤ 4294967295 ∧ o = q ∧ r = top - qh) ∨ (4294967295 < q ∧ o = 4294967295 ∧ r = top - 4294967295 * high ∧ 4294967295 * high ≤ top)) ∧ o ≤ 4294967295 ∧ top = o * high + r ∧ U < (o + 1) * V := by
    by_cases hb : q ≤ 4294967295
    · exact ⟨q, top - qh, .inl ⟨hb, rfl, rfl⟩, hb, by rw [← Hqh.out]; omega, Hi1.out⟩
    · have hle : 4294967295 * high ≤ top := Nat.le_trans (Nat.mul_le_mul_right high (by omega : 4294967295 ≤ q)) (by rw [← Hqh.out]; exact hqle)
      refine ⟨4294967295, top - 4294967295 * high, .inr ⟨by omega, rfl, rfl, hle⟩, Nat.le_refl _, by omega, ?_⟩
      exact Nat.lt_of_lt_of_le hUV.out (by omega)
  obtain ⟨o0, r0, hs, ho0, hr0, hi0⟩ := start
  have Hr0 := Lib.hid hr0
  have Hi0 := Lib.hid hi0
  clear hr0 hi0
  rcases hs with ⟨hb, rfl, rfl⟩ | ⟨hb, rfl, rfl, hle⟩
  all_goals
    go_enter Tryz.func109, Tryz.ntmps109
    go_wp2
    go_quiet (fail)
    go_wp2
    go_quiet (fail)
    go_wp2
    clear hor hdv hmul
    go_loop [9, 10] (fun a b => ∃ o r : Nat, a = .int .u64 o ∧ b = .int .u64 r ∧ o ≤ 4294967295 ∧ r ≤ 18446744073709551615 ∧ Hid (top = o * high + r) ∧ Hid (U < (o + 1) * V))
      (fun _ b => (4294967296 - intOf b).toNat)
    case atStart =>
      refine ⟨_, _, rfl, ?_, ho0, ?_, Hr0, Hi0⟩
      · exact congrArg (Value.int .u64) (by omega)
      · omega
    case round =>
      obtain ⟨o, r, rfl, rfl, ho, hr, hto, hUo⟩ := hrel
      obtain ⟨p2, hp2⟩ : ∃ p2, p2 = o * next := ⟨_, rfl⟩
      have hpm : (o : Int) * (next : Int) = (p2 : Int) := by rw [hp2]; exact (Int.natCast_mul o next).symm
      have hpb : p2 ≤ 18446744065119617025 := by rw [hp2]; exact Nat.mul_le_mul ho (show next ≤ 4294967295 by omega)
      have Hp2 := Lib.hid hp2
      clear hp2
      by_cases hrb : r < 4294967296
      · obtain ⟨t2, ht2⟩ : ∃ t2, t2 = r * 4294967296 + u2 := ⟨_, rfl⟩
        have hor2 := or64 hrb b2
        rw [← ht2] at hor2
        have ht2b : t2 ≤ 18446744073709551615 := by omega
        have Ht2 := Lib.hid ht2
        clear ht2
        have hd : decide ((r : Int) < 4294967296) = true := by rw [decide_eq_true_iff]; omega
        by_cases htt : t2 < p2
        · have hd2 : decide ((t2 : Int) < (p2 : Int)) = true := by rw [decide_eq_true_iff]; omega
          have hopos : 1 ≤ o := by
            rcases Nat.eq_zero_or_pos o with h | h
            · have := Hp2.out; rw [h, Nat.zero_mul] at this; omega
            · exact h
          go_wp2
          go_round
          case rel =>
            obtain ⟨o', rfl⟩ : ∃ o', o = o' + 1 := ⟨o - 1, by omega⟩
            have hst := guess_step HU.out hUl hV.out hto.out (by have := Ht2.out; have := Hp2.out; omega)
            refine ⟨o', r + high, by go_num, by go_num, by omega, by omega, ?_, hst⟩
            have := hto.out
            rw [Nat.add_mul, Nat.one_mul] at this
            rw [Hid]; omega
          case measure => simp [intOf]; omega
        · have hd2 : decide ((t2 : Int) < (p2 : Int)) = false := by rw [decide_eq_false_iff_not]; omega
          go_wp2
          go_ret
          refine ⟨o, _, rfl, rfl, by omega, hUo.out, ?_⟩
          exact guess_end HU.out hV.out hVl b4 b5 (by omega) hto.out (.inr (by have := Ht2.out; have := Hp2.out; omega))
      · have hd : decide ((r : Int) < 4294967296) = false := by rw [decide_eq_false_iff_not]; omega
        go_wp2
        go_ret
        refine ⟨o, _, rfl, rfl, by omega, hUo.out, ?_⟩
        exact guess_end HU.out hV.out hVl b4 b5 (by omega) hto.out (.inl (by omega))
end Go.Proofs.YtnncfbmddpijcaaGreatDoor

/- One number is taken out of another one as often as it goes into it. -/
namespace Go.Proofs.YtnncfbmddpijcaaGreatDoor
open Go Go.RowKit

theorem guess_rd (w : World) (c1 c2 : Nat) (ga gb oa ob : Nat) (ms ys : List Nat) (hA : Rd .u32 w (.slice (some ⟨ga, oa, none⟩) (ys.length + 1) c1) ms) (hB : Rd .u32 w (.slice (some ⟨gb, ob, none⟩) ys.length c2) ys)
    (hms : ∀ x ∈ ms, x < 4294967296) (hys : Can 4294967296 ys) (hl : ms.length = ys.length + 1) (h2 : 2 ≤ ys.length) (hc : ys.length < 70368744177664) (hlt : val 4294967296 ms < 4294967296 * val 4294967296 ys) :
    Calls Tryz.prog 109 #[.slice (some ⟨ga, oa, none⟩) (ys.length + 1) c1, .slice (some ⟨gb, ob, none⟩) ys.length c2] w (Guessed w (val 4294967296 ms) (val 4294967296 ys)) := by
  obtain ⟨n, hn⟩ : ∃ n, ys.length = n + 2 := ⟨ys.length - 2, by omega⟩
  have g : ∀ {zs : List Nat} {i : Nat}, i < zs.length → ∃ x, zs[i]? = some x := fun h => ⟨_, List.getElem?_eq_getElem h⟩
  obtain ⟨u0, e0⟩ := g (zs := ms) (i := n + 2) (by omega)
  obtain ⟨u1, e1⟩ := g (zs := ms) (i := n + 1) (by omega)
  obtain ⟨u2, e2⟩ := g (zs := ms) (i := n) (by omega)
  obtain ⟨high, e3⟩ := g (zs := ys) (i := n + 1) (by omega)
  obtain ⟨next, e4⟩ := g (zs := ys) (i := n) (by omega)
  have b0 := get_lt hms e0
  have b1 := get_lt hms e1
  have b2 := get_lt hms e2
  have b3 := get_lt hys.1 e3
  have b4 := get_lt hys.1 e4
  have b5 : 0 < high := by
    rcases Nat.eq_zero_or_pos high with h | h
    · refine absurd ?_ hys.2
      rw [List.getLast?_eq_getElem?, show ys.length - 1 = n + 1 by omega, e3, h]
    · exact h
  have vm : val 4294967296 ms = val 4294967296 (ms.take n) + 4294967296 ^ n * u2 + 4294967296 ^ (n + 1) * u1 + 4294967296 ^ (n + 2) * u0 := by
    have := val_take_succ (B := 4294967296) e0
    rw [List.take_of_length_le (by omega), val_take_succ e1, val_take_succ e2] at this
    exact this
  have vy : val 4294967296 ys = val 4294967296 (ys.take n) + 4294967296 ^ n * next + 4294967296 ^ (n + 1) * high := by
    have := val_take_succ (B := 4294967296) e3
    rw [List.take_of_length_le (by omega), val_take_succ e4] at this
    exact this
  have lm : val 4294967296 (ms.take n) < 4294967296 ^ n := by
    have := val_lt (B := 4294967296) (xs := ms.take n) (fun x hx => hms x (List.mem_of_mem_take hx))
    rwa [List.length_take, Nat.min_eq_left (by omega)] at this
  have ly : val 4294967296 (ys.take n) < 4294967296 ^ n := by
    have := val_lt (B := 4294967296) (xs := ys.take n) (fun x hx => hys.1 x (List.mem_of_mem_take hx))
    rwa [List.length_take, Nat.min_eq_left (by omega)] at this
  have key := guess_c w c1 c2 n (by omega) ga gb oa ob u0 u1 u2 high next (hA.cell e0) (hA.cell e1) (hA.cell e2) (hB.cell e3) (hB.cell e4) b0 b1 b2 b3 b4 b5
    (val 4294967296 ms) (val 4294967296 ys) (4294967296 ^ n) (val 4294967296 (ms.take n)) (val 4294967296 (ys.take n))
    (by
      rw [Hid, vm, Nat.pow_succ 4294967296 (n + 1), Nat.pow_succ 4294967296 n]
      generalize 4294967296 ^ n = P
      have a1 : P * 4294967296 * 4294967296 * u0 = u0 * 4294967296 * (4294967296 * P) := by
        rw [Nat.mul_comm (P * 4294967296 * 4294967296) u0, Nat.mul_comm P, Nat.mul_assoc u0, Nat.mul_assoc 4294967296 P 4294967296, Nat.mul_comm P]
      have a2 : P * 4294967296 * u1 = u1 * (4294967296 * P) := by rw [Nat.mul_comm P, Nat.mul_comm]
      have a3 : P * u2 = u2 * P := Nat.mul_comm _ _
      rw [a1, a2, a3, Nat.add_mul]; omega) lm
    (by
      rw [Hid, vy, Nat.pow_succ 4294967296 n]
      generalize 4294967296 ^ n = P
      have a2 : P * 4294967296 * high = high * (4294967296 * P) := by rw [Nat.mul_comm P, Nat.mul_comm]
      have a3 : P * next = next * P := Nat.mul_comm _ _
      rw [a2, a3]; omega) ly hlt
  rw [hn]
  exact key

/-- What is taken out: as often as it goes, what is left is less. -/
def TakenOut (w : World) (g : Nat) (p m q : List Nat) (V : Nat) (e : Ending) (w' : World) : Prop :=
  ∃ (o : Nat) (m' : List Nat), e = .returned (.int .u32 o) ∧ o < 4294967296 ∧ m'.length = m.length ∧ (∀ x ∈ m', x < 4294967296) ∧
    val 4294967296 m' + o * V = val 4294967296 m ∧ val 4294967296 m' < V ∧ Own .u32 85 w' g (p ++ m' ++ q) ∧ Only g w w'

theorem Own.drewN {k : IntKind} {t : TypeId} {w : World} {g : Nat} {zs : List Nat} (h : Own k t w g zs) (n : Nat) : Own k t (w.drewN n) g zs := h
theorem Rd.drewN {k : IntKind} {w : World} {v : Value} {zs : List Nat} (h : Rd k w v zs) (n : Nat) : Rd k (w.drewN n) v zs := h
theorem only_drew (g : Nat) (w : World) : Only g w w.drew := ⟨rfl, rfl, rfl, Nat.le_refl _, fun _ _ _ => rfl⟩
theorem only_drewN (g : Nat) (w : World) (n : Nat) : Only g w (w.drewN n) := ⟨rfl, rfl, rfl, Nat.le_refl _, fun _ _ _ => rfl⟩

/-- Where it was one too many, the number is put back once: nothing is then left above. -/
theorem back_once {Q B a z c r : Nat} (ha : a < Q) (hr : r < Q) (h : a + Q * (z + c) = Q * B + r) : z + c = B ∧ a = r := by
  have hq : 0 < Q := by omega
  have h1 : (a + Q * (z + c)) / Q = z + c := by rw [Nat.add_mul_div_left _ _ hq, Nat.div_eq_of_lt ha, Nat.zero_add]
  have h2 : (Q * B + r) / Q = B := by rw [Nat.add_comm, Nat.add_mul_div_left _ _ hq, Nat.div_eq_of_lt hr, Nat.zero_add]
  have h3 : z + c = B := by rw [← h1, h, h2]
  refine ⟨h3, ?_⟩
  rw [h3] at h; omega

theorem takeOut_fin {w w2 w3 : World} {g nq : Nat} {p m q ys ma ma' : List Nat} {o z c : Nat} (hG0 : Only g (w.drewN nq) w2) (ho : o < 4294967296) (hopos : 1 ≤ o)
    (hlen : m.length = ys.length + 1) (hl : (ma ++ [z]).length = m.length) (hv : val 4294967296 (ma ++ [z]) + o * val 4294967296 ys = val 4294967296 m + owe true (4294967296 ^ m.length))
    (hb : ∀ x ∈ ma ++ [z], x < 4294967296) (hys : ∀ x ∈ ys, x < 4294967296) (hU2 : o * val 4294967296 ys ≤ val 4294967296 m + val 4294967296 ys)
    (H3 : ma'.length = ys.length ∧ (∀ x ∈ ma', x < 4294967296) ∧ val 4294967296 ma' + c * 4294967296 ^ ys.length = val 4294967296 ma + 1 * val 4294967296 ys ∧ Own .u32 85 w3 g (p ++ ma' ++ ([z] ++ q)) ∧ Only g w2 w3) :
    TakenOut w g p m q (val 4294967296 ys) (.returned (.int .u32 ((o : Int) - 1))) (w3.setCell ⟨g, p.length + ys.length, none⟩ (.int .u32 (IntKind.u32.wrap ((z : Int) + (c : Int))))) := by
  obtain ⟨h1, h2, h3, hO3, hG3⟩ := H3
  obtain ⟨o', rfl⟩ : ∃ o', o = o' + 1 := ⟨o - 1, by omega⟩
  have hV := val_lt hys
  have hva := val_lt h2
  have hvm := val_lt hb
  rw [hl, hlen] at hvm
  rw [h1] at hva
  have hma : ma.length = ys.length := by simp at hl; omega
  rw [hlen, val_append, hma] at hv
  simp only [val_cons, val_nil, Nat.mul_zero, Nat.add_zero, owe, if_true, Nat.pow_succ] at hv
  rw [val_append, hma] at hvm
  simp only [val_cons, val_nil, Nat.mul_zero, Nat.add_zero, Nat.pow_succ] at hvm
  rw [Nat.add_mul, Nat.one_mul] at hv hU2
  rw [Nat.one_mul] at h3
  have hc' : c * 4294967296 ^ ys.length = 4294967296 ^ ys.length * c := Nat.mul_comm _ _
  obtain ⟨e1, e2⟩ := back_once (B := 4294967296) (z := z) (c := c) (r := val 4294967296 m - o' * val 4294967296 ys) hva (by omega) (by rw [Nat.mul_add]; omega)
  have ew : IntKind.u32.wrap ((z : Int) + (c : Int)) = ((0 : Nat) : Int) := by
    rw [IntKind.wrap_u32']; omega
  have hz0 : (p ++ ma' ++ ([z] ++ q)).set (p.length + ys.length) 0 = p ++ (ma' ++ [0]) ++ q := by
    rw [List.set_append_right _ _ (by simp; omega)]
    simp [h1]
  refine ⟨o', ma' ++ [0], ?_, by omega, by simp [h1, hlen], ?_, ?_, ?_, ?_, ?_⟩
  · exact congrArg (fun t => Ending.returned (.int .u32 t)) (by omega)
  · intro x hx
    rcases List.mem_append.1 hx with hx | hx
    · exact h2 x hx
    · simp at hx; omega
  · rw [val_append]; simp; omega
  · rw [val_append]; simp; omega
  · rw [ew, ← hz0]; exact hO3.set _ _
  · exact (((only_drewN g w nq).trans hG0).trans hG3).set _ _

set_option maxRecDepth 100000 in
set_option maxHeartbeats 4000000 in
theorem takeOut_c (w : World) (g cap : Nat) (p m q ys : List Nat) (gb ob c2 : Nat) (hO : Own .u32 85 w g (p ++ m ++ q)) (hm : ∀ x ∈ m, x < 4294967296)
    (hR : Rd .u32 w (.slice (some ⟨gb, ob, none⟩) ys.length c2) ys) (hys : Can 4294967296 ys) (hne : gb ≠ g) (hlen : Hid (m.length = ys.length + 1)) (h2 : 2 ≤ ys.length) (hc : ys.length < 70368744177664)
    (hcap : ys.length + 1 ≤ cap) (hcap2 : cap ≤ 70368744177664) (hlt : Hid (val 4294967296 m < 4294967296 * val 4294967296 ys)) :
    Calls Tryz.prog 107 #[.slice (some ⟨g, p.length, none⟩) (ys.length + 1) cap, .slice (some ⟨gb, ob, none⟩) ys.length c2] w (TakenOut w g p m q (val 4294967296 ys)) := by
  have hblk : 0 < ys.length → blk (.slice (some ⟨gb, ob, none⟩) ys.length c2) ≠ some g := fun _ e => hne (by injection e)
  have hA : Rd .u32 w (.slice (some ⟨g, p.length, none⟩) (ys.length + 1) cap) m := by
    have := hO.rd (off := p.length) (n := ys.length + 1) (cap := cap) (by simp; have := hlen.out; omega) hcap hcap2
    have e : ((p ++ m ++ q).drop p.length).take (ys.length + 1) = m := by
      rw [List.append_assoc, List.drop_left, ← hlen.out, List.take_left]
    rwa [e] at this
  have hg := guess_rd w cap c2 g gb p.length ob m ys hA hR hm hys hlen.out h2 hc hlt.out
  go_enter Tryz.func107, Tryz.ntmps107
  go_wp2_with fail
  refine hg.mono ?_
  rintro e w1 ⟨o, nq, rfl, rfl, ho, hU1, hU2⟩
  clear hg hA
  go_wp2_with fail
  refine (subTimes_c (w.drewN nq) g cap p m q ys _ o (hO.drewN nq) hm (hR.drewN nq) hys.1 hblk hlen ho).mono ?_
  rintro e w2 ⟨m', sh, rfl, hl', hm', hv, hO', hG⟩
  have HU1 := Lib.hid hU1
  have HU2 := Lib.hid hU2
  have Hv := Lib.hid hv
  have Hl := Lib.hid hl'
  clear hU1 hU2 hv hl'
  cases sh
  · go_wp2_with fail
    go_ret
    have hv := Hv.out
    have hU1 := HU1.out
    simp only [owe, Bool.false_eq_true, if_false, Nat.add_zero] at hv
    refine ⟨o, m', rfl, ho, Hl.out, hm', hv, ?_, hO', (only_drewN g w nq).trans hG⟩
    rw [Nat.add_mul, Nat.one_mul] at hU1
    omega
  · -- one too many
    have hopos : 1 ≤ o := by
      rcases Nat.eq_zero_or_pos o with h | h
      · have hv := Hv.out
        have := val_lt (B := 4294967296) hm'
        rw [Hl.out] at this
        simp only [owe, if_true, h, Nat.zero_mul, Nat.add_zero] at hv
        omega
      · exact h
    obtain ⟨ma, z, hmz⟩ : ∃ ma z, m' = ma ++ [z] := by
      have : m' ≠ [] := by intro e; have := Hl.out; have := hlen.out; rw [e] at *; simp at *; omega
      exact ⟨m'.dropLast, m'.getLast this, (List.dropLast_concat_getLast this).symm⟩
    subst hmz
    have hma : ma.length = ys.length := by have := Hl.out; have := hlen.out; simp at *; omega
    have hzb : z < 4294967296 := hm' z (by simp)
    have hab : ∀ x ∈ ma, x < 4294967296 := fun x hx => hm' x (by simp [hx])
    have hO2 : Own .u32 85 w2 g (p ++ ma ++ ([z] ++ q)) := by simpa using hO'
    have hz0 : (p ++ ma ++ ([z] ++ q))[p.length + ys.length]? = some z := by
      rw [List.getElem?_append_right (by simp; omega)]
      simp [hma]
    have hcz := hO2.cell hz0
    have hfz := hO2.frozen (p.length + ys.length)
    have hR2 : Rd .u32 w2 (.slice (some ⟨gb, ob, none⟩) ys.length c2) ys := (hR.drewN nq).grown hG hblk
    have Hma := Lib.hid hma
    clear hma hz0
    have hcall : Calls Tryz.prog 72 #[.slice (some ⟨g, p.length, none⟩) ys.length cap, .slice (some ⟨gb, ob, none⟩) ys.length c2, .int .u32 1] w2.drew fun e w3 =>
        ∃ (ma' : List Nat) (c : Nat), e = .returned (.int .u32 (c : Int)) ∧ c < 4294967296 ∧ w3.cell? ⟨g, p.length + ys.length, none⟩ = some (.int .u32 z) ∧ w3.frozen? ⟨g, p.length + ys.length, none⟩ = false ∧
          Hid (ma'.length = ys.length ∧ (∀ x ∈ ma', x < 4294967296) ∧ val 4294967296 ma' + c * 4294967296 ^ ys.length = val 4294967296 ma + 1 * val 4294967296 ys ∧ Own .u32 85 w3 g (p ++ ma' ++ ([z] ++ q)) ∧ Only g w2 w3) := by
      refine (addTimes_c w2.drew g cap p ma ([z] ++ q) ys _ 1 hO2.drew hab hR2 hys.1 hblk Hma.out (by omega)).mono ?_
      rintro e w3 ⟨ma', c, rfl, hl3, hb3, hc3, hv3, hO3, hG3⟩
      have hz3 : (p ++ ma' ++ ([z] ++ q))[p.length + ys.length]? = some z := by
        rw [List.getElem?_append_right (by simp; have := Hma.out; omega)]
        simp [hl3, Hma.out]
      rw [Hma.out] at hl3 hv3
      exact ⟨ma', c, rfl, hc3, hO3.cell hz3, hO3.frozen _, hl3, hb3, hv3, hO3, (only_drew g w2).trans hG3⟩
    have HC := Lib.hid hcall
    clear hcall
    go_wp2_with fail
    go_region_with (go_at_call 72; refine HC.out.mono ?_; rintro e w3 ⟨ma', c, rfl, hcb, hc3, hf3, H3⟩)
    all_goals
      go_wp2
      go_ret
      exact takeOut_fin hG ho hopos hlen.out Hl.out Hv.out hm' hys.1 HU2.out H3.out
end Go.Proofs.YtnncfbmddpijcaaGreatDoor
