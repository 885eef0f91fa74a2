/- Powers of ten. -/
import Derived.Test.YtlgfjgkcgimdoaaDoorNm
import Derived.Test.YtlgfjgkcgimdoaaDoorMem
import Derived.Test.YtlgfjgkcgimdoaaDoorNum
import Derived.Lib.OthersKept
import Derived.Lib.Strings
namespace Go.Proofs.YtlgfjgkcgimdoaaDoor
open Go Go.RowKit Go.Shelf

/-- The power, or none and ErrLimbs. -/
def TenPost (w : World) (n : Nat) (e : Ending) (w' : World) : Prop := (10 ^ n < Lim ∧ RetN0 w (10 ^ n) e w') ∨ (Lim ≤ 10 ^ n ∧ RetE w 11 e w')
theorem ten_even {n h : Nat} (e : n = 2 * h) : 10 ^ h * 10 ^ h = 10 ^ n := by rw [← Nat.pow_add, e]; congr 1; omega
theorem ten_odd {n h : Nat} (e : n = 2 * h + 1) : 10 ^ h * 10 ^ h * 10 = 10 ^ n := by rw [← Nat.pow_add, e, ← Nat.pow_succ]; congr 1; omega
theorem ten_mono {n m : Nat} (h : n ≤ m) : 10 ^ n ≤ 10 ^ m := Nat.pow_le_pow_right (by omega) h

end Go.Proofs.YtlgfjgkcgimdoaaDoor

/- A text gone through sign by sign: is it digits, and their number. -/
namespace Go.Proofs.YtlgfjgkcgimdoaaDoor
open Go Go.RowKit

/-- Is a text digits, and not empty? -/
def okText (l : List UInt8) : Bool := decide (AllD l ∧ l ≠ [])
theorem okText_true {l : List UInt8} (h : AllD l) (h0 : l ≠ []) : okText l = true := decide_eq_true ⟨h, h0⟩
theorem okText_nil : okText [] = false := decide_eq_false fun h => h.2 rfl
theorem okText_bad {l : List UInt8} {i : Nat} {c : UInt8} (h : l[i]? = some c) (hc : ¬ (48 ≤ c.toNat ∧ c.toNat ≤ 57)) : okText l = false :=
  decide_eq_false fun k => hc (k.1 c (List.mem_of_getElem? h))
theorem get_byte (s : ByteArray) (i : Nat) (h : i < s.size) : s.data.toList[i]? = some (s[i]'h) := by
  rw [List.getElem?_eq_getElem (by simpa using h)]; rfl
theorem size_list (s : ByteArray) : s.data.toList.length = s.size := by simp
theorem allD_take_succ {l : List UInt8} {i : Nat} {c : UInt8} (h : AllD (l.take i)) (hx : l[i]? = some c) (hc : 48 ≤ c.toNat ∧ c.toNat ≤ 57) : AllD (l.take (i + 1)) := by
  rw [List.take_add_one, hx]
  exact h.append (AllD.cons hc AllD.nil)
theorem decv_take_succ {l : List UInt8} {i : Nat} {c : UInt8} (hx : l[i]? = some c) : decv (l.take (i + 1)) = decv (l.take i) * 10 + (c.toNat - 48) := by
  rw [List.take_add_one, hx]
  exact decv_push _ _

set_option maxRecDepth 100000 in
set_option maxHeartbeats 1000000 in
theorem allDigits_c (w : World) (s : ByteArray) :
    Calls Tryd.prog 62 #[.string s] w fun e w' => e = .returned (.bool (okText s.data.toList)) ∧ Below w.heap.size w w' := by
  go_enter Tryd.func62, Tryd.ntmps62
  go_wp2_with fail
  go_loopw [4] (fun _ wr => ∃ pos : Nat, pos ≤ s.size ∧ wr.heap[w.heap.size]? = some (.stringIter s pos) ∧ Below w.heap.size w wr ∧ Hid (AllD (s.data.toList.take pos))) (fun _ wr => s.size - wr.iterPos w.heap.size)
  case atStart => exact ⟨0, Nat.zero_le _, World.iter_heap w s 0, (Below.refl _ w).alloc (Nat.le_refl _) _, AllD.nil⟩
  case round =>
    obtain ⟨pos, hp, hit, hbw, hD⟩ := hrel
    have HIT := Lib.hid hit
    by_cases hlt : pos < s.size
    · obtain ⟨c, hc⟩ : ∃ c, s[pos]'hlt = c := ⟨_, rfl⟩
      have hx := get_byte s pos hlt
      rw [hc] at hx
      have Hx := Lib.hid hx
      clear hx
      by_cases h128 : c.toNat < 128
      · have hnx : ∀ ty, (Instr.next (.pointer (some ⟨w.heap.size, 0, none⟩)) true ty).run Tryd.prog wr = _ := fun ty => Lib.run_next_ascii_at wr w.heap.size s pos ty hit hlt (by rw [hc]; exact h128)
        rw [hc] at hnx
        have HB2 := Lib.hid (Lib.below_iterAt hbw (k := w.heap.size) (Nat.le_refl _) s (pos + 1))
        have HI2 := Lib.hid (Lib.iterAt_heap wr w.heap.size s pos (pos + 1) hit)
        clear hit hbw hc
        by_cases hd : 48 ≤ c.toNat ∧ c.toNat ≤ 57
        · have h1 : decide ((c.toNat : Int) < 48) = false := by rw [decide_eq_false_iff_not]; omega
          have h2 : decide ((c.toNat : Int) > 57) = false := by rw [decide_eq_false_iff_not]; omega
          go_wp2_with fail
          go_roundw
          case rel => exact ⟨pos + 1, by omega, HI2.out, HB2.out, allD_take_succ hD.out Hx.out hd⟩
          case measure => simp only [World.iterPos, HI2.out, HIT.out]; omega
        · have hres := okText_bad Hx.out hd
          rcases Nat.lt_or_ge c.toNat 48 with h48 | h48
          · have h1 : decide ((c.toNat : Int) < 48) = true := by rw [decide_eq_true_iff]; omega
            go_wp2_with fail
            go_ret
            exact ⟨by first | rfl | (rw [hres]; rfl), HB2.out⟩
          · have h1 : decide ((c.toNat : Int) < 48) = false := by rw [decide_eq_false_iff_not]; omega
            have h2 : decide ((c.toNat : Int) > 57) = true := by rw [decide_eq_true_iff]; omega
            go_wp2_with fail
            go_ret
            exact ⟨by first | rfl | (rw [hres]; rfl), HB2.out⟩
      · have hr := (decode_high s pos hlt (by rw [hc]; omega)).1
        have hd1 := decode_le s pos
        have hnx : ∀ ty, (Instr.next (.pointer (some ⟨w.heap.size, 0, none⟩)) true ty).run Tryd.prog wr = _ := fun ty => Lib.run_next_any_at wr w.heap.size s pos ty hit hlt
        have HB2 := Lib.hid (Lib.below_iterAt hbw (k := w.heap.size) (Nat.le_refl _) s (pos + (Utf8.decode s pos).2))
        have hres := okText_bad Hx.out (by omega)
        generalize (Utf8.decode s pos).2 = m at *
        generalize (Utf8.decode s pos).1 = r at *
        have h1 : decide ((r : Int) < 48) = false := by rw [decide_eq_false_iff_not]; omega
        have h2 : decide ((r : Int) > 57) = true := by rw [decide_eq_true_iff]; omega
        clear hit hbw hc
        go_wp2_with fail
        go_ret
        exact ⟨by first | rfl | (rw [hres]; rfl), HB2.out⟩
    · have hnx : ∀ ty, (Instr.next (.pointer (some ⟨w.heap.size, 0, none⟩)) true ty).run Tryd.prog wr = _ := fun ty => Lib.run_next_end_at wr w.heap.size s pos ty hit hlt
      obtain rfl : pos = s.size := by omega
      have hA : AllD s.data.toList := by have := hD.out; rwa [List.take_of_length_le (by simp)] at this
      have HA := Lib.hid hA
      have HB2 := Lib.hid hbw
      clear hit hbw hA hD
      by_cases h0 : s.size = 0
      · have hl : s.data.toList = [] := List.eq_nil_of_length_eq_zero (by rw [size_list]; exact h0)
        have hres : okText s.data.toList = false := by rw [hl]; exact okText_nil
        have HR := Lib.hid (And.intro hl hres)
        clear hl hres
        go_wp2_with fail
        go_ret
        refine ⟨?_, HB2.out⟩
        show Ending.returned (.bool (!s.toList.isEmpty)) = _
        rw [HR.out.2, ByteArray.toList_eq, HR.out.1]; rfl
      · have hl : s.data.toList ≠ [] := fun e => h0 (by rw [← size_list, e]; rfl)
        have hres : okText s.data.toList = true := okText_true HA.out hl
        have HR := Lib.hid (And.intro hl hres)
        clear hl hres
        go_wp2_with fail
        go_ret
        refine ⟨?_, HB2.out⟩
        show Ending.returned (.bool (!s.toList.isEmpty)) = _
        have he : s.data.toList.isEmpty = false := by rw [List.isEmpty_eq_false_iff]; exact HR.out.1
        rw [HR.out.2, ByteArray.toList_eq, he]; rfl

set_option maxRecDepth 100000 in
set_option maxHeartbeats 1000000 in
theorem blockOf_c (w : World) (s : ByteArray) (hs : s.size ≤ 9) (hD : AllD s.data.toList) :
    Calls Tryd.prog 63 #[.string s] w fun e w' => e = .returned (.int .u64 (decv s.data.toList : Nat)) ∧ Below w.heap.size w w' := by
  have HD := Lib.hid hD
  clear hD
  go_enter Tryd.func63, Tryd.ntmps63
  go_wp2_with fail
  go_loopw [3] (fun n wr => ∃ pos v : Nat, pos ≤ s.size ∧ n = .int .u64 v ∧ v < 1000000000 ∧ wr.heap[w.heap.size]? = some (.stringIter s pos) ∧ Below w.heap.size w wr ∧ Hid (v = decv (s.data.toList.take pos))) (fun _ wr => s.size - wr.iterPos w.heap.size)
  case atStart => exact ⟨0, 0, Nat.zero_le _, rfl, by omega, World.iter_heap w s 0, (Below.refl _ w).alloc (Nat.le_refl _) _, rfl⟩
  case round =>
    obtain ⟨pos, v, hp, rfl, hv, hit, hbw, hV⟩ := hrel
    have HIT := Lib.hid hit
    by_cases hlt : pos < s.size
    · obtain ⟨c, hc⟩ : ∃ c, s[pos]'hlt = c := ⟨_, rfl⟩
      have hx := get_byte s pos hlt
      rw [hc] at hx
      have hd := HD.out c (List.mem_of_getElem? hx)
      have Hx := Lib.hid hx
      clear hx
      have hnx : ∀ ty, (Instr.next (.pointer (some ⟨w.heap.size, 0, none⟩)) true ty).run Tryd.prog wr = _ := fun ty => Lib.run_next_ascii_at wr w.heap.size s pos ty hit hlt (by rw [hc]; omega)
      rw [hc] at hnx
      have HB2 := Lib.hid (Lib.below_iterAt hbw (k := w.heap.size) (Nat.le_refl _) s (pos + 1))
      have HI2 := Lib.hid (Lib.iterAt_heap wr w.heap.size s pos (pos + 1) hit)
      clear hit hbw hc
      have hi0 : 0 ≤ (c.toNat : Int) - 48 := by omega
      have hi1 : (c.toNat : Int) - 48 ≤ 9 := by omega
      go_wp2_with fail
      go_roundw
      case rel =>
        have e := decv_take_succ Hx.out
        have hlt2 : decv (s.data.toList.take (pos + 1)) < 10 ^ 9 := by
          have := (HD.out.take (pos + 1)).lt
          refine Nat.lt_of_lt_of_le this (Nat.pow_le_pow_right (by omega) ?_)
          rw [List.length_take, size_list]; omega
        have e0 := hV.out
        refine ⟨pos + 1, v * 10 + (c.toNat - 48), by omega, by first | go_num | (congr 1; omega), by rw [e0, ← e]; simpa using hlt2, HI2.out, HB2.out, Lib.hid (by rw [e, e0])⟩
      case measure => simp only [World.iterPos, HI2.out, HIT.out]; omega
    · have hnx : ∀ ty, (Instr.next (.pointer (some ⟨w.heap.size, 0, none⟩)) true ty).run Tryd.prog wr = _ := fun ty => Lib.run_next_end_at wr w.heap.size s pos ty hit hlt
      obtain rfl : pos = s.size := by omega
      have HB2 := Lib.hid hbw
      have e0 : v = decv s.data.toList := by have := hV.out; rwa [List.take_of_length_le (by simp)] at this
      have E0 := Lib.hid e0
      clear hit hbw hV e0
      go_wp2_with fail
      go_ret
      refine ⟨?_, HB2.out⟩
      show Ending.returned (.int .u64 (v : Int)) = _
      rw [E0.out]
end Go.Proofs.YtlgfjgkcgimdoaaDoor

/- Texts of digits, read. -/
namespace Go.Proofs.YtlgfjgkcgimdoaaDoor
open Go Go.RowKit Go.Shelf

set_option maxRecDepth 100000 in
set_option maxHeartbeats 1000000 in
theorem behind_c (w : World) (va : Value) (a b : Nat) (ha : Nm w va a) (hb : b < 18446744073709551616) (hl : a * 1000000000 + b < Lim) :
    Calls Tryd.prog 64 #[va, .int .u64 b] w (RetN w (a * 1000000000 + b)) := by
  have HA := Lib.hid (And.intro ha (And.intro hb hl))
  clear ha hl
  go_enter Tryd.func64, Tryd.ntmps64
  go_wp2_with fail
  refine (of_n _ 1000000000 (by omega)).mono ?_
  rintro e w1 ⟨v1, rfl, hv1, hb1⟩
  have H1 := Lib.hid (And.intro hv1 hb1)
  clear hv1 hb1
  go_wp2_with fail
  refine (mul_n (HA.out.1.below H1.out.2) H1.out.1 (Nat.lt_of_le_of_lt (Nat.le_add_right _ b) HA.out.2.2)).mono ?_
  rintro e w2 ⟨v2, rfl, hv2, hb2⟩
  have H2 := Lib.hid (And.intro hv2 hb2)
  clear hv2 hb2
  go_wp2_with fail
  refine (of_n _ b HA.out.2.1).mono ?_
  rintro e w3 ⟨v3, rfl, hv3, hb3⟩
  have H3 := Lib.hid (And.intro hv3 hb3)
  clear hv3 hb3
  go_wp2_with fail
  refine (add_n (H2.out.1.below H3.out.2) H3.out.1 HA.out.2.2).mono ?_
  rintro e w4 ⟨v4, rfl, hv4, hb4⟩
  have H4 := Lib.hid (And.intro hv4 hb4)
  clear hv4 hb4
  go_wp2_with fail
  go_ret
  exact ⟨_, rfl, H4.out.1, below_trans (below_trans (below_trans H1.out.2 H2.out.2) H3.out.2) H4.out.2⟩

theorem ten_mono9 {n m : Nat} (h : n ≤ m) : 10 ^ n ≤ 10 ^ m := Nat.pow_le_pow_right (by omega) h

theorem parse_bad (w : World) (s : ByteArray) (h : okText s.data.toList = false) : Calls Tryd.prog 43 #[.string s] w (RetE w 2) := by
  have ha := allDigits_c w s
  rw [h] at ha
  go_enter Tryd.func43, Tryd.ntmps43
  go_wp2_with fail
  refine ha.mono ?_
  rintro e w1 ⟨rfl, hb⟩
  have HB := Lib.hid hb
  clear ha h hb
  go_wp2_with fail
  go_ret2
  exact ⟨rfl, HB.out⟩
theorem parse_long (w : World) (s : ByteArray) (h : okText s.data.toList = true) (hl : 4900 < s.size) : Calls Tryd.prog 43 #[.string s] w (RetE w 3) := by
  have ha := allDigits_c w s
  rw [h] at ha
  go_enter Tryd.func43, Tryd.ntmps43
  go_wp2_with fail
  refine ha.mono ?_
  rintro e w1 ⟨rfl, hb⟩
  have HB := Lib.hid hb
  clear ha h hb
  go_wp2_with fail
  go_ret2
  exact ⟨rfl, HB.out⟩

def p4900 : Nat := 4900
def ten4900 : Nat := 10 ^ p4900
theorem ten4900_lim : ten4900 < Lim := of_decide_eq_true (by kernel_rfl)
theorem ten_lim {n : Nat} (h : n ≤ 4900) : 10 ^ n < Lim := Nat.lt_of_le_of_lt (Nat.pow_le_pow_right (by omega) (show n ≤ p4900 by unfold p4900; omega)) ten4900_lim

set_option maxRecDepth 100000 in
set_option maxHeartbeats 2000000 in
theorem parse_ok (w : World) (s : ByteArray) (hD : AllD s.data.toList) (h0 : s.data.toList ≠ []) (hl : s.size ≤ 4900) : Calls Tryd.prog 43 #[.string s] w (RetN0 w (decv s.data.toList)) := by
  have ha := allDigits_c w s
  rw [okText_true hD h0] at ha
  obtain ⟨h, hh⟩ : ∃ h, s.size % 9 = h := ⟨_, rfl⟩
  obtain ⟨q, hq⟩ : ∃ q, s.size / 9 = q := ⟨_, rfl⟩
  have hsz : s.size = h + 9 * q := by omega
  have hmi : (s.size : Int) % 9 = (h : Int) := by omega
  have hqi : (s.size : Int) / 9 = (q : Int) := by omega
  have hh9 : h < 9 := by omega
  have HS := Lib.hid hsz
  have HD := Lib.hid (And.intro hD h0)
  clear hsz hD h0 hh hq
  have hhs : h ≤ s.size := by have := HS.out; omega
  go_enter Tryd.func43, Tryd.ntmps43
  go_wp2_with fail
  refine ha.mono ?_
  rintro e w1 ⟨rfl, hb⟩
  have HB := Lib.hid hb
  clear ha hb
  go_wp2_with fail
  have hx1 : (s.extract 0 h).data.toList = s.data.toList.take h := by rw [Lib.extract_data]; simp
  have hs1 : (s.extract 0 h).size ≤ 9 := by rw [← size_list, hx1, List.length_take]; omega
  have HX := Lib.hid (And.intro hx1 hs1)
  clear hx1 hs1
  refine (blockOf_c w1 _ HX.out.2 (by rw [HX.out.1]; exact HD.out.1.take h)).mono ?_
  rintro e w2 ⟨rfl, hb⟩
  rw [HX.out.1]
  have hd9 : decv (s.data.toList.take h) < 10 ^ 9 := Nat.lt_of_lt_of_le (decv_take_lt HD.out.1 h (by rw [size_list]; exact hhs)) (ten_mono9 (by omega))
  have HB2 := Lib.hid (below_trans HB.out hb)
  clear hb HB HX
  obtain ⟨d, hd⟩ : ∃ d, decv (s.data.toList.take h) = d := ⟨_, rfl⟩
  rw [hd] at hd9 ⊢
  have Hd := Lib.hid hd
  clear hd
  go_wp2_with fail
  refine (of_n _ d (by omega)).mono ?_
  rintro e w3 ⟨v3, rfl, hv3, hb3⟩
  have H3 := Lib.hid (And.intro hv3 (below_trans HB2.out hb3))
  clear hv3 hb3 HB2
  go_wp2_with fail
  go_loopw [5, 25] (fun v i wr => ∃ k : Nat, k ≤ q ∧ i = .int .i64 k ∧ Hid (Nm wr v (decv (s.data.toList.take (h + 9 * k))) ∧ Below w.heap.size w wr)) (fun _ i _ => q - (intOf i).toNat)
  case atStart => exact ⟨0, Nat.zero_le _, rfl, by rw [Nat.mul_zero, Nat.add_zero, Hd.out]; exact H3.out.1, H3.out.2⟩
  case round =>
    obtain ⟨k, hk, rfl, HR⟩ := hrel
    by_cases hlt : k < q
    · have e1 : (h : Int) + (k : Int) * 9 = ((h + 9 * k : Nat) : Int) := by omega
      have e2 : ((h + 9 * k : Nat) : Int) + 9 = ((h + 9 * k + 9 : Nat) : Int) := by omega
      have hle : h + 9 * k + 9 ≤ s.size := by have := HS.out; omega
      obtain ⟨p, hp⟩ : ∃ p, h + 9 * k = p := ⟨_, rfl⟩
      rw [hp] at e1 e2 hle
      obtain ⟨r, hr⟩ : ∃ r, p + 9 = r := ⟨_, rfl⟩
      rw [hr] at e2 hle
      have hpx : (s.extract p r).data.toList = (s.data.toList.drop p).take 9 := by rw [Lib.extract_data, ← hr, Nat.add_sub_cancel_left]
      have hps : (s.extract p r).size ≤ 9 := by rw [← size_list, hpx, List.length_take]; omega
      have hpd : AllD ((s.data.toList.drop p).take 9) := (HD.out.1.drop p).take 9
      have hdb := decv_block s.data.toList p (by rw [size_list, hr]; exact hle)
      rw [hr] at hdb
      have hd9 : decv ((s.data.toList.drop p).take 9) < 10 ^ 9 := Nat.lt_of_lt_of_le hpd.lt (ten_mono9 (by rw [List.length_take]; omega))
      have hdl : decv (s.data.toList.take r) < Lim := Nat.lt_trans (decv_take_lt HD.out.1 r (by rw [size_list]; exact hle)) (ten_lim (by omega))
      rw [hdb] at hdl
      have HX := Lib.hid (And.intro hpx (And.intro hps hpd))
      have HE := Lib.hid (And.intro hdb (And.intro hdl (And.intro hp hr)))
      clear hpx hps hpd hdb hdl hp hr
      go_wp2_with fail
      refine (blockOf_c wr _ HX.out.2.1 (by rw [HX.out.1]; exact HX.out.2.2)).mono ?_
      rintro e w4 ⟨rfl, hb⟩
      rw [HX.out.1]
      obtain ⟨d2, hd2⟩ : ∃ d2, decv ((s.data.toList.drop p).take 9) = d2 := ⟨_, rfl⟩
      rw [hd2] at hd9 ⊢
      have HD2 := Lib.hid hd2
      have H4 := Lib.hid hb
      clear hd2 hb HX
      go_wp2_with fail
      refine (behind_c w4 u5 _ d2 (HR.out.1.below H4.out) (by omega) (by have := HE.out.2.1; rw [HD2.out] at this; rw [HE.out.2.2.1]; exact this)).mono ?_
      rintro e w5 ⟨v5, rfl, hv5, hb5⟩
      have H5 := Lib.hid (And.intro hv5 hb5)
      clear hv5 hb5
      go_wp2_with fail
      go_roundw
      case rel =>
        refine ⟨k + 1, by omega, by go_num, ?_, below_trans HR.out.2 (below_trans H4.out H5.out.2)⟩
        have := H5.out.1
        rw [HE.out.2.2.1] at this
        rw [show h + 9 * (k + 1) = r by have := HE.out.2.2.1; have := HE.out.2.2.2; omega, HE.out.1, HD2.out]
        exact this
      case measure => simp [intOf]; omega
    · obtain rfl : k = q := by omega
      have hfin : decv (s.data.toList.take (h + 9 * k)) = decv s.data.toList := by rw [List.take_of_length_le (by rw [size_list]; have := HS.out; omega)]
      have HF := Lib.hid hfin
      clear hfin
      go_wp2_with fail
      go_ret2
      exact ⟨_, rfl, by rw [← HF.out]; exact HR.out.1, HR.out.2⟩
end Go.Proofs.YtlgfjgkcgimdoaaDoor
