
/- strings.Builder: what is written into it, and had of it. -/
import Derived.Test.YtnncfbmddpijcaaGreatDoorShelf
import Derived.Test.YtnncfbmddpijcaaGreatDoorNum
import Derived.Lib.FrozenHead
import Derived.Lib.AppendIntMem
import Derived.BigCall
import Derived.Test.YtnncfbmddpijcaaGreatDoorNm
import Derived.Lib.OthersKept
import Derived.Lib.Strings
import Derived.Deep.LoopGhost
import Derived.Test.YtnncfbmddpijcaaGreatDoorHeld
namespace Go.Proofs.YtnncfbmddpijcaaGreatDoor
open Go Go.RowKit Go.Shelf

theorem info_u8 : (Tryz.prog.info? 5).map (fun i => (i.zero, i.size, i.bytes)) = some (some (.int .u8 0), 1, 1) := by kernel_rfl

theorem below_grownBy {w w' : World} (h : Below w.heap.size w w') : w.grownBy w' none := ⟨h.os, h.tape, h.output, h.size, fun j hj _ => h.block j hj⟩
theorem builderAt_below {T e : TypeId} {B b : Nat} {p : Value} {bs : List Value} {w w' : World} (h : Lib.BuilderAtF T e B b p bs w) (hb : Below w.heap.size w w') : Lib.BuilderAtF T e B b p bs w' := by
  have hlt := h.lt
  obtain ⟨hB, v, hbk, hown, hne⟩ := h
  refine ⟨hB, v, (hb.block b hlt).trans hbk, hown.kept (below_grownBy hb) ?_, hne⟩
  cases v.ownBlock with
  | none => exact .inl rfl
  | some g => exact .inr (by simp)
end Go.Proofs.YtnncfbmddpijcaaGreatDoor

/- strconv.FormatUint to the base ten. -/
namespace Go.Proofs.YtnncfbmddpijcaaGreatDoor
open Go Go.RowKit Go.Shelf Go.Sort

/-- The table of powers of ten. -/
def Tab10 (_ : World) : Prop := True
theorem Tab10.below {w w' : World} (_ : Tab10 w) (_ : Below w.heap.size w w') : Tab10 w' := trivial

end Go.Proofs.YtnncfbmddpijcaaGreatDoor

/- Powers of ten. -/
namespace Go.Proofs.YtnncfbmddpijcaaGreatDoor
open Go Go.RowKit Go.Shelf

/-- The power, or none and ErrLimbs. -/
def TenPost (w : World) (n : Nat) (e : Ending) (w' : World) : Prop := (10 ^ n < Lim ∧ RetN0 w (10 ^ n) e w') ∨ (Lim ≤ 10 ^ n ∧ RetE w 11 e w')
theorem ten_even {n h : Nat} (e : n = 2 * h) : 10 ^ h * 10 ^ h = 10 ^ n := by rw [← Nat.pow_add, e]; congr 1; omega
theorem ten_odd {n h : Nat} (e : n = 2 * h + 1) : 10 ^ h * 10 ^ h * 10 = 10 ^ n := by rw [← Nat.pow_add, e, ← Nat.pow_succ]; congr 1; omega
theorem ten_mono {n m : Nat} (h : n ≤ m) : 10 ^ n ≤ 10 ^ m := Nat.pow_le_pow_right (by omega) h

end Go.Proofs.YtnncfbmddpijcaaGreatDoor

/- A text gone through sign by sign: is it digits, and their number. -/
namespace Go.Proofs.YtnncfbmddpijcaaGreatDoor
open Go Go.RowKit

/-- Is a text digits, and not empty? -/
def okText (l : List UInt8) : Bool := decide (AllD l ∧ l ≠ [])
theorem okText_true {l : List UInt8} (h : AllD l) (h0 : l ≠ []) : okText l = true := decide_eq_true ⟨h, h0⟩
theorem okText_nil : okText [] = false := decide_eq_false fun h => h.2 rfl
theorem okText_bad {l : List UInt8} {i : Nat} {c : UInt8} (h : l[i]? = some c) (hc : ¬ (48 ≤ c.toNat ∧ c.toNat ≤ 57)) : okText l = false :=
  decide_eq_false fun k => hc (k.1 c (List.mem_of_getElem? h))
theorem get_byte (s : ByteArray) (i : Nat) (h : i < s.size) : s.data.toList[i]? = some (s[i]'h) := by
  rw [List.getElem?_eq_getElem (by simpa using h)]; rfl
theorem size_list (s : ByteArray) : s.data.toList.length = s.size := by simp
theorem allD_take_succ {l : List UInt8} {i : Nat} {c : UInt8} (h : AllD (l.take i)) (hx : l[i]? = some c) (hc : 48 ≤ c.toNat ∧ c.toNat ≤ 57) : AllD (l.take (i + 1)) := by
  rw [List.take_add_one, hx]
  exact h.append (AllD.cons hc AllD.nil)
theorem decv_take_succ {l : List UInt8} {i : Nat} {c : UInt8} (hx : l[i]? = some c) : decv (l.take (i + 1)) = decv (l.take i) * 10 + (c.toNat - 48) := by
  rw [List.take_add_one, hx]
  exact decv_push _ _

end Go.Proofs.YtnncfbmddpijcaaGreatDoor

/- Texts of digits, read. -/
namespace Go.Proofs.YtnncfbmddpijcaaGreatDoor
open Go Go.RowKit Go.Shelf

theorem ten_mono9 {n m : Nat} (h : n ≤ m) : 10 ^ n ≤ 10 ^ m := Nat.pow_le_pow_right (by omega) h

def p4900 : Nat := 4900
def ten4900 : Nat := 10 ^ p4900
theorem ten4900_lim : ten4900 < Lim := of_decide_eq_true (by kernel_rfl)
theorem ten_lim {n : Nat} (h : n ≤ 4900) : 10 ^ n < Lim := Nat.lt_of_le_of_lt (Nat.pow_le_pow_right (by omega) (show n ≤ p4900 by unfold p4900; omega)) ten4900_lim

end Go.Proofs.YtnncfbmddpijcaaGreatDoor

/- A number's decimal digits. -/
namespace Go.Proofs.YtnncfbmddpijcaaGreatDoor
open Go Go.RowKit Go.Shelf

theorem info_u64 : (Tryz.prog.info? 65).map (fun i => (i.zero, i.size, i.bytes)) = some (some (.int .u64 0), 1, 8) := by kernel_rfl
theorem Grown.below {k : IntKind} {t : TypeId} {base : Nat} {w w' : World} {v : Value} {zs : List Nat} (h : Grown k t base w v zs) (hb : Below w.heap.size w w') : Grown k t base w' v zs := by
  refine h.keep (below_grownBy hb) ?_
  cases v.ownBlock with
  | none => exact .inl rfl
  | some g => exact .inr (by simp)
def p1024 : Nat := 1024
theorem p1024_eq : p1024 = 2 * maxL := rfl
theorem lim_nine : Lim ≤ 1000000000 ^ p1024 := by
  rw [p1024_eq, Nat.pow_mul]
  exact Nat.pow_le_pow_left (by decide) _
theorem Cutting.len_le {n cur : Nat} {bs : List Nat} (h : Cutting n cur bs) (hn : n < Lim) : bs.length ≤ 1024 := by
  rcases h.2.2 with h0 | h0
  · omega
  · have := Nat.lt_of_lt_of_le (Nat.lt_of_le_of_lt (h.len h0) hn) lim_nine
    exact Nat.le_of_lt (show bs.length < p1024 from (Nat.pow_lt_pow_iff_right (by omega)).1 this)

/-- The blocks of a number. -/
def RetBlk (w : World) (n : Nat) (e : Ending) (w' : World) : Prop :=
  ∃ A cap bs, e = .returned (.slice A bs.length cap) ∧ Rd .u64 w' (.slice A bs.length cap) bs ∧ Blk n bs ∧ bs.length ≤ 1025 ∧ Below w.heap.size w w'

theorem byte_size (l : List UInt8) : (⟨l.toArray⟩ : ByteArray).size = l.length := by simp [ByteArray.size]

/-- The decimal digits. -/
def RetText (w : World) (n : Nat) (e : Ending) (w' : World) : Prop := ∃ l : List UInt8, e = .returned (.string ⟨l.toArray⟩) ∧ Dec n l ∧ Below w.heap.size w w'

end Go.Proofs.YtnncfbmddpijcaaGreatDoor

/- What divides two numbers. -/
namespace Go.Proofs.YtnncfbmddpijcaaGreatDoor
open Go Go.RowKit Go.Shelf

theorem gcd_step (x y : Nat) : Nat.gcd y (x % y) = Nat.gcd x y := by rw [Nat.gcd_comm x y, Nat.gcd_rec y x, Nat.gcd_comm]

set_option maxRecDepth 100000 in
set_option maxHeartbeats 1000000 in
theorem gcdSmall_c (w : World) (x y : Nat) (hx : x < two64) (hy : y < two64) :
    Calls Tryz.prog 68 #[.int .u64 x, .int .u64 y] w fun e w' => e = .returned (.int .u64 (Nat.gcd x y : Nat)) ∧ Below w.heap.size w w' := by
  have HX := Lib.hid (And.intro hx hy)
  clear hx hy
  go_enter Tryz.func68, Tryz.ntmps68
  go_wp2_with fail
  go_loopw [0, 1] (fun a b wr => ∃ u v nq : Nat, a = .int .u64 u ∧ b = .int .u64 v ∧ wr = w.drewN nq ∧ Hid (Nat.gcd u v = Nat.gcd x y ∧ u < two64 ∧ v < two64)) (fun _ b _ => (intOf b).toNat)
  case atStart => exact ⟨x, y, 0, rfl, rfl, rfl, rfl, HX.out⟩
  case round =>
    obtain ⟨u, v, nq, rfl, rfl, hw, H⟩ := hrel
    have hu := H.out.2.1
    have hv := H.out.2.2
    unfold two64 at hu hv
    have HW := Lib.hid hw
    clear hw
    rcases Nat.eq_zero_or_pos v with rfl | hp
    · have hfin : u = Nat.gcd x y := by rw [← H.out.1, Nat.gcd_zero_right]
      have HF := Lib.hid hfin
      clear hfin
      go_wp2_with fail
      go_ret
      refine ⟨?_, ?_⟩
      · show Ending.returned (.int .u64 (u : Int)) = _
        rw [HF.out]
      · rw [HW.out]; exact ⟨rfl, rfl, rfl, Nat.le_refl _, fun _ _ => rfl⟩
    · have hv0 : ¬ (v : Int) = 0 := by omega
      have hvb : ((v : Int) == 0) = false := by rw [beq_eq_false_iff_ne]; omega
      have hmi : (u : Int) % (v : Int) = ((u % v : Nat) : Int) := (Int.natCast_emod u v).symm
      have hml : u % v < v := Nat.mod_lt _ hp
      obtain ⟨r, hr⟩ : ∃ r, u % v = r := ⟨_, rfl⟩
      rw [hr] at hmi hml
      have Hr := Lib.hid hr
      clear hr
      go_wp2_with fail
      go_region
      all_goals
        go_wp2_with fail
        go_roundw
        case rel =>
          refine ⟨v, r, nq + 1, rfl, by rw [hmi], by rw [HW.out]; rfl, ?_, H.out.2.2, Nat.lt_trans hml H.out.2.2⟩
          rw [← Hr.out, gcd_step]; exact H.out.1
        case measure => simp [intOf]; omega

set_option maxRecDepth 100000 in
set_option maxHeartbeats 4000000 in
theorem gcd_c (w : World) (va vb : Value) (x y : Nat) (ha : Nm w va x) (hb : Nm w vb y) (hx : x < Lim) (hy : y < Lim) : Calls Tryz.prog 31 #[va, vb] w (RetN w (Nat.gcd x y)) := by
  have HA := Lib.hid (And.intro (And.intro ha hb) (And.intro hx hy))
  clear ha hb hx hy
  go_enter Tryz.func31, Tryz.ntmps31
  go_wp2_with fail
  go_loopg [0, 1] y (fun g a b wr => ∃ u : Nat, Hid (Nm wr a u ∧ Nm wr b g ∧ u < Lim ∧ g < Lim ∧ Nat.gcd u g = Nat.gcd x y ∧ Below w.heap.size w wr))
  case atStart => exact ⟨x, HA.out.1.1, HA.out.1.2, HA.out.2.1, HA.out.2.2, rfl, Below.refl _ _⟩
  case round =>
    obtain ⟨u, HR⟩ := hrel
    go_wp2_with fail
    refine (bits_n HR.out.2.1).mono ?_
    rintro e w1 ⟨nb, rfl, hnb, hb1⟩
    have H1 := Lib.hid (And.intro hnb hb1)
    clear hnb hb1
    rcases Nat.eq_zero_or_pos gk with hz | hp
    · have h0 : nb = 0 := isBits_none (by have := H1.out.1; rwa [hz] at this)
      subst h0
      have HZ := Lib.hid hz
      clear hz
      go_wp2_with fail
      refine (clone_n (HR.out.1.below H1.out.2)).mono ?_
      rintro e w2 ⟨v2, rfl, hv2, hb2⟩
      have H2 := Lib.hid (And.intro hv2 hb2)
      clear hv2 hb2
      go_wp2_with fail
      go_ret
      refine ⟨_, rfl, ?_, below_trans (below_trans HR.out.2.2.2.2.2 H1.out.2) H2.out.2⟩
      have := HR.out.2.2.2.2.1
      rw [HZ.out, Nat.gcd_zero_right] at this
      rw [← this]; exact H2.out.1
    · have h0 : 0 < nb := isBits_some H1.out.1 hp
      have hbp : decide ((nb : Int) > 0) = true := by rw [decide_eq_true_iff]; omega
      go_wp2_with fail
      refine (div_n (HR.out.1.below H1.out.2) (HR.out.2.1.below H1.out.2) hp HR.out.2.2.1).mono ?_
      rintro e w2 ⟨v2, v3, rfl, hv2, hv3, hb2⟩
      have H2 := Lib.hid (And.intro hv2 (And.intro hv3 hb2))
      clear hv2 hv3 hb2
      have hm : u % gk < gk := Nat.mod_lt _ hp
      have HM := Lib.hid hm
      clear hm
      rcases Nat.lt_or_ge gk 18446744073709551616 with hs | hs
      · have HS := Lib.hid hs
        clear hs
        go_wp2_with fail
        refine (small_n ((HR.out.2.1.below H1.out.2).below H2.out.2.2) HS.out).mono ?_
        rintro e w3 ⟨rfl, hb3⟩
        have H3 := Lib.hid hb3
        clear hb3
        go_wp2_with fail
        refine (small_n (H2.out.2.1.below H3.out) (Nat.lt_trans HM.out HS.out)).mono ?_
        rintro e w4 ⟨rfl, hb4⟩
        have H4 := Lib.hid hb4
        clear hb4
        go_wp2_with fail
        refine (gcdSmall_c w4 gk (u % gk) HS.out (Nat.lt_trans HM.out HS.out)).mono ?_
        rintro e w5 ⟨rfl, hb5⟩
        have H5 := Lib.hid hb5
        clear hb5
        have hg : Nat.gcd gk (u % gk) = Nat.gcd x y := by rw [gcd_step]; exact HR.out.2.2.2.2.1
        have hgl : Nat.gcd gk (u % gk) < 18446744073709551616 := Nat.lt_of_le_of_lt (Nat.gcd_le_left _ hp) HS.out
        have HG := Lib.hid (And.intro hg hgl)
        clear hg hgl
        go_wp2_with fail
        refine (of_n w5 _ HG.out.2).mono ?_
        rintro e w6 ⟨v6, rfl, hv6, hb6⟩
        have H6 := Lib.hid (And.intro hv6 hb6)
        clear hv6 hb6
        go_wp2_with fail
        go_ret
        refine ⟨_, rfl, by rw [← HG.out.1]; exact H6.out.1, ?_⟩
        exact below_trans (below_trans (below_trans (below_trans (below_trans (below_trans HR.out.2.2.2.2.2 H1.out.2) H2.out.2.2) H3.out) H4.out) H5.out) H6.out.2
      · have HS := Lib.hid hs
        clear hs
        go_wp2_with fail
        refine (small_big_n ((HR.out.2.1.below H1.out.2).below H2.out.2.2) HS.out).mono ?_
        rintro e w3 ⟨rfl, hb3⟩
        have H3 := Lib.hid hb3
        clear hb3
        go_wp2_with fail
        go_roundg (u % gk)
        case rel =>
          exact ⟨gk, ((HR.out.2.1.below H1.out.2).below H2.out.2.2).below H3.out, H2.out.2.1.below H3.out, HR.out.2.2.2.1, Nat.lt_trans HM.out HR.out.2.2.2.1, by rw [gcd_step]; exact HR.out.2.2.2.2.1, below_trans (below_trans (below_trans HR.out.2.2.2.2.2 H1.out.2) H2.out.2.2) H3.out⟩
        case measure => exact HM.out
end Go.Proofs.YtnncfbmddpijcaaGreatDoor

/- Layer 2's own numbers in words. -/
namespace Go.Proofs.YtnncfbmddpijcaaGreatDoor
open Go Go.RowKit Go.Shelf

instance (n : Nat) (l : List UInt8) : Decidable (Dec n l) := by unfold Dec; exact inferInstance
/-- A number's digits, as they are written out. -/
theorem Nm.lit {w : World} {v : Value} {x : Nat} (h : Nm w v x) (zs : List Nat) (hC : Can 4294967296 zs) (hv : val 4294967296 zs = x) : ∃ A cap, v = .slice A zs.length cap ∧ Rd .u32 w (.slice A zs.length cap) zs := by
  obtain ⟨A, cap, us, rfl, h1, h2⟩ := h
  have e : us = zs := Can.eq h1.2.1 hC (by rw [h2, hv])
  subst e
  exact ⟨A, cap, rfl, h1.1⟩

end Go.Proofs.YtnncfbmddpijcaaGreatDoor
