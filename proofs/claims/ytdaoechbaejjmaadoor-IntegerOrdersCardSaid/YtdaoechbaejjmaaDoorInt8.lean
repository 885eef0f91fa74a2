/- Whole numbers: what may be, texts there and back, sums. -/
import Derived.Test.YtdaoechbaejjmaaDoorInt7
namespace Go.Proofs.YtdaoechbaejjmaaDoor
open Go Go.RowKit Go.Shelf
attribute [local go_sem ↓] Go.wp_at_zero Go.wp_at_succ

/-- What Check makes of a sign and of digits. -/
def checkI (m : Bool) (zs : List Nat) : Int := if checkOf zs = 0 then (if m = true ∧ zs.length = 0 then 2 else 0) else checkOf zs
set_option maxRecDepth 100000 in
theorem checkInt_c (w : World) (m : Bool) (A : Option Addr) (c n : Nat) (zs : List Nat) (hR : Rd .u32 w (.slice A n c) zs) : Calls Tryd.prog 42 #[.agg #[.bool m, .slice A n c]] w fun e w' => e = .returned (.int .i64 (checkI m zs)) ∧ Below w.heap.size w w' := by
  have hn : n = zs.length := by obtain ⟨_, _, e, _⟩ := hR; injection e
  have HW := Lib.hid (box_below w (.bool m) (.slice A n c))
  have HN := Lib.hid (BoxI.new w (.bool m) (.slice A n c))
  have H1 := Lib.hid (And.intro (hR.below HW.out) hn)
  obtain ⟨c0, c1, _, _⟩ := HN.out.cells
  clear hR hn
  go_enter Tryd.func42, Tryd.ntmps42
  go_wp2_with fail
  refine (check_c _ _ zs H1.out.1).mono ?_
  rintro e w2 ⟨rfl, rfl⟩
  by_cases hok : checkOf zs = 0
  · rw [hok]
    by_cases hc : m = true ∧ zs.length = 0
    · have e : checkI m zs = 2 := by unfold checkI; rw [if_pos hok, if_pos hc]
      obtain rfl : m = true := hc.1
      obtain rfl : n = 0 := H1.out.2.trans hc.2
      have HE := Lib.hid e
      clear e hok hc
      go_wp2_with fail
      go_ret
      exact ⟨by rw [HE.out]; rfl, HW.out⟩
    · have e : checkI m zs = 0 := by unfold checkI; rw [if_pos hok, if_neg hc]
      have HE := Lib.hid e
      cases m with
      | true =>
        have hn0 : ¬ n = 0 := fun h => hc ⟨rfl, by rw [← H1.out.2]; exact h⟩
        have hb : ((n : Int) == 0) = false := by rw [beq_eq_false_iff_ne]; omega
        clear e hok hc
        go_wp2_with fail
        go_ret
        exact ⟨by rw [HE.out]; rfl, HW.out⟩
      | false =>
        clear e hok hc
        go_wp2_with fail
        go_ret
        exact ⟨by rw [HE.out]; rfl, HW.out⟩
  · have e : checkI m zs = checkOf zs := by unfold checkI; rw [if_neg hok]
    have HE := Lib.hid e
    obtain ⟨k, hk⟩ : ∃ k, checkOf zs = k := ⟨_, rfl⟩
    rw [hk] at hok HE ⊢
    have hb1 : (k != 0) = true := by rw [bne_iff_ne]; exact hok
    have hb2 : (k == 0) = false := by rw [beq_eq_false_iff_ne]; exact hok
    clear e hk
    go_wp2_with fail
    go_ret
    exact ⟨by rw [HE.out]; rfl, HW.out⟩

theorem Im.zs {w : World} {v : Value} {z : Int} (h : Im w v z) (hs : LimI z) : ∃ A c n zs, v = .agg #[.bool (decide (z < 0)), .slice A n c] ∧ Rd .u32 w (.slice A n c) zs ∧ checkI (decide (z < 0)) zs = 0 := by
  obtain ⟨A, c, n, rfl, A', cap, zs, hsl, ho, hv⟩ := h
  rw [hsl]
  refine ⟨A', cap, zs.length, zs, rfl, ho.1, ?_⟩
  have hk : checkOf zs = 0 := checkOf_ok (by have := len_of_lim ho.2.1 (by rw [hv]; exact hs); omega) ho.2.1.2
  unfold checkI
  rw [if_pos hk, if_neg]
  rintro ⟨h1, h2⟩
  have hz : z < 0 := of_decide_eq_true h1
  obtain rfl : zs = [] := List.eq_nil_of_length_eq_zero h2
  simp at hv
  omega
theorem checkInt_im (w : World) (v : Value) (z : Int) (hv : Im w v z) (hs : LimI z) : Calls Tryd.prog 42 #[v] w fun e w' => e = .returned (.int .i64 0) ∧ Below w.heap.size w w' := by
  obtain ⟨A, c, n, zs, rfl, hR, hk⟩ := hv.zs hs
  exact (checkInt_c w _ A c n zs hR).mono fun _ _ h => ⟨by rw [h.1, hk], h.2⟩

def p5120 : Nat := 5120
theorem lim_ten : Lim ≤ 10 ^ p5120 := of_decide_eq_true (by kernel_rfl)
/-- The digits of a whole number, a - ahead of those below nothing. -/
def DecI (z : Int) (l : List UInt8) : Prop := ∃ d, Dec z.natAbs d ∧ l = (if z < 0 then 45 :: d else d)
theorem DecI.eq {z : Int} {l m : List UInt8} (h : DecI z l) (k : DecI z m) : l = m := by
  obtain ⟨d, hd, rfl⟩ := h
  obtain ⟨d', hd', rfl⟩ := k
  rw [hd.eq hd']
theorem dash_append (s : ByteArray) : ((⟨#[45]⟩ : ByteArray) ++ s).data.toList = 45 :: s.data.toList := by simp
set_option maxRecDepth 100000 in
theorem textInt_c (w : World) (hT : Tab10 w) (v : Value) (z : Int) (hv : Im w v z) (hs : LimI z) : Calls Tryd.prog 79 #[v] w fun e w' => ∃ s : ByteArray, e = .returned (.string s) ∧ DecI z s.data.toList ∧ Below w.heap.size w w' := by
  have HV := Lib.hid hv
  obtain ⟨m, A, c, n, rfl, hm, h1⟩ := hv.cases
  have HW := Lib.hid (box_below w (.bool m) (.slice A n c))
  have HN := Lib.hid (BoxI.new w (.bool m) (.slice A n c))
  have H1 := Lib.hid (And.intro (h1.below HW.out) (And.intro hs (hT.below HW.out)))
  obtain ⟨c0, c1, _, _⟩ := HN.out.cells
  clear hv h1 hm hs hT
  go_enter Tryd.func79, Tryd.ntmps79
  go_wp2_with fail
  refine (sign_c _ (.agg #[.bool m, .slice A n c]) z (HV.out.below HW.out)).mono ?_
  rintro e w2 ⟨rfl, hb⟩
  have H2 := Lib.hid (And.intro (H1.out.1.below hb) (And.intro (H1.out.2.2.below hb) (And.intro (HN.out.below hb) (below_trans HW.out hb))))
  clear hb c0 c1
  obtain ⟨c0, c1, _, _⟩ := H2.out.2.2.1.cells
  by_cases hz : z < 0
  · have hsz : sign3 z = -1 := by unfold sign3; rw [if_pos hz]
    rw [hsz]
    have Hz := Lib.hid hz
    clear hsz hz
    go_wp2_with fail
    refine (text_c w2 H2.out.2.1 _ _ H2.out.1 H1.out.2.1).mono ?_
    rintro e w3 ⟨l, rfl, hd, hb⟩
    have hl : l.length ≤ 512 * 10 := by
      rcases Nat.lt_or_ge (512 * 10) l.length with a | a
      · exfalso
        exact Nat.lt_irrefl _ (Nat.lt_of_lt_of_le H1.out.2.1 (Nat.le_trans lim_ten (Nat.le_trans (Nat.pow_le_pow_right (by omega) (show p5120 ≤ l.length - 1 by unfold p5120; omega)) (hd.ge (by omega)))))
      · exact a
    have H3 := Lib.hid (And.intro hd (below_trans H2.out.2.2.2 hb))
    have hsum : ¬ 9223372036854775807 < 1 + (⟨l.toArray⟩ : ByteArray).size := by rw [byte_size]; omega
    clear hd hb
    go_wp2_with fail
    go_ret
    exact ⟨_, rfl, ⟨l, H3.out.1, by rw [if_pos Hz.out]; exact dash_append _⟩, H3.out.2⟩
  · have hsz : decide (sign3 z < 0) = false := by rw [decide_eq_false_iff_not]; unfold sign3; rw [if_neg hz]; split <;> omega
    generalize sign3 z = sz at hsz ⊢
    have Hz := Lib.hid hz
    clear hz
    go_wp2_with fail
    refine (text_c w2 H2.out.2.1 _ _ H2.out.1 H1.out.2.1).mono ?_
    rintro e w3 ⟨l, rfl, hd, hb⟩
    have H3 := Lib.hid (And.intro hd (below_trans H2.out.2.2.2 hb))
    clear hd hb
    go_wp2_with fail
    go_ret
    exact ⟨_, rfl, ⟨l, H3.out.1, by rw [if_neg (by have := Hz.out; omega)]⟩, H3.out.2⟩

theorem dash_cut (m : Bool) (d : List UInt8) (hD : AllD d) (h0 : d ≠ []) : Lib.trimPrefix (if m then 45 :: d else d) [45] = d ∧ Lib.hasPrefix (if m then 45 :: d else d) [45] = m := by
  cases m with
  | true => exact ⟨rfl, rfl⟩
  | false =>
    obtain ⟨x, l, rfl⟩ := List.exists_cons_of_ne_nil h0
    have hx : Lib.hasPrefix (x :: l) [45] = false := by
      have := hD x (List.mem_cons_self ..)
      unfold Lib.hasPrefix
      have hne : (45 == x) = false := by
        rw [beq_eq_false_iff_ne]; rintro rfl; exact absurd this (by decide)
      simp [List.isPrefixOf, hne]
    refine ⟨?_, hx⟩
    show Lib.trimPrefix (x :: l) [45] = x :: l
    unfold Lib.trimPrefix
    rw [if_neg (by rw [hx]; simp)]

set_option maxRecDepth 100000 in
theorem parseInt_c (w : World) (s : ByteArray) (m : Bool) (d : List UInt8) (hs : s.data.toList = (if m then 45 :: d else d)) (hD : AllD d) (h0 : d ≠ []) (hl : d.length ≤ 4900) : Calls Tryd.prog 76 #[.string s] w (RetI0 w (sg m (decv d))) := by
  have HN := Lib.hid (BoxI.new w (.bool false) (.slice none 0 0))
  have HW := Lib.hid (box_below w (.bool false) (.slice none 0 0))
  have hcut := dash_cut m d hD h0
  rw [← hs] at hcut
  have HC := Lib.hid (And.intro hcut (And.intro hD (And.intro h0 hl)))
  clear hcut hs hD h0 hl
  go_enter Tryd.func76, Tryd.ntmps76
  go_wp2_with fail
  refine (Tryd.strings_CutPrefix s ⟨#[45]⟩ _).mono ?_
  rintro e w1 ⟨rfl, rfl⟩
  rw [show Lib.trimPrefix s.data.toList (⟨#[45]⟩ : ByteArray).data.toList = d from HC.out.1.1, show Lib.hasPrefix s.data.toList (⟨#[45]⟩ : ByteArray).data.toList = m from HC.out.1.2]
  go_wp2_with fail
  refine (parse_ok _ ⟨d.toArray⟩ HC.out.2.1 HC.out.2.2.1 (by rw [byte_size]; exact HC.out.2.2.2)).mono ?_
  rintro e w3 ⟨v3, rfl, hv3, hb⟩
  have H3 := Lib.hid (And.intro hv3 (And.intro (HN.out.below hb) (below_trans HW.out hb)))
  clear hv3 hb
  go_wp2_with fail
  refine (answer_ok w3 m v3 _ H3.out.1).mono ?_
  rintro e w4 ⟨v4, rfl, hv4, hb⟩
  obtain ⟨m4, A4, c4, n4, rfl, hm4, h4⟩ := hv4.cases
  have H4 := Lib.hid (And.intro h4 (And.intro (H3.out.2.1.below hb) (And.intro (below_trans H3.out.2.2 hb) hm4)))
  clear hv4 hb h4 hm4
  obtain ⟨r0, r1, g0, g1⟩ := H4.out.2.1.cells
  go_wp2_with fail
  exact bodyPost_ret (v := .tuple #[.agg #[.bool m4, .slice A4 n4 c4], .int .i64 0]) (by simp [results, Tryd.results76, go_sem, r0, r1]) rfl (retI0_put H4.out.2.2.2 H4.out.2.1 rfl rfl (by omega) H4.out.1 H4.out.2.2.1)
theorem decI_parse {z : Int} {l : List UInt8} (h : DecI z l) : ∃ d, l = (if decide (z < 0) then 45 :: d else d) ∧ AllD d ∧ d ≠ [] ∧ sg (decide (z < 0)) (decv d) = z := by
  obtain ⟨d, hd, rfl⟩ := h
  refine ⟨d, by simp, hd.1, hd.2.2.1, ?_⟩
  rw [hd.2.1, sg_of]
end Go.Proofs.YtdaoechbaejjmaaDoor
