/- DigitsPlaces: the walk. -/
import Derived.Test.YtdaoechbaejjmaaDoorTensLaw
namespace Go.Proofs.YtdaoechbaejjmaaDoor
open Go Go.RowKit Go.Shelf

theorem lt_ten {x n : Nat} (h : x < 4294967296 ^ n) : x < 10 ^ (10 * n) := by
  rw [Nat.pow_mul]
  exact Nat.lt_of_lt_of_le h (Nat.pow_le_pow_left (by decide) _)
theorem len_of {x n : Nat} {l : List UInt8} (hd : Dec x l) (h : x < 4294967296 ^ n) (hn : 0 < n) : l.length ≤ 10 * n := hd.len_le (lt_ten h) (by omega)
/-- A number that the law goes on with. -/
theorem nm_arg {w : World} {A : Option Addr} {c n : Nat} {zs : List Nat} (hR : Arg w (.slice A zs.length c) zs) (hb : ∀ x ∈ zs, x < 4294967296) (hl : zs.length ≤ n) (hn : n ≤ 40) (hk : checkOf zs = 0) :
    Nm w (.slice A zs.length c) (val 4294967296 zs) ∧ val 4294967296 zs < 4294967296 ^ n ∧ (val 4294967296 zs = 0 → zs.length = 0) := by
  have hC := FitOne.can (k := .u32) ⟨Nat.le_trans hl hn, hk⟩ hb
  refine ⟨Nm.of_ok ⟨hR.2 (by omega), hC, by omega⟩, Nat.lt_of_lt_of_le (val_lt hb) (Nat.pow_le_pow_right (by omega) hl), fun h => by rw [hC.nil_of (by omega) h]; rfl⟩

set_option maxRecDepth 100000 in
set_option maxHeartbeats 4000000 in
theorem places_law (w : World) (hT : Tab10 w) (v : Value) (zs : List Nat) (h : Arg w v zs) (hb : ∀ x ∈ zs, x < 4294967296) :
    Calls Tryd.prog 4 #[v] w fun e w' => e = .returned (.bool true) ∧ Below w.heap.size w w' := by
  obtain ⟨⟨A, c, rfl⟩, _⟩ := id h
  have HT := Lib.hid hT
  have HA := Lib.hid (And.intro h hb)
  clear hT h hb
  go_enter Tryd.func4, Tryd.ntmps4
  go_wp2_with fail
  refine (writes_c w HT.out).mono ?_
  rintro e w1 ⟨rfl, hb⟩
  have H1 := Lib.hid hb
  clear hb
  by_cases h30 : 30 < zs.length
  · have hg : decide ((zs.length : Int) > 30) = true := by rw [decide_eq_true_iff]; omega
    go_wp2_with fail
    go_ret
    exact ⟨rfl, H1.out⟩
  · have hg : decide ((zs.length : Int) > 30) = false := by rw [decide_eq_false_iff_not]; omega
    have HR := Lib.hid (HA.out.1.below H1.out (Nat.le_refl _))
    go_wp2_with fail
    refine (check_c w1 _ zs (HR.out.2 (by omega))).mono ?_
    rintro e w2 ⟨rfl, rfl⟩
    by_cases hok : checkOf zs = 0
    case neg =>
      obtain ⟨k, hk⟩ : ∃ k, checkOf zs = k := ⟨_, rfl⟩
      rw [hk] at hok ⊢
      have hb1 : (k != 0) = true := by rw [bne_iff_ne]; exact hok
      have hb2 : (k == 0) = false := by rw [beq_eq_false_iff_ne]; exact hok
      clear hk hok
      go_wp2_with fail
      go_ret
      exact ⟨rfl, H1.out⟩
    have HN := Lib.hid (nm_arg HR.out HA.out.2 (n := 30) (by omega) (by omega) hok)
    rw [hok]
    clear hok
    obtain ⟨x, hx⟩ : ∃ x, val 4294967296 zs = x := ⟨_, rfl⟩
    rw [hx] at HN
    clear hx
    go_wp2_with fail
    refine (text_c w1 (HT.out.below H1.out) _ x HN.out.1 (lim_of HN.out.2.1 (by omega))).mono ?_
    rintro e w2 ⟨l, rfl, hd, hb2⟩
    have hlen : l.length ≤ 10 * 30 := len_of hd HN.out.2.1 (by omega)
    have hpos := hd.pos
    have hsz := byte_size l
    have HD := Lib.hid hd
    have H2 := Lib.hid (And.intro hb2 (below_trans H1.out hb2))
    clear hd hb2
    obtain ⟨n, hn⟩ : ∃ n, l.length = n := ⟨_, rfl⟩
    rw [hn] at hlen hpos hsz
    have Hn := Lib.hid hn
    clear hn
    go_wp2_with fail
    refine (ten_n w2 n (by omega)).mono ?_
    rintro e w3 ⟨v3, rfl, hv3, hb3⟩
    have H3 := Lib.hid (And.intro hv3 (And.intro hb3 (below_trans H2.out.2 hb3)))
    clear hv3 hb3
    obtain ⟨m, rfl⟩ : ∃ m, n = m + 1 := ⟨n - 1, by omega⟩
    have e1 : ((m + 1 : Nat) : Int) - 1 = (m : Int) := by omega
    go_wp2_with fail
    refine (ten_n w3 m (by omega)).mono ?_
    rintro e w4 ⟨v4, rfl, hv4, hb4⟩
    have H4 := Lib.hid (And.intro hv4 (And.intro (H3.out.1.below hb4) (And.intro ((HN.out.1.below H2.out.1).below (below_trans H3.out.2.1 hb4)) (below_trans H3.out.2.2 hb4))))
    clear hv4 hb4
    go_wp2_with fail
    refine (cmp_n H4.out.2.2.1 H4.out.2.1).mono ?_
    rintro e w5 ⟨rfl, hb5⟩
    have ho : ord3 x (10 ^ (m + 1)) = -1 := ord3_lt (by have := HD.out.lt; rw [Hn.out] at this; exact this)
    rw [ho]
    have H5 := Lib.hid (And.intro (H4.out.1.below hb5) (And.intro (H4.out.2.2.1.below hb5) (below_trans H4.out.2.2.2 hb5)))
    clear hb5 ho
    go_wp2_with fail
    refine (cmp_n H5.out.2.1 H5.out.1).mono ?_
    rintro e w6 ⟨rfl, hb6⟩
    have H6 := Lib.hid (below_trans H5.out.2.2 hb6)
    clear hb6
    by_cases hge : 10 ^ m ≤ x
    · have ho : decide (ord3 x (10 ^ m) ≥ 0) = true := by
        rw [decide_eq_true_iff]; unfold ord3; rw [if_neg (by omega)]; split <;> omega
      generalize ord3 x (10 ^ m) = oo at ho ⊢
      have ho2 : 0 ≤ oo := of_decide_eq_true ho
      clear hge
      go_wp2_with fail
      go_ret
      exact ⟨rfl, H6.out⟩
    · have ho : ord3 x (10 ^ m) = -1 := ord3_lt (by omega)
      have hm0 : m = 0 := by
        rcases Nat.eq_zero_or_pos m with h | h
        · exact h
        · have := HD.out.ge (by rw [Hn.out]; omega)
          rw [Hn.out, Nat.add_sub_cancel] at this
          omega
      subst hm0
      have hx0 : x = 0 := by simp at hge; exact hge
      have hz := HN.out.2.2 hx0
      rw [ho]
      have tz : ((zs.length : Int) == 0) = true := by rw [hz]; rfl
      clear ho hge hx0 H4 H5 hz
      go_wp2_with fail
      go_ret
      exact ⟨rfl, H6.out⟩
end Go.Proofs.YtdaoechbaejjmaaDoor
