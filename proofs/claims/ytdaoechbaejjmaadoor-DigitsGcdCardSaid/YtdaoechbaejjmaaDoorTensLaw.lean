/- DigitsTens: the walk. -/
import Derived.Test.YtdaoechbaejjmaaDoorWrites
namespace Go.Proofs.YtdaoechbaejjmaaDoor
open Go Go.RowKit Go.Shelf

def p4932 : Nat := 4932
def p4933 : Nat := 4933
def ten4932 : Nat := 10 ^ p4932
def ten4933 : Nat := 10 ^ p4933
theorem ten4932_lim : ten4932 < Lim := of_decide_eq_true (by kernel_rfl)
theorem ten4933_lim : Lim ≤ ten4933 := of_decide_eq_true (by kernel_rfl)
theorem ten_small {n : Nat} (h : n ≤ 4932) : 10 ^ n < Lim := Nat.lt_of_le_of_lt (Nat.pow_le_pow_right (by omega) (show n ≤ p4932 by unfold p4932; omega)) ten4932_lim
theorem ten_great {n : Nat} (h : 4932 < n) : Lim ≤ 10 ^ n := Nat.le_trans ten4933_lim (Nat.pow_le_pow_right (by omega) (show p4933 ≤ n by unfold p4933; omega))

theorem bytes_append (a b : ByteArray) : (a ++ b).toList = a.data.toList ++ b.data.toList := by
  rw [ByteArray.toList_eq, ByteArray.data_append, Array.toList_append]
theorem noughts_length (m : Nat) : (noughts m).length = m := by simp [noughts]

set_option maxRecDepth 100000 in
set_option maxHeartbeats 4000000 in
theorem tens_law (w : World) (hT : Tab10 w) (n : Int) (hlo : -9223372036854775808 ≤ n) (hhi : n ≤ 9223372036854775807) :
    Calls Tryd.prog 3 #[.int .i64 n] w fun e w' => e = .returned (.bool true) ∧ Below w.heap.size w w' := by
  have HT := Lib.hid hT
  clear hT
  go_enter Tryd.func3, Tryd.ntmps3
  go_wp2_with fail
  refine (writes_c w HT.out).mono ?_
  rintro e w1 ⟨rfl, hb⟩
  have H1 := Lib.hid hb
  clear hb
  by_cases hn : n < 0
  · go_wp2_with fail
    refine (ten_neg w1 n hn).mono ?_
    rintro e w2 ⟨rfl, hb2⟩
    have H2 := Lib.hid (below_trans H1.out hb2)
    clear hb2
    go_wp2_with fail
    go_ret
    exact ⟨rfl, H2.out⟩
  · obtain ⟨m, rfl⟩ : ∃ m : Nat, n = m := ⟨n.toNat, by omega⟩
    have hn0 : decide ((m : Int) < 0) = false := by rw [decide_eq_false_iff_not]; exact hn
    by_cases hm : 4932 < m
    · have hmt : decide ((m : Int) > 4932) = true := by rw [decide_eq_true_iff]; omega
      go_wp2_with fail
      refine (ten_c m (by omega) w1).mono ?_
      rintro e w2 (⟨hl, _⟩ | ⟨_, rfl, hb2⟩)
      · exact absurd hl (by have := ten_great hm; omega)
      have H2 := Lib.hid (below_trans H1.out hb2)
      clear hb2
      go_wp2_with fail
      go_ret
      exact ⟨rfl, H2.out⟩
    · have hmt : decide ((m : Int) > 4932) = false := by rw [decide_eq_false_iff_not]; omega
      go_wp2_with fail
      refine (ten_c m (by omega) w1).mono ?_
      rintro e w2 (⟨_, v, rfl, hv, hb2⟩ | ⟨hl, _⟩)
      case inr => exact absurd hl (by have := ten_small (n := m) (by omega); omega)
      have H2 := Lib.hid (And.intro hv (below_trans H1.out hb2))
      clear hv hb2
      by_cases h400 : 400 < m
      · have h4t : decide ((m : Int) > 400) = true := by rw [decide_eq_true_iff]; omega
        go_wp2_with fail
        go_ret
        exact ⟨rfl, H2.out.2⟩
      · have h4t : decide ((m : Int) > 400) = false := by rw [decide_eq_false_iff_not]; omega
        go_wp2_with fail
        refine (text_c w2 (HT.out.below H2.out.2) v (10 ^ m) H2.out.1 (ten_small (by omega))).mono ?_
        rintro e w3 ⟨l, rfl, hd, hb3⟩
        obtain rfl : l = 49 :: noughts m := hd.eq (dec_ten m)
        have H3 := Lib.hid (below_trans H2.out.2 hb3)
        clear hd hb3
        go_wp2_with fail
        refine (repeat_c m (by omega) w3).mono ?_
        rintro e w4 ⟨rfl, hb4⟩
        have H4 := Lib.hid (below_trans H3.out hb4)
        clear hb4
        have hno : ¬ 9223372036854775807 < 1 + (noughts m).length := by rw [noughts_length]; omega
        go_wp2_with fail
        go_ret
        refine ⟨?_, H4.out⟩
        show Ending.returned (.bool (49 :: noughts m == ((⟨#[49]⟩ : ByteArray) ++ ⟨(noughts m).toArray⟩).toList)) = _
        rw [bytes_append]
        have e : (49 :: noughts m == [49] ++ noughts m) = true := by rw [beq_iff_eq]; rfl
        exact congrArg (fun b => Ending.returned (.bool b)) e
end Go.Proofs.YtdaoechbaejjmaaDoor
