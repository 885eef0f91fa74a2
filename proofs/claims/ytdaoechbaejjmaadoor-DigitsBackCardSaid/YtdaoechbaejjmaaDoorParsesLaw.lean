/- DigitsParses: the walk. -/
import Derived.Test.YtdaoechbaejjmaaDoorPlacesLaw
import Derived.Test.YtdaoechbaejjmaaDoorRefH
namespace Go.Proofs.YtdaoechbaejjmaaDoor
open Go Go.RowKit Go.Shelf

/-- v is the number x in w, to the base 256. -/
def Rm (w : World) (v : Value) (x : Nat) : Prop := ∃ A cap zs, v = .slice A zs.length cap ∧ Rd .i64 w (.slice A zs.length cap) zs ∧ Can 256 zs ∧ val 256 zs = x
theorem Rm.below {w w' : World} {v : Value} {x : Nat} (h : Rm w v x) (hb : Below w.heap.size w w') : Rm w' v x := by
  obtain ⟨A, cap, zs, rfl, h1, h2⟩ := h
  exact ⟨A, cap, zs, rfl, h1.below hb, h2⟩
theorem Rm.nil (w : World) : Rm w (.slice none 0 0) 0 := ⟨none, 0, [], rfl, Rd.nil _ _ _, Can.nil _, rfl⟩
def RetM (w : World) (x : Nat) (e : Ending) (w' : World) : Prop := ∃ v, e = .returned v ∧ Rm w' v x ∧ Below w.heap.size w w'
theorem retM_of {w w' : World} {x n : Nat} {e : Ending} (h : RefOut w x n e w') : RetM w x e w' := by
  obtain ⟨hb, A, cap, ds, rfl, h1, h2, h3, _⟩ := h
  exact ⟨_, rfl, ⟨A, cap, ds, rfl, h1, h2, h3⟩, hb⟩
section
variable {w : World} {va vb : Value} {x y : Nat}
theorem refMul_m (k : Nat) (hk : k ≤ 100000) (ha : Rm w va x) (hb : Rm w vb y) (hx : x < 256 ^ k) (hy : y < 256 ^ k) : Calls Tryd.prog 25 #[va, vb] w (RetM w (x * y)) := by
  obtain ⟨A, c, xs, rfl, h1, h2, rfl⟩ := ha
  obtain ⟨A', c', ys, rfl, g1, g2, rfl⟩ := hb
  exact (refMul_c w _ _ xs ys h1 g1 h2.1 g2.1 (Nat.le_trans (h2.len_le (by omega) hx) hk) (Nat.le_trans (g2.len_le (by omega) hy) hk)).mono fun _ _ h => retM_of h
theorem refAdd_m (k : Nat) (hk : k ≤ 100000) (ha : Rm w va x) (hb : Rm w vb y) (hx : x < 256 ^ k) (hy : y < 256 ^ k) : Calls Tryd.prog 26 #[va, vb] w (RetM w (x + y)) := by
  obtain ⟨A, c, xs, rfl, h1, h2, rfl⟩ := ha
  obtain ⟨A', c', ys, rfl, g1, g2, rfl⟩ := hb
  exact (refAdd_c w _ _ xs ys h1 g1 h2.1 g2.1 (Nat.le_trans (h2.len_le (by omega) hx) hk) (Nat.le_trans (g2.len_le (by omega) hy) hk)).mono fun _ _ h => retM_of h
theorem refOf_m (ha : Nm w va x) (hl : x < Lim) : Calls Tryd.prog 29 #[va] w (RetM w x) := by
  obtain ⟨A, c, xs, rfl, h1, rfl⟩ := ha
  exact (refOf_c w _ xs h1.1 h1.2.1.1 (by have := len_of_lim h1.2.1 hl; omega)).mono fun _ _ h => retM_of h
/-- Is a number just these digits? -/
theorem refBack_eq (k : Nat) (hk : k ≤ 100000) (ha : Nm w va x) (hb : Rm w vb x) (hx : x < 256 ^ k) :
    Calls Tryd.prog 28 #[vb] w fun e w' => ∃ u, e = .returned u ∧ Below w.heap.size w w' ∧ Calls Tryd.prog 27 #[va, u] w' fun e w'' => e = .returned (.bool true) ∧ Below w'.heap.size w' w'' := by
  obtain ⟨A, c, xs, rfl, h1, hv⟩ := ha
  obtain ⟨A', c', ys, rfl, g1, g2, rfl⟩ := hb
  refine (refBack_c w _ ys g1 g2 (Nat.le_trans (Nat.le_trans (g2.len_le (by omega) hx) hk) (by omega))).mono ?_
  rintro e w1 ⟨hb, A1, c1, us, rfl, hr, hc, hu⟩
  refine ⟨_, rfl, hb, (equal_u32 w1 _ _ xs us (h1.1.below hb) hr).mono ?_⟩
  rintro e w2 ⟨rfl, n, rfl⟩
  have he : xs = us := Can.eq h1.2.1 hc (by rw [hv, hu])
  exact ⟨by rw [eqL_true he], rfl, rfl, rfl, Nat.le_refl _, fun _ _ => rfl⟩
end
/-- A digit of its own. -/
theorem rm_lit (w : World) (d : Nat) (h0 : 0 < d) (h1 : d < 256) : Rm (w.alloc (.cells #[.int .i64 (d : Int)] 3)) (.slice (some ⟨w.heap.size, 0, none⟩) 1 1) d := by
  have := (Own.new w .i64 3 [d]).whole (by simp)
  exact ⟨_, 1, [d], rfl, by simpa [nums] using this, ⟨by simpa using h1, by simp; omega⟩, by simp⟩
theorem idx_byte (s : ByteArray) (k : Nat) (c : UInt8) (hlt : k < s.size) (hc : s[k]'hlt = c) (w : World) :
    (Instr.index 9 (.string s) (.int .i64 (k : Int))).run Tryd.prog w = .ok (.int .u8 (c.toNat : Int)) w := by
  rw [run_index_string w 9 s .i64 _ Tryd.underlying9, dif_pos ⟨by omega, by omega⟩]
  have e : ((k : Int)).toNat = k := by omega
  simp only [e]
  rw [hc]
theorem ten_256 (n : Nat) : 10 ^ n ≤ 256 ^ n := Nat.pow_le_pow_left (by omega) n

set_option maxRecDepth 100000 in
set_option maxHeartbeats 8000000 in
theorem parses_law (w : World) (hT : Tab10 w) (s : ByteArray) :
    Calls Tryd.prog 6 #[.string s] w fun e w' => e = .returned (.bool true) ∧ Below w.heap.size w w' := by
  have HT := Lib.hid hT
  clear hT
  go_enter Tryd.func6, Tryd.ntmps6
  go_wp2_with fail
  refine (writes_c w HT.out).mono ?_
  rintro e w1 ⟨rfl, hb⟩
  have H1 := Lib.hid hb
  clear hb
  by_cases h300 : 300 < s.size
  · have hg : decide ((s.size : Int) > 300) = true := by rw [decide_eq_true_iff]; omega
    go_wp2_with fail
    go_ret
    exact ⟨rfl, H1.out⟩
  have hg : decide ((s.size : Int) > 300) = false := by rw [decide_eq_false_iff_not]; omega
  by_cases hD : AllD s.data.toList
  · by_cases h0 : s.size = 0
    · have hl : s.data.toList = [] := List.eq_nil_of_length_eq_zero (by rw [size_list]; exact h0)
      have hk : okText s.data.toList = false := by rw [hl]; exact okText_nil
      have hem : s.toList = [] := by rw [ByteArray.toList_eq]; exact hl
      have HK := Lib.hid hk
      clear hk hl hD
      go_wp2_with fail
      refine (parse_bad w1 s HK.out).mono ?_
      rintro e w2 ⟨rfl, hb⟩
      have H2 := Lib.hid (below_trans H1.out hb)
      clear hb
      go_wp2_with fail
      have hlen0 : (s.size : Int) = 0 := by omega
      go_loopw [5, 6, 22] (fun b d i wr => b = .bool true ∧ i = .int .i64 0 ∧ wr = w2) (fun _ _ _ _ => 0)
      case atStart => exact ⟨by first | rfl | (simp; done), rfl, rfl⟩
      case round =>
        obtain ⟨rfl, rfl, rfl⟩ := hrel
        go_wp2_with fail
        go_ret
        exact ⟨rfl, H2.out⟩
    · have hl : s.data.toList ≠ [] := fun e => h0 (by rw [← size_list, e]; rfl)
      have hem : s.toList.isEmpty = false := by rw [ByteArray.toList_eq, List.isEmpty_eq_false_iff]; exact hl
      have HD := Lib.hid (And.intro hD hl)
      clear hD hl
      go_wp2_with fail
      refine (parse_ok w1 s HD.out.1 HD.out.2 (by omega)).mono ?_
      rintro e w2 ⟨v, rfl, hv, hb⟩
      have H2 := Lib.hid (And.intro hv (below_trans H1.out hb))
      clear hv hb
      go_wp2_with fail
      go_loopw [5, 6, 22] (fun b d i wr => ∃ k : Nat, k ≤ s.size ∧ b = .bool false ∧ i = .int .i64 k ∧ Hid (Rm wr d (decv (s.data.toList.take k)) ∧ AllD (s.data.toList.take k) ∧ Below w2.heap.size w2 wr)) (fun _ _ i _ => s.size - (intOf i).toNat)
      case atStart => exact ⟨0, Nat.zero_le _, rfl, rfl, Rm.nil _, AllD.nil, Below.refl _ _⟩
      case round =>
        obtain ⟨k, hk, rfl, rfl, HR⟩ := hrel
        by_cases hlt : k < s.size
        · obtain ⟨c, hc⟩ : ∃ c, s[k]'hlt = c := ⟨_, rfl⟩
          have hx := get_byte s k hlt
          rw [hc] at hx
          have hix := idx_byte s k c hlt hc
          have Hx := Lib.hid hx
          clear hx hc
          obtain ⟨m, hm⟩ : ∃ m, c.toNat = m := ⟨_, rfl⟩
          rw [hm] at hix
          have Hm := Lib.hid hm
          clear hm
          have hdg : 48 ≤ m ∧ m ≤ 57 := by have := HD.out.1 c (List.mem_of_getElem? Hx.out); have := Hm.out; omega
          have g1 : decide ((m : Int) < 48) = false := by rw [decide_eq_false_iff_not]; omega
          have g2 : decide ((m : Int) > 57) = false := by rw [decide_eq_false_iff_not]; omega
          have hAD := allD_take_succ HR.out.2.1 Hx.out (by rw [Hm.out]; exact hdg)
          have hval := decv_take_succ Hx.out
          rw [Hm.out] at hval
          have hlt10 := (HR.out.2.1).lt
          have hlen : (s.data.toList.take k).length = k := by rw [List.length_take, size_list]; omega
          rw [hlen] at hlt10
          have h256 := Nat.lt_of_lt_of_le hlt10 (ten_256 k)
          have HV := Lib.hid (And.intro hAD (And.intro hval h256))
          clear hAD hval hlt10 hlen h256
          obtain ⟨x, hx⟩ : ∃ x, decv (s.data.toList.take k) = x := ⟨_, rfl⟩
          rw [hx] at HV HR
          have HX := Lib.hid hx
          clear hx
          go_wp2_with fail
          have HL := Lib.hid (And.intro (rm_lit wr 10 (by omega) (by omega)) ((Below.refl wr.heap.size wr).alloc (Nat.le_refl _) (.cells #[.int .i64 ((10 : Nat) : Int)] 3)))
          have hp1 : x < 256 ^ (k + 1) := Nat.lt_of_lt_of_le HV.out.2.2 (Nat.pow_le_pow_right (by omega) (by omega))
          have hp2 : 10 < 256 ^ (k + 1) := Nat.lt_of_lt_of_le (show 10 < 256 ^ 1 by decide) (Nat.pow_le_pow_right (by omega) (by omega))
          have HP := Lib.hid (And.intro hp1 hp2)
          clear hp1 hp2
          refine (refMul_m (k + 1) (by omega) (HR.out.1.below HL.out.2) HL.out.1 HP.out.1 HP.out.2).mono ?_
          rintro e w4 ⟨v4, rfl, hv4, hb4⟩
          have H4 := Lib.hid (And.intro hv4 (below_trans HL.out.2 hb4))
          clear hv4 hb4
          have hix2 := hix
          by_cases h48 : m = 48
          · have g3 : decide ((m : Int) > 48) = false := by rw [decide_eq_false_iff_not]; omega
            have H48 := Lib.hid h48
            clear h48
            go_wp2_with fail
            go_roundw
            case rel =>
              refine ⟨k + 1, by omega, rfl, by go_num, ?_, HV.out.1, below_trans HR.out.2.2 H4.out.2⟩
              rw [HV.out.2.1, H48.out, Nat.sub_self, Nat.add_zero]
              exact H4.out.1
            case measure => simp [intOf]; omega
          · have g3 : decide ((m : Int) > 48) = true := by rw [decide_eq_true_iff]; omega
            obtain ⟨r, hr⟩ : ∃ r, m - 48 = r := ⟨_, rfl⟩
            have er : (m : Int) - 48 = (r : Int) := by omega
            have hr0 : 0 < r := by omega
            have hr9 : r ≤ 9 := by omega
            have Hr := Lib.hid hr
            clear hr
            go_wp2_with fail
            have HL2 := Lib.hid (And.intro (rm_lit w4 r (by omega) (by omega)) ((Below.refl w4.heap.size w4).alloc (Nat.le_refl _) (.cells #[.int .i64 (r : Int)] 3)))
            have hq1 : x * 10 < 256 ^ (k + 2) := by
              have := HP.out.1
              rw [Nat.pow_succ]
              exact Nat.lt_of_lt_of_le (Nat.mul_lt_mul_of_pos_right this (by omega)) (Nat.mul_le_mul_left _ (by omega))
            have hq2 : r < 256 ^ (k + 2) := Nat.lt_of_lt_of_le (show r < 256 ^ 1 by simp; omega) (Nat.pow_le_pow_right (by omega) (by omega))
            have HQ := Lib.hid (And.intro hq1 hq2)
            clear hq1 hq2
            refine (refAdd_m (k + 2) (by omega) (H4.out.1.below HL2.out.2) HL2.out.1 HQ.out.1 HQ.out.2).mono ?_
            rintro e w5 ⟨v5, rfl, hv5, hb5⟩
            have H5 := Lib.hid (And.intro hv5 (below_trans HL2.out.2 hb5))
            clear hv5 hb5
            go_wp2_with fail
            go_roundw
            case rel =>
              refine ⟨k + 1, by omega, rfl, by go_num, ?_, HV.out.1, below_trans HR.out.2.2 (below_trans H4.out.2 H5.out.2)⟩
              rw [HV.out.2.1, Hr.out]
              exact H5.out.1
            case measure => simp [intOf]; omega
        · obtain rfl : k = s.size := by omega
          have hfin : decv (s.data.toList.take s.size) = decv s.data.toList := by rw [List.take_of_length_le (by rw [size_list]; omega)]
          rw [hfin] at HR
          have hlt := HD.out.1.lt
          rw [size_list] at hlt
          have HV := Lib.hid (Nat.lt_of_lt_of_le hlt (ten_256 s.size))
          clear hfin hlt
          go_wp2_with fail
          refine (refBack_eq s.size (by omega) (H2.out.1.below HR.out.2.2) HR.out.1 HV.out).mono ?_
          rintro e w4 ⟨u, rfl, hb4, hcall⟩
          have H4 := Lib.hid (And.intro hb4 hcall)
          clear hb4 hcall
          go_wp2_with fail
          refine H4.out.2.mono ?_
          rintro e w5 ⟨rfl, hb5⟩
          have H5 := Lib.hid (below_trans H2.out.2 (below_trans HR.out.2.2 (below_trans H4.out.1 hb5)))
          clear hb5
          go_wp2_with fail
          go_ret
          exact ⟨rfl, H5.out⟩
  · have hne : s.data.toList ≠ [] := fun e => hD (by rw [e]; exact AllD.nil)
    have h0 : ¬ s.size = 0 := fun e => hne (List.eq_nil_of_length_eq_zero (by rw [size_list]; exact e))
    have hem : s.toList.isEmpty = false := by rw [ByteArray.toList_eq, List.isEmpty_eq_false_iff]; exact hne
    have hk : okText s.data.toList = false := decide_eq_false fun h => hD h.1
    have HK := Lib.hid hk
    have HD := Lib.hid hD
    clear hk hD hne
    go_wp2_with fail
    refine (parse_bad w1 s HK.out).mono ?_
    rintro e w2 ⟨rfl, hb⟩
    have H2 := Lib.hid (below_trans H1.out hb)
    clear hb
    go_wp2_with fail
    go_loopw [5, 6, 22] (fun b d i wr => ∃ k : Nat, k ≤ s.size ∧ b = .bool false ∧ i = .int .i64 k ∧ Hid (Rm wr d (decv (s.data.toList.take k)) ∧ AllD (s.data.toList.take k) ∧ Below w2.heap.size w2 wr)) (fun _ _ i _ => s.size - (intOf i).toNat)
    case atStart => exact ⟨0, Nat.zero_le _, rfl, rfl, Rm.nil _, AllD.nil, Below.refl _ _⟩
    case round =>
      obtain ⟨k, hk, rfl, rfl, HR⟩ := hrel
      by_cases hlt : k < s.size
      · obtain ⟨c, hc⟩ : ∃ c, s[k]'hlt = c := ⟨_, rfl⟩
        have hx := get_byte s k hlt
        rw [hc] at hx
        have hix := idx_byte s k c hlt hc
        have Hx := Lib.hid hx
        clear hx hc
        obtain ⟨m, hm⟩ : ∃ m, c.toNat = m := ⟨_, rfl⟩
        rw [hm] at hix
        have Hm := Lib.hid hm
        clear hm
        by_cases hdg : 48 ≤ m ∧ m ≤ 57
        · have g1 : decide ((m : Int) < 48) = false := by rw [decide_eq_false_iff_not]; omega
          have g2 : decide ((m : Int) > 57) = false := by rw [decide_eq_false_iff_not]; omega
          have hAD := allD_take_succ HR.out.2.1 Hx.out (by rw [Hm.out]; exact hdg)
          have hval := decv_take_succ Hx.out
          rw [Hm.out] at hval
          have hlt10 := (HR.out.2.1).lt
          have hlen : (s.data.toList.take k).length = k := by rw [List.length_take, size_list]; omega
          rw [hlen] at hlt10
          have h256 := Nat.lt_of_lt_of_le hlt10 (ten_256 k)
          have HV := Lib.hid (And.intro hAD (And.intro hval h256))
          clear hAD hval hlt10 hlen h256
          obtain ⟨x, hx⟩ : ∃ x, decv (s.data.toList.take k) = x := ⟨_, rfl⟩
          rw [hx] at HV HR
          have HX := Lib.hid hx
          clear hx
          go_wp2_with fail
          have HL := Lib.hid (And.intro (rm_lit wr 10 (by omega) (by omega)) ((Below.refl wr.heap.size wr).alloc (Nat.le_refl _) (.cells #[.int .i64 ((10 : Nat) : Int)] 3)))
          have hp1 : x < 256 ^ (k + 1) := Nat.lt_of_lt_of_le HV.out.2.2 (Nat.pow_le_pow_right (by omega) (by omega))
          have hp2 : 10 < 256 ^ (k + 1) := Nat.lt_of_lt_of_le (show 10 < 256 ^ 1 by decide) (Nat.pow_le_pow_right (by omega) (by omega))
          have HP := Lib.hid (And.intro hp1 hp2)
          clear hp1 hp2
          refine (refMul_m (k + 1) (by omega) (HR.out.1.below HL.out.2) HL.out.1 HP.out.1 HP.out.2).mono ?_
          rintro e w4 ⟨v4, rfl, hv4, hb4⟩
          have H4 := Lib.hid (And.intro hv4 (below_trans HL.out.2 hb4))
          clear hv4 hb4
          have hix2 := hix
          by_cases h48 : m = 48
          · have g3 : decide ((m : Int) > 48) = false := by rw [decide_eq_false_iff_not]; omega
            have H48 := Lib.hid h48
            clear h48
            go_wp2_with fail
            go_roundw
            case rel =>
              refine ⟨k + 1, by omega, rfl, by go_num, ?_, HV.out.1, below_trans HR.out.2.2 H4.out.2⟩
              rw [HV.out.2.1, H48.out, Nat.sub_self, Nat.add_zero]
              exact H4.out.1
            case measure => simp [intOf]; omega
          · have g3 : decide ((m : Int) > 48) = true := by rw [decide_eq_true_iff]; omega
            obtain ⟨r, hr⟩ : ∃ r, m - 48 = r := ⟨_, rfl⟩
            have er : (m : Int) - 48 = (r : Int) := by omega
            have hr0 : 0 < r := by omega
            have hr9 : r ≤ 9 := by omega
            have Hr := Lib.hid hr
            clear hr
            go_wp2_with fail
            have HL2 := Lib.hid (And.intro (rm_lit w4 r (by omega) (by omega)) ((Below.refl w4.heap.size w4).alloc (Nat.le_refl _) (.cells #[.int .i64 (r : Int)] 3)))
            have hq1 : x * 10 < 256 ^ (k + 2) := by
              have := HP.out.1
              rw [Nat.pow_succ]
              exact Nat.lt_of_lt_of_le (Nat.mul_lt_mul_of_pos_right this (by omega)) (Nat.mul_le_mul_left _ (by omega))
            have hq2 : r < 256 ^ (k + 2) := Nat.lt_of_lt_of_le (show r < 256 ^ 1 by simp; omega) (Nat.pow_le_pow_right (by omega) (by omega))
            have HQ := Lib.hid (And.intro hq1 hq2)
            clear hq1 hq2
            refine (refAdd_m (k + 2) (by omega) (H4.out.1.below HL2.out.2) HL2.out.1 HQ.out.1 HQ.out.2).mono ?_
            rintro e w5 ⟨v5, rfl, hv5, hb5⟩
            have H5 := Lib.hid (And.intro hv5 (below_trans HL2.out.2 hb5))
            clear hv5 hb5
            go_wp2_with fail
            go_roundw
            case rel =>
              refine ⟨k + 1, by omega, rfl, by go_num, ?_, HV.out.1, below_trans HR.out.2.2 (below_trans H4.out.2 H5.out.2)⟩
              rw [HV.out.2.1, Hr.out]
              exact H5.out.1
            case measure => simp [intOf]; omega
        · rcases Nat.lt_or_ge m 48 with h48 | h48
          · have g1 : decide ((m : Int) < 48) = true := by rw [decide_eq_true_iff]; omega
            go_wp2_with fail
            go_ret
            exact ⟨rfl, below_trans H2.out HR.out.2.2⟩
          · have g1 : decide ((m : Int) < 48) = false := by rw [decide_eq_false_iff_not]; omega
            have g2 : decide ((m : Int) > 57) = true := by rw [decide_eq_true_iff]; omega
            go_wp2_with fail
            go_ret
            exact ⟨rfl, below_trans H2.out HR.out.2.2⟩
      · obtain rfl : k = s.size := by omega
        exact absurd (by have := HR.out.2.1; rwa [List.take_of_length_le (by rw [size_list]; omega)] at this) HD.out
end Go.Proofs.YtdaoechbaejjmaaDoor
