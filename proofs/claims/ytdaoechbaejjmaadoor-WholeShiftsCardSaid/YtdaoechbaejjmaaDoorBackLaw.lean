/- DigitsBack: the walk. -/
import Derived.Test.YtdaoechbaejjmaaDoorParsesLaw
namespace Go.Proofs.YtdaoechbaejjmaaDoor
open Go Go.RowKit Go.Shelf

/-- The decimal digits, as a text. -/
theorem text_s (w : World) (hT : Tab10 w) (va : Value) (n : Nat) (ha : Nm w va n) (hn : n < Lim) :
    Calls Tryd.prog 15 #[va] w fun e w' => ∃ s : ByteArray, e = .returned (.string s) ∧ Dec n s.data.toList ∧ Below w.heap.size w w' :=
  (text_c w hT va n ha hn).mono fun _ _ ⟨_, he, hd, hb⟩ => ⟨_, he, hd, hb⟩
def RetDivM (w : World) (x y : Nat) (e : Ending) (w' : World) : Prop := ∃ v1 v2, e = .returned (.tuple #[v1, v2]) ∧ Rm w' v1 (x / y) ∧ Rm w' v2 (x % y) ∧ Below w.heap.size w w'
theorem refDiv_m {w : World} {va vb : Value} {x y : Nat} (k : Nat) (hk : k ≤ 10000) (ha : Rm w va x) (hb : Rm w vb y) (hx : x < 256 ^ k) (hy : y < 256 ^ k) (hp : 0 < y) : Calls Tryd.prog 30 #[va, vb] w (RetDivM w x y) := by
  obtain ⟨A, c, xs, rfl, h1, h2, rfl⟩ := ha
  obtain ⟨A', c', ys, rfl, g1, g2, rfl⟩ := hb
  refine (refDiv_c w _ _ xs ys h1 g1 h2.1 g2 hp (Nat.le_trans (h2.len_le (by omega) hx) hk) (Nat.le_trans (g2.len_le (by omega) hy) hk)).mono fun _ _ h => ?_
  obtain ⟨hb, A, cap, qs, A2, cap2, rs, rfl, h1, h2, h3, h4, h5, h6, _, _⟩ := h
  exact ⟨_, _, rfl, ⟨A, cap, qs, rfl, h1, h3, h5⟩, ⟨A2, cap2, rs, rfl, h2, h4, h6⟩, hb⟩
/-- A number of one digit, or none. -/
theorem Rm.small {w : World} {v : Value} {x : Nat} (h : Rm w v x) (hx : x < 256) : (x = 0 ∧ ∃ A c, v = .slice A 0 c) ∨ (0 < x ∧ ∃ b off c, v = .slice (some ⟨b, off, none⟩) 1 c ∧ w.cell? ⟨b, off, none⟩ = some (.int .i64 (x : Int))) := by
  obtain ⟨A, cap, zs, rfl, h1, h2, rfl⟩ := h
  rcases Nat.eq_zero_or_pos (val 256 zs) with h0 | h0
  · have := h2.nil_of (by omega) h0
    subst this
    exact .inl ⟨rfl, A, cap, rfl⟩
  · have e : zs = [val 256 zs] := Can.eq h2 ⟨by simpa using hx, by simp; omega⟩ (by simp)
    refine .inr ⟨h0, ?_⟩
    generalize val 256 zs = y at *
    subst e
    obtain ⟨b, off, rfl, _⟩ := h1.addr (by simp)
    exact ⟨b, off, cap, rfl, h1.cell (j := 0) rfl⟩
theorem Rm.form {w : World} {v : Value} {x : Nat} (h : Rm w v x) : ∃ A c n, v = .slice A n c ∧ ((n : Int) == 0) = decide (x = 0) := by
  obtain ⟨A, c, zs, rfl, h1, h2, rfl⟩ := h
  refine ⟨A, c, zs.length, rfl, ?_⟩
  rw [Bool.eq_iff_iff, beq_iff_eq, decide_eq_true_iff]
  refine ⟨fun h => ?_, fun h => ?_⟩
  · have : zs = [] := List.eq_nil_of_length_eq_zero (by omega)
    rw [this]; rfl
  · rw [h2.nil_of (by omega) h]; rfl

set_option maxRecDepth 100000 in
set_option maxHeartbeats 8000000 in
theorem back_law (w : World) (hT : Tab10 w) (v : Value) (zs : List Nat) (n : Int) (hlo : -9223372036854775808 ≤ n) (hhi : n ≤ 9223372036854775807) (h : Arg w v zs) (hb : ∀ x ∈ zs, x < 4294967296) :
    Calls Tryd.prog 7 #[v, .int .i64 n] w fun e w' => e = .returned (.bool true) ∧ Below w.heap.size w w' := by
  obtain ⟨⟨A, c, rfl⟩, _⟩ := id h
  have HT := Lib.hid hT
  have HA := Lib.hid (And.intro h hb)
  clear hT h hb
  go_enter Tryd.func7, Tryd.ntmps7
  go_wp2_with fail
  refine (writes_c w HT.out).mono ?_
  rintro e w1 ⟨rfl, hb⟩
  have H1 := Lib.hid hb
  clear hb
  by_cases h30 : 30 < zs.length
  · have hg : decide ((zs.length : Int) > 30) = true := by rw [decide_eq_true_iff]; omega
    go_wp2_with fail
    go_ret
    exact ⟨rfl, H1.out⟩
  have hg : decide ((zs.length : Int) > 30) = false := by rw [decide_eq_false_iff_not]; omega
  have HR := Lib.hid (HA.out.1.below H1.out (Nat.le_refl _))
  go_wp2_with fail
  refine (check_c w1 _ zs (HR.out.2 (by omega))).mono ?_
  rintro e w2 ⟨rfl, rfl⟩
  by_cases hok : checkOf zs = 0
  case neg =>
    obtain ⟨k, hk⟩ : ∃ k, checkOf zs = k := ⟨_, rfl⟩
    rw [hk] at hok ⊢
    have hb1 : (k != 0) = true := by rw [bne_iff_ne]; exact hok
    have hb2 : (k == 0) = false := by rw [beq_eq_false_iff_ne]; exact hok
    clear hk hok
    go_wp2_with fail
    go_ret
    exact ⟨rfl, H1.out⟩
  have HN := Lib.hid (nm_arg HR.out HA.out.2 (n := 30) (by omega) (by omega) hok)
  rw [hok]
  clear hok
  obtain ⟨x, hx⟩ : ∃ x, val 4294967296 zs = x := ⟨_, rfl⟩
  rw [hx] at HN
  clear hx
  by_cases hn0 : n < 0
  · have hg2 : decide (n < 0) = true := decide_eq_true hn0
    go_wp2_with fail
    go_ret
    exact ⟨rfl, H1.out⟩
  have hg2 : decide (n < 0) = false := decide_eq_false hn0
  by_cases hn5 : 50 < n
  · have hg3 : decide (n > 50) = true := decide_eq_true hn5
    go_wp2_with fail
    go_ret
    exact ⟨rfl, H1.out⟩
  have hg3 : decide (n > 50) = false := decide_eq_false hn5
  obtain ⟨m, rfl⟩ : ∃ m : Nat, n = m := ⟨n.toNat, by omega⟩
  have hxl := Lib.hid (lim_of HN.out.2.1 (by omega) : x < Lim)
  go_wp2_with fail
  refine (text_s w1 (HT.out.below H1.out) _ x HN.out.1 hxl.out).mono ?_
  rintro e w2 ⟨s, rfl, hd, hb2⟩
  have hlen : s.size ≤ 10 * 30 := by rw [← size_list]; exact len_of hd HN.out.2.1 (by omega)
  have hpos : 0 < s.size := by rw [← size_list]; exact hd.pos
  have hem : s.toList.isEmpty = false := by rw [ByteArray.toList_eq, List.isEmpty_eq_false_iff]; exact hd.2.2.1
  have hem2 : s.toList ≠ [] := by rw [ByteArray.toList_eq]; exact hd.2.2.1
  have HD := Lib.hid hd
  have H2 := Lib.hid (And.intro (HN.out.1.below hb2) (below_trans H1.out hb2))
  clear hd hb2
  obtain ⟨c0, hc0⟩ : ∃ c0, s[0]'hpos = c0 := ⟨_, rfl⟩
  have hix0 : ∀ w, (Instr.index 9 (.string s) (.int .i64 0)).run Tryd.prog w = .ok (.int .u8 (c0.toNat : Int)) w := fun w => idx_byte s 0 c0 hpos hc0 w
  have hx0 := get_byte s 0 hpos
  rw [hc0] at hx0
  have Hc0 := Lib.hid hx0
  clear hx0 hc0
  have hfirst : decide ((s.size : Int) > 1) = false ∨ (decide ((s.size : Int) > 1) = true ∧ ((c0.toNat : Int) == 48) = false) := by
    rcases Nat.lt_or_ge 1 s.size with h1 | h1
    · refine .inr ⟨by rw [decide_eq_true_iff]; omega, ?_⟩
      rw [beq_eq_false_iff_ne]
      intro e
      have hh := HD.out.2.2.2 (by rw [size_list]; exact h1)
      apply hh
      rw [List.head?_eq_getElem?, Hc0.out]
      exact congrArg some (UInt8.toNat_inj.1 (by show c0.toNat = 48; omega))
    · exact .inl (by rw [decide_eq_false_iff_not]; omega)
  obtain ⟨m0, hm0⟩ : ∃ m0, c0.toNat = m0 := ⟨_, rfl⟩
  rw [hm0] at hix0 hfirst
  clear hm0 Hc0
  rcases hfirst with h1 | ⟨h1, hne⟩
  all_goals
    go_wp2_with fail
    refine (refOf_m H2.out.1 hxl.out).mono ?_
    rintro e w3 ⟨v3, rfl, hv3, hb3⟩
    have H3 := Lib.hid (And.intro hv3 (And.intro hb3 (below_trans H2.out.2 hb3)))
    clear hv3 hb3
    go_wp2_with fail
    go_loopw [6, 7] (fun d i wr => ∃ k : Nat, k ≤ s.size ∧ i = .int .i64 ((k : Int) - 1) ∧ Hid (Rm wr d (decv (s.data.toList.take k)) ∧ Below w3.heap.size w3 wr)) (fun _ i _ => (intOf i + 1).toNat)
    case atStart => exact ⟨s.size, Nat.le_refl _, rfl, by rw [List.take_of_length_le (by rw [size_list]; omega), HD.out.2.1]; exact H3.out.1, Below.refl _ _⟩
    case round =>
      obtain ⟨k, hk, rfl, HR2⟩ := hrel
      rcases Nat.eq_zero_or_pos k with hk0 | hkp
      · subst hk0
        have hgl : decide (((0 : Nat) : Int) - 1 ≥ 0) = false := by decide
        obtain ⟨Ad, cd, ld, rfl, hld⟩ := (show Rm wr _ 0 from HR2.out.1).form
        have hld2 : ((ld : Int) == 0) = true := hld
        have HB := Lib.hid (And.intro (below_trans H3.out.2.1 HR2.out.2) (below_trans H3.out.2.2 HR2.out.2))
        clear hld
        go_wp2_with fail
        refine (repeat_c m (by omega) wr).mono ?_
        rintro e w4 ⟨rfl, hb4⟩
        have H4 := Lib.hid (And.intro (below_trans HB.out.1 hb4) (below_trans HB.out.2 hb4))
        clear hb4
        obtain ⟨no, hno⟩ : ∃ no : ByteArray, ⟨(noughts m).toArray⟩ = no := ⟨_, rfl⟩
        have hns : no.size = m := by rw [← hno, byte_size, noughts_length]
        have hsum : ¬ 9223372036854775807 < no.size + s.size := by omega
        have hcat : (no ++ s).data.toList = noughts m ++ s.data.toList := by rw [ByteArray.data_append, Array.toList_append, ← hno]
        rw [hno]
        have HC := Lib.hid (And.intro hcat hns)
        clear hno hns hcat
        go_wp2_with fail
        refine (parse_is w4 (no ++ s) x (by rw [HC.out.1]; exact (allD_noughts m).append HD.out.1) (by rw [HC.out.1]; intro e; exact HD.out.2.2.1 (List.append_eq_nil_iff.1 e).2) (by rw [HC.out.1, decv_ahead]; exact HD.out.2.1) (by rw [← size_list, HC.out.1, List.length_append, noughts_length, size_list]; omega)).mono ?_
        rintro e w5 ⟨v5, rfl, hv5, hb5⟩
        have H5 := Lib.hid (And.intro hv5 (And.intro ((H2.out.1.below H4.out.1).below hb5) (below_trans H4.out.2 hb5)))
        clear hv5 hb5
        go_wp2_with fail
        refine (equal_n H5.out.2.1 H5.out.1).mono ?_
        rintro e w6 ⟨rfl, hb6⟩
        have hxx : decide (x = x) = true := decide_eq_true rfl
        rw [hxx]
        have H6 := Lib.hid (below_trans H5.out.2.2 hb6)
        clear hb6 hxx
        go_wp2_with fail
        go_ret
        exact ⟨rfl, H6.out⟩
      · obtain ⟨j, rfl⟩ : ∃ j, k = j + 1 := ⟨k - 1, by omega⟩
        have e1 : ((j + 1 : Nat) : Int) - 1 = (j : Int) := by omega
        rw [e1]
        have hjl : j < s.size := by omega
        obtain ⟨cj, hcj⟩ : ∃ cj, s[j]'hjl = cj := ⟨_, rfl⟩
        have hx := get_byte s j hjl
        rw [hcj] at hx
        have hix := idx_byte s j cj hjl hcj
        have hdg := HD.out.1 cj (List.mem_of_getElem? hx)
        have hval := decv_take_succ hx
        clear hcj hx
        obtain ⟨q, hq⟩ : ∃ q, cj.toNat = q := ⟨_, rfl⟩
        rw [hq] at hix hdg hval
        clear hq
        have hlt10 := (HD.out.1.take (j + 1)).lt
        have hll : (s.data.toList.take (j + 1)).length = j + 1 := by rw [List.length_take, size_list]; omega
        rw [hll] at hlt10
        have h256 := Nat.lt_of_lt_of_le hlt10 (ten_256 (j + 1))
        have h10 : 10 < 256 ^ (j + 1) := Nat.lt_of_lt_of_le (show 10 < 256 ^ 1 by decide) (Nat.pow_le_pow_right (by omega) (by omega))
        obtain ⟨y, hy⟩ : ∃ y, decv (s.data.toList.take (j + 1)) = y := ⟨_, rfl⟩
        obtain ⟨z, hz⟩ : ∃ z, decv (s.data.toList.take j) = z := ⟨_, rfl⟩
        rw [hy] at h256 hval HR2
        rw [hz] at hval
        obtain ⟨r, hr⟩ : ∃ r, q - 48 = r := ⟨_, rfl⟩
        rw [hr] at hval
        have er : (q : Int) - 48 = (r : Int) := by omega
        have hr9 : r ≤ 9 := by omega
        have hdiv : y / 10 = z := by omega
        have hmod : y % 10 = r := by omega
        have HV := Lib.hid (And.intro h256 (And.intro h10 (And.intro hdiv (And.intro hmod hz))))
        clear hlt10 hll h256 h10 hy hz hr hval hdiv hmod
        go_wp2_with fail
        have HL := Lib.hid (And.intro (rm_lit wr 10 (by omega) (by omega)) ((Below.refl wr.heap.size wr).alloc (Nat.le_refl _) (.cells #[.int .i64 ((10 : Nat) : Int)] 3)))
        refine (refDiv_m (j + 1) (by omega) (HR2.out.1.below HL.out.2) HL.out.1 HV.out.1 HV.out.2.1 (by omega)).mono ?_
        rintro e w4 ⟨v4, v5, rfl, hv4, hv5, hb4⟩
        rw [HV.out.2.2.1] at hv4
        rw [HV.out.2.2.2.1] at hv5
        have H4 := Lib.hid (And.intro hv4 (below_trans HL.out.2 hb4))
        clear hv4 hb4
        rcases hv5.small (by omega) with ⟨hr0, Ar, cr, rfl⟩ | ⟨hr0, b, off, cr, rfl, hcell⟩
        · have gl : decide (((0 : Nat) : Int) > 0) = false := by decide
          clear hv5
          have hqb : ((q : Int) - 48 != 0) = false := by rw [bne_eq_false_iff_eq]; omega
          have hrb : ((r : Int) != 0) = false := by rw [bne_eq_false_iff_eq]; omega
          go_wp2_with fail
          go_roundw
          case rel =>
            exact ⟨j, by omega, rfl, by rw [HV.out.2.2.2.2]; exact H4.out.1, below_trans HR2.out.2 H4.out.2⟩
          case measure => simp [intOf]
        · clear hv5
          have hrb : ((r : Int) != (r : Int)) = false := by rw [bne_eq_false_iff_eq]
          go_wp2_with fail
          go_roundw
          case rel =>
            exact ⟨j, by omega, rfl, by rw [HV.out.2.2.2.2]; exact H4.out.1, below_trans HR2.out.2 H4.out.2⟩
          case measure => simp [intOf]
end Go.Proofs.YtdaoechbaejjmaaDoor
