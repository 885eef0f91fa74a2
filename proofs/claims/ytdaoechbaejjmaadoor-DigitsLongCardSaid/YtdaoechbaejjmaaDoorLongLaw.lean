/- DigitsLong: the walk. -/
import Derived.Test.YtdaoechbaejjmaaDoorBackLaw
import Derived.Test.YtdaoechbaejjmaaDoorGcdLaw
namespace Go.Proofs.YtdaoechbaejjmaaDoor
open Go Go.RowKit Go.Shelf

theorem repeat_one (c : UInt8) (n : Nat) : Lib.repeatL [c] n = List.replicate n c := by
  induction n with
  | zero => rfl
  | succ n ih => rw [Lib.repeatL, ih]; rfl
theorem repeat_byte (c : UInt8) (n : Nat) (hn : n ≤ 100000) (w : World) : Calls Tryd.prog 16 #[.string ⟨#[c]⟩, .int .i64 n] w fun e w' => ∃ s : ByteArray, e = .returned (.string s) ∧ s.data.toList = List.replicate n c ∧ Below w.heap.size w w' :=
  (Tryd.strings_Repeat ⟨#[c]⟩ n w (by omega) (by show 1 * n ≤ _; omega)).mono fun _ _ h => by
    obtain ⟨rfl, hb⟩ := h
    exact ⟨_, rfl, repeat_one c n, hb⟩
theorem check_n {w : World} {v : Value} {x : Nat} (h : Nm w v x) (hx : x < Lim) : Calls Tryd.prog 17 #[v] w fun e w' => e = .returned (.int .i64 0) ∧ w = w' := by
  obtain ⟨A, cap, zs, rfl, h1, rfl⟩ := h
  have hl := len_of_lim h1.2.1 hx
  have := check_c w _ zs h1.1
  rwa [checkOf_ok (by omega) h1.2.1.2] at this
theorem dec_rep {d n : Nat} (hd : 0 < d) (hd9 : d ≤ 9) (hn : 1 ≤ n) : Dec (decv (List.replicate n (UInt8.ofNat (48 + d)))) (List.replicate n (UInt8.ofNat (48 + d))) := by
  have hc := digit_byte d (by omega)
  refine ⟨fun c h => ?_, rfl, ?_, fun _ => ?_⟩
  · rw [List.eq_of_mem_replicate h, hc]; omega
  · intro e; have := congrArg List.length e; simp at this; omega
  · obtain ⟨m, rfl⟩ : ∃ m, n = m + 1 := ⟨n - 1, by omega⟩
    rw [List.replicate_succ, List.head?_cons]
    intro e
    injection e with e
    have := congrArg UInt8.toNat e
    rw [hc] at this
    have h48 : (48 : UInt8).toNat = 48 := rfl
    rw [h48] at this
    omega
theorem decv_rep0 (n : Nat) : decv (List.replicate n (UInt8.ofNat 48)) = 0 := decv_noughts n
theorem allD_rep {d n : Nat} (hd : d ≤ 9) : AllD (List.replicate n (UInt8.ofNat (48 + d))) := fun c h => by
  have hc := digit_byte d (by omega)
  rw [List.eq_of_mem_replicate h, hc]; omega

set_option maxRecDepth 100000 in
set_option maxHeartbeats 8000000 in
theorem long_law (w : World) (hT : Tab10 w) (n : Int) (hlo : -9223372036854775808 ≤ n) (hhi : n ≤ 9223372036854775807) (d : Nat) (hd : d < 256) :
    Calls Tryd.prog 8 #[.int .i64 n, .int .u8 (d : Int)] w fun e w' => e = .returned (.bool true) ∧ Below w.heap.size w w' := by
  have HT := Lib.hid hT
  clear hT
  go_enter Tryd.func8, Tryd.ntmps8
  go_wp2_with fail
  refine (writes_c w HT.out).mono ?_
  rintro e w1 ⟨rfl, hb⟩
  have H1 := Lib.hid hb
  clear hb
  by_cases hn1 : n < 1
  · have hg1 : decide (n < 1) = true := decide_eq_true hn1
    go_wp2_with fail
    go_ret
    exact ⟨rfl, H1.out⟩
  have hg1 : decide (n < 1) = false := decide_eq_false hn1
  by_cases hn6 : 6000 < n
  · have hg2 : decide (n > 6000) = true := decide_eq_true hn6
    go_wp2_with fail
    go_ret
    exact ⟨rfl, H1.out⟩
  have hg2 : decide (n > 6000) = false := decide_eq_false hn6
  by_cases hd9 : 9 < d
  · have hg3 : decide ((d : Int) > 9) = true := by rw [decide_eq_true_iff]; omega
    go_wp2_with fail
    go_ret
    exact ⟨rfl, H1.out⟩
  have hg3 : decide ((d : Int) > 9) = false := by rw [decide_eq_false_iff_not]; omega
  obtain ⟨m, rfl⟩ : ∃ m : Nat, n = m := ⟨n.toNat, by omega⟩
  obtain ⟨c, hc⟩ : ∃ c : UInt8, c = UInt8.ofNat (48 + d) := ⟨_, rfl⟩
  have hcn : c.toNat = 48 + d := by rw [hc]; exact digit_byte d (by omega)
  have hcv : ∀ W : World, W.cell? ⟨w1.heap.size, 0, none⟩ = some (.int .u8 (48 + (d : Int))) → (convert 54 9 (.slice (some ⟨w1.heap.size, 0, none⟩) 1 1)).run Tryd.prog W = .ok (.string ⟨#[c]⟩) W := fun W hW =>
    run_convert_bytes_back (P := Tryd.prog) W 54 9 5 ⟨w1.heap.size, 0, none⟩ 1 [c] Tryd.underlying54 Tryd.underlying5 Tryd.underlying9 (fun j hj => by
      obtain rfl : j = 0 := by simpa using hj
      show W.cell? ⟨w1.heap.size, 0, none⟩ = some (.int .u8 (c.toNat : Int))
      rw [hW, hcn]; rfl)
  have hcv2 := hcv (w1.alloc (.cells #[.int .u8 (48 + (d : Int))] 5)) (lay_cells w1 [.int .u8 (48 + (d : Int))] 5 0 _ rfl)
  have HC := Lib.hid (And.intro hc hcn)
  have H2 := Lib.hid (H1.out.alloc (Below.size H1.out) (.cells #[.int .u8 (48 + (d : Int))] 5))
  clear hc hcn hcv
  go_wp2_with fail
  refine (repeat_byte c m (by omega) _).mono ?_
  rintro e w3 ⟨s, rfl, hs, hb3⟩
  rw [HC.out.1] at hs
  have H3 := Lib.hid (below_trans H2.out hb3)
  have hsz : s.size = m := by rw [← size_list, hs]; simp
  have hA : AllD s.data.toList := by rw [hs]; exact allD_rep (by omega)
  have hne : s.data.toList ≠ [] := fun e => by have := congrArg List.length e; rw [size_list, hsz] at this; simp at this; omega
  have HS := Lib.hid (And.intro hs (And.intro hA (And.intro hne hsz)))
  clear hb3 hcv2 hs hsz hA hne
  by_cases h49 : 4900 < m
  · have hg4 : decide ((m : Int) > 4900) = true := by rw [decide_eq_true_iff]; omega
    go_wp2_with fail
    refine (parse_long w3 s (okText_true HS.out.2.1 HS.out.2.2.1) (by rw [HS.out.2.2.2]; exact h49)).mono ?_
    rintro e w4 ⟨rfl, hb⟩
    have H4 := Lib.hid (below_trans H3.out hb)
    clear hb
    go_wp2_with fail
    go_ret
    exact ⟨rfl, H4.out⟩
  have hg4 : decide ((m : Int) > 4900) = false := by rw [decide_eq_false_iff_not]; omega
  have hlim : decv s.data.toList < Lim := Nat.lt_trans HS.out.2.1.lt (ten_lim (by rw [size_list, HS.out.2.2.2]; omega))
  have HLM := Lib.hid hlim
  clear hlim
  go_wp2_with fail
  refine (parse_ok w3 s HS.out.2.1 HS.out.2.2.1 (by rw [HS.out.2.2.2]; omega)).mono ?_
  rintro e w4 ⟨v, rfl, hv, hb⟩
  have H4 := Lib.hid (And.intro hv (below_trans H3.out hb))
  clear hv hb
  obtain ⟨Av, cv, lv, rfl, e0, e0'⟩ := H4.out.1.form
  have HE := Lib.hid e0
  clear e0 e0'
  go_wp2_with fail
  refine (check_n H4.out.1 HLM.out).mono ?_
  rintro e w5 ⟨rfl, rfl⟩
  rcases Nat.eq_zero_or_pos d with rfl | hdp
  · have hz : decv s.data.toList = 0 := by rw [HS.out.1]; exact decv_rep0 m
    have hl : ((lv : Int) == 0) = true := by rw [HE.out]; exact decide_eq_true hz
    clear hz
    go_wp2_with fail
    go_ret
    exact ⟨rfl, H4.out.2⟩
  · have hdec : Dec (decv s.data.toList) s.data.toList := by rw [HS.out.1]; exact dec_rep hdp (by omega) (by omega)
    have hz : decv s.data.toList ≠ 0 := fun e => by
      have h1 := hdec.lt_len (k := 0)
      rcases Nat.lt_or_ge 1 s.data.toList.length with h2 | h2
      · have := hdec.ge h2
        have := Nat.pow_pos (n := s.data.toList.length - 1) (show 0 < 10 by omega)
        omega
      · have h3 : s.data.toList.length = 1 := by have := hdec.pos; omega
        have h4 : m = 1 := by rw [← HS.out.2.2.2, ← size_list, h3]
        have h5 := HS.out.1
        rw [h4] at h5
        rw [h5] at e
        simp only [List.replicate_succ, List.replicate_zero, decv_one, digit_byte d (show d < 10 by omega)] at e
        omega
    have hl : ((lv : Int) == 0) = false := by rw [HE.out]; exact decide_eq_false hz
    have hdb : ((d : Int) == 0) = false := by rw [beq_eq_false_iff_ne]; omega
    have HDC := Lib.hid hdec
    clear hz hdec
    go_wp2_with fail
    refine (text_s w4 (HT.out.below H4.out.2) _ _ H4.out.1 HLM.out).mono ?_
    rintro e w6 ⟨s2, rfl, hd2, hb6⟩
    have hsz2 : s2.size = m := by rw [← size_list, hd2.eq HDC.out, size_list, HS.out.2.2.2]
    have H6 := Lib.hid (below_trans H4.out.2 hb6)
    clear hd2 hb6
    have hmm : ((m : Int) == (m : Int)) = true := by rw [beq_iff_eq]
    go_wp2_with fail
    go_ret
    exact ⟨rfl, H6.out⟩
end Go.Proofs.YtdaoechbaejjmaaDoor
