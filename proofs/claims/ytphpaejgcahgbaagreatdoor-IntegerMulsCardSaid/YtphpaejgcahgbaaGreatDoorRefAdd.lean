/- The document's answer: both together. -/
import Derived.Test.YtphpaejgcahgbaaGreatDoorRefOf
namespace Go.Proofs.YtphpaejgcahgbaaGreatDoor
open Go Go.RowKit Go.Shelf

set_option maxRecDepth 100000 in
set_option maxHeartbeats 4000000 in
theorem refAdd_c (w : World) (va vb : Value) (xs ys : List Nat) (ha : Rd .i64 w va xs) (hb : Rd .i64 w vb ys) (hxs : ∀ x ∈ xs, x < 256) (hys : ∀ x ∈ ys, x < 256) (hla : xs.length ≤ 100000) (hlb : ys.length ≤ 100000) :
    Calls Tryz.prog 92 #[va, vb] w (RefOut w (val 256 xs + val 256 ys) (max xs.length ys.length + 1)) := by
  obtain ⟨A, cap, rfl, hcapa⟩ := ha.form
  obtain ⟨A2, cap2, rfl, hcapb⟩ := hb.form
  have HX := Lib.hid (And.intro hxs (And.intro hys (And.intro ha hb)))
  obtain ⟨n, hn⟩ : ∃ n, n = max xs.length ys.length := ⟨_, rfl⟩
  rw [← hn]
  have hn1 : xs.length ≤ n := by omega
  have hn2 : ys.length ≤ n := by omega
  have hn3 : n ≤ 100000 := by omega
  have hn4 : n ≤ xs.length ∨ n ≤ ys.length := by omega
  clear hxs hys ha hb hn
  go_enter Tryz.func92, Tryz.ntmps92
  go_wp2_with fail
  go_loopw [5, 6, 7] (fun o c i wr => ∃ (k : Nat) (us : List Nat) (cy : Nat), k ≤ n + 1 ∧ cy ≤ 1 ∧ i = .int .i64 k ∧ c = .int .i64 cy ∧ (n < k → cy = 0) ∧ Hid (us.length = k ∧ (∀ y ∈ us, y < 256) ∧
      val 256 us + cy * 256 ^ k = val 256 (xs.take k) + val 256 (ys.take k) ∧ Grown .i64 3 w.heap.size wr o us ∧ Below w.heap.size w wr)) (fun _ _ i _ => n + 1 - (intOf i).toNat)
  case atStart => exact ⟨0, [], 0, by omega, by omega, rfl, rfl, by omega, by simp, by simp, by simp, Grown.nil _ _ _ _, Below.refl _ _⟩
  case round =>
    obtain ⟨k, us, cy, hk, hcy, rfl, rfl, hcn, H⟩ := hrel
    by_cases hx : k < xs.length
    · have hgx : xs[k]? = some xs[k] := List.getElem?_eq_getElem hx
      obtain ⟨x, hxx⟩ : ∃ x, xs[k] = x := ⟨_, rfl⟩
      rw [hxx] at hgx
      clear hxx
      obtain ⟨bkx, offx, rfl, hblx⟩ := HX.out.2.2.1.addr (by omega)
      have hcx := (HX.out.2.2.1.below H.out.2.2.2.2).cell hgx
      have hbx := get_lt HX.out.1 hgx
      have hdx := dig_of_get hgx
      have Hdx := Lib.hid hdx
      clear hgx hdx
      by_cases hy : k < ys.length
      · have hgy : ys[k]? = some ys[k] := List.getElem?_eq_getElem hy
        obtain ⟨y, hxx⟩ : ∃ y, ys[k] = y := ⟨_, rfl⟩
        rw [hxx] at hgy
        clear hxx
        obtain ⟨bky, offy, rfl, hbly⟩ := HX.out.2.2.2.addr (by omega)
        have hcy := (HX.out.2.2.2.below H.out.2.2.2.2).cell hgy
        have hby := get_lt HX.out.2.1 hgy
        have hdy := dig_of_get hgy
        have Hdy := Lib.hid hdy
        clear hgy hdy
        go_wp2_with (at_builtin; refine wpList_app1 rfl (.tmp 44) (.tmp 47) 28 rfl w.heap.size 3 8 Tryz.underlying28 ref_info (by omega) _ us _ _ ((cy + x + y) % 256) ?_ rfl H.out.2.2.2.1 rfl ?_ w H.out.2.2.2.2 (Below.size H.out.2.2.2.2) ?_)
        · omega
        · have := H.out.1; omega
        · intro v' w1 hG hB _
          have HN := Lib.hid (And.intro hG hB)
          clear hG hB
          go_wp2_with fail
          go_roundw
          case rel =>
            obtain ⟨h1, h2, h3, _, _⟩ := H.out
            refine ⟨k + 1, us ++ [(cy + x + y) % 256], (cy + x + y) / 256, by omega, by omega, by go_num, by go_num, by omega, by simp; omega, mem_push_lt h2 (by omega), ?_, HN.out.1, HN.out.2⟩
            rw [val_push, h1, val_take_dig, val_take_dig, Hdx.out, Hdy.out]
            exact sum_step h3 (by omega)
          case measure => simp [intOf]; omega
      · have hdy := dig_ge (xs := ys) (i := k) (by omega)
        have Hdy := Lib.hid hdy
        clear hdy
        go_wp2_with (at_builtin; refine wpList_app1 rfl (.tmp 44) (.tmp 47) 28 rfl w.heap.size 3 8 Tryz.underlying28 ref_info (by omega) _ us _ _ ((cy + x) % 256) ?_ rfl H.out.2.2.2.1 rfl ?_ w H.out.2.2.2.2 (Below.size H.out.2.2.2.2) ?_)
        · omega
        · have := H.out.1; omega
        · intro v' w1 hG hB _
          have HN := Lib.hid (And.intro hG hB)
          clear hG hB
          go_wp2_with fail
          go_roundw
          case rel =>
            obtain ⟨h1, h2, h3, _, _⟩ := H.out
            refine ⟨k + 1, us ++ [(cy + x) % 256], (cy + x) / 256, by omega, by omega, by go_num, by go_num, by omega, by simp; omega, mem_push_lt h2 (by omega), ?_, HN.out.1, HN.out.2⟩
            rw [val_push, h1, val_take_dig, val_take_dig, Hdx.out, Hdy.out]
            exact sum_step h3 (by omega)
          case measure => simp [intOf]; omega
    · have hdx := dig_ge (xs := xs) (i := k) (by omega)
      have Hdx := Lib.hid hdx
      clear hdx
      by_cases hy : k < ys.length
      · have hgy : ys[k]? = some ys[k] := List.getElem?_eq_getElem hy
        obtain ⟨y, hxx⟩ : ∃ y, ys[k] = y := ⟨_, rfl⟩
        rw [hxx] at hgy
        clear hxx
        obtain ⟨bky, offy, rfl, hbly⟩ := HX.out.2.2.2.addr (by omega)
        have hcy := (HX.out.2.2.2.below H.out.2.2.2.2).cell hgy
        have hby := get_lt HX.out.2.1 hgy
        have hdy := dig_of_get hgy
        have Hdy := Lib.hid hdy
        clear hgy hdy
        go_wp2_with (at_builtin; refine wpList_app1 rfl (.tmp 44) (.tmp 47) 28 rfl w.heap.size 3 8 Tryz.underlying28 ref_info (by omega) _ us _ _ ((cy + y) % 256) ?_ rfl H.out.2.2.2.1 rfl ?_ w H.out.2.2.2.2 (Below.size H.out.2.2.2.2) ?_)
        · omega
        · have := H.out.1; omega
        · intro v' w1 hG hB _
          have HN := Lib.hid (And.intro hG hB)
          clear hG hB
          go_wp2_with fail
          go_roundw
          case rel =>
            obtain ⟨h1, h2, h3, _, _⟩ := H.out
            refine ⟨k + 1, us ++ [(cy + y) % 256], (cy + y) / 256, by omega, by omega, by go_num, by go_num, by omega, by simp; omega, mem_push_lt h2 (by omega), ?_, HN.out.1, HN.out.2⟩
            rw [val_push, h1, val_take_dig, val_take_dig, Hdx.out, Hdy.out]
            exact sum_step h3 (by omega)
          case measure => simp [intOf]; omega
      · have hdy := dig_ge (xs := ys) (i := k) (by omega)
        have Hdy := Lib.hid hdy
        clear hdy
        by_cases hc1 : 0 < cy
        · go_wp2_with (at_builtin; refine wpList_app1 rfl (.tmp 44) (.tmp 47) 28 rfl w.heap.size 3 8 Tryz.underlying28 ref_info (by omega) _ us _ _ ((cy) % 256) ?_ rfl H.out.2.2.2.1 rfl ?_ w H.out.2.2.2.2 (Below.size H.out.2.2.2.2) ?_)
          · omega
          · have := H.out.1; omega
          · intro v' w1 hG hB _
            have HN := Lib.hid (And.intro hG hB)
            clear hG hB
            go_wp2_with fail
            go_roundw
            case rel =>
              obtain ⟨h1, h2, h3, _, _⟩ := H.out
              refine ⟨k + 1, us ++ [(cy) % 256], (cy) / 256, by omega, by omega, by go_num, by go_num, by omega, by simp; omega, mem_push_lt h2 (by omega), ?_, HN.out.1, HN.out.2⟩
              rw [val_push, h1, val_take_dig, val_take_dig, Hdx.out, Hdy.out]
              exact sum_step h3 (by omega)
            case measure => simp [intOf]; omega
        · obtain rfl : cy = 0 := by omega
          obtain ⟨h1, h2, h3, h4, h5⟩ := H.out
          have e1 : val 256 us = val 256 xs + val 256 ys := by rw [List.take_of_length_le (by omega), List.take_of_length_le (by omega)] at h3; omega
          have hrd := h4.rd (by omega)
          obtain ⟨A0, c0, rfl, hfr⟩ := h4.form
          have HC := Lib.hid (cut_c wr A0 c0 us hrd h2 (by omega))
          have HF := Lib.hid (And.intro e1 (And.intro h5 (And.intro h1 hfr)))
          clear h1 h2 h3 h4 h5 e1 hrd H hfr
          go_wp2_with fail
          refine HC.out.mono ?_
          rintro e w' ⟨rfl, es, rfl, hr, hcn', hv, hl⟩
          have HO := Lib.hid (And.intro hr (And.intro hcn' (And.intro hv hl)))
          clear hr hcn' hv hl HC
          go_wp2_with fail
          go_ret
          exact ⟨HF.out.2.1, A0, c0, es, rfl, HO.out.1, HO.out.2.1, HO.out.2.2.1.trans HF.out.1, by have := HO.out.2.2.2; have := HF.out.2.2.1; omega, HF.out.2.2.2⟩
end Go.Proofs.YtphpaejgcahgbaaGreatDoor

/- The document's answer: the greater less the lesser. -/
namespace Go.Proofs.YtphpaejgcahgbaaGreatDoor
open Go Go.RowKit Go.Shelf

set_option maxRecDepth 100000 in
set_option maxHeartbeats 4000000 in
theorem refSub_c (w : World) (va vb : Value) (xs ys : List Nat) (ha : Rd .i64 w va xs) (hb : Rd .i64 w vb ys) (hxs : ∀ x ∈ xs, x < 256) (hys : Can 256 ys) (hle : val 256 ys ≤ val 256 xs) (hla : xs.length ≤ 100000) (hlb : ys.length ≤ 100000) :
    Calls Tryz.prog 93 #[va, vb] w (RefOut w (val 256 xs - val 256 ys) xs.length) := by
  obtain ⟨A, cap, rfl, hcapa⟩ := ha.form
  obtain ⟨A2, cap2, rfl, hcapb⟩ := hb.form
  have hll : ys.length ≤ xs.length := hys.len_le (by omega) (Nat.lt_of_le_of_lt hle (val_lt hxs))
  have HX := Lib.hid (And.intro hxs (And.intro hys.1 (And.intro ha (And.intro hb hle))))
  clear hxs hys ha hb hle
  go_enter Tryz.func93, Tryz.ntmps93
  go_wp2_with fail
  go_loopw [5, 6, 7] (fun o c i wr => ∃ (k : Nat) (us : List Nat) (ow : Nat), k ≤ xs.length ∧ ow ≤ 1 ∧ i = .int .i64 k ∧ c = .int .i64 ow ∧ Hid (us.length = k ∧ (∀ y ∈ us, y < 256) ∧
      val 256 us + val 256 (ys.take k) = val 256 (xs.take k) + ow * 256 ^ k ∧ Grown .i64 3 w.heap.size wr o us ∧ Below w.heap.size w wr)) (fun _ _ i _ => xs.length - (intOf i).toNat)
  case atStart => exact ⟨0, [], 0, by omega, by omega, rfl, rfl, by simp, by simp, by simp, Grown.nil _ _ _ _, Below.refl _ _⟩
  case round =>
    obtain ⟨k, us, ow, hk, how, rfl, rfl, H⟩ := hrel
    by_cases hx : k < xs.length
    · have hgx : xs[k]? = some xs[k] := List.getElem?_eq_getElem hx
      obtain ⟨x, hxx⟩ : ∃ x, xs[k] = x := ⟨_, rfl⟩
      rw [hxx] at hgx
      clear hxx
      obtain ⟨bkx, offx, rfl, hblx⟩ := HX.out.2.2.1.addr (by omega)
      have hcx := (HX.out.2.2.1.below H.out.2.2.2.2).cell hgx
      have hbx := get_lt HX.out.1 hgx
      have hdx := dig_of_get hgx
      have Hdx := Lib.hid hdx
      clear hgx hdx
      by_cases hy : k < ys.length
      · have hgy : ys[k]? = some ys[k] := List.getElem?_eq_getElem hy
        obtain ⟨y, hxx⟩ : ∃ y, ys[k] = y := ⟨_, rfl⟩
        rw [hxx] at hgy
        clear hxx
        obtain ⟨bky, offy, rfl, hbly⟩ := HX.out.2.2.2.1.addr (by omega)
        have hcy := (HX.out.2.2.2.1.below H.out.2.2.2.2).cell hgy
        have hby := get_lt HX.out.2.1 hgy
        have hdy := dig_of_get hgy
        have Hdy := Lib.hid hdy
        clear hgy hdy
        by_cases hneg : x < ow + y
        · have hneg2 : (x : Int) - (ow : Int) - (y : Int) < 0 := by omega
          go_wp2_with (at_builtin; refine wpList_app1 rfl (.tmp 35) (.tmp 37) 28 rfl w.heap.size 3 8 Tryz.underlying28 ref_info (by omega) _ us _ _ (x + 256 - (ow + y)) ?_ rfl H.out.2.2.2.1 rfl ?_ w H.out.2.2.2.2 (Below.size H.out.2.2.2.2) ?_)
          · omega
          · have := H.out.1; omega
          · intro v' w1 hG hB _
            have HN := Lib.hid (And.intro hG hB)
            clear hG hB
            go_wp2_with fail
            go_roundw
            case rel =>
              obtain ⟨h1, h2, h3, _, _⟩ := H.out
              refine ⟨k + 1, us ++ [x + 256 - (ow + y)], 1, by omega, by omega, by go_num, by go_num, by simp; omega, mem_push_lt h2 (by omega), ?_, HN.out.1, HN.out.2⟩
              rw [val_push, h1, val_take_dig, val_take_dig, Hdx.out, Hdy.out]
              exact rest_step h3 (by omega)
            case measure => simp [intOf]; omega
        · have hneg2 : ¬ (x : Int) - (ow : Int) - (y : Int) < 0 := by omega
          go_wp2_with (at_builtin; refine wpList_app1 rfl (.tmp 35) (.tmp 37) 28 rfl w.heap.size 3 8 Tryz.underlying28 ref_info (by omega) _ us _ _ (x - (ow + y)) ?_ rfl H.out.2.2.2.1 rfl ?_ w H.out.2.2.2.2 (Below.size H.out.2.2.2.2) ?_)
          · omega
          · have := H.out.1; omega
          · intro v' w1 hG hB _
            have HN := Lib.hid (And.intro hG hB)
            clear hG hB
            go_wp2_with fail
            go_roundw
            case rel =>
              obtain ⟨h1, h2, h3, _, _⟩ := H.out
              refine ⟨k + 1, us ++ [x - (ow + y)], 0, by omega, by omega, by go_num, by go_num, by simp; omega, mem_push_lt h2 (by omega), ?_, HN.out.1, HN.out.2⟩
              rw [val_push, h1, val_take_dig, val_take_dig, Hdx.out, Hdy.out]
              exact rest_step h3 (by omega)
            case measure => simp [intOf]; omega
      · have hdy := dig_ge (xs := ys) (i := k) (by omega)
        have Hdy := Lib.hid hdy
        clear hdy
        by_cases hneg : x < ow
        · have hneg2 : (x : Int) - (ow : Int) < 0 := by omega
          go_wp2_with (at_builtin; refine wpList_app1 rfl (.tmp 35) (.tmp 37) 28 rfl w.heap.size 3 8 Tryz.underlying28 ref_info (by omega) _ us _ _ (x + 256 - (ow)) ?_ rfl H.out.2.2.2.1 rfl ?_ w H.out.2.2.2.2 (Below.size H.out.2.2.2.2) ?_)
          · omega
          · have := H.out.1; omega
          · intro v' w1 hG hB _
            have HN := Lib.hid (And.intro hG hB)
            clear hG hB
            go_wp2_with fail
            go_roundw
            case rel =>
              obtain ⟨h1, h2, h3, _, _⟩ := H.out
              refine ⟨k + 1, us ++ [x + 256 - (ow)], 1, by omega, by omega, by go_num, by go_num, by simp; omega, mem_push_lt h2 (by omega), ?_, HN.out.1, HN.out.2⟩
              rw [val_push, h1, val_take_dig, val_take_dig, Hdx.out, Hdy.out]
              exact rest_step h3 (by omega)
            case measure => simp [intOf]; omega
        · have hneg2 : ¬ (x : Int) - (ow : Int) < 0 := by omega
          go_wp2_with (at_builtin; refine wpList_app1 rfl (.tmp 35) (.tmp 37) 28 rfl w.heap.size 3 8 Tryz.underlying28 ref_info (by omega) _ us _ _ (x - (ow)) ?_ rfl H.out.2.2.2.1 rfl ?_ w H.out.2.2.2.2 (Below.size H.out.2.2.2.2) ?_)
          · omega
          · have := H.out.1; omega
          · intro v' w1 hG hB _
            have HN := Lib.hid (And.intro hG hB)
            clear hG hB
            go_wp2_with fail
            go_roundw
            case rel =>
              obtain ⟨h1, h2, h3, _, _⟩ := H.out
              refine ⟨k + 1, us ++ [x - (ow)], 0, by omega, by omega, by go_num, by go_num, by simp; omega, mem_push_lt h2 (by omega), ?_, HN.out.1, HN.out.2⟩
              rw [val_push, h1, val_take_dig, val_take_dig, Hdx.out, Hdy.out]
              exact rest_step h3 (by omega)
            case measure => simp [intOf]; omega
    · obtain rfl : k = xs.length := by omega
      obtain ⟨h1, h2, h3, h4, h5⟩ := H.out
      have e1 : val 256 us = val 256 xs - val 256 ys := by
        rw [List.take_length, List.take_of_length_le (by omega)] at h3
        have h6 := val_lt h2
        rw [h1] at h6
        have h7 := HX.out.2.2.2.2
        obtain rfl | rfl : ow = 0 ∨ ow = 1 := by omega
        · omega
        · omega
      have hrd := h4.rd (by omega)
      obtain ⟨A0, c0, rfl, hfr⟩ := h4.form
      have HC := Lib.hid (cut_c wr A0 c0 us hrd h2 (by omega))
      have HF := Lib.hid (And.intro e1 (And.intro h5 (And.intro h1 hfr)))
      clear h1 h2 h3 h4 h5 e1 hrd H hfr
      go_wp2_with fail
      refine HC.out.mono ?_
      rintro e w' ⟨rfl, es, rfl, hr, hcn', hv, hl⟩
      have HO := Lib.hid (And.intro hr (And.intro hcn' (And.intro hv hl)))
      clear hr hcn' hv hl HC
      go_wp2_with fail
      go_ret
      exact ⟨HF.out.2.1, A0, c0, es, rfl, HO.out.1, HO.out.2.1, HO.out.2.2.1.trans HF.out.1, by have := HO.out.2.2.2; have := HF.out.2.2.1; omega, HF.out.2.2.2⟩
end Go.Proofs.YtphpaejgcahgbaaGreatDoor
