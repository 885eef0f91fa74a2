/- The document's answer: compared. -/
import Derived.Test.YtphpaejgcahgbaaGreatDoorFit
import Derived.Test.YtphpaejgcahgbaaGreatDoorRefOf
namespace Go.Proofs.YtphpaejgcahgbaaGreatDoor
open Go Go.RowKit Go.Shelf

set_option maxRecDepth 100000 in
set_option maxHeartbeats 4000000 in
theorem refCmp_c (w : World) (va vb : Value) (xs ys : List Nat) (ha : Rd .i64 w va xs) (hb : Rd .i64 w vb ys) (hxs : ∀ x ∈ xs, x < 256) (hys : ∀ x ∈ ys, x < 256) (hla : xs.length ≤ 1000000) (hlb : ys.length ≤ 1000000) :
    Calls Tryz.prog 91 #[va, vb] w fun e w' => e = .returned (.int .i64 (ord3 (val 256 xs) (val 256 ys))) ∧ w = w' := by
  obtain ⟨A, cap, rfl, hcapa⟩ := ha.form
  obtain ⟨A2, cap2, rfl, hcapb⟩ := hb.form
  have HX := Lib.hid (And.intro hxs hys)
  clear hxs hys
  go_enter Tryz.func91, Tryz.ntmps91
  go_wp2_with fail
  focus
    first
    | (obtain ⟨n, hn⟩ : ∃ n, n = ys.length := ⟨_, rfl⟩; have hn1 : xs.length ≤ n := (by omega); have hn2 : ys.length ≤ n := (by omega); have hn3 : n ≤ 1000000 := (by omega))
    | (obtain ⟨n, hn⟩ : ∃ n, n = xs.length := ⟨_, rfl⟩; have hn1 : xs.length ≤ n := (by omega); have hn2 : ys.length ≤ n := (by omega); have hn3 : n ≤ 1000000 := (by omega))
    | (obtain ⟨n, hn⟩ : ∃ n, n = max xs.length ys.length := ⟨_, rfl⟩; have hn1 : xs.length ≤ n := (by omega); have hn2 : ys.length ≤ n := (by omega); have hn3 : n ≤ 1000000 := (by omega))
    | fail
  rotate_left
  focus
    first
    | (obtain ⟨n, hn⟩ : ∃ n, n = xs.length := ⟨_, rfl⟩; have hn1 : xs.length ≤ n := (by omega); have hn2 : ys.length ≤ n := (by omega); have hn3 : n ≤ 1000000 := (by omega))
    | (obtain ⟨n, hn⟩ : ∃ n, n = ys.length := ⟨_, rfl⟩; have hn1 : xs.length ≤ n := (by omega); have hn2 : ys.length ≤ n := (by omega); have hn3 : n ≤ 1000000 := (by omega))
    | (obtain ⟨n, hn⟩ : ∃ n, n = max xs.length ys.length := ⟨_, rfl⟩; have hn1 : xs.length ≤ n := (by omega); have hn2 : ys.length ≤ n := (by omega); have hn3 : n ≤ 1000000 := (by omega))
    | fail
  all_goals
    go_loop [5] (fun i => ∃ k : Nat, k ≤ n ∧ i = .int .i64 ((k : Int) - 1) ∧ Hid (∀ j, k ≤ j → dig xs j = dig ys j)) (fun i => (intOf i + 1).toNat)
    case atStart => exact ⟨n, Nat.le_refl _, by first | (rw [hn]; done) | (congr 1; omega) | fail, fun j hj => by rw [dig_ge (by omega), dig_ge (by omega)]⟩
    case round =>
      obtain ⟨k, hk, rfl, hz⟩ := hrel
      rcases Nat.eq_zero_or_pos k with rfl | hp
      · have he : val 256 xs = val 256 ys := val_eq_of_dig fun j => hz.out j (by omega)
        have hres := ord3_eq (val 256 ys)
        rw [← he] at hres
        have Hr := Lib.hid (And.intro he hres)
        clear hres he
        go_wp2_with fail
        go_ret
        exact ⟨by rw [← Hr.out.1, Hr.out.2]; rfl, rfl⟩
      · obtain ⟨i, rfl⟩ : ∃ i, k = i + 1 := ⟨k - 1, by omega⟩
        clear hcapa hcapb
        have e1 : ((i + 1 : Nat) : Int) - 1 = (i : Int) := by omega
        rw [e1]
        clear e1
        by_cases hx : i < xs.length
        · have hgx : xs[i]? = some xs[i] := List.getElem?_eq_getElem hx
          obtain ⟨x, hxx⟩ : ∃ x, xs[i] = x := ⟨_, rfl⟩
          rw [hxx] at hgx
          clear hxx
          obtain ⟨bkx, offx, rfl, hblx⟩ := ha.addr (by omega)
          have hcx := ha.cell hgx
          have hbx := get_lt HX.out.1 hgx
          have hdx := dig_of_get hgx
          have Hdx := Lib.hid hdx
          clear hgx hdx
          by_cases hy : i < ys.length
          · have hgy : ys[i]? = some ys[i] := List.getElem?_eq_getElem hy
            obtain ⟨y, hxx⟩ : ∃ y, ys[i] = y := ⟨_, rfl⟩
            rw [hxx] at hgy
            clear hxx
            obtain ⟨bky, offy, rfl, hbly⟩ := hb.addr (by omega)
            have hcy := hb.cell hgy
            have hby := get_lt HX.out.2 hgy
            have hdy := dig_of_get hgy
            have Hdy := Lib.hid hdy
            clear hgy hdy
            rcases Nat.lt_trichotomy x y with hlt | hlt | hlt
            · have hres := ord3_lt (val_lt_of_dig (B := 256) (i := i) (by omega) HX.out.1 (fun j hj => hz.out j (by omega)) (by rw [Hdx.out, Hdy.out]; exact hlt))
              have Hr := Lib.hid hres
              clear hres
              have hl2 : (x : Int) < (y : Int) := by omega
              go_wp2_with fail
              all_goals
                go_ret
                exact ⟨by rw [Hr.out]; rfl, rfl⟩
            · have hdd : dig xs i = dig ys i := by rw [Hdx.out, Hdy.out]; exact hlt
              have Hdd := Lib.hid hdd
              clear hdd
              have hl2 : (x : Int) = (y : Int) := by omega
              go_wp2_with fail
              all_goals
                go_round
                case rel =>
                  refine ⟨i, by omega, by go_num, fun j hj => ?_⟩
                  by_cases e : j = i
                  · subst e; exact Hdd.out
                  · exact hz.out j (by omega)
                case measure => simp [intOf]
            · have hres := ord3_gt (val_lt_of_dig (B := 256) (i := i) (by omega) HX.out.2 (fun j hj => (hz.out j (by omega)).symm) (by rw [Hdx.out, Hdy.out]; exact hlt))
              have Hr := Lib.hid hres
              clear hres
              have hl2 : (y : Int) < (x : Int) := by omega
              go_wp2_with fail
              all_goals
                go_ret
                exact ⟨by rw [Hr.out]; rfl, rfl⟩
          · have hdy := dig_ge (xs := ys) (i := i) (by omega)
            have Hdy := Lib.hid hdy
            clear hdy
            rcases Nat.lt_trichotomy x 0 with hlt | hlt | hlt
            · omega
            · have hdd : dig xs i = dig ys i := by rw [Hdx.out, Hdy.out]; exact hlt
              have Hdd := Lib.hid hdd
              clear hdd
              have hl2 : (x : Int) = 0 := by omega
              go_wp2_with fail
              all_goals
                go_round
                case rel =>
                  refine ⟨i, by omega, by go_num, fun j hj => ?_⟩
                  by_cases e : j = i
                  · subst e; exact Hdd.out
                  · exact hz.out j (by omega)
                case measure => simp [intOf]
            · have hres := ord3_gt (val_lt_of_dig (B := 256) (i := i) (by omega) HX.out.2 (fun j hj => (hz.out j (by omega)).symm) (by rw [Hdx.out, Hdy.out]; exact hlt))
              have Hr := Lib.hid hres
              clear hres
              have hl2 : 0 < (x : Int) := by omega
              go_wp2_with fail
              all_goals
                go_ret
                exact ⟨by rw [Hr.out]; rfl, rfl⟩
        · have hdx := dig_ge (xs := xs) (i := i) (by omega)
          have Hdx := Lib.hid hdx
          clear hdx
          by_cases hy : i < ys.length
          · have hgy : ys[i]? = some ys[i] := List.getElem?_eq_getElem hy
            obtain ⟨y, hxx⟩ : ∃ y, ys[i] = y := ⟨_, rfl⟩
            rw [hxx] at hgy
            clear hxx
            obtain ⟨bky, offy, rfl, hbly⟩ := hb.addr (by omega)
            have hcy := hb.cell hgy
            have hby := get_lt HX.out.2 hgy
            have hdy := dig_of_get hgy
            have Hdy := Lib.hid hdy
            clear hgy hdy
            rcases Nat.lt_trichotomy 0 y with hlt | hlt | hlt
            · have hres := ord3_lt (val_lt_of_dig (B := 256) (i := i) (by omega) HX.out.1 (fun j hj => hz.out j (by omega)) (by rw [Hdx.out, Hdy.out]; exact hlt))
              have Hr := Lib.hid hres
              clear hres
              have hl2 : 0 < (y : Int) := by omega
              go_wp2_with fail
              all_goals
                go_ret
                exact ⟨by rw [Hr.out]; rfl, rfl⟩
            · have hdd : dig xs i = dig ys i := by rw [Hdx.out, Hdy.out]; exact hlt
              have Hdd := Lib.hid hdd
              clear hdd
              have hl2 : 0 = (y : Int) := by omega
              go_wp2_with fail
              all_goals
                go_round
                case rel =>
                  refine ⟨i, by omega, by go_num, fun j hj => ?_⟩
                  by_cases e : j = i
                  · subst e; exact Hdd.out
                  · exact hz.out j (by omega)
                case measure => simp [intOf]
            · omega
          · have hdy := dig_ge (xs := ys) (i := i) (by omega)
            have Hdy := Lib.hid hdy
            clear hdy
            have hdd : dig xs i = dig ys i := by rw [Hdx.out, Hdy.out]
            have Hdd := Lib.hid hdd
            clear hdd

            go_wp2_with fail
            all_goals
              go_round
              case rel =>
                refine ⟨i, by omega, by go_num, fun j hj => ?_⟩
                by_cases e : j = i
                · subst e; exact Hdd.out
                · exact hz.out j (by omega)
              case measure => simp [intOf]
end Go.Proofs.YtphpaejgcahgbaaGreatDoor
