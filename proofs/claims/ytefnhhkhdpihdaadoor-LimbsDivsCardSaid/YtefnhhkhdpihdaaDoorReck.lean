/- The law's own numbers. -/
import Derived.Test.YtefnhhkhdpihdaaDoorDivs
import Derived.Test.YtefnhhkhdpihdaaDoorSub
import Derived.Test.YtefnhhkhdpihdaaDoorMul
import Derived.Test.YtefnhhkhdpihdaaDoorSmall
import Derived.Test.YtefnhhkhdpihdaaDoorLeft
import Derived.Test.YtefnhhkhdpihdaaDoorRight
import Derived.Test.YtefnhhkhdpihdaaDoorTail
namespace Go.Proofs.YtefnhhkhdpihdaaDoor
open Go Go.RowKit Go.Shelf

theorem lt_lim {x : Nat} (h : x < 4294967296 ^ 8) : x < Lim := Nat.lt_of_lt_of_le h (Nat.pow_le_pow_right (by omega) (show 8 ≤ maxL by unfold maxL; omega))
theorem NumV.rd {w : World} {v : Value} {x : Nat} (h : NumV w v x) {zs : List Nat} (hC : Can 4294967296 zs) (hv : val 4294967296 zs = x) : Rd .u32 w v zs := by
  obtain ⟨ys, h1, h2, h3⟩ := h
  rw [← Can.eq h2 hC (h3.trans hv.symm)]; exact h1
theorem can_of {zs : List Nat} (h : (zs.all fun x => decide (x < 4294967296)) = true) (h' : decide (zs.getLast? = some 0) = false) : Can 4294967296 zs :=
  ⟨fun x hx => of_decide_eq_true (List.all_eq_true.1 h x hx), by simpa using h'⟩
/-- A number had, and what was kept. -/
def Had (w : World) (zs : List Nat) (e : Ending) (w' : World) : Prop := ∃ A cap, e = .returned (.slice A zs.length cap) ∧ Rd .u32 w' (.slice A zs.length cap) zs ∧ Below w.heap.size w w'
def Had2 (w : World) (zs : List Nat) (e : Ending) (w' : World) : Prop := ∃ A cap, e = .returned (.tuple #[.slice A zs.length cap, .int .i64 0]) ∧ Rd .u32 w' (.slice A zs.length cap) zs ∧ Below w.heap.size w w'
theorem had_of {w w' : World} {v : Value} {x : Nat} {zs : List Nat} (hC : Can 4294967296 zs) (hv : val 4294967296 zs = x) (h : NumV w' v x) (hB : Below w.heap.size w w') : Had w zs (.returned v) w' := by
  have := h.rd hC hv
  obtain ⟨A, cap, rfl, _⟩ := this.form
  exact ⟨A, cap, rfl, this, hB⟩
theorem had2_of {w w' : World} {v : Value} {x : Nat} {zs : List Nat} (hC : Can 4294967296 zs) (hv : val 4294967296 zs = x) (h : NumV w' v x) (hB : Below w.heap.size w w') : Had2 w zs (.returned (.tuple #[v, .int .i64 0])) w' := by
  have := h.rd hC hv
  obtain ⟨A, cap, rfl, _⟩ := this.form
  exact ⟨A, cap, rfl, this, hB⟩
theorem fitted_had {w w' : World} {x : Nat} {e : Ending} {zs : List Nat} (hC : Can 4294967296 zs) (hv : val 4294967296 zs = x) (hs : x < 4294967296 ^ 8) (h : Fitted w x e w') : Had2 w zs e w' := by
  obtain ⟨hB, (⟨_, v, rfl, hN⟩ | ⟨hl, _⟩)⟩ := h
  · exact had2_of hC hv hN hB
  · exact absurd (lt_lim hs) (by omega)

theorem of_lit (w : World) (n : Nat) (zs : List Nat) (hn : n < 18446744073709551616) (hC : Can 4294967296 zs) (hv : val 4294967296 zs = n) : Calls Tryd.prog 44 #[.int .u64 n] w (Had w zs) :=
  (of_c w n hn).mono fun e w' h => by obtain ⟨hB, v, rfl, hN⟩ := h; exact had_of hC hv hN hB
theorem add_lit (w : World) (va vb : Value) (xs ys zs : List Nat) (ha : Rd .u32 w va xs) (hb : Rd .u32 w vb ys) (hx : Can 4294967296 xs) (hy : Can 4294967296 ys) (hl : xs.length ≤ 8 ∧ ys.length ≤ 8) (hC : Can 4294967296 zs)
    (hv : val 4294967296 zs = val 4294967296 xs + val 4294967296 ys) (hs : val 4294967296 zs < 4294967296 ^ 8) : Calls Tryd.prog 16 #[va, vb] w (Had2 w zs) :=
  (add_c w va vb xs ys ha hb hx.1 hy.1 (by omega) (by omega)).mono fun _ _ h => fitted_had hC hv (hv ▸ hs) h
theorem mul_lit (w : World) (va vb : Value) (xs ys zs : List Nat) (ha : Rd .u32 w va xs) (hb : Rd .u32 w vb ys) (hx : Can 4294967296 xs) (hy : Can 4294967296 ys) (hl : xs.length ≤ 8 ∧ ys.length ≤ 8) (hC : Can 4294967296 zs)
    (hv : val 4294967296 zs = val 4294967296 xs * val 4294967296 ys) (hs : val 4294967296 zs < 4294967296 ^ 8) : Calls Tryd.prog 22 #[va, vb] w (Had2 w zs) :=
  (mul_c w va vb xs ys ha hb hx.1 hy.1 (by omega) (by omega)).mono fun _ _ h => fitted_had hC hv (hv ▸ hs) h
theorem sub_lit (w : World) (va vb : Value) (xs ys zs : List Nat) (ha : Rd .u32 w va xs) (hb : Rd .u32 w vb ys) (hx : Can 4294967296 xs) (hy : Can 4294967296 ys) (hl : xs.length ≤ 8 ∧ ys.length ≤ 8) (hC : Can 4294967296 zs)
    (hv : val 4294967296 zs + val 4294967296 ys = val 4294967296 xs) (hs : val 4294967296 zs < 4294967296 ^ 8) : Calls Tryd.prog 19 #[va, vb] w (Had2 w zs) :=
  (sub_c w va vb xs ys ha hb hx.1 hy.1 (by omega) (by omega)).mono fun _ _ h => by
    rcases h with ⟨h, _⟩ | ⟨_, h⟩
    · omega
    · exact fitted_had hC (by omega) (by omega) h

/-- 2^64 by 7. -/
theorem div_lit (w : World) (va vb : Value) (ha : Rd .u32 w va [0, 0, 1]) (hb : Rd .u32 w vb [7]) (hx : ∀ x ∈ ([0, 0, 1] : List Nat), x < 4294967296) (hy : ∀ x ∈ ([7] : List Nat), x < 4294967296) :
    Calls Tryd.prog 25 #[va, vb] w fun e w' => ∃ A cap A' cap', e = .returned (.tuple #[.slice A 2 cap, .slice A' 1 cap', .int .i64 0]) ∧ Rd .u32 w' (.slice A 2 cap) [2454267026, 613566756] ∧ Rd .u32 w' (.slice A' 1 cap') [2] ∧ Below w.heap.size w w' := by
  refine (div_c w va vb _ _ ha hb hx hy (by simp) (by simp) (fun h => absurd h (by decide))).mono ?_
  rintro e w' ⟨hB, (⟨h, _⟩ | ⟨_, h, _⟩ | ⟨_, _, v1, v2, rfl, h1, h2⟩)⟩
  · exact absurd h (by decide)
  · exact absurd (lt_lim (x := val 4294967296 [0, 0, 1]) (by decide)) (by omega)
  · have r1 := h1.rd (zs := [2454267026, 613566756]) (can_of rfl rfl) (by decide)
    have r2 := h2.rd (zs := [2]) (can_of rfl rfl) (by decide)
    obtain ⟨A, cap, rfl, _⟩ := r1.form
    obtain ⟨A', cap', rfl, _⟩ := r2.form
    exact ⟨A, cap, A', cap', rfl, r1, r2, hB⟩
theorem div_nil (w : World) (va : Value) (xs : List Nat) (ha : Rd .u32 w va xs) (hx : ∀ x ∈ xs, x < 4294967296) (hl : xs.length ≤ 8) :
    Calls Tryd.prog 25 #[va, .slice none 0 0] w fun e w' => e = .returned (.tuple #[.slice none 0 0, .slice none 0 0, .int .i64 10]) ∧ Below w.heap.size w w' := by
  refine (div_c w va _ _ [] ha (Rd.nil _ _ _) hx (by simp) (by omega) (by simp) (fun h => absurd h (by decide))).mono ?_
  rintro e w' ⟨hB, (⟨_, h⟩ | ⟨h, _⟩ | ⟨h, _⟩)⟩
  · exact ⟨h, hB⟩
  · exact absurd h (by decide)
  · exact absurd h (by decide)
theorem nil_sub (w : World) (va : Value) (xs : List Nat) (ha : Rd .u32 w va xs) (hx : ∀ x ∈ xs, x < 4294967296) (hl : xs.length ≤ 8) (hp : 0 < val 4294967296 xs) :
    Calls Tryd.prog 19 #[.slice none 0 0, va] w fun e w' => e = .returned (.tuple #[.slice none 0 0, .int .i64 12]) ∧ Below w.heap.size w w' := by
  refine (sub_c w _ va [] xs (Rd.nil _ _ _) ha (by simp) hx (by simp) (by omega)).mono ?_
  rintro e w' (⟨_, h, hB⟩ | ⟨h, _⟩)
  · exact ⟨h, hB⟩
  · exact absurd h (by simp [val]; omega)
theorem small_lit (w : World) (v : Value) (zs : List Nat) (hR : Rd .u32 w v zs) (hx : ∀ x ∈ zs, x < 4294967296) (hl : zs.length ≤ 8) (hs : val 4294967296 zs < 18446744073709551616) :
    Calls Tryd.prog 54 #[v] w fun e w' => e = .returned (.tuple #[.int .u64 (val 4294967296 zs : Nat), .int .i64 0]) ∧ Below w.heap.size w w' := by
  refine (small_c w v zs hR hx (by omega)).mono ?_
  rintro e w' ⟨hB, (⟨_, h⟩ | ⟨h, _⟩)⟩
  · exact ⟨h, hB⟩
  · exact absurd h (by unfold two64; omega)
theorem left_lit (w : World) (v : Value) (zs ys : List Nat) (n : Nat) (hR : Rd .u32 w v zs) (hx : ∀ x ∈ zs, x < 4294967296) (hl : zs.length ≤ 8) (hn : n ≤ 1000) (hC : Can 4294967296 ys) (hv : val 4294967296 ys = val 4294967296 zs * 2 ^ n) (hs : val 4294967296 ys < 4294967296 ^ 8) :
    Calls Tryd.prog 28 #[v, .int .i64 n] w (Had2 w ys) := by
  refine (left_c w v zs n hR hx (by omega) (by omega) (by omega)).mono ?_
  rintro e w' (⟨h, _⟩ | ⟨_, hB, (⟨h, _⟩ | ⟨_, v', rfl, hN⟩)⟩)
  · omega
  · exact absurd (lt_lim hs) (by rw [hv]; simpa using h)
  · exact had2_of hC hv (by simpa using hN) hB
theorem right_lit (w : World) (v : Value) (zs ys : List Nat) (n : Nat) (hR : Rd .u32 w v zs) (hx : ∀ x ∈ zs, x < 4294967296) (hl : zs.length ≤ 8) (hn : n ≤ 1000) (hC : Can 4294967296 ys) (hv : val 4294967296 ys = val 4294967296 zs / 2 ^ n) (hs : val 4294967296 ys < 4294967296 ^ 8) :
    Calls Tryd.prog 29 #[v, .int .i64 n] w (Had2 w ys) := by
  refine (right_c w v zs n hR hx (by omega) (by omega) (by omega) (by have := lt_lim hs; rw [hv] at this; simpa [Hid] using this)).mono ?_
  rintro e w' (⟨h, _⟩ | ⟨_, hB, v', rfl, hN⟩)
  · omega
  · exact had2_of hC hv (by simpa using hN) hB

theorem tail_le {t u a b : Nat} (h : 2 ^ t * (2 * a + 1) = 2 ^ u * (2 * b + 1)) : u ≤ t := by
  rcases Nat.lt_or_ge t u with hlt | hge
  · exfalso
    obtain ⟨d, rfl⟩ : ∃ d, u = t + 1 + d := ⟨u - t - 1, by omega⟩
    rw [Nat.pow_add, Nat.pow_add, Nat.pow_one, Nat.mul_assoc, Nat.mul_assoc] at h
    have h2 := Nat.eq_of_mul_eq_mul_left (Nat.pow_pos (by omega)) h
    obtain ⟨m, hm⟩ : ∃ m, 2 ^ d * (2 * b + 1) = m := ⟨_, rfl⟩
    rw [hm] at h2
    omega
  · exact hge
theorem IsTail.eq {n m x : Nat} (h : IsTail n x) (k : IsTail m x) : n = m := by
  rcases h with ⟨h1, rfl⟩ | ⟨a, h⟩ <;> rcases k with ⟨k1, rfl⟩ | ⟨b, k⟩
  · rfl
  · have := Nat.pow_pos (n := m) (show 0 < 2 by omega); rw [h1] at k; have := Nat.mul_pos this (show 0 < 2 * b + 1 by omega); omega
  · have := Nat.pow_pos (n := n) (show 0 < 2 by omega); rw [k1] at h; have := Nat.mul_pos this (show 0 < 2 * a + 1 by omega); omega
  · exact Nat.le_antisymm (tail_le (k.symm.trans h)) (tail_le (h.symm.trans k))
theorem bits_lit (w : World) (v : Value) (zs : List Nat) (n : Nat) (hR : Rd .u32 w v zs) (hx : ∀ x ∈ zs, x < 4294967296) (hl : zs.length ≤ 8) (hn : IsBits n (val 4294967296 zs)) :
    Calls Tryd.prog 30 #[v] w fun e w' => e = .returned (.int .i64 (n : Int)) ∧ Below w.heap.size w w' := by
  refine (bits_c w v zs hR hx (by omega)).mono ?_
  rintro e w' ⟨hB, m, rfl, hm⟩
  exact ⟨by rw [hm.eq hn], hB⟩
theorem tail_lit (w : World) (hT : Tab w) (v : Value) (zs : List Nat) (n : Nat) (hR : Rd .u32 w v zs) (hx : ∀ x ∈ zs, x < 4294967296) (hl : zs.length ≤ 8) (hn : IsTail n (val 4294967296 zs)) :
    Calls Tryd.prog 32 #[v] w fun e w' => e = .returned (.int .i64 (n : Int)) ∧ w = w' := by
  refine (tail_c w hT v zs hR hx (by omega)).mono ?_
  rintro e w' ⟨rfl, m, rfl, hm⟩
  exact ⟨by rw [hm.eq hn], rfl⟩
theorem Rd.drewN {k : IntKind} {w : World} {v : Value} {zs : List Nat} (h : Rd k w v zs) (n : Nat) : Rd k (w.drewN n) v zs := h

set_option maxRecDepth 100000 in
set_option maxHeartbeats 2000000 in
theorem reckons_c (w : World) (hT : Tab w) :
    Calls Tryd.prog 13 #[] w (fun e w' => e = .returned (.bool true) ∧ Below w.heap.size w w') := by
  have c1 : Can 4294967296 [1] := can_of rfl rfl
  have c7 : Can 4294967296 [7] := can_of rfl rfl
  have cm : Can 4294967296 [4294967295] := can_of rfl rfl
  have ca : Can 4294967296 [0, 1] := can_of rfl rfl
  have cb : Can 4294967296 [0, 0, 1] := can_of rfl rfl
  have CC := Lib.hid (And.intro c1 (And.intro c7 (And.intro cm (And.intro ca (And.intro cb hT)))))
  have k1 := Lib.hid (fun W => of_lit W 1 [1] (by omega) c1 rfl)
  have k7 := Lib.hid (fun W => of_lit W 7 [7] (by omega) c7 rfl)
  have km := Lib.hid (fun W => of_lit W 4294967295 [4294967295] (by omega) cm rfl)
  clear c1 c7 cm ca cb hT
  go_enter Tryd.func13, Tryd.ntmps13
  go_wp2_with fail
  refine (km.out _).mono ?_
  rintro e w1 ⟨A1, d1, rfl, R1, B1⟩
  have H := Lib.hid (And.intro R1 B1)
  clear R1 B1
  go_wp2_with fail
  refine (k1.out _).mono ?_
  rintro e w2 ⟨A2, d2, rfl, R2, B2⟩
  obtain ⟨R1, B1⟩ := H.out
  have ha := add_lit w2 _ _ _ _ [0, 1] (R1.below B2) R2 CC.out.2.2.1 CC.out.1 ⟨by simp, by simp⟩ CC.out.2.2.2.1 rfl (by decide)
  have H := Lib.hid (B1.trans (B2.mono B1.size))
  clear R1 B1 R2 B2
  go_wp2_with fail
  refine ha.mono ?_
  rintro e w3 ⟨Aa, da, rfl, Ra, B3⟩
  have HB := Lib.hid (H.out.trans (B3.mono (Below.size H.out)))
  have HA := Lib.hid Ra
  clear ha H Ra B3
  go_wp2_with fail
  refine (mul_lit w3 _ _ _ _ [0, 0, 1] HA.out HA.out CC.out.2.2.2.1 CC.out.2.2.2.1 ⟨by simp, by simp⟩ CC.out.2.2.2.2.1 rfl (by decide)).mono ?_
  rintro e w4 ⟨Ab, db, rfl, Rb, B⟩
  have HB4 := Lib.hid (HB.out.trans (B.mono (Below.size HB.out)))
  have HA4 := Lib.hid (And.intro (HA.out.below B) Rb)
  clear HB HA Rb B
  go_wp2_with fail
  refine (k7.out _).mono ?_
  rintro e w5 ⟨A7, d7, rfl, R7, B⟩
  have HB5 := Lib.hid (HB4.out.trans (B.mono (Below.size HB4.out)))
  have HA5 := Lib.hid (And.intro (HA4.out.1.below B) (And.intro (HA4.out.2.below B) R7))
  clear HB4 HA4 R7 B
  go_wp2_with fail
  refine (div_lit w5 _ _ HA5.out.2.1 HA5.out.2.2 CC.out.2.2.2.2.1.1 CC.out.2.1.1).mono ?_
  rintro e w6 ⟨Aq, dq, Ar, dr, rfl, Rq, Rr, B⟩
  have HB6 := Lib.hid (HB5.out.trans (B.mono (Below.size HB5.out)))
  have HA6 := Lib.hid (And.intro (HA5.out.1.below B) (And.intro (HA5.out.2.1.below B) (And.intro Rq Rr)))
  clear HB5 HA5 Rq Rr B
  go_wp2_with fail
  refine (k1.out _).mono ?_
  rintro e w7 ⟨A3, d3, rfl, R3, B⟩
  have HB7 := Lib.hid (HB6.out.trans (B.mono (Below.size HB6.out)))
  have HA7 := Lib.hid (And.intro (HA6.out.1.below B) (And.intro (HA6.out.2.1.below B) (And.intro (HA6.out.2.2.1.below B) (And.intro (HA6.out.2.2.2.below B) R3))))
  clear HB6 HA6 R3 B
  go_wp2_with fail
  refine (sub_lit w7 _ _ _ _ [4294967295] HA7.out.1 HA7.out.2.2.2.2 CC.out.2.2.2.1 CC.out.1 ⟨by simp, by simp⟩ CC.out.2.2.1 rfl (by decide)).mono ?_
  rintro e w8 ⟨Ac, dc, rfl, Rc, B⟩
  have HB8 := Lib.hid (HB7.out.trans (B.mono (Below.size HB7.out)))
  have HA8 := Lib.hid (And.intro (HA7.out.1.below B) (And.intro (HA7.out.2.1.below B) (And.intro (HA7.out.2.2.1.below B) (And.intro (HA7.out.2.2.2.1.below B) Rc))))
  clear HB7 HA7 Rc B
  go_wp2_with fail
  refine (small_lit w8 _ _ HA8.out.2.2.2.2 CC.out.2.2.1.1 (by simp) (by decide)).mono ?_
  rintro e w9 ⟨rfl, B⟩
  have HB9 := Lib.hid (HB8.out.trans (B.mono (Below.size HB8.out)))
  have HA9 := Lib.hid (And.intro (HA8.out.1.below B) (And.intro (HA8.out.2.1.below B) (And.intro (HA8.out.2.2.1.below B) (HA8.out.2.2.2.1.below B))))
  clear HB8 HA8 B
  go_wp2_with fail
  refine (div_nil w9 _ _ HA9.out.1 CC.out.2.2.2.1.1 (by simp)).mono ?_
  rintro e w10 ⟨rfl, B⟩
  have HB10 := Lib.hid (HB9.out.trans (B.mono (Below.size HB9.out)))
  have HA10 := Lib.hid (And.intro (HA9.out.1.below B) (And.intro (HA9.out.2.1.below B) (And.intro (HA9.out.2.2.1.below B) (HA9.out.2.2.2.below B))))
  clear HB9 HA9 B
  go_wp2_with fail
  refine (nil_sub w10 _ _ HA10.out.1 CC.out.2.2.2.1.1 (by simp) (by decide)).mono ?_
  rintro e w11 ⟨rfl, B⟩
  have HB11 := Lib.hid (HB10.out.trans (B.mono (Below.size HB10.out)))
  have HA11 := Lib.hid (And.intro (HA10.out.1.below B) (And.intro (HA10.out.2.1.below B) (And.intro (HA10.out.2.2.1.below B) (HA10.out.2.2.2.below B))))
  clear HB10 HA10 B
  go_wp2_with fail
  refine (left_lit w11 _ _ [0, 32] 5 HA11.out.1 CC.out.2.2.2.1.1 (by simp) (by omega) (can_of rfl rfl) (by decide) (by decide)).mono ?_
  rintro e w12 ⟨Al, dl, rfl, Rl, B⟩
  have HB12 := Lib.hid (HB11.out.trans (B.mono (Below.size HB11.out)))
  have HA12 := Lib.hid (And.intro (HA11.out.1.below B) (And.intro (HA11.out.2.1.below B) (And.intro (HA11.out.2.2.1.below B) (And.intro (HA11.out.2.2.2.below B) Rl))))
  clear HB11 HA11 Rl B
  go_wp2_with fail
  refine (right_lit w12 _ _ [1] 37 HA12.out.2.2.2.2 (by decide) (by simp) (by omega) CC.out.1 (by decide) (by decide)).mono ?_
  rintro e w13 ⟨Ao, do_, rfl, Ro, B⟩
  have HB13 := Lib.hid (HB12.out.trans (B.mono (Below.size HB12.out)))
  have Ra := HA12.out.1.below B
  have Rb := HA12.out.2.1.below B
  have Rq := HA12.out.2.2.1.below B
  have Rr := HA12.out.2.2.2.1.below B
  obtain ⟨ba, oa, rfl, _⟩ := Ra.addr (by simp)
  obtain ⟨br, or_, rfl, _⟩ := Rr.addr (by simp)
  have ca1 : w13.cell? ⟨ba, oa + 1, none⟩ = some (.int .u32 1) := Ra.cell (j := 1) (x := 1) rfl
  have cr0 : w13.cell? ⟨br, or_, none⟩ = some (.int .u32 2) := Rr.cell (j := 0) (x := 2) rfl
  have HA13 := Lib.hid (And.intro Ra (And.intro Rb Ro))
  clear HB12 HA12 Ro B Ra Rb Rq Rr
  go_wp2_with fail
  refine (bits_lit w13 _ _ 65 HA13.out.2.1 CC.out.2.2.2.2.1.1 (by simp) ⟨by decide, .inr (by decide)⟩).mono ?_
  rintro e w14 ⟨rfl, B⟩
  have HB14 := Lib.hid (HB13.out.trans (B.mono (Below.size HB13.out)))
  have HA14 := Lib.hid (And.intro (HA13.out.1.below B) (And.intro (HA13.out.2.1.below B) (HA13.out.2.2.below B)))
  clear HB13 HA13 B ca1 cr0
  go_wp2_with fail
  refine (tail_lit w14 (CC.out.2.2.2.2.2.below (HB14.out)) _ _ 64 HA14.out.2.1 CC.out.2.2.2.2.1.1 (by simp) (.inr ⟨0, by decide⟩)).mono ?_
  rintro e w15 ⟨rfl, rfl⟩
  go_wp2_with fail
  refine (k1.out _).mono ?_
  rintro e w16 ⟨A5, d5, rfl, R5, B⟩
  have HB16 := Lib.hid (HB14.out.trans (B.mono (Below.size HB14.out)))
  have HA16 := Lib.hid (And.intro (HA14.out.1.below B) (And.intro (HA14.out.2.1.below B) (And.intro (HA14.out.2.2.below B) R5)))
  clear HB14 HA14 B R5
  go_wp2_with fail
  refine (equal_nat w16 _ _ _ _ HA16.out.2.2.1 HA16.out.2.2.2).mono ?_
  rintro e w17 ⟨rfl, nq, rfl⟩
  have hel : eqL ([1] : List Nat) [1] = true := eqL_true rfl
  rw [hel]
  have HB17 := Lib.hid (HB16.out.trans (below_drewN _ w16 nq))
  have HA17 := Lib.hid (And.intro (HA16.out.1.drewN nq) (HA16.out.2.1.drewN nq))
  clear HB16 HA16 hel
  generalize w16.drewN nq = w17 at *
  go_wp2_with fail
  refine (compare_c w17 _ _ _ _ HA17.out.1 HA17.out.2 CC.out.2.2.2.1.1 CC.out.2.2.2.2.1.1 (by simp) (by simp)).mono ?_
  rintro e w18 ⟨rfl, B⟩
  have ho : ord3 (val 4294967296 [0, 1]) (val 4294967296 [0, 0, 1]) = -1 := ord3_lt (by decide)
  rw [ho]
  have HB18 := Lib.hid (HB17.out.trans (B.mono (Below.size HB17.out)))
  have HA18 := Lib.hid (HA17.out.2.below B)
  clear HB17 HA17 ho B
  go_wp2_with fail
  refine (check_c w18 _ _ HA18.out).mono ?_
  rintro e w19 ⟨rfl, rfl⟩
  have hk : checkOf [0, 0, 1] = 0 := rfl
  rw [hk]
  clear hk
  go_wp2_with fail
  have R0 : Rd .u32 (w18.alloc (.cells #[.int .u32 0] 35)) (.slice (some ⟨w18.heap.size, 0, none⟩) 1 1) [0] := by
    have := (Own.new w18 .u32 35 [0]).whole (by simp)
    simpa [nums] using this
  refine (check_c _ _ _ R0).mono ?_
  rintro e w20 ⟨rfl, rfl⟩
  have hk : checkOf [0] = 2 := rfl
  rw [hk]
  clear hk R0
  go_wp2_with fail
  go_ret
  exact ⟨rfl, HB18.out.alloc (Below.size HB18.out) _⟩
end Go.Proofs.YtefnhhkhdpihdaaDoor
