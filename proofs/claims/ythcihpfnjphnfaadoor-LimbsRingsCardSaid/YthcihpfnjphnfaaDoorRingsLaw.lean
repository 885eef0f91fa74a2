/- LimbsRings: the walk. -/
import Derived.Test.YthcihpfnjphnfaaDoorSmallLaw
namespace Go.Proofs.YthcihpfnjphnfaaDoor
open Go Go.RowKit Go.Shelf

theorem lay_cells (w : World) (vs : List Value) (t : TypeId) (i : Nat) (u : Value) (h : vs[i]? = some u) : (w.alloc (.cells vs.toArray t)).cell? ⟨w.heap.size, i, none⟩ = some u := by
  have e : (w.alloc (.cells vs.toArray t)).heap[w.heap.size]? = some (.cells vs.toArray t) := World.alloc_heap_new w _
  unfold World.cell?
  dsimp only
  rw [e]
  simpa using h

theorem lim_of {x n : Nat} (h : x < 4294967296 ^ n) (hn : n ≤ 512) : x < Lim := Nat.lt_of_lt_of_le h (Nat.pow_le_pow_right (by omega) (show n ≤ maxL by unfold maxL; omega))
theorem mul_pow_lt {B x y m n : Nat} (hx : x < B ^ m) (hy : y < B ^ n) : x * y < B ^ (m + n) := by
  rw [Nat.pow_add]
  rcases Nat.eq_zero_or_pos y with rfl | hp
  · exact Nat.lt_of_le_of_lt (Nat.le_refl _) (by rw [Nat.mul_zero]; exact Nat.mul_pos (by omega) (by omega))
  · exact Nat.lt_of_lt_of_le (Nat.mul_lt_mul_of_pos_right hx hp) (Nat.mul_le_mul_left _ (by omega))
theorem add_pow_lt {B x y n : Nat} (hB : 2 ≤ B) (hx : x < B ^ n) (hy : y < B ^ n) : x + y < B ^ (n + 1) := by
  rw [Nat.pow_succ]
  have : B ^ n * 2 ≤ B ^ n * B := Nat.mul_le_mul_left _ hB
  omega
theorem fit_lt {zs : List Nat} (hf : FitOne zs) (hb : ∀ x ∈ zs, x < 4294967296) : val 4294967296 zs < 4294967296 ^ 40 :=
  Nat.lt_of_lt_of_le (val_lt hb) (Nat.pow_le_pow_right (by omega) hf.1)

/-- A number that the laws go on with. -/
def Ok (w : World) (v : Value) (zs : List Nat) : Prop := Rd .u32 w v zs ∧ Can 4294967296 zs ∧ zs.length ≤ 1000000
theorem Ok.below {w w' : World} {v : Value} {zs : List Nat} (h : Ok w v zs) (hb : Below w.heap.size w w') : Ok w' v zs := ⟨h.1.below hb, h.2⟩
/-- A number and no error. -/
def Made (w : World) (x : Nat) (e : Ending) (w' : World) : Prop := ∃ A cap zs, e = .returned (.tuple #[.slice A zs.length cap, .int .i64 0]) ∧ Ok w' (.slice A zs.length cap) zs ∧ val 4294967296 zs = x ∧ Below w.heap.size w w'
theorem fitted_made {w w' : World} {x : Nat} {e : Ending} (hx : x < Lim) (h : Fitted w x e w') : Made w x e w' := by
  obtain ⟨hB, (⟨_, v, rfl, zs, h1, h2, h3⟩ | ⟨hl, _⟩)⟩ := h
  · obtain ⟨A, cap, rfl, _⟩ := h1.form
    have hl := h2.len_le (n := maxL) (by omega) (by rw [h3]; exact hx)
    exact ⟨A, cap, zs, rfl, ⟨h1, h2, by unfold maxL at hl; omega⟩, h3, hB⟩
  · omega
theorem add_made (w : World) (va vb : Value) (xs ys : List Nat) (ha : Ok w va xs) (hb : Ok w vb ys) (hx : val 4294967296 xs + val 4294967296 ys < Lim) :
    Calls Tryd.prog 18 #[va, vb] w (Made w (val 4294967296 xs + val 4294967296 ys)) :=
  (add_c w va vb xs ys ha.1 hb.1 ha.2.1.1 hb.2.1.1 ha.2.2 hb.2.2).mono fun _ _ h => fitted_made hx h
theorem mul_made (w : World) (va vb : Value) (xs ys : List Nat) (ha : Ok w va xs) (hb : Ok w vb ys) (hx : val 4294967296 xs * val 4294967296 ys < Lim) :
    Calls Tryd.prog 24 #[va, vb] w (Made w (val 4294967296 xs * val 4294967296 ys)) :=
  (mul_c w va vb xs ys ha.1 hb.1 ha.2.1.1 hb.2.1.1 ha.2.2 hb.2.2).mono fun _ _ h => fitted_made hx h
theorem sub_made (w : World) (va vb : Value) (xs ys : List Nat) (ha : Ok w va xs) (hb : Ok w vb ys) (hle : val 4294967296 ys ≤ val 4294967296 xs) (hx : val 4294967296 xs < Lim) :
    Calls Tryd.prog 21 #[va, vb] w (Made w (val 4294967296 xs - val 4294967296 ys)) :=
  (sub_c w va vb xs ys ha.1 hb.1 ha.2.1.1 hb.2.1.1 ha.2.2 hb.2.2).mono fun _ _ h => by
    rcases h with ⟨h, _⟩ | ⟨_, h⟩
    · omega
    · exact fitted_made (by omega) h

set_option maxRecDepth 100000 in
set_option maxHeartbeats 2000000 in
theorem rings_law (w : World) (hT : Tab w) (va vb vc : Value) (xs ys zs : List Nat) (ha : Arg w va xs) (hb : Arg w vb ys) (hc : Arg w vc zs) (hxb : ∀ x ∈ xs, x < 4294967296) (hyb : ∀ x ∈ ys, x < 4294967296) (hzb : ∀ x ∈ zs, x < 4294967296) :
    Calls Tryd.prog 10 #[va, vb, vc] w fun e w' => e = .returned (.bool true) ∧ Below w.heap.size w w' := by
  obtain ⟨⟨A1, c1, rfl⟩, _⟩ := id ha
  obtain ⟨⟨A2, c2, rfl⟩, _⟩ := id hb
  obtain ⟨⟨A3, c3, rfl⟩, _⟩ := id hc
  have HR := Lib.hid (And.intro ha (And.intro hb hc))
  have HX := Lib.hid (And.intro hxb (And.intro hyb hzb))
  have HT := Lib.hid hT
  clear ha hb hc hxb hyb hzb hT
  go_enter Tryd.func10, Tryd.ntmps10
  go_wp2_with fail
  refine (reckons_c w HT.out).mono ?_
  rintro e w1 ⟨rfl, B⟩
  have HB1 := Lib.hid B
  clear B
  go_wp2_with fail
  have HB5 := Lib.hid (HB1.out.alloc (Below.size HB1.out) (.cells #[.slice A1 xs.length c1, .slice A2 ys.length c2, .slice A3 zs.length c3] 23))
  have HC5 := Lib.hid (lay_cells w1 [.slice A1 xs.length c1, .slice A2 ys.length c2, .slice A3 zs.length c3] 23)
  generalize w1.alloc (.cells #[.slice A1 xs.length c1, .slice A2 ys.length c2, .slice A3 zs.length c3] 23) = w5 at *
  have HR5 := Lib.hid (And.intro (HR.out.1.below HB5.out (Nat.le_refl _)) (And.intro (HR.out.2.1.below HB5.out (Nat.le_refl _)) (HR.out.2.2.below HB5.out (Nat.le_refl _))))
  refine (fit_law w5 w1.heap.size 3 [.slice A1 xs.length c1, .slice A2 ys.length c2, .slice A3 zs.length c3] [xs, ys, zs] rfl (by simp) HC5.out ?_).mono ?_
  · intro i u us hu hy
    match i, hu, hy with
    | 0, hu, hy => injection hu with hu; injection hy with hy; subst hu; subst hy; exact HR5.out.1
    | 1, hu, hy => injection hu with hu; injection hy with hy; subst hu; subst hy; exact HR5.out.2.1
    | 2, hu, hy => injection hu with hu; injection hy with hy; subst hu; subst hy; exact HR5.out.2.2
  rintro e w6 ⟨rfl, rfl⟩
  clear HC5 HB1
  by_cases hf : FitOne xs ∧ FitOne ys ∧ FitOne zs
  case neg =>
    have hfa : fitAll [xs, ys, zs] = false := by
      by_cases h1 : FitOne xs
      · by_cases h2 : FitOne ys
        · exact fitAll_false (k := 2) rfl (fun h3 => hf ⟨h1, h2, h3⟩)
        · exact fitAll_false (k := 1) rfl h2
      · exact fitAll_false (k := 0) rfl h1
    rw [hfa]
    clear hfa hf
    go_wp2_with fail
    go_ret
    exact ⟨rfl, HB5.out⟩
  obtain ⟨f1, f2, f3⟩ := hf
  have hfa : fitAll [xs, ys, zs] = true := fitAll_true fun j us hj hy => by
    match j, hy with
    | 0, hy => injection hy with hy; subst hy; exact f1
    | 1, hy => injection hy with hy; subst hy; exact f2
    | 2, hy => injection hy with hy; subst hy; exact f3
  rw [hfa]
  have o1 : Ok w5 (.slice A1 xs.length c1) xs := ⟨HR5.out.1.2 f1.1, f1.can (k := .u32) HX.out.1, by have := f1.1; omega⟩
  have o2 : Ok w5 (.slice A2 ys.length c2) ys := ⟨HR5.out.2.1.2 f2.1, f2.can (k := .u32) HX.out.2.1, by have := f2.1; omega⟩
  have o3 : Ok w5 (.slice A3 zs.length c3) zs := ⟨HR5.out.2.2.2 f3.1, f3.can (k := .u32) HX.out.2.2, by have := f3.1; omega⟩
  have l1 := fit_lt f1 HX.out.1
  have l2 := fit_lt f2 HX.out.2.1
  have l3 := fit_lt f3 HX.out.2.2
  have ls := add_pow_lt (by omega) l2 l3
  have HL := Lib.hid (And.intro (lim_of ls (by omega)) (And.intro (lim_of (mul_pow_lt l1 ls) (by omega)) (And.intro (lim_of (mul_pow_lt l1 l2) (by omega)) (lim_of (mul_pow_lt l1 l3) (by omega)))))
  have HO := Lib.hid (And.intro o1 (And.intro o2 o3))
  clear hfa f1 f2 f3 o1 o2 o3 l1 l2 l3 ls HR5 HX HR
  go_wp2_with fail
  refine (add_made w5 _ _ _ _ HO.out.2.1 HO.out.2.2 HL.out.1).mono ?_
  rintro e w7 ⟨As, ds, ss, rfl, os, hs, B⟩
  have HB7 := Lib.hid (HB5.out.trans (B.mono (Below.size HB5.out)))
  have HO7 := Lib.hid (And.intro (HO.out.1.below B) (And.intro (HO.out.2.1.below B) (And.intro (HO.out.2.2.below B) os)))
  have Hs := Lib.hid hs
  clear HB5 HO os hs B
  go_wp2_with fail
  refine (mul_made w7 _ _ _ _ HO7.out.1 HO7.out.2.2.2 (by rw [Hs.out]; exact HL.out.2.1)).mono ?_
  rintro e w8 ⟨Ap, dp, ps, rfl, op, hp, B⟩
  have HB8 := Lib.hid (HB7.out.trans (B.mono (Below.size HB7.out)))
  have HO8 := Lib.hid (And.intro (HO7.out.1.below B) (And.intro (HO7.out.2.1.below B) (And.intro (HO7.out.2.2.1.below B) (And.intro (HO7.out.2.2.2.below B) op))))
  have Hp := Lib.hid hp
  clear HB7 HO7 op hp B
  go_wp2_with fail
  refine (mul_made w8 _ _ _ _ HO8.out.1 HO8.out.2.1 HL.out.2.2.1).mono ?_
  rintro e w9 ⟨Ax, dx, us, rfl, ox, hx, B⟩
  have HB9 := Lib.hid (HB8.out.trans (B.mono (Below.size HB8.out)))
  have HO9 := Lib.hid (And.intro (HO8.out.1.below B) (And.intro (HO8.out.2.1.below B) (And.intro (HO8.out.2.2.1.below B) (And.intro (HO8.out.2.2.2.1.below B) (And.intro (HO8.out.2.2.2.2.below B) ox)))))
  have Hx := Lib.hid hx
  clear HB8 HO8 ox hx B
  go_wp2_with fail
  refine (mul_made w9 _ _ _ _ HO9.out.1 HO9.out.2.2.1 HL.out.2.2.2).mono ?_
  rintro e w10 ⟨Ay, dy, vs, rfl, oy, hy, B⟩
  have HB10 := Lib.hid (HB9.out.trans (B.mono (Below.size HB9.out)))
  have HO10 := Lib.hid (And.intro (HO9.out.2.1.below B) (And.intro (HO9.out.2.2.1.below B) (And.intro (HO9.out.2.2.2.1.below B) (And.intro (HO9.out.2.2.2.2.1.below B) (And.intro (HO9.out.2.2.2.2.2.below B) oy)))))
  have Hy := Lib.hid hy
  clear HB9 HO9 oy hy B
  go_wp2_with fail
  refine (add_made w10 _ _ _ _ HO10.out.2.2.2.2.1 HO10.out.2.2.2.2.2 (by rw [Hx.out, Hy.out, ← Nat.mul_add]; exact HL.out.2.1)).mono ?_
  rintro e w11 ⟨Aq, dq, qs, rfl, oq, hq, B⟩
  have HB11 := Lib.hid (HB10.out.trans (B.mono (Below.size HB10.out)))
  have HO11 := Lib.hid (And.intro (HO10.out.1.below B) (And.intro (HO10.out.2.1.below B) (And.intro (HO10.out.2.2.1.below B) (And.intro (HO10.out.2.2.2.1.below B) oq))))
  have Hq := Lib.hid hq
  clear HB10 HO10 oq hq B
  go_wp2_with fail
  refine (sub_made w11 _ _ _ _ HO11.out.2.2.1 HO11.out.2.1 (by rw [Hs.out]; omega) (by rw [Hs.out]; exact HL.out.1)).mono ?_
  rintro e w12 ⟨Ad, dd, es, rfl, od, hd, B⟩
  have HB12 := Lib.hid (HB11.out.trans (B.mono (Below.size HB11.out)))
  have HO12 := Lib.hid (And.intro (HO11.out.1.below B) (And.intro (HO11.out.2.2.2.1.below B) (And.intro (HO11.out.2.2.2.2.below B) od)))
  have Hd := Lib.hid hd
  clear HB11 HO11 od hd B
  go_wp2_with fail
  refine (equal_nat w12 _ _ _ _ HO12.out.2.1.1 HO12.out.2.2.1.1).mono ?_
  rintro e w13 ⟨rfl, nq, rfl⟩
  have hpq : eqL ps qs = true := eqL_true (Can.eq HO12.out.2.1.2.1 HO12.out.2.2.1.2.1 (by rw [Hp.out, Hq.out, Hs.out, Hx.out, Hy.out, Nat.mul_add]))
  rw [hpq]
  have HB13 := Lib.hid (HB12.out.trans (below_drewN _ w12 nq))
  have HO13 := Lib.hid (And.intro (HO12.out.1.below (below_drewN _ w12 nq)) (HO12.out.2.2.2.below (below_drewN _ w12 nq)))
  clear hpq HB12 HO12
  generalize w12.drewN nq = w13 at *
  go_wp2_with fail
  refine (equal_nat w13 _ _ _ _ HO13.out.2.1 HO13.out.1.1).mono ?_
  rintro e w14 ⟨rfl, nq', rfl⟩
  have hdb : eqL es ys = true := eqL_true (Can.eq HO13.out.2.2.1 HO13.out.1.2.1 (by rw [Hd.out, Hs.out]; omega))
  rw [hdb]
  have HB14 := Lib.hid (HB13.out.trans (below_drewN _ w13 nq'))
  clear hdb HB13 HO13
  generalize w13.drewN nq' = w14 at *
  go_wp2_with fail
  go_ret
  exact ⟨rfl, HB14.out⟩
end Go.Proofs.YthcihpfnjphnfaaDoor
