/- Layer 3's own numbers. Written by gen03.py. -/
import Derived.Test.YtphpaejgcahgbaaGreatDoorInt6
namespace Go.Proofs.YtphpaejgcahgbaaGreatDoor
open Go Go.RowKit Go.Shelf
attribute [local go_sem ↓] Go.wp_at_zero Go.wp_at_succ

/-- Variables that hold whole numbers: the newest one first. -/
def VS (w0 w : World) (L : List (Nat × Value × Value × Int)) : Prop := Below w0.heap.size w0 w ∧ ∀ x ∈ L, VarI w x.1 x.2.1 x.2.2.1 x.2.2.2
theorem VS.nil (w : World) : VS w w [] := ⟨Below.refl _ w, fun x h => by cases h⟩
theorem VS.below {w0 w w' : World} {L : List (Nat × Value × Value × Int)} (h : VS w0 w L) (hb : Below w.heap.size w w') : VS w0 w' L := ⟨below_trans h.1 hb, fun x hx => (h.2 x hx).below hb⟩
theorem VS.put {w0 w : World} {L : List (Nat × Value × Value × Int)} {m : Bool} {A : Option Addr} {n c g : Nat} {z : Int} (h : VS w0 w L) (hg : w.heap.size = g) (hv : Im w (.agg #[.bool m, .slice A n c]) z) :
    VS w0 (w.alloc (.cells #[.bool m, .slice A n c] 25)) ((g, .bool m, .slice A n c, z) :: L) := by
  subst hg
  refine ⟨below_trans h.1 (VarI.new hv).2, fun x hx => ?_⟩
  rcases List.mem_cons.1 hx with rfl | hx
  · exact (VarI.new hv).1
  · exact (h.2 x hx).below (VarI.new hv).2
theorem VS.var {w0 w : World} {L : List (Nat × Value × Value × Int)} {g : Nat} {a b : Value} {z : Int} (h : VS w0 w L) (i : Nat) (hx : L[i]? = some (g, a, b, z)) : VarI w g a b z := h.2 _ (List.mem_of_getElem? hx)
theorem Im.box {w : World} {v a b : Value} {z : Int} (h : Im w v z) : Im (w.alloc (.cells #[a, b] 25)) v z := h.below (box_below w a b)

theorem lim_small {z : Int} (h : z.natAbs < 18446744073709551616) : LimI z := small_lim h
theorem text_iz (w : World) (hT : Tab10 w) (v : Value) (z : Int) (s : ByteArray) (hs : DecI z s.data.toList) (hv : Im w v z) (hl : LimI z) : Calls Tryz.prog 34 #[v] w fun e w' => e = .returned (.string s) ∧ Below w.heap.size w w' :=
  (textInt_c w hT v z hv hl).mono fun _ _ h => by
    obtain ⟨s', rfl, hd, hb⟩ := h
    have e := hd.eq hs
    refine ⟨?_, hb⟩
    obtain ⟨⟨l⟩⟩ := s
    obtain ⟨⟨l'⟩⟩ := s'
    simp only at e
    subst e
    rfl
theorem parse_iz (w : World) (s : ByteArray) (z : Int) (hs : DecI z s.data.toList) (hl : s.size ≤ 4900) : Calls Tryz.prog 77 #[.string s] w (RetI0 w z) := by
  obtain ⟨d, e, hD, h0, hz⟩ := decI_parse hs
  rw [← hz]
  refine parseInt_c w s _ d e hD h0 ?_
  have := congrArg List.length e
  rw [size_list] at this
  split at this
  · simp at this; omega
  · omega

theorem small_iz (w : World) (v : Value) (z : Int) (hi : inI64 z) (hv : Im w v z) : Calls Tryz.prog 79 #[v] w fun e w' => e = .returned (.tuple #[.int .i64 z, .int .i64 0]) ∧ Below w.heap.size w w' :=
  (smallInt_c w v z hv).mono fun _ _ h => by
    obtain ⟨(⟨_, h⟩ | ⟨h, _⟩), hb⟩ := h
    · exact ⟨h, hb⟩
    · exact absurd hi h

/-- Three numbers laid into a row. -/
theorem RowI.new3 {w : World} {m1 m2 m3 : Bool} {A1 A2 A3 : Option Addr} {n1 c1 n2 c2 n3 c3 : Nat} {z1 z2 z3 : Int} {g : Nat} (hg : w.heap.size = g) (h1 : Im w (.agg #[.bool m1, .slice A1 n1 c1]) z1) (h2 : Im w (.agg #[.bool m2, .slice A2 n2 c2]) z2) (h3 : Im w (.agg #[.bool m3, .slice A3 n3 c3]) z3) :
    RowI (w.alloc (.cells #[.bool m1, .slice A1 n1 c1, .bool m2, .slice A2 n2 c2, .bool m3, .slice A3 n3 c3] 25)) g [z1, z2, z3] ∧ Below w.heap.size w (w.alloc (.cells #[.bool m1, .slice A1 n1 c1, .bool m2, .slice A2 n2 c2, .bool m3, .slice A3 n3 c3] 25)) := by
  subst hg
  have hb : Below w.heap.size w (w.alloc (.cells #[.bool m1, .slice A1 n1 c1, .bool m2, .slice A2 n2 c2, .bool m3, .slice A3 n3 c3] 25)) := (Below.refl _ w).alloc (Nat.le_refl _) _
  have hh := World.alloc_heap_new w (.cells #[.bool m1, .slice A1 n1 c1, .bool m2, .slice A2 n2 c2, .bool m3, .slice A3 n3 c3] 25)
  refine ⟨⟨by simp, fun k z hk => ?_⟩, hb⟩
  match k, hk with
  | 0, hk => injection hk with hk; subst hk; exact ⟨m1, A1, n1, c1, by rw [Lib.cell_of_heap hh]; rfl, by rw [Lib.cell_of_heap hh]; rfl, h1.below hb⟩
  | 1, hk => injection hk with hk; subst hk; exact ⟨m2, A2, n2, c2, by rw [Lib.cell_of_heap hh]; rfl, by rw [Lib.cell_of_heap hh]; rfl, h2.below hb⟩
  | 2, hk => injection hk with hk; subst hk; exact ⟨m3, A3, n3, c3, by rw [Lib.cell_of_heap hh]; rfl, by rw [Lib.cell_of_heap hh]; rfl, h3.below hb⟩

set_option maxRecDepth 100000 in
set_option maxHeartbeats 16000000 in
theorem counts3_c (w : World) (hT : Tab w) (hT10 : Tab10 w) : Calls Tryz.prog 14 #[] w fun e w' => e = .returned (.bool true) ∧ Below w.heap.size w w' := by
  have HT := Lib.hid (And.intro hT hT10)
  clear hT hT10
  have H0 := Lib.hid (VS.nil w)
  go_enter Tryz.func14, Tryz.ntmps14
  go_wp2_with fail
  refine (ofInt_c _ (-7) (by decide) (by decide)).mono ?_
  rintro e w1 ⟨va, rfl, hva, hb⟩
  have H1 := Lib.hid (H0.out.below hb)
  clear hb
  go_wp2_with fail
  refine (ofInt_c _ 2 (by decide) (by decide)).mono ?_
  rintro e w2 ⟨vb, rfl, hvb, hb⟩
  have hva := hva.below hb
  have H2 := Lib.hid (H1.out.below hb)
  clear hb
  obtain ⟨ma, Aa, ca, na, rfl, _, _⟩ := hva.cases
  obtain ⟨mb, Ab, cb, nb, rfl, _, _⟩ := hvb.cases
  have H3 := Lib.hid ((H2.out.put rfl hva).put (alloc_size _ _) hvb.box)
  clear hva hvb
  obtain ⟨a0, a1, _, _⟩ := (H3.out.var 1 rfl).1.cells
  obtain ⟨b0, b1, _, _⟩ := (H3.out.var 0 rfl).1.cells
  go_wp2_with fail
  refine (divInt_c _ _ _ (-7) 2 (H3.out.var 1 rfl).2 (H3.out.var 0 rfl).2 (lim_small (by decide)) (lim_small (by decide)) (by decide)).mono ?_
  rintro e w4 ⟨vq, vr, rfl, hvq, hvr, hb⟩
  clear a0 a1 b0 b1
  replace hvq : Im _ vq (-4) := hvq
  replace hvr : Im _ vr 1 := hvr
  have H4 := Lib.hid (H3.out.below hb)
  clear hb
  obtain ⟨mq, Aq, cq, nq, rfl, _, _⟩ := hvq.cases
  obtain ⟨mr, Ar, cr, nr, rfl, _, _⟩ := hvr.cases
  have H5 := Lib.hid ((H4.out.put rfl hvq).put (alloc_size _ _) hvr.box)
  clear hvq hvr
  obtain ⟨a0, a1, _, _⟩ := (H5.out.var 3 rfl).1.cells
  obtain ⟨b0, b1, _, _⟩ := (H5.out.var 2 rfl).1.cells
  go_wp2_with fail
  refine (addInt_c _ _ _ (-7) 2 (H5.out.var 3 rfl).2 (H5.out.var 2 rfl).2 (lim_small (by decide)) (lim_small (by decide)) (lim_small (by decide))).mono ?_
  rintro e w6 ⟨vs, rfl, hvs, hb⟩
  clear a0 a1 b0 b1
  replace hvs : Im _ vs (-5) := hvs
  have H6 := Lib.hid (H5.out.below hb)
  clear hb
  obtain ⟨ms, As, cs, ns, rfl, _, _⟩ := hvs.cases
  have H7 := Lib.hid (H6.out.put rfl hvs)
  clear hvs
  obtain ⟨a0, a1, _, _⟩ := (H7.out.var 4 rfl).1.cells
  obtain ⟨b0, b1, _, _⟩ := (H7.out.var 3 rfl).1.cells
  go_wp2_with fail
  refine (mulInt_c _ _ _ (-7) 2 (H7.out.var 4 rfl).2 (H7.out.var 3 rfl).2 (lim_small (by decide))).mono ?_
  rintro e w8 ⟨vp, rfl, hvp, hb⟩
  clear a0 a1 b0 b1
  replace hvp : Im _ vp (-14) := hvp
  have H8 := Lib.hid (H7.out.below hb)
  clear hb
  obtain ⟨mp, Ap, cp, np, rfl, _, _⟩ := hvp.cases
  have H9 := Lib.hid (H8.out.put rfl hvp)
  clear hvp
  obtain ⟨a0, a1, _, _⟩ := (H9.out.var 5 rfl).1.cells
  obtain ⟨b0, b1, _, _⟩ := (H9.out.var 4 rfl).1.cells
  go_wp2_with fail
  refine (subInt_c _ _ _ (-7) 2 (H9.out.var 5 rfl).2 (H9.out.var 4 rfl).2 (lim_small (by decide)) (lim_small (by decide)) (lim_small (by decide))).mono ?_
  rintro e w10 ⟨vd, rfl, hvd, hb⟩
  clear a0 a1 b0 b1
  replace hvd : Im _ vd (-9) := hvd
  have H10 := Lib.hid (H9.out.below hb)
  clear hb
  obtain ⟨md, Ad, cd, nd, rfl, _, _⟩ := hvd.cases
  have H11 := Lib.hid (H10.out.put rfl hvd)
  clear hvd
  go_wp2_with fail
  refine (parse_iz _ _ (-14) ⟨[49, 52], by decide, rfl⟩ (by decide)).mono ?_
  rintro e w12 ⟨vx, rfl, hvx, hb⟩
  have H12 := Lib.hid (H11.out.below hb)
  clear hb
  obtain ⟨mx, Ax, cx, nx, rfl, _, _⟩ := hvx.cases
  have H13 := Lib.hid (H12.out.put rfl hvx)
  clear hvx
  obtain ⟨a0, a1, _, _⟩ := (H13.out.var 7 rfl).1.cells
  go_wp2_with fail
  refine (leftInt_c _ _ (-7) 2 (H13.out.var 7 rfl).2 (by decide) (lim_small (by decide))).mono ?_
  rintro e w14 ⟨vl, rfl, hvl, hb⟩
  clear a0 a1
  replace hvl : Im _ vl (-28) := hvl
  have H14 := Lib.hid (H13.out.below hb)
  clear hb
  obtain ⟨ml, Al, cl, nl, rfl, _, _⟩ := hvl.cases
  have H15 := Lib.hid (H14.out.put rfl hvl)
  clear hvl
  obtain ⟨a0, a1, _, _⟩ := (H15.out.var 8 rfl).1.cells
  go_wp2_with fail
  refine (rightInt_c _ (HT.out.1.below H15.out.1) _ (-7) 1 (H15.out.var 8 rfl).2 (by decide) (lim_small (by decide))).mono ?_
  rintro e w16 ⟨vm, rfl, hvm, hb⟩
  clear a0 a1
  replace hvm : Im _ vm (-4) := hvm
  have H16 := Lib.hid (H15.out.below hb)
  clear hb
  obtain ⟨mm, Am, cm, nm, rfl, _, _⟩ := hvm.cases
  have H17 := Lib.hid (H16.out.put rfl hvm)
  clear hvm
  obtain ⟨a0, a1, _, _⟩ := (H17.out.var 9 rfl).1.cells
  obtain ⟨b0, b1, _, _⟩ := (H17.out.var 8 rfl).1.cells
  have HR := Lib.hid (RowI.new3 (alloc_size _ _) (H17.out.var 9 rfl).2 (H17.out.var 8 rfl).2 (H17.out.var 8 rfl).2)
  have H18 := Lib.hid (H17.out.below HR.out.2)
  have HS := Lib.hid (show ∀ k, k ≤ 3 → LimI (([-7, 2, 2] : List Int).take k).sum from fun k hk => by match k, hk with | 0, _ => exact lim_small (by decide) | 1, _ => exact lim_small (by decide) | 2, _ => exact lim_small (by decide) | 3, _ => exact lim_small (by decide))
  go_wp2_with fail
  refine (sumInt_c _ _ 3 [-7, 2, 2] HR.out.1 (by intro z hz; simp at hz; rcases hz with rfl | rfl <;> exact lim_small (by decide)) HS.out (by decide)).mono ?_
  rintro e w19 ⟨vt, rfl, hvt, hb⟩
  clear a0 a1 b0 b1
  replace hvt : Im _ vt (-3) := hvt
  have H19 := Lib.hid (H18.out.below hb)
  clear hb
  obtain ⟨mt, At, ct, nt, rfl, _, _⟩ := hvt.cases
  have H20 := Lib.hid (H19.out.put rfl hvt)
  clear hvt
  obtain ⟨q0, q1, _, _⟩ := (H20.out.var 8 rfl).1.cells
  go_wp2_with fail
  refine (small_iz _ _ (-4) ⟨by decide, by decide⟩ (H20.out.var 8 rfl).2).mono ?_
  rintro e w21 ⟨rfl, hb⟩
  clear q0 q1
  have H21 := Lib.hid (H20.out.below hb)
  clear hb
  obtain ⟨r0, r1, _, _⟩ := (H21.out.var 7 rfl).1.cells
  go_wp2_with fail
  refine (text_iz _ (HT.out.2.below H21.out.1) _ (1) ⟨#[49]⟩ ⟨[49], by decide, rfl⟩ (H21.out.var 7 rfl).2 (lim_small (by decide))).mono ?_
  rintro e w22 ⟨rfl, hb⟩
  clear r0 r1
  have H22 := Lib.hid (H21.out.below hb)
  clear hb
  obtain ⟨s0, s1, _, _⟩ := (H22.out.var 6 rfl).1.cells
  go_wp2_with fail
  refine (text_iz _ (HT.out.2.below H22.out.1) _ (-5) ⟨#[45, 53]⟩ ⟨[53], by decide, rfl⟩ (H22.out.var 6 rfl).2 (lim_small (by decide))).mono ?_
  rintro e w23 ⟨rfl, hb⟩
  clear s0 s1
  have H23 := Lib.hid (H22.out.below hb)
  clear hb
  obtain ⟨p0, p1, _, _⟩ := (H23.out.var 5 rfl).1.cells
  obtain ⟨x0, x1, _, _⟩ := (H23.out.var 3 rfl).1.cells
  go_wp2_with fail
  refine (same_c _ _ _ (-14) (-14) (H23.out.var 5 rfl).2 (H23.out.var 3 rfl).2).mono ?_
  rintro e w24 ⟨rfl, hb⟩
  clear p0 p1 x0 x1
  rw [decide_eq_true (rfl : (-14 : Int) = -14)]
  have H24 := Lib.hid (H23.out.below hb)
  clear hb
  obtain ⟨d0, d1, _, _⟩ := (H24.out.var 4 rfl).1.cells
  go_wp2_with fail
  refine (text_iz _ (HT.out.2.below H24.out.1) _ (-9) ⟨#[45, 57]⟩ ⟨[57], by decide, rfl⟩ (H24.out.var 4 rfl).2 (lim_small (by decide))).mono ?_
  rintro e w25 ⟨rfl, hb⟩
  clear d0 d1
  have H25 := Lib.hid (H24.out.below hb)
  clear hb
  obtain ⟨l0, l1, _, _⟩ := (H25.out.var 2 rfl).1.cells
  go_wp2_with fail
  refine (text_iz _ (HT.out.2.below H25.out.1) _ (-28) ⟨#[45, 50, 56]⟩ ⟨[50, 56], by decide, rfl⟩ (H25.out.var 2 rfl).2 (lim_small (by decide))).mono ?_
  rintro e w26 ⟨rfl, hb⟩
  clear l0 l1
  have H26 := Lib.hid (H25.out.below hb)
  clear hb
  obtain ⟨m0, m1, _, _⟩ := (H26.out.var 1 rfl).1.cells
  go_wp2_with fail
  refine (text_iz _ (HT.out.2.below H26.out.1) _ (-4) ⟨#[45, 52]⟩ ⟨[52], by decide, rfl⟩ (H26.out.var 1 rfl).2 (lim_small (by decide))).mono ?_
  rintro e w27 ⟨rfl, hb⟩
  clear m0 m1
  have H27 := Lib.hid (H26.out.below hb)
  clear hb
  obtain ⟨t0, t1, _, _⟩ := (H27.out.var 0 rfl).1.cells
  go_wp2_with fail
  refine (text_iz _ (HT.out.2.below H27.out.1) _ (-3) ⟨#[45, 51]⟩ ⟨[51], by decide, rfl⟩ (H27.out.var 0 rfl).2 (lim_small (by decide))).mono ?_
  rintro e w28 ⟨rfl, hb⟩
  clear t0 t1
  have H28 := Lib.hid (H27.out.below hb)
  clear hb
  obtain ⟨a0, a1, _, _⟩ := (H28.out.var 10 rfl).1.cells
  go_wp2_with fail
  refine (sign_c _ _ (-7) (H28.out.var 10 rfl).2).mono ?_
  rintro e w29 ⟨rfl, hb⟩
  clear a0 a1
  rw [show sign3 (-7) = -1 from rfl]
  have H29 := Lib.hid (H28.out.below hb)
  clear hb
  obtain ⟨a0, a1, _, _⟩ := (H29.out.var 10 rfl).1.cells
  obtain ⟨b0, b1, _, _⟩ := (H29.out.var 9 rfl).1.cells
  go_wp2_with fail
  refine (cmpInt_c _ _ _ (-7) 2 (H29.out.var 10 rfl).2 (H29.out.var 9 rfl).2).mono ?_
  rintro e w30 ⟨rfl, hb⟩
  clear a0 a1 b0 b1
  rw [show ordI (-7) 2 = -1 from rfl]
  have H30 := Lib.hid (H29.out.below hb)
  clear hb
  obtain ⟨a0, a1, _, _⟩ := (H30.out.var 10 rfl).1.cells
  go_wp2_with fail
  refine (negInt_c _ _ (-7) (H30.out.var 10 rfl).2).mono ?_
  rintro e w31 ⟨v1, rfl, hv1, hb⟩
  clear a0 a1
  have HV1 := Lib.hid (show Im _ v1 7 from hv1)
  clear hv1
  have H31 := Lib.hid (H30.out.below hb)
  clear hb
  go_wp2_with fail
  refine (text_iz _ (HT.out.2.below H31.out.1) _ (7) ⟨#[55]⟩ ⟨[55], by decide, rfl⟩ HV1.out (lim_small (by decide))).mono ?_
  rintro e w32 ⟨rfl, hb⟩
  have H32 := Lib.hid (H31.out.below hb)
  clear hb
  obtain ⟨a0, a1, _, _⟩ := (H32.out.var 10 rfl).1.cells
  go_wp2_with fail
  refine (absInt_c _ _ (-7) (H32.out.var 10 rfl).2).mono ?_
  rintro e w33 ⟨v2, rfl, hv2, hb⟩
  clear a0 a1
  have HV2 := Lib.hid (show Im _ v2 7 from hv2)
  clear hv2
  have H33 := Lib.hid (H32.out.below hb)
  clear hb
  go_wp2_with fail
  refine (text_iz _ (HT.out.2.below H33.out.1) _ (7) ⟨#[55]⟩ ⟨[55], by decide, rfl⟩ HV2.out (lim_small (by decide))).mono ?_
  rintro e w34 ⟨rfl, hb⟩
  have H34 := Lib.hid (H33.out.below hb)
  clear hb
  go_wp2_with fail
  refine (of_n _ 5 (by omega)).mono ?_
  rintro e w35 ⟨v3, rfl, hv3, hb⟩
  have HV3 := Lib.hid hv3
  clear hv3
  have H35 := Lib.hid (H34.out.below hb)
  clear hb
  go_wp2_with fail
  refine (natInt_c _ v3 5 HV3.out).mono ?_
  rintro e w36 ⟨v4, rfl, hv4, hb⟩
  have HV4 := Lib.hid (show Im _ v4 5 from hv4)
  clear hv4
  have H36 := Lib.hid (H35.out.below hb)
  clear hb
  go_wp2_with fail
  refine (text_iz _ (HT.out.2.below H36.out.1) _ (5) ⟨#[53]⟩ ⟨[53], by decide, rfl⟩ HV4.out (lim_small (by decide))).mono ?_
  rintro e w37 ⟨rfl, hb⟩
  have H37 := Lib.hid (H36.out.below hb)
  clear hb
  go_wp2_with fail
  refine (checkInt_c _ true none 0 0 [] (Rd.nil _ _ _)).mono ?_
  rintro e w38 ⟨rfl, hb⟩
  rw [show checkI true [] = 2 from rfl]
  have H38 := Lib.hid (H37.out.below hb)
  clear hb
  go_wp2_with fail
  go_ret
  exact ⟨rfl, H38.out.1⟩
end Go.Proofs.YtphpaejgcahgbaaGreatDoor
