/- SpanTight. -/
import Derived.Test.YtnnnmhjcnkipbaaGreatDoorSpTi0
import Derived.Test.YtnnnmhjcnkipbaaGreatDoorSpTi1
import Derived.Test.YtnnnmhjcnkipbaaGreatDoorSpTi2
import Derived.Test.YtnnnmhjcnkipbaaGreatDoorSpTi3
namespace Go.Proofs.YtnnnmhjcnkipbaaGreatDoor
open Go Go.RowKit Go.Shelf AM
theorem lo_not {p r : Rat} (h : r ≤ p) (h0 : ordQ p r ≠ 0) : ordQ p r = 1 := by
  rcases rat_tri p r with k | k | k
  · exfalso; grind
  · exact absurd (ordQ_eqI k) h0
  · exact ordQ_gtI k
theorem hi_not {p r : Rat} (h : p ≤ r) (h0 : ordQ p r ≠ 0) : ordQ p r = -1 := by
  rcases rat_tri p r with k | k | k
  · exact ordQ_ltI k
  · exact absurd (ordQ_eqI k) h0
  · exfalso; grind
theorem lo_last {x y u v : Dy} (n0 : ordQ (dv (mulD x u)) (dv (loM x y u v)) ≠ 0) (n1 : ordQ (dv (mulD x v)) (dv (loM x y u v)) ≠ 0) (n2 : ordQ (dv (mulD y u)) (dv (loM x y u v)) ≠ 0) : ordQ (dv (mulD y v)) (dv (loM x y u v)) = 0 := by
  unfold loM at *
  rcases lo4_or (mulD x u) (mulD x v) (mulD y u) (mulD y v) with h | h | h | h
  · exact absurd (ordQ_eqI (by rw [h])) n0
  · exact absurd (ordQ_eqI (by rw [h])) n1
  · exact absurd (ordQ_eqI (by rw [h])) n2
  · exact ordQ_eqI (by rw [h])
theorem hi_last {x y u v : Dy} (n0 : ordQ (dv (mulD x u)) (dv (hiM x y u v)) ≠ 0) (n1 : ordQ (dv (mulD x v)) (dv (hiM x y u v)) ≠ 0) (n2 : ordQ (dv (mulD y u)) (dv (hiM x y u v)) ≠ 0) : ordQ (dv (mulD y v)) (dv (hiM x y u v)) = 0 := by
  unfold hiM at *
  rcases hi4_or (mulD x u) (mulD x v) (mulD y u) (mulD y v) with h | h | h | h
  · exact absurd (ordQ_eqI (by rw [h])) n0
  · exact absurd (ordQ_eqI (by rw [h])) n1
  · exact absurd (ordQ_eqI (by rw [h])) n2
  · exact ordQ_eqI (by rw [h])

theorem SpanTight_fit {x y u v : Dy} (ha : FitS x y) (hb : FitS u v) : FitsP 4 [spS x y, spS u v] [] (.one (boolS true)) := by
  have L := lo4_dv (mulD x u) (mulD x v) (mulD y u) (mulD y v)
  have H := hi4_dv (mulD x u) (mulD x v) (mulD y u) (mulD y v)
  by_cases l0 : ordQ (dv (mulD x u)) (dv (loM x y u v)) = 0
  · by_cases h0 : ordQ (dv (mulD x u)) (dv (hiM x y u v)) = 0
    · exact SpanTight_00 ha hb l0 h0
    · have m0 := h0
      have h0 := hi_not H.1 m0
      by_cases h1 : ordQ (dv (mulD x v)) (dv (hiM x y u v)) = 0
      · exact SpanTight_01 ha hb l0 h0 h1
      · have m1 := h1
        have h1 := hi_not H.2.1 m1
        by_cases h2 : ordQ (dv (mulD y u)) (dv (hiM x y u v)) = 0
        · exact SpanTight_02 ha hb l0 h0 h1 h2
        · have m2 := h2
          have h2 := hi_not H.2.2.1 m2
          have h3 : ordQ (dv (mulD y v)) (dv (hiM x y u v)) = 0 := hi_last m0 m1 m2
          exact SpanTight_03 ha hb l0 h0 h1 h2 h3
  · have n0 := l0
    have l0 := lo_not L.1 n0
    by_cases l1 : ordQ (dv (mulD x v)) (dv (loM x y u v)) = 0
    · by_cases h0 : ordQ (dv (mulD x u)) (dv (hiM x y u v)) = 0
      · exact SpanTight_10 ha hb l0 h0 l1
      · have m0 := h0
        have h0 := hi_not H.1 m0
        by_cases h1 : ordQ (dv (mulD x v)) (dv (hiM x y u v)) = 0
        · exact SpanTight_11 ha hb l0 h0 l1 h1
        · have m1 := h1
          have h1 := hi_not H.2.1 m1
          by_cases h2 : ordQ (dv (mulD y u)) (dv (hiM x y u v)) = 0
          · exact SpanTight_12 ha hb l0 h0 l1 h1 h2
          · have m2 := h2
            have h2 := hi_not H.2.2.1 m2
            have h3 : ordQ (dv (mulD y v)) (dv (hiM x y u v)) = 0 := hi_last m0 m1 m2
            exact SpanTight_13 ha hb l0 h0 l1 h1 h2 h3
    · have n1 := l1
      have l1 := lo_not L.2.1 n1
      by_cases l2 : ordQ (dv (mulD y u)) (dv (loM x y u v)) = 0
      · by_cases h0 : ordQ (dv (mulD x u)) (dv (hiM x y u v)) = 0
        · exact SpanTight_20 ha hb l0 h0 l1 l2
        · have m0 := h0
          have h0 := hi_not H.1 m0
          by_cases h1 : ordQ (dv (mulD x v)) (dv (hiM x y u v)) = 0
          · exact SpanTight_21 ha hb l0 h0 l1 h1 l2
          · have m1 := h1
            have h1 := hi_not H.2.1 m1
            by_cases h2 : ordQ (dv (mulD y u)) (dv (hiM x y u v)) = 0
            · exact SpanTight_22 ha hb l0 h0 l1 h1 l2 h2
            · have m2 := h2
              have h2 := hi_not H.2.2.1 m2
              have h3 : ordQ (dv (mulD y v)) (dv (hiM x y u v)) = 0 := hi_last m0 m1 m2
              exact SpanTight_23 ha hb l0 h0 l1 h1 l2 h2 h3
      · have n2 := l2
        have l2 := lo_not L.2.2.1 n2
        have l3 : ordQ (dv (mulD y v)) (dv (loM x y u v)) = 0 := lo_last n0 n1 n2
        by_cases h0 : ordQ (dv (mulD x u)) (dv (hiM x y u v)) = 0
        · exact SpanTight_30 ha hb l0 h0 l1 l2 l3
        · have m0 := h0
          have h0 := hi_not H.1 m0
          by_cases h1 : ordQ (dv (mulD x v)) (dv (hiM x y u v)) = 0
          · exact SpanTight_31 ha hb l0 h0 l1 h1 l2 l3
          · have m1 := h1
            have h1 := hi_not H.2.1 m1
            by_cases h2 : ordQ (dv (mulD y u)) (dv (hiM x y u v)) = 0
            · exact SpanTight_32 ha hb l0 h0 l1 h1 l2 h2 l3
            · have m2 := h2
              have h2 := hi_not H.2.2.1 m2
              have h3 : ordQ (dv (mulD y v)) (dv (hiM x y u v)) = 0 := hi_last m0 m1 m2
              exact SpanTight_33 ha hb l0 h0 l1 h1 l2 h2 l3 h3

set_option maxRecDepth 100000 in
theorem SpanTight_unfit (m0 : Bool) (g0 : Ent) (x0 : Int) (n0 : Bool) (h0 : Ent) (y0 : Int) (m1 : Bool) (g1 : Ent) (x1 : Int) (n1 : Bool) (h1 : Ent) (y1 : Int) (hu : ∀ (z : Nat) (o : Bool), FitsP 15 [Sv.cel (Cv.row z 0 2 2)] [(z, ⟨29, [.raw (.bool m0), .ent g0, .raw (.int .i64 x0), .raw (.bool n0), .ent h0, .raw (.int .i64 y0), .raw (.bool m1), .ent g1, .raw (.int .i64 x1), .raw (.bool n1), .ent h1, .raw (.int .i64 y1)], o⟩)] (.one (boolS false))) : FitsP 4 [.agg [.raw (.bool m0), .ent g0, .raw (.int .i64 x0), .raw (.bool n0), .ent h0, .raw (.int .i64 y0)], .agg [.raw (.bool m1), .ent g1, .raw (.int .i64 x1), .raw (.bool n1), .ent h1, .raw (.int .i64 y1)]] [] (.one (boolS true)) := by
  have hT : AllOk Tryz.prog Glob [
    Tr.call 14 [] [] (Av.one (Sv.cel (Cv.raw (Value.bool true)))),
    Tr.call 15 [Sv.cel (Cv.row (nat_lit 7) (nat_lit 0) (nat_lit 2) (nat_lit 2))] [(nat_lit 7, { t := 29, cs := [Cv.raw (Value.bool m0), Cv.ent g0, Cv.raw (Value.int IntKind.i64 x0), Cv.raw (Value.bool n0), Cv.ent h0, Cv.raw (Value.int IntKind.i64 y0), Cv.raw (Value.bool m1), Cv.ent g1, Cv.raw (Value.int IntKind.i64 x1), Cv.raw (Value.bool n1), Cv.ent h1, Cv.raw (Value.int IntKind.i64 y1)], own := true })] (Av.one (Sv.cel (Cv.raw (Value.bool false))))] := ⟨
    between_f,
    hu _ _, trivial⟩
  exact fits_of_trace (n := 300) (k0 := 0) hT Tryz.func4 (by kernel_rfl) (by kernel_rfl) (by kernel_rfl)

theorem SpanTight_un0 {m : Bool} {xs : List Nat} {e : Int} {m' : Bool} {ys : List Nat} {e' : Int} (hu : UnfitS m xs e m' ys e') (m1 : Bool) (a1 : List Nat) (e1 : Int) (n1 : Bool) (b1 : List Nat) (f1 : Int) : FitsP 4 [spA m xs e m' ys e', spA m1 a1 e1 n1 b1 f1] [] (.one (boolS true)) := SpanTight_unfit _ _ _ _ _ _ _ _ _ _ _ _ fun z o => sunfit2_0 hu m1 a1 e1 n1 b1 f1 z o

theorem SpanTight_un1 {x0 y0 : Dy} (h0 : FitS x0 y0) {m : Bool} {xs : List Nat} {e : Int} {m' : Bool} {ys : List Nat} {e' : Int} (hu : UnfitS m xs e m' ys e') : FitsP 4 [spS x0 y0, spA m xs e m' ys e'] [] (.one (boolS true)) := SpanTight_unfit _ _ _ _ _ _ _ _ _ _ _ _ fun z o => sunfit2_1 h0 hu z o
end Go.Proofs.YtnnnmhjcnkipbaaGreatDoor
