/- SpanSets. -/
import Derived.Test.YtnnnmhjcnkipbaaGreatDoorSpRow
import Derived.Test.YtnnnmhjcnkipbaaGreatDoorSpFit3
namespace Go.Proofs.YtnnnmhjcnkipbaaGreatDoor
open Go Go.RowKit Go.Shelf AM
section
variable {x y u v p : Dy}
def Hs (x y p : Dy) : Prop := dv x ≤ dv p ∧ dv p ≤ dv y
instance : Decidable (Hs x y p) := inferInstanceAs (Decidable (_ ∧ _))
theorem hsHull (h : Hs x y p ∨ Hs u v p) : decide (dv (minD x u) ≤ dv p ∧ dv p ≤ dv (maxD y v)) = true := by
  have h1 := minD_dv x u
  have h2 := maxD_dv y v
  unfold Hs at h
  exact decide_eq_true (by grind)
theorem hsMeet : (dv (maxD x u) ≤ dv p ∧ dv p ≤ dv (minD y v)) ↔ Hs x y p ∧ Hs u v p := by
  have h1 := maxD_dv x u
  have h2 := minD_dv y v
  unfold Hs
  constructor
  · grind
  · rcases h1.2.2 with e | e <;> rcases h2.2.2 with e' | e' <;> rw [e, e'] <;> grind
theorem hsNeg : (dv (negD y) ≤ dv (negD p) ∧ dv (negD p) ≤ dv (negD x)) ↔ Hs x y p := by
  rw [negD_dv, negD_dv, negD_dv]; unfold Hs; grind
theorem meetNo (h : dv (minD y v) < dv (maxD x u)) : ¬ (Hs x y p ∧ Hs u v p) := fun k => by
  have := hsMeet.2 k
  grind
theorem meetOr (h1 : dv x ≤ dv y) (h2 : dv u ≤ dv v) (h : dv (minD y v) < dv (maxD x u)) (k : ¬ dv y < dv u) : dv v < dv x := by
  rcases (maxD_dv x u).2.2 with e | e <;> rcases (minD_dv y v).2.2 with e' | e' <;> rw [e, e'] at h <;> grind
theorem negH (c : Bool) (hc : decide (Hs x y p) = c) : decide (dv (negD y) ≤ dv (negD p) ∧ dv (negD p) ≤ dv (negD x)) = c := by
  rw [← hc]; exact decide_eq_decide.2 hsNeg
theorem meetH (c : Bool) (hc : decide (Hs x y p ∧ Hs u v p) = c) : decide (dv (maxD x u) ≤ dv p ∧ dv p ≤ dv (minD y v)) = c := by
  rw [← hc]; exact decide_eq_decide.2 hsMeet
end

set_option maxRecDepth 100000 in
theorem SpanSets_m111 {x y u v p : Dy} (ha : FitS x y) (hb : FitS u v) (hp : FitE p) (k1 : decide (Hs x y p) = true) (k2 : decide (Hs u v p) = true) (hm : ¬ dv (minD y v) < dv (maxD x u)) : FitsP 5 [spS x y, spS u v, dS p] [] (.one (boolS true)) := by
  have hT : AllOk Tryz.prog Glob [
    Tr.call 14 [] [] (Av.one (boolS true)),
    Tr.call 32 [dS p] [] (Av.one (spS p p)),
    Tr.call 15 [Sv.cel (Cv.row (nat_lit 10) (nat_lit 0) (nat_lit 3) (nat_lit 3))] [(nat_lit 10, { t := 29, cs := [Cv.raw (Value.bool (decide (Dy.m x < (0 : Int)))), Cv.ent (nat (Int.natAbs (Dy.m x))), Cv.raw (Value.int IntKind.i64 (Dy.e x)), Cv.raw (Value.bool (decide (Dy.m y < (0 : Int)))), Cv.ent (nat (Int.natAbs (Dy.m y))), Cv.raw (Value.int IntKind.i64 (Dy.e y)), Cv.raw (Value.bool (decide (Dy.m u < (0 : Int)))), Cv.ent (nat (Int.natAbs (Dy.m u))), Cv.raw (Value.int IntKind.i64 (Dy.e u)), Cv.raw (Value.bool (decide (Dy.m v < (0 : Int)))), Cv.ent (nat (Int.natAbs (Dy.m v))), Cv.raw (Value.int IntKind.i64 (Dy.e v)), Cv.raw (Value.bool (decide (Dy.m p < (0 : Int)))), Cv.ent (nat (Int.natAbs (Dy.m p))), Cv.raw (Value.int IntKind.i64 (Dy.e p)), Cv.raw (Value.bool (decide (Dy.m p < (0 : Int)))), Cv.ent (nat (Int.natAbs (Dy.m p))), Cv.raw (Value.int IntKind.i64 (Dy.e p))], own := true })] (Av.one (boolS true)),
    Tr.call 33 [spS x y, spS u v] [] (Av.one (spS (minD x u) (maxD y v))),
    Tr.call 34 [spS x y, spS u v] [] (Av.tup [spS (maxD x u) (minD y v), ok0]),
    Tr.call 35 [spS (minD x u) (maxD y v), spS x y] [] (Av.one (boolS true)),
    Tr.call 35 [spS (minD x u) (maxD y v), spS u v] [] (Av.one (boolS true)),
    Tr.call 36 [spS x y] [] (Av.one (spS (negD y) (negD x))),
    Tr.call 37 [dS p] [] (Av.one (dS (negD p))),
    Tr.call 31 [spS (negD y) (negD x), dS (negD p)] [] (Av.one (boolS true)),
    Tr.call 31 [spS x y, dS p] [] (Av.one (boolS true)),
    Tr.call 31 [spS x y, dS p] [] (Av.one (boolS true)),
    Tr.call 31 [spS (minD x u) (maxD y v), dS p] [] (Av.one (boolS true)),
    Tr.call 31 [spS x y, dS p] [] (Av.one (boolS true)),
    Tr.call 31 [spS u v, dS p] [] (Av.one (boolS true)),
    Tr.call 31 [spS (maxD x u) (minD y v), dS p] [] (Av.one (boolS true)),
    Tr.call 35 [spS x y, spS (maxD x u) (minD y v)] [] (Av.one (boolS true)),
    Tr.call 35 [spS u v, spS (maxD x u) (minD y v)] [] (Av.one (boolS true))] := ⟨
    between_f,
    pointS_f,
    sfitThree_f ha hb ⟨hp, hp, Rat.le_refl⟩ _ _,
    hullS_f ha.a.bd ha.b.bd hb.a.bd hb.b.bd (by omega),
    meetS_f ha.a.bd ha.b.bd hb.a.bd hb.b.bd (by omega) hm,
    holdsYes_f (ha.a.bd.minS hb.a.bd) (ha.b.bd.maxS hb.b.bd) ha.a.bd ha.b.bd (by omega) (minD_dv x u).1 (maxD_dv y v).1,
    holdsYes_f (ha.a.bd.minS hb.a.bd) (ha.b.bd.maxS hb.b.bd) hb.a.bd hb.b.bd (by omega) (minD_dv x u).2.1 (maxD_dv y v).2.1,
    negS_f,
    negD_f,
    hasS_is ha.b.bd.neg ha.a.bd.neg hp.bd.neg (by omega) (negH _ k1),
    hasS_is ha.a.bd ha.b.bd hp.bd (by omega) k1,
    hasS_is ha.a.bd ha.b.bd hp.bd (by omega) k1,
    hasS_is (ha.a.bd.minS hb.a.bd) (ha.b.bd.maxS hb.b.bd) hp.bd (by omega) (hsHull (.inl (of_decide_eq_true k1))),
    hasS_is ha.a.bd ha.b.bd hp.bd (by omega) k1,
    hasS_is hb.a.bd hb.b.bd hp.bd (by omega) k2,
    hasS_is (ha.a.bd.maxS hb.a.bd) (ha.b.bd.minS hb.b.bd) hp.bd (by omega) (meetH _ (decide_eq_true ⟨of_decide_eq_true k1, of_decide_eq_true k2⟩)),
    holdsYes_f ha.a.bd ha.b.bd (ha.a.bd.maxS hb.a.bd) (ha.b.bd.minS hb.b.bd) (by omega) (maxD_dv x u).1 (minD_dv y v).1,
    holdsYes_f hb.a.bd hb.b.bd (ha.a.bd.maxS hb.a.bd) (ha.b.bd.minS hb.b.bd) (by omega) (maxD_dv x u).2.1 (minD_dv y v).2.1, trivial⟩
  exact fits_of_trace (n := 600) (k0 := 0) hT Tryz.func5 (by kernel_rfl) (by kernel_rfl) (by kernel_rfl)

set_option maxRecDepth 100000 in
theorem SpanSets_m101 {x y u v p : Dy} (ha : FitS x y) (hb : FitS u v) (hp : FitE p) (k1 : decide (Hs x y p) = true) (k2 : decide (Hs u v p) = false) (hm : ¬ dv (minD y v) < dv (maxD x u)) : FitsP 5 [spS x y, spS u v, dS p] [] (.one (boolS true)) := by
  have hT : AllOk Tryz.prog Glob [
    Tr.call 14 [] [] (Av.one (boolS true)),
    Tr.call 32 [dS p] [] (Av.one (spS p p)),
    Tr.call 15 [Sv.cel (Cv.row (nat_lit 10) (nat_lit 0) (nat_lit 3) (nat_lit 3))] [(nat_lit 10, { t := 29, cs := [Cv.raw (Value.bool (decide (Dy.m x < (0 : Int)))), Cv.ent (nat (Int.natAbs (Dy.m x))), Cv.raw (Value.int IntKind.i64 (Dy.e x)), Cv.raw (Value.bool (decide (Dy.m y < (0 : Int)))), Cv.ent (nat (Int.natAbs (Dy.m y))), Cv.raw (Value.int IntKind.i64 (Dy.e y)), Cv.raw (Value.bool (decide (Dy.m u < (0 : Int)))), Cv.ent (nat (Int.natAbs (Dy.m u))), Cv.raw (Value.int IntKind.i64 (Dy.e u)), Cv.raw (Value.bool (decide (Dy.m v < (0 : Int)))), Cv.ent (nat (Int.natAbs (Dy.m v))), Cv.raw (Value.int IntKind.i64 (Dy.e v)), Cv.raw (Value.bool (decide (Dy.m p < (0 : Int)))), Cv.ent (nat (Int.natAbs (Dy.m p))), Cv.raw (Value.int IntKind.i64 (Dy.e p)), Cv.raw (Value.bool (decide (Dy.m p < (0 : Int)))), Cv.ent (nat (Int.natAbs (Dy.m p))), Cv.raw (Value.int IntKind.i64 (Dy.e p))], own := true })] (Av.one (boolS true)),
    Tr.call 33 [spS x y, spS u v] [] (Av.one (spS (minD x u) (maxD y v))),
    Tr.call 34 [spS x y, spS u v] [] (Av.tup [spS (maxD x u) (minD y v), ok0]),
    Tr.call 35 [spS (minD x u) (maxD y v), spS x y] [] (Av.one (boolS true)),
    Tr.call 35 [spS (minD x u) (maxD y v), spS u v] [] (Av.one (boolS true)),
    Tr.call 36 [spS x y] [] (Av.one (spS (negD y) (negD x))),
    Tr.call 37 [dS p] [] (Av.one (dS (negD p))),
    Tr.call 31 [spS (negD y) (negD x), dS (negD p)] [] (Av.one (boolS true)),
    Tr.call 31 [spS x y, dS p] [] (Av.one (boolS true)),
    Tr.call 31 [spS x y, dS p] [] (Av.one (boolS true)),
    Tr.call 31 [spS (minD x u) (maxD y v), dS p] [] (Av.one (boolS true)),
    Tr.call 31 [spS x y, dS p] [] (Av.one (boolS true)),
    Tr.call 31 [spS u v, dS p] [] (Av.one (boolS false)),
    Tr.call 31 [spS (maxD x u) (minD y v), dS p] [] (Av.one (boolS false)),
    Tr.call 35 [spS x y, spS (maxD x u) (minD y v)] [] (Av.one (boolS true)),
    Tr.call 35 [spS u v, spS (maxD x u) (minD y v)] [] (Av.one (boolS true))] := ⟨
    between_f,
    pointS_f,
    sfitThree_f ha hb ⟨hp, hp, Rat.le_refl⟩ _ _,
    hullS_f ha.a.bd ha.b.bd hb.a.bd hb.b.bd (by omega),
    meetS_f ha.a.bd ha.b.bd hb.a.bd hb.b.bd (by omega) hm,
    holdsYes_f (ha.a.bd.minS hb.a.bd) (ha.b.bd.maxS hb.b.bd) ha.a.bd ha.b.bd (by omega) (minD_dv x u).1 (maxD_dv y v).1,
    holdsYes_f (ha.a.bd.minS hb.a.bd) (ha.b.bd.maxS hb.b.bd) hb.a.bd hb.b.bd (by omega) (minD_dv x u).2.1 (maxD_dv y v).2.1,
    negS_f,
    negD_f,
    hasS_is ha.b.bd.neg ha.a.bd.neg hp.bd.neg (by omega) (negH _ k1),
    hasS_is ha.a.bd ha.b.bd hp.bd (by omega) k1,
    hasS_is ha.a.bd ha.b.bd hp.bd (by omega) k1,
    hasS_is (ha.a.bd.minS hb.a.bd) (ha.b.bd.maxS hb.b.bd) hp.bd (by omega) (hsHull (.inl (of_decide_eq_true k1))),
    hasS_is ha.a.bd ha.b.bd hp.bd (by omega) k1,
    hasS_is hb.a.bd hb.b.bd hp.bd (by omega) k2,
    hasS_is (ha.a.bd.maxS hb.a.bd) (ha.b.bd.minS hb.b.bd) hp.bd (by omega) (meetH _ (decide_eq_false fun q => of_decide_eq_false k2 q.2)),
    holdsYes_f ha.a.bd ha.b.bd (ha.a.bd.maxS hb.a.bd) (ha.b.bd.minS hb.b.bd) (by omega) (maxD_dv x u).1 (minD_dv y v).1,
    holdsYes_f hb.a.bd hb.b.bd (ha.a.bd.maxS hb.a.bd) (ha.b.bd.minS hb.b.bd) (by omega) (maxD_dv x u).2.1 (minD_dv y v).2.1, trivial⟩
  exact fits_of_trace (n := 600) (k0 := 0) hT Tryz.func5 (by kernel_rfl) (by kernel_rfl) (by kernel_rfl)

set_option maxRecDepth 100000 in
theorem SpanSets_m011 {x y u v p : Dy} (ha : FitS x y) (hb : FitS u v) (hp : FitE p) (k1 : decide (Hs x y p) = false) (k2 : decide (Hs u v p) = true) (hm : ¬ dv (minD y v) < dv (maxD x u)) : FitsP 5 [spS x y, spS u v, dS p] [] (.one (boolS true)) := by
  have hT : AllOk Tryz.prog Glob [
    Tr.call 14 [] [] (Av.one (boolS true)),
    Tr.call 32 [dS p] [] (Av.one (spS p p)),
    Tr.call 15 [Sv.cel (Cv.row (nat_lit 10) (nat_lit 0) (nat_lit 3) (nat_lit 3))] [(nat_lit 10, { t := 29, cs := [Cv.raw (Value.bool (decide (Dy.m x < (0 : Int)))), Cv.ent (nat (Int.natAbs (Dy.m x))), Cv.raw (Value.int IntKind.i64 (Dy.e x)), Cv.raw (Value.bool (decide (Dy.m y < (0 : Int)))), Cv.ent (nat (Int.natAbs (Dy.m y))), Cv.raw (Value.int IntKind.i64 (Dy.e y)), Cv.raw (Value.bool (decide (Dy.m u < (0 : Int)))), Cv.ent (nat (Int.natAbs (Dy.m u))), Cv.raw (Value.int IntKind.i64 (Dy.e u)), Cv.raw (Value.bool (decide (Dy.m v < (0 : Int)))), Cv.ent (nat (Int.natAbs (Dy.m v))), Cv.raw (Value.int IntKind.i64 (Dy.e v)), Cv.raw (Value.bool (decide (Dy.m p < (0 : Int)))), Cv.ent (nat (Int.natAbs (Dy.m p))), Cv.raw (Value.int IntKind.i64 (Dy.e p)), Cv.raw (Value.bool (decide (Dy.m p < (0 : Int)))), Cv.ent (nat (Int.natAbs (Dy.m p))), Cv.raw (Value.int IntKind.i64 (Dy.e p))], own := true })] (Av.one (boolS true)),
    Tr.call 33 [spS x y, spS u v] [] (Av.one (spS (minD x u) (maxD y v))),
    Tr.call 34 [spS x y, spS u v] [] (Av.tup [spS (maxD x u) (minD y v), ok0]),
    Tr.call 35 [spS (minD x u) (maxD y v), spS x y] [] (Av.one (boolS true)),
    Tr.call 35 [spS (minD x u) (maxD y v), spS u v] [] (Av.one (boolS true)),
    Tr.call 36 [spS x y] [] (Av.one (spS (negD y) (negD x))),
    Tr.call 37 [dS p] [] (Av.one (dS (negD p))),
    Tr.call 31 [spS (negD y) (negD x), dS (negD p)] [] (Av.one (boolS false)),
    Tr.call 31 [spS x y, dS p] [] (Av.one (boolS false)),
    Tr.call 31 [spS x y, dS p] [] (Av.one (boolS false)),
    Tr.call 31 [spS u v, dS p] [] (Av.one (boolS true)),
    Tr.call 31 [spS (minD x u) (maxD y v), dS p] [] (Av.one (boolS true)),
    Tr.call 31 [spS x y, dS p] [] (Av.one (boolS false)),
    Tr.call 31 [spS (maxD x u) (minD y v), dS p] [] (Av.one (boolS false)),
    Tr.call 35 [spS x y, spS (maxD x u) (minD y v)] [] (Av.one (boolS true)),
    Tr.call 35 [spS u v, spS (maxD x u) (minD y v)] [] (Av.one (boolS true))] := ⟨
    between_f,
    pointS_f,
    sfitThree_f ha hb ⟨hp, hp, Rat.le_refl⟩ _ _,
    hullS_f ha.a.bd ha.b.bd hb.a.bd hb.b.bd (by omega),
    meetS_f ha.a.bd ha.b.bd hb.a.bd hb.b.bd (by omega) hm,
    holdsYes_f (ha.a.bd.minS hb.a.bd) (ha.b.bd.maxS hb.b.bd) ha.a.bd ha.b.bd (by omega) (minD_dv x u).1 (maxD_dv y v).1,
    holdsYes_f (ha.a.bd.minS hb.a.bd) (ha.b.bd.maxS hb.b.bd) hb.a.bd hb.b.bd (by omega) (minD_dv x u).2.1 (maxD_dv y v).2.1,
    negS_f,
    negD_f,
    hasS_is ha.b.bd.neg ha.a.bd.neg hp.bd.neg (by omega) (negH _ k1),
    hasS_is ha.a.bd ha.b.bd hp.bd (by omega) k1,
    hasS_is ha.a.bd ha.b.bd hp.bd (by omega) k1,
    hasS_is hb.a.bd hb.b.bd hp.bd (by omega) k2,
    hasS_is (ha.a.bd.minS hb.a.bd) (ha.b.bd.maxS hb.b.bd) hp.bd (by omega) (hsHull (.inr (of_decide_eq_true k2))),
    hasS_is ha.a.bd ha.b.bd hp.bd (by omega) k1,
    hasS_is (ha.a.bd.maxS hb.a.bd) (ha.b.bd.minS hb.b.bd) hp.bd (by omega) (meetH _ (decide_eq_false fun q => of_decide_eq_false k1 q.1)),
    holdsYes_f ha.a.bd ha.b.bd (ha.a.bd.maxS hb.a.bd) (ha.b.bd.minS hb.b.bd) (by omega) (maxD_dv x u).1 (minD_dv y v).1,
    holdsYes_f hb.a.bd hb.b.bd (ha.a.bd.maxS hb.a.bd) (ha.b.bd.minS hb.b.bd) (by omega) (maxD_dv x u).2.1 (minD_dv y v).2.1, trivial⟩
  exact fits_of_trace (n := 600) (k0 := 0) hT Tryz.func5 (by kernel_rfl) (by kernel_rfl) (by kernel_rfl)

set_option maxRecDepth 100000 in
theorem SpanSets_m001 {x y u v p : Dy} (ha : FitS x y) (hb : FitS u v) (hp : FitE p) (k1 : decide (Hs x y p) = false) (k2 : decide (Hs u v p) = false) (hm : ¬ dv (minD y v) < dv (maxD x u)) : FitsP 5 [spS x y, spS u v, dS p] [] (.one (boolS true)) := by
  have hT : AllOk Tryz.prog Glob [
    Tr.call 14 [] [] (Av.one (boolS true)),
    Tr.call 32 [dS p] [] (Av.one (spS p p)),
    Tr.call 15 [Sv.cel (Cv.row (nat_lit 10) (nat_lit 0) (nat_lit 3) (nat_lit 3))] [(nat_lit 10, { t := 29, cs := [Cv.raw (Value.bool (decide (Dy.m x < (0 : Int)))), Cv.ent (nat (Int.natAbs (Dy.m x))), Cv.raw (Value.int IntKind.i64 (Dy.e x)), Cv.raw (Value.bool (decide (Dy.m y < (0 : Int)))), Cv.ent (nat (Int.natAbs (Dy.m y))), Cv.raw (Value.int IntKind.i64 (Dy.e y)), Cv.raw (Value.bool (decide (Dy.m u < (0 : Int)))), Cv.ent (nat (Int.natAbs (Dy.m u))), Cv.raw (Value.int IntKind.i64 (Dy.e u)), Cv.raw (Value.bool (decide (Dy.m v < (0 : Int)))), Cv.ent (nat (Int.natAbs (Dy.m v))), Cv.raw (Value.int IntKind.i64 (Dy.e v)), Cv.raw (Value.bool (decide (Dy.m p < (0 : Int)))), Cv.ent (nat (Int.natAbs (Dy.m p))), Cv.raw (Value.int IntKind.i64 (Dy.e p)), Cv.raw (Value.bool (decide (Dy.m p < (0 : Int)))), Cv.ent (nat (Int.natAbs (Dy.m p))), Cv.raw (Value.int IntKind.i64 (Dy.e p))], own := true })] (Av.one (boolS true)),
    Tr.call 33 [spS x y, spS u v] [] (Av.one (spS (minD x u) (maxD y v))),
    Tr.call 34 [spS x y, spS u v] [] (Av.tup [spS (maxD x u) (minD y v), ok0]),
    Tr.call 35 [spS (minD x u) (maxD y v), spS x y] [] (Av.one (boolS true)),
    Tr.call 35 [spS (minD x u) (maxD y v), spS u v] [] (Av.one (boolS true)),
    Tr.call 36 [spS x y] [] (Av.one (spS (negD y) (negD x))),
    Tr.call 37 [dS p] [] (Av.one (dS (negD p))),
    Tr.call 31 [spS (negD y) (negD x), dS (negD p)] [] (Av.one (boolS false)),
    Tr.call 31 [spS x y, dS p] [] (Av.one (boolS false)),
    Tr.call 31 [spS x y, dS p] [] (Av.one (boolS false)),
    Tr.call 31 [spS u v, dS p] [] (Av.one (boolS false)),
    Tr.call 31 [spS x y, dS p] [] (Av.one (boolS false)),
    Tr.call 31 [spS (maxD x u) (minD y v), dS p] [] (Av.one (boolS false)),
    Tr.call 35 [spS x y, spS (maxD x u) (minD y v)] [] (Av.one (boolS true)),
    Tr.call 35 [spS u v, spS (maxD x u) (minD y v)] [] (Av.one (boolS true))] := ⟨
    between_f,
    pointS_f,
    sfitThree_f ha hb ⟨hp, hp, Rat.le_refl⟩ _ _,
    hullS_f ha.a.bd ha.b.bd hb.a.bd hb.b.bd (by omega),
    meetS_f ha.a.bd ha.b.bd hb.a.bd hb.b.bd (by omega) hm,
    holdsYes_f (ha.a.bd.minS hb.a.bd) (ha.b.bd.maxS hb.b.bd) ha.a.bd ha.b.bd (by omega) (minD_dv x u).1 (maxD_dv y v).1,
    holdsYes_f (ha.a.bd.minS hb.a.bd) (ha.b.bd.maxS hb.b.bd) hb.a.bd hb.b.bd (by omega) (minD_dv x u).2.1 (maxD_dv y v).2.1,
    negS_f,
    negD_f,
    hasS_is ha.b.bd.neg ha.a.bd.neg hp.bd.neg (by omega) (negH _ k1),
    hasS_is ha.a.bd ha.b.bd hp.bd (by omega) k1,
    hasS_is ha.a.bd ha.b.bd hp.bd (by omega) k1,
    hasS_is hb.a.bd hb.b.bd hp.bd (by omega) k2,
    hasS_is ha.a.bd ha.b.bd hp.bd (by omega) k1,
    hasS_is (ha.a.bd.maxS hb.a.bd) (ha.b.bd.minS hb.b.bd) hp.bd (by omega) (meetH _ (decide_eq_false fun q => of_decide_eq_false k1 q.1)),
    holdsYes_f ha.a.bd ha.b.bd (ha.a.bd.maxS hb.a.bd) (ha.b.bd.minS hb.b.bd) (by omega) (maxD_dv x u).1 (minD_dv y v).1,
    holdsYes_f hb.a.bd hb.b.bd (ha.a.bd.maxS hb.a.bd) (ha.b.bd.minS hb.b.bd) (by omega) (maxD_dv x u).2.1 (minD_dv y v).2.1, trivial⟩
  exact fits_of_trace (n := 600) (k0 := 0) hT Tryz.func5 (by kernel_rfl) (by kernel_rfl) (by kernel_rfl)

set_option maxRecDepth 100000 in
theorem SpanSets_n101 {x y u v p : Dy} (ha : FitS x y) (hb : FitS u v) (hp : FitE p) (k1 : decide (Hs x y p) = true) (k2 : decide (Hs u v p) = false) (hm : dv (minD y v) < dv (maxD x u)) (hl : decide (dv y < dv u) = true) : FitsP 5 [spS x y, spS u v, dS p] [] (.one (boolS true)) := by
  have hT : AllOk Tryz.prog Glob [
    Tr.call 14 [] [] (Av.one (boolS true)),
    Tr.call 32 [dS p] [] (Av.one (spS p p)),
    Tr.call 15 [Sv.cel (Cv.row (nat_lit 10) (nat_lit 0) (nat_lit 3) (nat_lit 3))] [(nat_lit 10, { t := 29, cs := [Cv.raw (Value.bool (decide (Dy.m x < (0 : Int)))), Cv.ent (nat (Int.natAbs (Dy.m x))), Cv.raw (Value.int IntKind.i64 (Dy.e x)), Cv.raw (Value.bool (decide (Dy.m y < (0 : Int)))), Cv.ent (nat (Int.natAbs (Dy.m y))), Cv.raw (Value.int IntKind.i64 (Dy.e y)), Cv.raw (Value.bool (decide (Dy.m u < (0 : Int)))), Cv.ent (nat (Int.natAbs (Dy.m u))), Cv.raw (Value.int IntKind.i64 (Dy.e u)), Cv.raw (Value.bool (decide (Dy.m v < (0 : Int)))), Cv.ent (nat (Int.natAbs (Dy.m v))), Cv.raw (Value.int IntKind.i64 (Dy.e v)), Cv.raw (Value.bool (decide (Dy.m p < (0 : Int)))), Cv.ent (nat (Int.natAbs (Dy.m p))), Cv.raw (Value.int IntKind.i64 (Dy.e p)), Cv.raw (Value.bool (decide (Dy.m p < (0 : Int)))), Cv.ent (nat (Int.natAbs (Dy.m p))), Cv.raw (Value.int IntKind.i64 (Dy.e p))], own := true })] (Av.one (boolS true)),
    Tr.call 33 [spS x y, spS u v] [] (Av.one (spS (minD x u) (maxD y v))),
    Tr.call 34 [spS x y, spS u v] [] (Av.tup [Sv.agg [Cv.raw (Value.bool (decide (Dy.m { m := (0 : Int), e := (0 : Int) } < (0 : Int)))), Cv.ent (nat (Int.natAbs (Dy.m { m := (0 : Int), e := (0 : Int) }))), Cv.raw (Value.int IntKind.i64 (Int.ofNat (nat_lit 0))), Cv.raw (Value.bool (decide (Dy.m { m := (0 : Int), e := (0 : Int) } < (0 : Int)))), Cv.ent (nat (Int.natAbs (Dy.m { m := (0 : Int), e := (0 : Int) }))), Cv.raw (Value.int IntKind.i64 (Int.ofNat (nat_lit 0)))], Sv.cel (Cv.raw (Value.int IntKind.i64 (Int.ofNat (nat_lit 4))))]),
    Tr.call 35 [spS (minD x u) (maxD y v), spS x y] [] (Av.one (boolS true)),
    Tr.call 35 [spS (minD x u) (maxD y v), spS u v] [] (Av.one (boolS true)),
    Tr.call 36 [spS x y] [] (Av.one (spS (negD y) (negD x))),
    Tr.call 37 [dS p] [] (Av.one (dS (negD p))),
    Tr.call 31 [spS (negD y) (negD x), dS (negD p)] [] (Av.one (boolS true)),
    Tr.call 31 [spS x y, dS p] [] (Av.one (boolS true)),
    Tr.call 31 [spS x y, dS p] [] (Av.one (boolS true)),
    Tr.call 31 [spS (minD x u) (maxD y v), dS p] [] (Av.one (boolS true)),
    Tr.call 31 [spS x y, dS p] [] (Av.one (boolS true)),
    Tr.call 31 [spS u v, dS p] [] (Av.one (boolS false)),
    Tr.call 38 [dS y, dS u] [] (Av.one (boolS true))] := ⟨
    between_f,
    pointS_f,
    sfitThree_f ha hb ⟨hp, hp, Rat.le_refl⟩ _ _,
    hullS_f ha.a.bd ha.b.bd hb.a.bd hb.b.bd (by omega),
    meetSno_f ha.a.bd ha.b.bd hb.a.bd hb.b.bd (by omega) hm,
    holdsYes_f (ha.a.bd.minS hb.a.bd) (ha.b.bd.maxS hb.b.bd) ha.a.bd ha.b.bd (by omega) (minD_dv x u).1 (maxD_dv y v).1,
    holdsYes_f (ha.a.bd.minS hb.a.bd) (ha.b.bd.maxS hb.b.bd) hb.a.bd hb.b.bd (by omega) (minD_dv x u).2.1 (maxD_dv y v).2.1,
    negS_f,
    negD_f,
    hasS_is ha.b.bd.neg ha.a.bd.neg hp.bd.neg (by omega) (negH _ k1),
    hasS_is ha.a.bd ha.b.bd hp.bd (by omega) k1,
    hasS_is ha.a.bd ha.b.bd hp.bd (by omega) k1,
    hasS_is (ha.a.bd.minS hb.a.bd) (ha.b.bd.maxS hb.b.bd) hp.bd (by omega) (hsHull (.inl (of_decide_eq_true k1))),
    hasS_is ha.a.bd ha.b.bd hp.bd (by omega) k1,
    hasS_is hb.a.bd hb.b.bd hp.bd (by omega) k2,
    lessD_is ha.b.bd hb.a.bd (by omega) hl, trivial⟩
  exact fits_of_trace (n := 600) (k0 := 0) hT Tryz.func5 (by kernel_rfl) (by kernel_rfl) (by kernel_rfl)

set_option maxRecDepth 100000 in
theorem SpanSets_n100 {x y u v p : Dy} (ha : FitS x y) (hb : FitS u v) (hp : FitE p) (k1 : decide (Hs x y p) = true) (k2 : decide (Hs u v p) = false) (hm : dv (minD y v) < dv (maxD x u)) (hl : decide (dv y < dv u) = false) : FitsP 5 [spS x y, spS u v, dS p] [] (.one (boolS true)) := by
  have hT : AllOk Tryz.prog Glob [
    Tr.call 14 [] [] (Av.one (boolS true)),
    Tr.call 32 [dS p] [] (Av.one (spS p p)),
    Tr.call 15 [Sv.cel (Cv.row (nat_lit 10) (nat_lit 0) (nat_lit 3) (nat_lit 3))] [(nat_lit 10, { t := 29, cs := [Cv.raw (Value.bool (decide (Dy.m x < (0 : Int)))), Cv.ent (nat (Int.natAbs (Dy.m x))), Cv.raw (Value.int IntKind.i64 (Dy.e x)), Cv.raw (Value.bool (decide (Dy.m y < (0 : Int)))), Cv.ent (nat (Int.natAbs (Dy.m y))), Cv.raw (Value.int IntKind.i64 (Dy.e y)), Cv.raw (Value.bool (decide (Dy.m u < (0 : Int)))), Cv.ent (nat (Int.natAbs (Dy.m u))), Cv.raw (Value.int IntKind.i64 (Dy.e u)), Cv.raw (Value.bool (decide (Dy.m v < (0 : Int)))), Cv.ent (nat (Int.natAbs (Dy.m v))), Cv.raw (Value.int IntKind.i64 (Dy.e v)), Cv.raw (Value.bool (decide (Dy.m p < (0 : Int)))), Cv.ent (nat (Int.natAbs (Dy.m p))), Cv.raw (Value.int IntKind.i64 (Dy.e p)), Cv.raw (Value.bool (decide (Dy.m p < (0 : Int)))), Cv.ent (nat (Int.natAbs (Dy.m p))), Cv.raw (Value.int IntKind.i64 (Dy.e p))], own := true })] (Av.one (boolS true)),
    Tr.call 33 [spS x y, spS u v] [] (Av.one (spS (minD x u) (maxD y v))),
    Tr.call 34 [spS x y, spS u v] [] (Av.tup [Sv.agg [Cv.raw (Value.bool (decide (Dy.m { m := (0 : Int), e := (0 : Int) } < (0 : Int)))), Cv.ent (nat (Int.natAbs (Dy.m { m := (0 : Int), e := (0 : Int) }))), Cv.raw (Value.int IntKind.i64 (Int.ofNat (nat_lit 0))), Cv.raw (Value.bool (decide (Dy.m { m := (0 : Int), e := (0 : Int) } < (0 : Int)))), Cv.ent (nat (Int.natAbs (Dy.m { m := (0 : Int), e := (0 : Int) }))), Cv.raw (Value.int IntKind.i64 (Int.ofNat (nat_lit 0)))], Sv.cel (Cv.raw (Value.int IntKind.i64 (Int.ofNat (nat_lit 4))))]),
    Tr.call 35 [spS (minD x u) (maxD y v), spS x y] [] (Av.one (boolS true)),
    Tr.call 35 [spS (minD x u) (maxD y v), spS u v] [] (Av.one (boolS true)),
    Tr.call 36 [spS x y] [] (Av.one (spS (negD y) (negD x))),
    Tr.call 37 [dS p] [] (Av.one (dS (negD p))),
    Tr.call 31 [spS (negD y) (negD x), dS (negD p)] [] (Av.one (boolS true)),
    Tr.call 31 [spS x y, dS p] [] (Av.one (boolS true)),
    Tr.call 31 [spS x y, dS p] [] (Av.one (boolS true)),
    Tr.call 31 [spS (minD x u) (maxD y v), dS p] [] (Av.one (boolS true)),
    Tr.call 31 [spS x y, dS p] [] (Av.one (boolS true)),
    Tr.call 31 [spS u v, dS p] [] (Av.one (boolS false)),
    Tr.call 38 [dS y, dS u] [] (Av.one (boolS false)),
    Tr.call 38 [dS v, dS x] [] (Av.one (boolS true))] := ⟨
    between_f,
    pointS_f,
    sfitThree_f ha hb ⟨hp, hp, Rat.le_refl⟩ _ _,
    hullS_f ha.a.bd ha.b.bd hb.a.bd hb.b.bd (by omega),
    meetSno_f ha.a.bd ha.b.bd hb.a.bd hb.b.bd (by omega) hm,
    holdsYes_f (ha.a.bd.minS hb.a.bd) (ha.b.bd.maxS hb.b.bd) ha.a.bd ha.b.bd (by omega) (minD_dv x u).1 (maxD_dv y v).1,
    holdsYes_f (ha.a.bd.minS hb.a.bd) (ha.b.bd.maxS hb.b.bd) hb.a.bd hb.b.bd (by omega) (minD_dv x u).2.1 (maxD_dv y v).2.1,
    negS_f,
    negD_f,
    hasS_is ha.b.bd.neg ha.a.bd.neg hp.bd.neg (by omega) (negH _ k1),
    hasS_is ha.a.bd ha.b.bd hp.bd (by omega) k1,
    hasS_is ha.a.bd ha.b.bd hp.bd (by omega) k1,
    hasS_is (ha.a.bd.minS hb.a.bd) (ha.b.bd.maxS hb.b.bd) hp.bd (by omega) (hsHull (.inl (of_decide_eq_true k1))),
    hasS_is ha.a.bd ha.b.bd hp.bd (by omega) k1,
    hasS_is hb.a.bd hb.b.bd hp.bd (by omega) k2,
    lessD_is ha.b.bd hb.a.bd (by omega) hl,
    lessD_is hb.b.bd ha.a.bd (by omega) (decide_eq_true (meetOr ha.le hb.le hm (of_decide_eq_false hl))), trivial⟩
  exact fits_of_trace (n := 600) (k0 := 0) hT Tryz.func5 (by kernel_rfl) (by kernel_rfl) (by kernel_rfl)

set_option maxRecDepth 100000 in
theorem SpanSets_n011 {x y u v p : Dy} (ha : FitS x y) (hb : FitS u v) (hp : FitE p) (k1 : decide (Hs x y p) = false) (k2 : decide (Hs u v p) = true) (hm : dv (minD y v) < dv (maxD x u)) (hl : decide (dv y < dv u) = true) : FitsP 5 [spS x y, spS u v, dS p] [] (.one (boolS true)) := by
  have hT : AllOk Tryz.prog Glob [
    Tr.call 14 [] [] (Av.one (boolS true)),
    Tr.call 32 [dS p] [] (Av.one (spS p p)),
    Tr.call 15 [Sv.cel (Cv.row (nat_lit 10) (nat_lit 0) (nat_lit 3) (nat_lit 3))] [(nat_lit 10, { t := 29, cs := [Cv.raw (Value.bool (decide (Dy.m x < (0 : Int)))), Cv.ent (nat (Int.natAbs (Dy.m x))), Cv.raw (Value.int IntKind.i64 (Dy.e x)), Cv.raw (Value.bool (decide (Dy.m y < (0 : Int)))), Cv.ent (nat (Int.natAbs (Dy.m y))), Cv.raw (Value.int IntKind.i64 (Dy.e y)), Cv.raw (Value.bool (decide (Dy.m u < (0 : Int)))), Cv.ent (nat (Int.natAbs (Dy.m u))), Cv.raw (Value.int IntKind.i64 (Dy.e u)), Cv.raw (Value.bool (decide (Dy.m v < (0 : Int)))), Cv.ent (nat (Int.natAbs (Dy.m v))), Cv.raw (Value.int IntKind.i64 (Dy.e v)), Cv.raw (Value.bool (decide (Dy.m p < (0 : Int)))), Cv.ent (nat (Int.natAbs (Dy.m p))), Cv.raw (Value.int IntKind.i64 (Dy.e p)), Cv.raw (Value.bool (decide (Dy.m p < (0 : Int)))), Cv.ent (nat (Int.natAbs (Dy.m p))), Cv.raw (Value.int IntKind.i64 (Dy.e p))], own := true })] (Av.one (boolS true)),
    Tr.call 33 [spS x y, spS u v] [] (Av.one (spS (minD x u) (maxD y v))),
    Tr.call 34 [spS x y, spS u v] [] (Av.tup [Sv.agg [Cv.raw (Value.bool (decide (Dy.m { m := (0 : Int), e := (0 : Int) } < (0 : Int)))), Cv.ent (nat (Int.natAbs (Dy.m { m := (0 : Int), e := (0 : Int) }))), Cv.raw (Value.int IntKind.i64 (Int.ofNat (nat_lit 0))), Cv.raw (Value.bool (decide (Dy.m { m := (0 : Int), e := (0 : Int) } < (0 : Int)))), Cv.ent (nat (Int.natAbs (Dy.m { m := (0 : Int), e := (0 : Int) }))), Cv.raw (Value.int IntKind.i64 (Int.ofNat (nat_lit 0)))], Sv.cel (Cv.raw (Value.int IntKind.i64 (Int.ofNat (nat_lit 4))))]),
    Tr.call 35 [spS (minD x u) (maxD y v), spS x y] [] (Av.one (boolS true)),
    Tr.call 35 [spS (minD x u) (maxD y v), spS u v] [] (Av.one (boolS true)),
    Tr.call 36 [spS x y] [] (Av.one (spS (negD y) (negD x))),
    Tr.call 37 [dS p] [] (Av.one (dS (negD p))),
    Tr.call 31 [spS (negD y) (negD x), dS (negD p)] [] (Av.one (boolS false)),
    Tr.call 31 [spS x y, dS p] [] (Av.one (boolS false)),
    Tr.call 31 [spS x y, dS p] [] (Av.one (boolS false)),
    Tr.call 31 [spS u v, dS p] [] (Av.one (boolS true)),
    Tr.call 31 [spS (minD x u) (maxD y v), dS p] [] (Av.one (boolS true)),
    Tr.call 31 [spS x y, dS p] [] (Av.one (boolS false)),
    Tr.call 38 [dS y, dS u] [] (Av.one (boolS true))] := ⟨
    between_f,
    pointS_f,
    sfitThree_f ha hb ⟨hp, hp, Rat.le_refl⟩ _ _,
    hullS_f ha.a.bd ha.b.bd hb.a.bd hb.b.bd (by omega),
    meetSno_f ha.a.bd ha.b.bd hb.a.bd hb.b.bd (by omega) hm,
    holdsYes_f (ha.a.bd.minS hb.a.bd) (ha.b.bd.maxS hb.b.bd) ha.a.bd ha.b.bd (by omega) (minD_dv x u).1 (maxD_dv y v).1,
    holdsYes_f (ha.a.bd.minS hb.a.bd) (ha.b.bd.maxS hb.b.bd) hb.a.bd hb.b.bd (by omega) (minD_dv x u).2.1 (maxD_dv y v).2.1,
    negS_f,
    negD_f,
    hasS_is ha.b.bd.neg ha.a.bd.neg hp.bd.neg (by omega) (negH _ k1),
    hasS_is ha.a.bd ha.b.bd hp.bd (by omega) k1,
    hasS_is ha.a.bd ha.b.bd hp.bd (by omega) k1,
    hasS_is hb.a.bd hb.b.bd hp.bd (by omega) k2,
    hasS_is (ha.a.bd.minS hb.a.bd) (ha.b.bd.maxS hb.b.bd) hp.bd (by omega) (hsHull (.inr (of_decide_eq_true k2))),
    hasS_is ha.a.bd ha.b.bd hp.bd (by omega) k1,
    lessD_is ha.b.bd hb.a.bd (by omega) hl, trivial⟩
  exact fits_of_trace (n := 600) (k0 := 0) hT Tryz.func5 (by kernel_rfl) (by kernel_rfl) (by kernel_rfl)

set_option maxRecDepth 100000 in
theorem SpanSets_n010 {x y u v p : Dy} (ha : FitS x y) (hb : FitS u v) (hp : FitE p) (k1 : decide (Hs x y p) = false) (k2 : decide (Hs u v p) = true) (hm : dv (minD y v) < dv (maxD x u)) (hl : decide (dv y < dv u) = false) : FitsP 5 [spS x y, spS u v, dS p] [] (.one (boolS true)) := by
  have hT : AllOk Tryz.prog Glob [
    Tr.call 14 [] [] (Av.one (boolS true)),
    Tr.call 32 [dS p] [] (Av.one (spS p p)),
    Tr.call 15 [Sv.cel (Cv.row (nat_lit 10) (nat_lit 0) (nat_lit 3) (nat_lit 3))] [(nat_lit 10, { t := 29, cs := [Cv.raw (Value.bool (decide (Dy.m x < (0 : Int)))), Cv.ent (nat (Int.natAbs (Dy.m x))), Cv.raw (Value.int IntKind.i64 (Dy.e x)), Cv.raw (Value.bool (decide (Dy.m y < (0 : Int)))), Cv.ent (nat (Int.natAbs (Dy.m y))), Cv.raw (Value.int IntKind.i64 (Dy.e y)), Cv.raw (Value.bool (decide (Dy.m u < (0 : Int)))), Cv.ent (nat (Int.natAbs (Dy.m u))), Cv.raw (Value.int IntKind.i64 (Dy.e u)), Cv.raw (Value.bool (decide (Dy.m v < (0 : Int)))), Cv.ent (nat (Int.natAbs (Dy.m v))), Cv.raw (Value.int IntKind.i64 (Dy.e v)), Cv.raw (Value.bool (decide (Dy.m p < (0 : Int)))), Cv.ent (nat (Int.natAbs (Dy.m p))), Cv.raw (Value.int IntKind.i64 (Dy.e p)), Cv.raw (Value.bool (decide (Dy.m p < (0 : Int)))), Cv.ent (nat (Int.natAbs (Dy.m p))), Cv.raw (Value.int IntKind.i64 (Dy.e p))], own := true })] (Av.one (boolS true)),
    Tr.call 33 [spS x y, spS u v] [] (Av.one (spS (minD x u) (maxD y v))),
    Tr.call 34 [spS x y, spS u v] [] (Av.tup [Sv.agg [Cv.raw (Value.bool (decide (Dy.m { m := (0 : Int), e := (0 : Int) } < (0 : Int)))), Cv.ent (nat (Int.natAbs (Dy.m { m := (0 : Int), e := (0 : Int) }))), Cv.raw (Value.int IntKind.i64 (Int.ofNat (nat_lit 0))), Cv.raw (Value.bool (decide (Dy.m { m := (0 : Int), e := (0 : Int) } < (0 : Int)))), Cv.ent (nat (Int.natAbs (Dy.m { m := (0 : Int), e := (0 : Int) }))), Cv.raw (Value.int IntKind.i64 (Int.ofNat (nat_lit 0)))], Sv.cel (Cv.raw (Value.int IntKind.i64 (Int.ofNat (nat_lit 4))))]),
    Tr.call 35 [spS (minD x u) (maxD y v), spS x y] [] (Av.one (boolS true)),
    Tr.call 35 [spS (minD x u) (maxD y v), spS u v] [] (Av.one (boolS true)),
    Tr.call 36 [spS x y] [] (Av.one (spS (negD y) (negD x))),
    Tr.call 37 [dS p] [] (Av.one (dS (negD p))),
    Tr.call 31 [spS (negD y) (negD x), dS (negD p)] [] (Av.one (boolS false)),
    Tr.call 31 [spS x y, dS p] [] (Av.one (boolS false)),
    Tr.call 31 [spS x y, dS p] [] (Av.one (boolS false)),
    Tr.call 31 [spS u v, dS p] [] (Av.one (boolS true)),
    Tr.call 31 [spS (minD x u) (maxD y v), dS p] [] (Av.one (boolS true)),
    Tr.call 31 [spS x y, dS p] [] (Av.one (boolS false)),
    Tr.call 38 [dS y, dS u] [] (Av.one (boolS false)),
    Tr.call 38 [dS v, dS x] [] (Av.one (boolS true))] := ⟨
    between_f,
    pointS_f,
    sfitThree_f ha hb ⟨hp, hp, Rat.le_refl⟩ _ _,
    hullS_f ha.a.bd ha.b.bd hb.a.bd hb.b.bd (by omega),
    meetSno_f ha.a.bd ha.b.bd hb.a.bd hb.b.bd (by omega) hm,
    holdsYes_f (ha.a.bd.minS hb.a.bd) (ha.b.bd.maxS hb.b.bd) ha.a.bd ha.b.bd (by omega) (minD_dv x u).1 (maxD_dv y v).1,
    holdsYes_f (ha.a.bd.minS hb.a.bd) (ha.b.bd.maxS hb.b.bd) hb.a.bd hb.b.bd (by omega) (minD_dv x u).2.1 (maxD_dv y v).2.1,
    negS_f,
    negD_f,
    hasS_is ha.b.bd.neg ha.a.bd.neg hp.bd.neg (by omega) (negH _ k1),
    hasS_is ha.a.bd ha.b.bd hp.bd (by omega) k1,
    hasS_is ha.a.bd ha.b.bd hp.bd (by omega) k1,
    hasS_is hb.a.bd hb.b.bd hp.bd (by omega) k2,
    hasS_is (ha.a.bd.minS hb.a.bd) (ha.b.bd.maxS hb.b.bd) hp.bd (by omega) (hsHull (.inr (of_decide_eq_true k2))),
    hasS_is ha.a.bd ha.b.bd hp.bd (by omega) k1,
    lessD_is ha.b.bd hb.a.bd (by omega) hl,
    lessD_is hb.b.bd ha.a.bd (by omega) (decide_eq_true (meetOr ha.le hb.le hm (of_decide_eq_false hl))), trivial⟩
  exact fits_of_trace (n := 600) (k0 := 0) hT Tryz.func5 (by kernel_rfl) (by kernel_rfl) (by kernel_rfl)

set_option maxRecDepth 100000 in
theorem SpanSets_n001 {x y u v p : Dy} (ha : FitS x y) (hb : FitS u v) (hp : FitE p) (k1 : decide (Hs x y p) = false) (k2 : decide (Hs u v p) = false) (hm : dv (minD y v) < dv (maxD x u)) (hl : decide (dv y < dv u) = true) : FitsP 5 [spS x y, spS u v, dS p] [] (.one (boolS true)) := by
  have hT : AllOk Tryz.prog Glob [
    Tr.call 14 [] [] (Av.one (boolS true)),
    Tr.call 32 [dS p] [] (Av.one (spS p p)),
    Tr.call 15 [Sv.cel (Cv.row (nat_lit 10) (nat_lit 0) (nat_lit 3) (nat_lit 3))] [(nat_lit 10, { t := 29, cs := [Cv.raw (Value.bool (decide (Dy.m x < (0 : Int)))), Cv.ent (nat (Int.natAbs (Dy.m x))), Cv.raw (Value.int IntKind.i64 (Dy.e x)), Cv.raw (Value.bool (decide (Dy.m y < (0 : Int)))), Cv.ent (nat (Int.natAbs (Dy.m y))), Cv.raw (Value.int IntKind.i64 (Dy.e y)), Cv.raw (Value.bool (decide (Dy.m u < (0 : Int)))), Cv.ent (nat (Int.natAbs (Dy.m u))), Cv.raw (Value.int IntKind.i64 (Dy.e u)), Cv.raw (Value.bool (decide (Dy.m v < (0 : Int)))), Cv.ent (nat (Int.natAbs (Dy.m v))), Cv.raw (Value.int IntKind.i64 (Dy.e v)), Cv.raw (Value.bool (decide (Dy.m p < (0 : Int)))), Cv.ent (nat (Int.natAbs (Dy.m p))), Cv.raw (Value.int IntKind.i64 (Dy.e p)), Cv.raw (Value.bool (decide (Dy.m p < (0 : Int)))), Cv.ent (nat (Int.natAbs (Dy.m p))), Cv.raw (Value.int IntKind.i64 (Dy.e p))], own := true })] (Av.one (boolS true)),
    Tr.call 33 [spS x y, spS u v] [] (Av.one (spS (minD x u) (maxD y v))),
    Tr.call 34 [spS x y, spS u v] [] (Av.tup [Sv.agg [Cv.raw (Value.bool (decide (Dy.m { m := (0 : Int), e := (0 : Int) } < (0 : Int)))), Cv.ent (nat (Int.natAbs (Dy.m { m := (0 : Int), e := (0 : Int) }))), Cv.raw (Value.int IntKind.i64 (Int.ofNat (nat_lit 0))), Cv.raw (Value.bool (decide (Dy.m { m := (0 : Int), e := (0 : Int) } < (0 : Int)))), Cv.ent (nat (Int.natAbs (Dy.m { m := (0 : Int), e := (0 : Int) }))), Cv.raw (Value.int IntKind.i64 (Int.ofNat (nat_lit 0)))], Sv.cel (Cv.raw (Value.int IntKind.i64 (Int.ofNat (nat_lit 4))))]),
    Tr.call 35 [spS (minD x u) (maxD y v), spS x y] [] (Av.one (boolS true)),
    Tr.call 35 [spS (minD x u) (maxD y v), spS u v] [] (Av.one (boolS true)),
    Tr.call 36 [spS x y] [] (Av.one (spS (negD y) (negD x))),
    Tr.call 37 [dS p] [] (Av.one (dS (negD p))),
    Tr.call 31 [spS (negD y) (negD x), dS (negD p)] [] (Av.one (boolS false)),
    Tr.call 31 [spS x y, dS p] [] (Av.one (boolS false)),
    Tr.call 31 [spS x y, dS p] [] (Av.one (boolS false)),
    Tr.call 31 [spS u v, dS p] [] (Av.one (boolS false)),
    Tr.call 31 [spS x y, dS p] [] (Av.one (boolS false)),
    Tr.call 38 [dS y, dS u] [] (Av.one (boolS true))] := ⟨
    between_f,
    pointS_f,
    sfitThree_f ha hb ⟨hp, hp, Rat.le_refl⟩ _ _,
    hullS_f ha.a.bd ha.b.bd hb.a.bd hb.b.bd (by omega),
    meetSno_f ha.a.bd ha.b.bd hb.a.bd hb.b.bd (by omega) hm,
    holdsYes_f (ha.a.bd.minS hb.a.bd) (ha.b.bd.maxS hb.b.bd) ha.a.bd ha.b.bd (by omega) (minD_dv x u).1 (maxD_dv y v).1,
    holdsYes_f (ha.a.bd.minS hb.a.bd) (ha.b.bd.maxS hb.b.bd) hb.a.bd hb.b.bd (by omega) (minD_dv x u).2.1 (maxD_dv y v).2.1,
    negS_f,
    negD_f,
    hasS_is ha.b.bd.neg ha.a.bd.neg hp.bd.neg (by omega) (negH _ k1),
    hasS_is ha.a.bd ha.b.bd hp.bd (by omega) k1,
    hasS_is ha.a.bd ha.b.bd hp.bd (by omega) k1,
    hasS_is hb.a.bd hb.b.bd hp.bd (by omega) k2,
    hasS_is ha.a.bd ha.b.bd hp.bd (by omega) k1,
    lessD_is ha.b.bd hb.a.bd (by omega) hl, trivial⟩
  exact fits_of_trace (n := 600) (k0 := 0) hT Tryz.func5 (by kernel_rfl) (by kernel_rfl) (by kernel_rfl)

set_option maxRecDepth 100000 in
theorem SpanSets_n000 {x y u v p : Dy} (ha : FitS x y) (hb : FitS u v) (hp : FitE p) (k1 : decide (Hs x y p) = false) (k2 : decide (Hs u v p) = false) (hm : dv (minD y v) < dv (maxD x u)) (hl : decide (dv y < dv u) = false) : FitsP 5 [spS x y, spS u v, dS p] [] (.one (boolS true)) := by
  have hT : AllOk Tryz.prog Glob [
    Tr.call 14 [] [] (Av.one (boolS true)),
    Tr.call 32 [dS p] [] (Av.one (spS p p)),
    Tr.call 15 [Sv.cel (Cv.row (nat_lit 10) (nat_lit 0) (nat_lit 3) (nat_lit 3))] [(nat_lit 10, { t := 29, cs := [Cv.raw (Value.bool (decide (Dy.m x < (0 : Int)))), Cv.ent (nat (Int.natAbs (Dy.m x))), Cv.raw (Value.int IntKind.i64 (Dy.e x)), Cv.raw (Value.bool (decide (Dy.m y < (0 : Int)))), Cv.ent (nat (Int.natAbs (Dy.m y))), Cv.raw (Value.int IntKind.i64 (Dy.e y)), Cv.raw (Value.bool (decide (Dy.m u < (0 : Int)))), Cv.ent (nat (Int.natAbs (Dy.m u))), Cv.raw (Value.int IntKind.i64 (Dy.e u)), Cv.raw (Value.bool (decide (Dy.m v < (0 : Int)))), Cv.ent (nat (Int.natAbs (Dy.m v))), Cv.raw (Value.int IntKind.i64 (Dy.e v)), Cv.raw (Value.bool (decide (Dy.m p < (0 : Int)))), Cv.ent (nat (Int.natAbs (Dy.m p))), Cv.raw (Value.int IntKind.i64 (Dy.e p)), Cv.raw (Value.bool (decide (Dy.m p < (0 : Int)))), Cv.ent (nat (Int.natAbs (Dy.m p))), Cv.raw (Value.int IntKind.i64 (Dy.e p))], own := true })] (Av.one (boolS true)),
    Tr.call 33 [spS x y, spS u v] [] (Av.one (spS (minD x u) (maxD y v))),
    Tr.call 34 [spS x y, spS u v] [] (Av.tup [Sv.agg [Cv.raw (Value.bool (decide (Dy.m { m := (0 : Int), e := (0 : Int) } < (0 : Int)))), Cv.ent (nat (Int.natAbs (Dy.m { m := (0 : Int), e := (0 : Int) }))), Cv.raw (Value.int IntKind.i64 (Int.ofNat (nat_lit 0))), Cv.raw (Value.bool (decide (Dy.m { m := (0 : Int), e := (0 : Int) } < (0 : Int)))), Cv.ent (nat (Int.natAbs (Dy.m { m := (0 : Int), e := (0 : Int) }))), Cv.raw (Value.int IntKind.i64 (Int.ofNat (nat_lit 0)))], Sv.cel (Cv.raw (Value.int IntKind.i64 (Int.ofNat (nat_lit 4))))]),
    Tr.call 35 [spS (minD x u) (maxD y v), spS x y] [] (Av.one (boolS true)),
    Tr.call 35 [spS (minD x u) (maxD y v), spS u v] [] (Av.one (boolS true)),
    Tr.call 36 [spS x y] [] (Av.one (spS (negD y) (negD x))),
    Tr.call 37 [dS p] [] (Av.one (dS (negD p))),
    Tr.call 31 [spS (negD y) (negD x), dS (negD p)] [] (Av.one (boolS false)),
    Tr.call 31 [spS x y, dS p] [] (Av.one (boolS false)),
    Tr.call 31 [spS x y, dS p] [] (Av.one (boolS false)),
    Tr.call 31 [spS u v, dS p] [] (Av.one (boolS false)),
    Tr.call 31 [spS x y, dS p] [] (Av.one (boolS false)),
    Tr.call 38 [dS y, dS u] [] (Av.one (boolS false)),
    Tr.call 38 [dS v, dS x] [] (Av.one (boolS true))] := ⟨
    between_f,
    pointS_f,
    sfitThree_f ha hb ⟨hp, hp, Rat.le_refl⟩ _ _,
    hullS_f ha.a.bd ha.b.bd hb.a.bd hb.b.bd (by omega),
    meetSno_f ha.a.bd ha.b.bd hb.a.bd hb.b.bd (by omega) hm,
    holdsYes_f (ha.a.bd.minS hb.a.bd) (ha.b.bd.maxS hb.b.bd) ha.a.bd ha.b.bd (by omega) (minD_dv x u).1 (maxD_dv y v).1,
    holdsYes_f (ha.a.bd.minS hb.a.bd) (ha.b.bd.maxS hb.b.bd) hb.a.bd hb.b.bd (by omega) (minD_dv x u).2.1 (maxD_dv y v).2.1,
    negS_f,
    negD_f,
    hasS_is ha.b.bd.neg ha.a.bd.neg hp.bd.neg (by omega) (negH _ k1),
    hasS_is ha.a.bd ha.b.bd hp.bd (by omega) k1,
    hasS_is ha.a.bd ha.b.bd hp.bd (by omega) k1,
    hasS_is hb.a.bd hb.b.bd hp.bd (by omega) k2,
    hasS_is ha.a.bd ha.b.bd hp.bd (by omega) k1,
    lessD_is ha.b.bd hb.a.bd (by omega) hl,
    lessD_is hb.b.bd ha.a.bd (by omega) (decide_eq_true (meetOr ha.le hb.le hm (of_decide_eq_false hl))), trivial⟩
  exact fits_of_trace (n := 600) (k0 := 0) hT Tryz.func5 (by kernel_rfl) (by kernel_rfl) (by kernel_rfl)

theorem SpanSets_fit {x y u v p : Dy} (ha : FitS x y) (hb : FitS u v) (hp : FitE p) : FitsP 5 [spS x y, spS u v, dS p] [] (.one (boolS true)) := by
  by_cases hm : dv (minD y v) < dv (maxD x u)
  · rcases hl : decide (dv y < dv u) with _ | _ <;> rcases k1 : decide (Hs x y p) with _ | _ <;> rcases k2 : decide (Hs u v p) with _ | _
    · exact SpanSets_n000 ha hb hp k1 k2 hm hl
    · exact SpanSets_n010 ha hb hp k1 k2 hm hl
    · exact SpanSets_n100 ha hb hp k1 k2 hm hl
    · exact absurd ⟨of_decide_eq_true k1, of_decide_eq_true k2⟩ (meetNo hm)
    · exact SpanSets_n001 ha hb hp k1 k2 hm hl
    · exact SpanSets_n011 ha hb hp k1 k2 hm hl
    · exact SpanSets_n101 ha hb hp k1 k2 hm hl
    · exact absurd ⟨of_decide_eq_true k1, of_decide_eq_true k2⟩ (meetNo hm)
  · rcases k1 : decide (Hs x y p) with _ | _ <;> rcases k2 : decide (Hs u v p) with _ | _
    · exact SpanSets_m001 ha hb hp k1 k2 hm
    · exact SpanSets_m011 ha hb hp k1 k2 hm
    · exact SpanSets_m101 ha hb hp k1 k2 hm
    · exact SpanSets_m111 ha hb hp k1 k2 hm

set_option maxRecDepth 100000 in
theorem SpanSets_unfit (m0 : Bool) (g0 : Ent) (x0 : Int) (n0 : Bool) (h0 : Ent) (y0 : Int) (m1 : Bool) (g1 : Ent) (x1 : Int) (n1 : Bool) (h1 : Ent) (y1 : Int) (m : Bool) (xs : List Nat) (e : Int) (hl : xs.length ≤ 35184372088832) (hu : ∀ (z : Nat) (o : Bool), FitsP 15 [Sv.cel (Cv.row z 0 3 3)] [(z, ⟨29, [.raw (.bool m0), .ent g0, .raw (.int .i64 x0), .raw (.bool n0), .ent h0, .raw (.int .i64 y0), .raw (.bool m1), .ent g1, .raw (.int .i64 x1), .raw (.bool n1), .ent h1, .raw (.int .i64 y1), .raw (.bool m), .ent (argE xs), .raw (.int .i64 e), .raw (.bool m), .ent (argE xs), .raw (.int .i64 e)], o⟩)] (.one (boolS false))) : FitsP 5 [.agg [.raw (.bool m0), .ent g0, .raw (.int .i64 x0), .raw (.bool n0), .ent h0, .raw (.int .i64 y0)], .agg [.raw (.bool m1), .ent g1, .raw (.int .i64 x1), .raw (.bool n1), .ent h1, .raw (.int .i64 y1)], adR m xs e] [] (.one (boolS true)) := by
  have hT : AllOk Tryz.prog Glob [
    Tr.call 14 [] [] (Av.one (boolS true)),
    Tr.call 32 [Sv.agg [Cv.raw (Value.bool m), Cv.ent (rowE xs), Cv.raw (Value.int IntKind.i64 e)]] [] (Av.one (Sv.agg [Cv.raw (Value.bool m), Cv.ent (argE xs), Cv.raw (Value.int IntKind.i64 e), Cv.raw (Value.bool m), Cv.ent (argE xs), Cv.raw (Value.int IntKind.i64 e)])),
    Tr.call 15 [Sv.cel (Cv.row (nat_lit 10) (nat_lit 0) (nat_lit 3) (nat_lit 3))] [(nat_lit 10, { t := 29, cs := [Cv.raw (Value.bool m0), Cv.ent g0, Cv.raw (Value.int IntKind.i64 x0), Cv.raw (Value.bool n0), Cv.ent h0, Cv.raw (Value.int IntKind.i64 y0), Cv.raw (Value.bool m1), Cv.ent g1, Cv.raw (Value.int IntKind.i64 x1), Cv.raw (Value.bool n1), Cv.ent h1, Cv.raw (Value.int IntKind.i64 y1), Cv.raw (Value.bool m), Cv.ent (argE xs), Cv.raw (Value.int IntKind.i64 e), Cv.raw (Value.bool m), Cv.ent (argE xs), Cv.raw (Value.int IntKind.i64 e)], own := true })] (Av.one (boolS false))] := ⟨
    between_f,
    pointR_f hl,
    hu _ _, trivial⟩
  exact fits_of_trace (n := 300) (k0 := 0) hT Tryz.func5 (by kernel_rfl) (by kernel_rfl) (by kernel_rfl)

section
variable {m m' n : Bool} {xs ys zs : List Nat} {e e' k : Int} (hl : zs.length ≤ 35184372088832)
include hl
theorem SpanSets_un0 (hu : UnfitS m xs e m' ys e') (m1 : Bool) (a1 : List Nat) (e1 : Int) (n1 : Bool) (b1 : List Nat) (f1 : Int) : FitsP 5 [spA m xs e m' ys e', spA m1 a1 e1 n1 b1 f1, adR n zs k] [] (.one (boolS true)) := SpanSets_unfit _ _ _ _ _ _ _ _ _ _ _ _ _ _ _ hl fun z o => sunfit3_0 hu m1 a1 e1 n1 b1 f1 n zs k n zs k z o
theorem SpanSets_un1 {x y : Dy} (ha : FitS x y) (hu : UnfitS m xs e m' ys e') : FitsP 5 [spS x y, spA m xs e m' ys e', adR n zs k] [] (.one (boolS true)) := SpanSets_unfit _ _ _ _ _ _ _ _ _ _ _ _ _ _ _ hl fun z o => sunfit3_1 ha hu n zs k n zs k z o
theorem SpanSets_un2 {x y u v : Dy} (ha : FitS x y) (hb : FitS u v) (hu : UnfitS n zs k n zs k) : FitsP 5 [spS x y, spS u v, adR n zs k] [] (.one (boolS true)) := SpanSets_unfit _ _ _ _ _ _ _ _ _ _ _ _ _ _ _ hl fun z o => sunfit3_2 ha hb hu z o
end
end Go.Proofs.YtnnnmhjcnkipbaaGreatDoor
