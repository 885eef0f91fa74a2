/- SpanNear. -/
import Derived.Test.YtphpaejgcahgbaaGreatDoorSpL
import Derived.Test.YtphpaejgcahgbaaGreatDoorDyNear
namespace Go.Proofs.YtphpaejgcahgbaaGreatDoor
open Go Go.RowKit Go.Shelf AM
section
variable {q : Rat} {b f : Nat}
theorem nrS_bd (hq : BQ 10 q) (hb : 2 ≤ b) (hb2 : b ≤ 1000) : BD 12 139 (nrD b q) := BD.nr hq (by omega) (by omega)
theorem nuS_bd (hq : BQ 10 q) (hb : 2 ≤ b) (hb2 : b ≤ 1000) : BD 12 139 (nuD b q) := BD.nu hq (by omega) (by omega)
end

set_option maxRecDepth 100000 in
theorem SpanNear_un1 {m : Bool} {xs ds : List Nat} {w f : Int} (hu : 10 < xs.length) : FitsP 13 [ag m xs ds, intS w, intS f] [] (.one (boolS true)) := by
  have hT : AllOk Tryz.prog Glob [
    Tr.call 71 [] [] (Av.one (Sv.cel (Cv.raw (Value.bool true)))),
    Tr.norm (nat_lit 9) (Av.one (Sv.cel (Cv.raw (Value.bool (decide ((↑(List.length xs) : Int) > (10 : Int))))))) (Av.one (Sv.cel (Cv.raw (Value.bool true))))] := ⟨
    between_f,
    norm_bool (gt_true hu), trivial⟩
  exact fits_of_trace (n := 300) (k0 := 0) hT Tryz.func13 (by kernel_rfl) (by kernel_rfl) (by kernel_rfl)

set_option maxRecDepth 100000 in
theorem SpanNear_un2 {m : Bool} {xs ds : List Nat} {w f : Int} (hx : xs.length ≤ 10) (hu : 10 < ds.length) : FitsP 13 [ag m xs ds, intS w, intS f] [] (.one (boolS true)) := by
  have hT : AllOk Tryz.prog Glob [
    Tr.call 71 [] [] (Av.one (Sv.cel (Cv.raw (Value.bool true)))),
    Tr.norm (nat_lit 9) (Av.one (Sv.cel (Cv.raw (Value.bool (decide ((↑(List.length xs) : Int) > (10 : Int))))))) (Av.one (Sv.cel (Cv.raw (Value.bool false)))),
    Tr.norm (nat_lit 15) (Av.one (Sv.cel (Cv.raw (Value.bool (decide ((↑(List.length ds) : Int) > (10 : Int))))))) (Av.one (Sv.cel (Cv.raw (Value.bool true))))] := ⟨
    between_f,
    norm_bool (gt_false hx),
    norm_bool (gt_true hu), trivial⟩
  exact fits_of_trace (n := 300) (k0 := 0) hT Tryz.func13 (by kernel_rfl) (by kernel_rfl) (by kernel_rfl)

set_option maxRecDepth 100000 in
theorem SpanNear_un3 {m : Bool} {xs ds : List Nat} {w f : Int} {c : Int} (hx : xs.length ≤ 10) (hy : ds.length ≤ 10) (hc : c ≠ 0) (hu : FitsP 36 [ag m xs ds] [] (.one (intS c))) : FitsP 13 [ag m xs ds, intS w, intS f] [] (.one (boolS true)) := by
  have hT : AllOk Tryz.prog Glob [
    Tr.call 71 [] [] (Av.one (Sv.cel (Cv.raw (Value.bool true)))),
    Tr.norm (nat_lit 9) (Av.one (Sv.cel (Cv.raw (Value.bool (decide ((↑(List.length xs) : Int) > (10 : Int))))))) (Av.one (Sv.cel (Cv.raw (Value.bool false)))),
    Tr.norm (nat_lit 15) (Av.one (Sv.cel (Cv.raw (Value.bool (decide ((↑(List.length ds) : Int) > (10 : Int))))))) (Av.one (Sv.cel (Cv.raw (Value.bool false)))),
    Tr.call 36 [Sv.agg [Cv.raw (Value.bool m), Cv.ent (argE xs), Cv.ent (argE ds)]] [] (Av.one (Sv.cel (Cv.raw (Value.int IntKind.i64 c)))),
    Tr.norm (nat_lit 20) (Av.one (Sv.cel (Cv.raw (Value.bool (c != (0 : Int)))))) (Av.one (Sv.cel (Cv.raw (Value.bool true))))] := ⟨
    between_f,
    norm_bool (gt_false hx),
    norm_bool (gt_false hy),
    hu,
    norm_bool (ne_true hc), trivial⟩
  exact fits_of_trace (n := 300) (k0 := 0) hT Tryz.func13 (by kernel_rfl) (by kernel_rfl) (by kernel_rfl)

set_option maxRecDepth 100000 in
theorem SpanNear_b1 {q : Rat} {w f : Int} (hq : BQ 10 q) (h : w < 2) : FitsP 13 [rq q, intS w, intS f] [] (.one (boolS true)) := by
  have hT : AllOk Tryz.prog Glob [
    Tr.call 71 [] [] (Av.one (Sv.cel (Cv.raw (Value.bool true)))),
    Tr.norm (nat_lit 9) (Av.one (Sv.cel (Cv.raw (Value.bool (decide ((↑(lenN (Int.natAbs (Rat.num q))) : Int) > (10 : Int))))))) (Av.one (Sv.cel (Cv.raw (Value.bool false)))),
    Tr.norm (nat_lit 15) (Av.one (Sv.cel (Cv.raw (Value.bool (decide ((↑(lenN (Rat.den q)) : Int) > (10 : Int))))))) (Av.one (Sv.cel (Cv.raw (Value.bool false)))),
    Tr.call 36 [Sv.agg [Cv.raw (Value.bool (decide (Rat.num q < (0 : Int)))), Cv.ent (nat (Int.natAbs (Rat.num q))), Cv.ent (nat (Rat.den q))]] [] (Av.one (Sv.cel (Cv.raw (Value.int IntKind.i64 (Int.ofNat (nat_lit 0)))))),
    Tr.norm (nat_lit 24) (Av.one (Sv.cel (Cv.raw (Value.bool (decide (w < (2 : Int))))))) (Av.one (Sv.cel (Cv.raw (Value.bool true))))] := ⟨
    between_f,
    norm_bool (hq.len1'),
    norm_bool (hq.len2'),
    checkB_f hq (by omega),
    norm_bool (decide_eq_true h), trivial⟩
  exact fits_of_trace (n := 300) (k0 := 0) hT Tryz.func13 (by kernel_rfl) (by kernel_rfl) (by kernel_rfl)

set_option maxRecDepth 100000 in
theorem SpanNear_b2 {q : Rat} {w f : Int} (hq : BQ 10 q) (h1 : ¬ w < 2) (h : w > 1000) : FitsP 13 [rq q, intS w, intS f] [] (.one (boolS true)) := by
  have hT : AllOk Tryz.prog Glob [
    Tr.call 71 [] [] (Av.one (Sv.cel (Cv.raw (Value.bool true)))),
    Tr.norm (nat_lit 9) (Av.one (Sv.cel (Cv.raw (Value.bool (decide ((↑(lenN (Int.natAbs (Rat.num q))) : Int) > (10 : Int))))))) (Av.one (Sv.cel (Cv.raw (Value.bool false)))),
    Tr.norm (nat_lit 15) (Av.one (Sv.cel (Cv.raw (Value.bool (decide ((↑(lenN (Rat.den q)) : Int) > (10 : Int))))))) (Av.one (Sv.cel (Cv.raw (Value.bool false)))),
    Tr.call 36 [Sv.agg [Cv.raw (Value.bool (decide (Rat.num q < (0 : Int)))), Cv.ent (nat (Int.natAbs (Rat.num q))), Cv.ent (nat (Rat.den q))]] [] (Av.one (Sv.cel (Cv.raw (Value.int IntKind.i64 (Int.ofNat (nat_lit 0)))))),
    Tr.norm (nat_lit 24) (Av.one (Sv.cel (Cv.raw (Value.bool (decide (w < (2 : Int))))))) (Av.one (Sv.cel (Cv.raw (Value.bool false)))),
    Tr.norm (nat_lit 28) (Av.one (Sv.cel (Cv.raw (Value.bool (decide (w > (1000 : Int))))))) (Av.one (Sv.cel (Cv.raw (Value.bool true))))] := ⟨
    between_f,
    norm_bool (hq.len1'),
    norm_bool (hq.len2'),
    checkB_f hq (by omega),
    norm_bool (decide_eq_false h1),
    norm_bool (decide_eq_true h), trivial⟩
  exact fits_of_trace (n := 300) (k0 := 0) hT Tryz.func13 (by kernel_rfl) (by kernel_rfl) (by kernel_rfl)

set_option maxRecDepth 100000 in
theorem SpanNear_b3 {q : Rat} {w f : Int} (hq : BQ 10 q) (h1 : ¬ w < 2) (h2 : ¬ w > 1000) (h : f < 2) : FitsP 13 [rq q, intS w, intS f] [] (.one (boolS true)) := by
  have hT : AllOk Tryz.prog Glob [
    Tr.call 71 [] [] (Av.one (Sv.cel (Cv.raw (Value.bool true)))),
    Tr.norm (nat_lit 9) (Av.one (Sv.cel (Cv.raw (Value.bool (decide ((↑(lenN (Int.natAbs (Rat.num q))) : Int) > (10 : Int))))))) (Av.one (Sv.cel (Cv.raw (Value.bool false)))),
    Tr.norm (nat_lit 15) (Av.one (Sv.cel (Cv.raw (Value.bool (decide ((↑(lenN (Rat.den q)) : Int) > (10 : Int))))))) (Av.one (Sv.cel (Cv.raw (Value.bool false)))),
    Tr.call 36 [Sv.agg [Cv.raw (Value.bool (decide (Rat.num q < (0 : Int)))), Cv.ent (nat (Int.natAbs (Rat.num q))), Cv.ent (nat (Rat.den q))]] [] (Av.one (Sv.cel (Cv.raw (Value.int IntKind.i64 (Int.ofNat (nat_lit 0)))))),
    Tr.norm (nat_lit 24) (Av.one (Sv.cel (Cv.raw (Value.bool (decide (w < (2 : Int))))))) (Av.one (Sv.cel (Cv.raw (Value.bool false)))),
    Tr.norm (nat_lit 28) (Av.one (Sv.cel (Cv.raw (Value.bool (decide (w > (1000 : Int))))))) (Av.one (Sv.cel (Cv.raw (Value.bool false)))),
    Tr.norm (nat_lit 32) (Av.one (Sv.cel (Cv.raw (Value.bool (decide (f < (2 : Int))))))) (Av.one (Sv.cel (Cv.raw (Value.bool true))))] := ⟨
    between_f,
    norm_bool (hq.len1'),
    norm_bool (hq.len2'),
    checkB_f hq (by omega),
    norm_bool (decide_eq_false h1),
    norm_bool (decide_eq_false h2),
    norm_bool (decide_eq_true h), trivial⟩
  exact fits_of_trace (n := 300) (k0 := 0) hT Tryz.func13 (by kernel_rfl) (by kernel_rfl) (by kernel_rfl)

set_option maxRecDepth 100000 in
theorem SpanNear_b4 {q : Rat} {w f : Int} (hq : BQ 10 q) (h1 : ¬ w < 2) (h2 : ¬ w > 1000) (h3 : ¬ f < 2) (h : f > w) : FitsP 13 [rq q, intS w, intS f] [] (.one (boolS true)) := by
  have hT : AllOk Tryz.prog Glob [
    Tr.call 71 [] [] (Av.one (Sv.cel (Cv.raw (Value.bool true)))),
    Tr.norm (nat_lit 9) (Av.one (Sv.cel (Cv.raw (Value.bool (decide ((↑(lenN (Int.natAbs (Rat.num q))) : Int) > (10 : Int))))))) (Av.one (Sv.cel (Cv.raw (Value.bool false)))),
    Tr.norm (nat_lit 15) (Av.one (Sv.cel (Cv.raw (Value.bool (decide ((↑(lenN (Rat.den q)) : Int) > (10 : Int))))))) (Av.one (Sv.cel (Cv.raw (Value.bool false)))),
    Tr.call 36 [Sv.agg [Cv.raw (Value.bool (decide (Rat.num q < (0 : Int)))), Cv.ent (nat (Int.natAbs (Rat.num q))), Cv.ent (nat (Rat.den q))]] [] (Av.one (Sv.cel (Cv.raw (Value.int IntKind.i64 (Int.ofNat (nat_lit 0)))))),
    Tr.norm (nat_lit 24) (Av.one (Sv.cel (Cv.raw (Value.bool (decide (w < (2 : Int))))))) (Av.one (Sv.cel (Cv.raw (Value.bool false)))),
    Tr.norm (nat_lit 28) (Av.one (Sv.cel (Cv.raw (Value.bool (decide (w > (1000 : Int))))))) (Av.one (Sv.cel (Cv.raw (Value.bool false)))),
    Tr.norm (nat_lit 32) (Av.one (Sv.cel (Cv.raw (Value.bool (decide (f < (2 : Int))))))) (Av.one (Sv.cel (Cv.raw (Value.bool false)))),
    Tr.norm (nat_lit 36) (Av.one (Sv.cel (Cv.raw (Value.bool (decide (f > w)))))) (Av.one (Sv.cel (Cv.raw (Value.bool true))))] := ⟨
    between_f,
    norm_bool (hq.len1'),
    norm_bool (hq.len2'),
    checkB_f hq (by omega),
    norm_bool (decide_eq_false h1),
    norm_bool (decide_eq_false h2),
    norm_bool (decide_eq_false h3),
    norm_bool (decide_eq_true h), trivial⟩
  exact fits_of_trace (n := 300) (k0 := 0) hT Tryz.func13 (by kernel_rfl) (by kernel_rfl) (by kernel_rfl)

set_option maxRecDepth 100000 in
theorem SpanNear_go {q : Rat} {b f : Nat} (hq : BQ 10 q) (hb : 2 ≤ b) (hb2 : b ≤ 1000) (hf : 2 ≤ f) (hf2 : f ≤ b) : FitsP 13 [rq q, intS (b : Int), intS (f : Int)] [] (.one (boolS true)) := by
  have hT : AllOk Tryz.prog Glob [
    Tr.call 71 [] [] (Av.one (Sv.cel (Cv.raw (Value.bool true)))),
    Tr.norm (nat_lit 9) (Av.one (Sv.cel (Cv.raw (Value.bool (decide ((↑(lenN (Int.natAbs (Rat.num q))) : Int) > (10 : Int))))))) (Av.one (Sv.cel (Cv.raw (Value.bool false)))),
    Tr.norm (nat_lit 15) (Av.one (Sv.cel (Cv.raw (Value.bool (decide ((↑(lenN (Rat.den q)) : Int) > (10 : Int))))))) (Av.one (Sv.cel (Cv.raw (Value.bool false)))),
    Tr.call 36 [Sv.agg [Cv.raw (Value.bool (decide (Rat.num q < (0 : Int)))), Cv.ent (nat (Int.natAbs (Rat.num q))), Cv.ent (nat (Rat.den q))]] [] (Av.one (Sv.cel (Cv.raw (Value.int IntKind.i64 (Int.ofNat (nat_lit 0)))))),
    Tr.norm (nat_lit 24) (Av.one (Sv.cel (Cv.raw (Value.bool (decide ((↑b : Int) < (2 : Int))))))) (Av.one (Sv.cel (Cv.raw (Value.bool false)))),
    Tr.norm (nat_lit 28) (Av.one (Sv.cel (Cv.raw (Value.bool (decide ((↑b : Int) > (1000 : Int))))))) (Av.one (Sv.cel (Cv.raw (Value.bool false)))),
    Tr.norm (nat_lit 32) (Av.one (Sv.cel (Cv.raw (Value.bool (decide ((↑f : Int) < (2 : Int))))))) (Av.one (Sv.cel (Cv.raw (Value.bool false)))),
    Tr.norm (nat_lit 36) (Av.one (Sv.cel (Cv.raw (Value.bool (decide ((↑f : Int) > (↑b : Int))))))) (Av.one (Sv.cel (Cv.raw (Value.bool false)))),
    Tr.call 72 [Sv.agg [Cv.raw (Value.bool (decide (Rat.num q < (0 : Int)))), Cv.ent (nat (Int.natAbs (Rat.num q))), Cv.ent (nat (Rat.den q))], Sv.cel (Cv.raw (Value.int IntKind.i64 (↑b : Int)))] [] (Av.tup [Sv.agg [Cv.raw (Value.bool (decide (Dy.m (nrD b q) < (0 : Int)))), Cv.ent (nat (Int.natAbs (Dy.m (nrD b q)))), Cv.raw (Value.int IntKind.i64 (Dy.e (nrD b q))), Cv.raw (Value.bool (decide (Dy.m (nuD b q) < (0 : Int)))), Cv.ent (nat (Int.natAbs (Dy.m (nuD b q)))), Cv.raw (Value.int IntKind.i64 (Dy.e (nuD b q)))], Sv.cel (Cv.raw (Value.int IntKind.i64 (Int.ofNat (nat_lit 0))))]),
    Tr.call 73 [Sv.agg [Cv.raw (Value.bool (decide (Dy.m (nrD b q) < (0 : Int)))), Cv.ent (nat (Int.natAbs (Dy.m (nrD b q)))), Cv.raw (Value.int IntKind.i64 (Dy.e (nrD b q))), Cv.raw (Value.bool (decide (Dy.m (nuD b q) < (0 : Int)))), Cv.ent (nat (Int.natAbs (Dy.m (nuD b q)))), Cv.raw (Value.int IntKind.i64 (Dy.e (nuD b q)))], Sv.cel (Cv.raw (Value.int IntKind.i64 (↑f : Int)))] [] (Av.tup [Sv.agg [Cv.raw (Value.bool (decide (Dy.m (rdD f (nrD b q)) < (0 : Int)))), Cv.ent (nat (Int.natAbs (Dy.m (rdD f (nrD b q))))), Cv.raw (Value.int IntKind.i64 (Dy.e (rdD f (nrD b q)))), Cv.raw (Value.bool (decide (Dy.m (ruD f (nuD b q)) < (0 : Int)))), Cv.ent (nat (Int.natAbs (Dy.m (ruD f (nuD b q))))), Cv.raw (Value.int IntKind.i64 (Dy.e (ruD f (nuD b q))))], Sv.cel (Cv.raw (Value.int IntKind.i64 (Int.ofNat (nat_lit 0))))]),
    Tr.call 74 [Sv.agg [Cv.raw (Value.bool (decide (Dy.m (nrD b q) < (0 : Int)))), Cv.ent (nat (Int.natAbs (Dy.m (nrD b q)))), Cv.raw (Value.int IntKind.i64 (Dy.e (nrD b q))), Cv.raw (Value.bool (decide (Dy.m (nuD b q) < (0 : Int)))), Cv.ent (nat (Int.natAbs (Dy.m (nuD b q)))), Cv.raw (Value.int IntKind.i64 (Dy.e (nuD b q)))], Sv.cel (Cv.raw (Value.int IntKind.i64 (Int.ofNat (nat_lit 0)))), Sv.agg [Cv.raw (Value.bool (decide (Rat.num q < (0 : Int)))), Cv.ent (nat (Int.natAbs (Rat.num q))), Cv.ent (nat (Rat.den q))], Sv.cel (Cv.raw (Value.int IntKind.i64 (↑b : Int)))] [] (Av.one (Sv.cel (Cv.raw (Value.bool true)))),
    Tr.call 74 [Sv.agg [Cv.raw (Value.bool (decide (Dy.m (rdD f (nrD b q)) < (0 : Int)))), Cv.ent (nat (Int.natAbs (Dy.m (rdD f (nrD b q))))), Cv.raw (Value.int IntKind.i64 (Dy.e (rdD f (nrD b q)))), Cv.raw (Value.bool (decide (Dy.m (ruD f (nuD b q)) < (0 : Int)))), Cv.ent (nat (Int.natAbs (Dy.m (ruD f (nuD b q))))), Cv.raw (Value.int IntKind.i64 (Dy.e (ruD f (nuD b q))))], Sv.cel (Cv.raw (Value.int IntKind.i64 (Int.ofNat (nat_lit 0)))), Sv.agg [Cv.raw (Value.bool (decide (Rat.num q < (0 : Int)))), Cv.ent (nat (Int.natAbs (Rat.num q))), Cv.ent (nat (Rat.den q))], Sv.cel (Cv.raw (Value.int IntKind.i64 (↑f : Int)))] [] (Av.one (Sv.cel (Cv.raw (Value.bool true)))),
    Tr.call 75 [Sv.agg [Cv.raw (Value.bool (decide (Dy.m (rdD f (nrD b q)) < (0 : Int)))), Cv.ent (nat (Int.natAbs (Dy.m (rdD f (nrD b q))))), Cv.raw (Value.int IntKind.i64 (Dy.e (rdD f (nrD b q)))), Cv.raw (Value.bool (decide (Dy.m (ruD f (nuD b q)) < (0 : Int)))), Cv.ent (nat (Int.natAbs (Dy.m (ruD f (nuD b q))))), Cv.raw (Value.int IntKind.i64 (Dy.e (ruD f (nuD b q))))], Sv.agg [Cv.raw (Value.bool (decide (Dy.m (nrD b q) < (0 : Int)))), Cv.ent (nat (Int.natAbs (Dy.m (nrD b q)))), Cv.raw (Value.int IntKind.i64 (Dy.e (nrD b q))), Cv.raw (Value.bool (decide (Dy.m (nuD b q) < (0 : Int)))), Cv.ent (nat (Int.natAbs (Dy.m (nuD b q)))), Cv.raw (Value.int IntKind.i64 (Dy.e (nuD b q)))]] [] (Av.one (Sv.cel (Cv.raw (Value.bool true))))] := ⟨
    between_f,
    norm_bool (hq.len1'),
    norm_bool (hq.len2'),
    checkB_f hq (by omega),
    norm_bool (decide_eq_false (show ¬ (b : Int) < 2 by omega)),
    norm_bool (decide_eq_false (show ¬ (b : Int) > 1000 by omega)),
    norm_bool (decide_eq_false (show ¬ (f : Int) < 2 by omega)),
    norm_bool (decide_eq_false (show ¬ (f : Int) > (b : Int) by omega)),
    nearS_f hq (by omega) hb (by omega),
    roundS_f (nrS_bd hq hb hb2) (nuS_bd hq hb hb2) (by omega) hf (by omega),
    hasR_f (nrS_bd hq hb hb2) (nuS_bd hq hb hb2) hq (by omega) rfl rfl nr_le nu_ge (nr_few (by omega)) (nu_few (by omega)),
    hasR_f ((nrS_bd hq hb hb2).rd (by omega)) ((nuS_bd hq hb hb2).ru (by omega)) hq (by omega) rfl rfl (Rat.le_trans (rd_le _ _) nr_le) (Rat.le_trans nu_ge (ru_ge _ _)) (rd_few (by omega)) (ru_few (by omega)),
    holdsYes_f ((nrS_bd hq hb hb2).rd (by omega)) ((nuS_bd hq hb hb2).ru (by omega)) ((nrS_bd hq hb hb2).mono (by omega) (Nat.le_refl _)) ((nuS_bd hq hb hb2).mono (by omega) (Nat.le_refl _)) (by omega) (rd_le _ _) (ru_ge _ _), trivial⟩
  exact fits_of_trace (n := 300) (k0 := 0) hT Tryz.func13 (by kernel_rfl) (by kernel_rfl) (by kernel_rfl)

theorem SpanNear_fit {q : Rat} {w f : Int} (hq : BQ 10 q) : FitsP 13 [rq q, intS w, intS f] [] (.one (boolS true)) := by
  by_cases h1 : w < 2
  · exact SpanNear_b1 hq h1
  by_cases h2 : w > 1000
  · exact SpanNear_b2 hq h1 h2
  by_cases h3 : f < 2
  · exact SpanNear_b3 hq h1 h2 h3
  by_cases h4 : f > w
  · exact SpanNear_b4 hq h1 h2 h3 h4
  obtain ⟨b, rfl⟩ : ∃ b : Nat, w = b := ⟨w.toNat, by omega⟩
  obtain ⟨j, rfl⟩ : ∃ j : Nat, f = j := ⟨f.toNat, by omega⟩
  exact SpanNear_go hq (by omega) (by omega) (by omega) (by omega)
end Go.Proofs.YtphpaejgcahgbaaGreatDoor
