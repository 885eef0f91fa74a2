/- VecScales. -/
import Derived.Test.YtejkcmklhmifaaaGreatDoorVecReck
namespace Go.Proofs.YtejkcmklhmifaaaGreatDoor
open Go Go.RowKit Go.Shelf AM
theorem map_get {α β : Type} {f : α → β} {xs : List α} {k : Nat} {x : α} {y : β} (hx : xs[k]? = some x) (hy : (xs.map f)[k]? = some y) : y = f x := by
  rw [List.getElem?_map, hx] at hy
  injection hy with hy; exact hy.symm
theorem map_some {α β : Type} {f : α → β} {xs : List α} {k : Nat} {x : α} (hx : xs[k]? = some x) : (xs.map f)[k]? = some (f x) := by rw [List.getElem?_map, hx]; rfl
theorem map_len {α β : Type} {f : α → β} {xs : List α} {n : Nat} (h : xs.length = n) : (xs.map f).length = n := by simp [h]
theorem map_bq {m j : Nat} {b : Rat} {xs : List Rat} (hx : ∀ x ∈ xs, BQ m x) (hb : BQ j b) : ∀ z ∈ xs.map (· * b), BQ (m + j) z := fun z hz => by
  obtain ⟨x, h1, rfl⟩ := List.mem_map.1 hz
  exact BQ.mul (hx x h1) hb
/-- A row times a number. -/
theorem scaleQ_f {n m j : Nat} {xs : List Rat} {b : Rat} (hn : n ≤ 16) (hl : xs.length = n) (hx : ∀ x ∈ xs, BQ m x) (hb : BQ j b) (h : m + j ≤ 512) : FitsP 39 [ratsN n xs, rq b] [] (.tup [ratsN n (xs.map (· * b)), ok0]) :=
  scaleV_f (by omega) hl (map_len hl) fun k x y h1 h2 => by rw [map_get h1 h2]; exact mulQ_f (mem_get hx h1) hb h
theorem scale_one {n m : Nat} {xs : List Rat} (hn : n ≤ 16) (hl : xs.length = n) (hx : ∀ x ∈ xs, BQ m x) (h : m + 1 ≤ 512) : FitsP 39 [ratsN n xs, rq 1] [] (.tup [ratsN n xs, ok0]) :=
  scaleV_f (by omega) hl hl fun k x y h1 h2 => by
    rw [h1] at h2; injection h2 with h2; subst h2
    have := mulQ_f (mem_get hx h1) (show BQ 1 1 from ⟨by decide, by decide⟩) h
    rw [show x * 1 = x by grind] at this; exact this
theorem scale_zero {n m : Nat} {xs : List Rat} (hn : n ≤ 16) (hl : xs.length = n) (hx : ∀ x ∈ xs, BQ m x) (h : m + 1 ≤ 512) : FitsP 39 [ratsN n xs, rq 0] [] (.tup [ratsN n (nul n), ok0]) :=
  scaleV_f (by omega) hl (nul_len n) fun k x y h1 h2 => by
    have hy : y = 0 := by
      rw [nul_get (by have := (List.getElem?_eq_some_iff.1 h1).1; omega)] at h2; injection h2 with h2; exact h2.symm
    subst hy
    have := mulQ_f (mem_get hx h1) bq_zero h
    rw [show x * 0 = 0 by grind] at this; exact this
theorem zero_n_f {n : Nat} (hn : n ≤ 16) : FitsP 40 [intS (n : Int)] [] (.one (ratsN n (nul n))) := by
  have := zero_f (z := (n : Int))
  rw [show dimN (n : Int) = n by unfold dimN; omega] at this
  exact this
theorem dot_scale {a b : List Rat} {q : Rat} {n : Nat} (h1 : a.length = n) (h2 : b.length = n) : ∀ k, k ≤ n → sumTo (List.zipWith (· * ·) (a.map (· * q)) b) k = sumTo (List.zipWith (· * ·) a b) k * q
  | 0, _ => by show (0 : Rat) = 0 * q; grind
  | k + 1, hk => by
    have ih := dot_scale (q := q) h1 h2 k (by omega)
    obtain ⟨x, hx⟩ : ∃ x, a[k]? = some x := ⟨_, List.getElem?_eq_getElem (by omega)⟩
    obtain ⟨y, hy⟩ : ∃ y, b[k]? = some y := ⟨_, List.getElem?_eq_getElem (by omega)⟩
    rw [sumTo_succ (zip_some (map_some (f := (· * q)) hx) hy), sumTo_succ (zip_some hx hy), ih]
    grind

theorem fit2R {n : Nat} {a b : List Rat} (hn : n ≤ 16) (h1 : a.length = n) (h2 : b.length = n) (ha : ∀ x ∈ a, BQ 5 x) (hb : ∀ x ∈ b, BQ 5 x) : FitsP 33 [.cel (.ent (rowOf 2 [.ent (rowOf n (a.flatMap rqC)), .ent (rowOf n (b.flatMap rqC))]))] [] (.one (boolS true)) := by
  subst h1
  have := foR_true (m := 2) (ls := [a, b]) (l0 := a) (by omega) rfl rfl (fun l hl => by
    simp only [List.mem_cons, List.not_mem_nil, or_false] at hl
    rcases hl with rfl | rfl
    · exact ⟨rfl, by omega, ha⟩
    · exact ⟨by omega, by omega, hb⟩)
  simp only [List.flatMap_cons, List.flatMap_nil, ratsC, h2] at this
  exact this
theorem fit1R {n : Nat} {a : List Rat} (hn : n ≤ 16) (h1 : a.length = n) (ha : ∀ x ∈ a, BQ 5 x) : FitsP 33 [.cel (.ent (rowOf 1 [.ent (rowOf n (a.flatMap rqC))]))] [] (.one (boolS true)) := by
  subst h1
  exact foR_true (m := 1) (ls := [a]) (l0 := a) (by omega) rfl rfl (fun l hl => by
    simp only [List.mem_cons, List.not_mem_nil, or_false] at hl
    rcases hl with rfl
    exact ⟨rfl, by omega, ha⟩)
theorem fit1q {q : Rat} (hq : BQ 5 q) : FitsP 33 [.cel (.ent (rowOf 1 [.ent (rowOf 1 (rqC q))]))] [] (.one (boolS true)) := fit1R (n := 1) (a := [q]) (by omega) rfl (fun x hx => by
  simp only [List.mem_cons, List.not_mem_nil, or_false] at hx
  subst hx; exact hq)
set_option maxRecDepth 100000 in
theorem VecScales_fit {n : Nat} {a b : List Rat} {q : Rat} (hn : n ≤ 6) (h1 : a.length = n) (h2 : b.length = n) (ha : ∀ x ∈ a, BQ 5 x) (hb : ∀ x ∈ b, BQ 5 x) (hq : BQ 5 q) : FitsP 5 [ratsN n a, ratsN n b, rq q] [] (.one (boolS true)) := by
  have hT : AllOk Tryz.prog Glob [
    Tr.call 32 [] [] (Av.one (boolS true)),
    Tr.froz,
    Tr.call 33 [Sv.cel (Cv.ent (rowOf (2 : Nat) [Cv.ent (rowOf n (List.flatMap rqC a)), Cv.ent (rowOf n (List.flatMap rqC b))]))] [] (Av.one (boolS true)),
    Tr.norm 14 (Av.one (Sv.cel (Cv.raw (Value.bool (decide ((↑n : Int) > (6 : Int))))))) (Av.one (boolS false)),
    Tr.froz,
    Tr.froz,
    Tr.call 33 [Sv.cel (Cv.ent (rowOf (1 : Nat) [Cv.ent (rowOf (1 : Nat) [Cv.raw (Value.bool (decide (Rat.num q < (0 : Int)))), Cv.ent (nat (Int.natAbs (Rat.num q))), Cv.ent (nat (Rat.den q))])]))] [] (Av.one (boolS true)),
    Tr.call 39 [Sv.cel (Cv.ent (rowOf n (List.flatMap rqC a))), rq q] [] (Av.tup [Sv.cel (Cv.ent (rowOf n (List.flatMap rqC (List.map (fun x => x * q) a)))), ok0]),
    Tr.call 15 [intS (Int.ofNat (nat_lit 1)), intS (Int.ofNat (nat_lit 1))] [] (Av.one (rq (1 : Rat))),
    Tr.call 39 [Sv.cel (Cv.ent (rowOf n (List.flatMap rqC a))), rq (1 : Rat)] [] (Av.tup [Sv.cel (Cv.ent (rowOf n (List.flatMap rqC a))), ok0]),
    Tr.call 20 [] [] (Av.one (rq (0 : Rat))),
    Tr.call 39 [Sv.cel (Cv.ent (rowOf n (List.flatMap rqC a))), rq (0 : Rat)] [] (Av.tup [Sv.cel (Cv.ent (rowOf n (List.flatMap rqC (nul n)))), ok0]),
    Tr.call 38 [Sv.cel (Cv.ent (rowOf n (List.flatMap rqC a))), Sv.cel (Cv.ent (rowOf n (List.flatMap rqC b)))] [] (Av.tup [rq (dotQ a b n), ok0]),
    Tr.call 38 [Sv.cel (Cv.ent (rowOf n (List.flatMap rqC (List.map (fun x => x * q) a)))), Sv.cel (Cv.ent (rowOf n (List.flatMap rqC b)))] [] (Av.tup [rq (dotQ (List.map (fun x => x * q) a) b n), ok0]),
    Tr.call 23 [rq (dotQ a b n), rq q] [] (Av.tup [rq (dotQ a b n * q), ok0]),
    Tr.call 37 [rq (dotQ (List.map (fun x => x * q) a) b n), rq (dotQ a b n * q)] [] (Av.tup [ok0, ok0]),
    Tr.call 36 [Sv.cel (Cv.ent (rowOf n (List.flatMap rqC a))), Sv.cel (Cv.ent (rowOf n (List.flatMap rqC a)))] [] (Av.one (boolS true)),
    Tr.call 40 [intS (↑n : Int)] [] (Av.one (Sv.cel (Cv.ent (rowOf n (List.flatMap rqC (nul n)))))),
    Tr.call 36 [Sv.cel (Cv.ent (rowOf n (List.flatMap rqC (nul n)))), Sv.cel (Cv.ent (rowOf n (List.flatMap rqC (nul n))))] [] (Av.one (boolS true))] := ⟨
    points7,
    trivial,
    fit2R (by omega) h1 h2 ha hb,
    norm_bool (len_false hn),
    trivial,
    trivial,
    fit1q hq,
    scaleQ_f (by omega) h1 ha hq (by omega),
    ofQ_lit (a := 1) (d := 1) _ (by decide +kernel) (by decide +kernel) (by decide +kernel) (by decide +kernel),
    scale_one (by omega) h1 ha (by omega),
    zeroQ0_f,
    scale_zero (by omega) h1 ha (by omega),
    dotQ_f (m := 5) (j := 5) (by omega) h1 h2 ha hb (by omega) (by omega),
    dotQ_f (m := 10) (j := 5) (by omega) (map_len h1) h2 (map_bq ha hq) hb (by omega) (by omega),
    mulQ_f ((dotQ_bq ha hb (by omega)).mono (show n * 11 + 1 ≤ 67 by omega)) hq (by omega),
    cmp_lit ((dotQ_bq (map_bq ha hq) hb (by omega)).mono (show n * 16 + 1 ≤ 97 by omega)) (BQ.mul ((dotQ_bq ha hb (by omega)).mono (show n * 11 + 1 ≤ 67 by omega)) hq) (by omega) (ord_self (dot_scale h1 h2 n (Nat.le_refl n))),
    sameV_true (by omega) h1 rfl,
    zero_n_f (by omega),
    sameV_true (by omega) (nul_len n) rfl, trivial⟩
  exact fits_of_trace (n := 600) (k0 := 0) hT Tryz.func5 (by kernel_rfl) (by kernel_rfl) (by kernel_rfl)

set_option maxRecDepth 100000 in
theorem VecScales_long {n : Nat} {a b : List Rat} {p : Ag} (hn : 6 < n) (hn2 : n ≤ 16) (h1 : a.length = n) (h2 : b.length = n) (ha : ∀ x ∈ a, BQ 5 x) (hb : ∀ x ∈ b, BQ 5 x) : FitsP 5 [ratsN n a, ratsN n b, agS p] [] (.one (boolS true)) := by
  have hT : AllOk Tryz.prog Glob [
    Tr.call 32 [] [] (Av.one (boolS true)),
    Tr.froz,
    Tr.call 33 [Sv.cel (Cv.ent (rowOf (2 : Nat) [Cv.ent (rowOf n (List.flatMap rqC a)), Cv.ent (rowOf n (List.flatMap rqC b))]))] [] (Av.one (boolS true)),
    Tr.norm 14 (Av.one (Sv.cel (Cv.raw (Value.bool (decide ((↑n : Int) > (6 : Int))))))) (Av.one (boolS true))] := ⟨
    points7,
    trivial,
    fit2R hn2 h1 h2 ha hb,
    norm_bool (gt_true hn), trivial⟩
  exact fits_of_trace (n := 300) (k0 := 0) hT Tryz.func5 (by kernel_rfl) (by kernel_rfl) (by kernel_rfl)

set_option maxRecDepth 100000 in
theorem VecScales_unq {n : Nat} {a b : List Rat} {p : Ag} (hn : n ≤ 6) (h1 : a.length = n) (h2 : b.length = n) (ha : ∀ x ∈ a, BQ 5 x) (hb : ∀ x ∈ b, BQ 5 x) (hu : FitsP 33 [.cel (.ent (rowOf 1 [.ent (rowOf 1 (agC p))]))] [] (.one (boolS false))) : FitsP 5 [ratsN n a, ratsN n b, agS p] [] (.one (boolS true)) := by
  have hT : AllOk Tryz.prog Glob [
    Tr.call 32 [] [] (Av.one (boolS true)),
    Tr.froz,
    Tr.call 33 [Sv.cel (Cv.ent (rowOf (2 : Nat) [Cv.ent (rowOf n (List.flatMap rqC a)), Cv.ent (rowOf n (List.flatMap rqC b))]))] [] (Av.one (boolS true)),
    Tr.norm 14 (Av.one (Sv.cel (Cv.raw (Value.bool (decide ((↑n : Int) > (6 : Int))))))) (Av.one (boolS false)),
    Tr.froz,
    Tr.froz,
    Tr.call 33 [Sv.cel (Cv.ent (rowOf (1 : Nat) [Cv.ent (rowOf (1 : Nat) [Cv.raw (Value.bool (Ag.m p)), Cv.ent (argE p.2), Cv.ent (argE p.3)])]))] [] (Av.one (boolS false))] := ⟨
    points7,
    trivial,
    fit2R (by omega) h1 h2 ha hb,
    norm_bool (len_false hn),
    trivial,
    trivial,
    hu, trivial⟩
  exact fits_of_trace (n := 300) (k0 := 0) hT Tryz.func5 (by kernel_rfl) (by kernel_rfl) (by kernel_rfl)

set_option maxRecDepth 100000 in
theorem VecScales_un {m r : Nat} {cs ds : List Cv} {p : Ag} (hu : FitsP 33 [.cel (.ent (rowOf 2 [.ent (rowOf m cs), .ent (rowOf r ds)]))] [] (.one (boolS false))) : FitsP 5 [.cel (.ent (rowOf m cs)), .cel (.ent (rowOf r ds)), agS p] [] (.one (boolS true)) := by
  have hT : AllOk Tryz.prog Glob [
    Tr.call 32 [] [] (Av.one (boolS true)),
    Tr.froz,
    Tr.call 33 [Sv.cel (Cv.ent (rowOf (2 : Nat) [Cv.ent (rowOf m cs), Cv.ent (rowOf r ds)]))] [] (Av.one (boolS false))] := ⟨
    points7,
    trivial,
    hu, trivial⟩
  exact fits_of_trace (n := 300) (k0 := 0) hT Tryz.func5 (by kernel_rfl) (by kernel_rfl) (by kernel_rfl)
end Go.Proofs.YtejkcmklhmifaaaGreatDoor
