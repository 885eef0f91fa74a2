/- VecReckons. -/
import Derived.Test.YtejkcmklhmifaaaGreatDoorVecM
namespace Go.Proofs.YtejkcmklhmifaaaGreatDoor
open Go Go.RowKit Go.Shelf AM
theorem dot_split {a b c : List Rat} {n : Nat} (h1 : a.length = n) (h2 : b.length = n) (h3 : c.length = n) : ∀ k, k ≤ n → sumTo (List.zipWith (· * ·) (List.zipWith (· + ·) a b) c) k = sumTo (List.zipWith (· * ·) a c) k + sumTo (List.zipWith (· * ·) c b) k
  | 0, _ => by show (0 : Rat) = 0 + 0; grind
  | k + 1, hk => by
    have ih := dot_split h1 h2 h3 k (by omega)
    obtain ⟨x, hx⟩ : ∃ x, a[k]? = some x := ⟨_, List.getElem?_eq_getElem (by omega)⟩
    obtain ⟨y, hy⟩ : ∃ y, b[k]? = some y := ⟨_, List.getElem?_eq_getElem (by omega)⟩
    obtain ⟨z, hz⟩ : ∃ z, c[k]? = some z := ⟨_, List.getElem?_eq_getElem (by omega)⟩
    rw [sumTo_succ (zip_some (zip_some hx hy) hz), sumTo_succ (zip_some hx hz), sumTo_succ (zip_some hz hy), ih]
    grind
theorem adds_bq {a b : List Rat} (ha : ∀ x ∈ a, BQ 5 x) (hb : ∀ x ∈ b, BQ 5 x) : ∀ z ∈ List.zipWith (· + ·) a b, BQ 11 z := zip_all (f := (· + ·)) (R := fun z => BQ 11 z) ha hb fun x y p q => (BQ.add p q).mono (by omega)
theorem len_false {n m : Nat} (h : n ≤ m) : decide ((n : Int) > (m : Int)) = false := gt_false h
theorem ord_self {p q : Rat} (h : p = q) : ordQ p q = 0 := by subst h; unfold ordQ; simp

def rkLT (n : Nat) (a b c : List Rat) (k : Nat) : List Av := mkT 155 [(0, .one (.cel (.ent (rowOf n (a.flatMap rqC))))), (1, .one (.cel (.ent (rowOf n (b.flatMap rqC))))), (2, .one (.cel (.ent (rowOf n (c.flatMap rqC))))), (7, .one (.cel (.ent (rowOf n ((List.zipWith (· + ·) a b).flatMap rqC))))), (71, .one (.cel (.raw (.int .i64 (n : Int))))), (72, .one (.cel (.raw (.int .i64 ((k : Nat) : Int)))))]
def rkLV (_n : Nat) (_a _b _c : List Rat) (_k : Nat) : List (Nat × VarSt) := []
set_option maxRecDepth 100000 in
theorem rkL_round {n : Nat} {a b c : List Rat} {k : Nat} (hn : n ≤ 6) (h1 : a.length = n) (h2 : b.length = n) (ha : ∀ x ∈ a, BQ 5 x) (hb : ∀ x ∈ b, BQ 5 x) {x y : Rat} (hx : a[k]? = some x) (hy : b[k]? = some y) : AM.Moves Tryz.prog Glob (loopN Tryz.f4 0) (rkLT n a b c k) (rkLV n a b c k) .normal (rkLT n a b c (k + 1)) (rkLV n a b c (k + 1)) := by
  have hT : AllOk Tryz.prog Glob [
    Tr.norm 100 (Av.one (Sv.cel (Cv.raw (Value.bool (decide ((↑k : Int) < (↑n : Int))))))) (Av.one (boolS true)),
    Tr.told (Op.indexAddr 28 (Operand.tmp 76) (Operand.tmp 77)) 0 [Av.one (Sv.cel (Cv.ent (rowOf n (List.flatMap rqC a)))), Av.one (intS (↑k : Int))] (.one (.cel (.ent (ptrTo (rqC x))))),
    Tr.told (Op.load 27 (Operand.tmp 78)) 27 [Av.one (Sv.cel (Cv.ent (ptrTo [Cv.raw (Value.bool (decide (Rat.num x < (0 : Int)))), Cv.ent (nat (Int.natAbs (Rat.num x))), Cv.ent (nat (Rat.den x))])))] (.one (rq x)),
    Tr.told (Op.indexAddr 28 (Operand.tmp 80) (Operand.tmp 81)) 0 [Av.one (Sv.cel (Cv.ent (rowOf n (List.flatMap rqC b)))), Av.one (intS (↑k : Int))] (.one (.cel (.ent (ptrTo (rqC y))))),
    Tr.told (Op.load 27 (Operand.tmp 82)) 27 [Av.one (Sv.cel (Cv.ent (ptrTo [Cv.raw (Value.bool (decide (Rat.num y < (0 : Int)))), Cv.ent (nat (Int.natAbs (Rat.num y))), Cv.ent (nat (Rat.den y))])))] (.one (rq y)),
    Tr.call 24 [rq x, rq y] [] (Av.tup [rq (x + y), ok0]),
    Tr.told (Op.indexAddr 28 (Operand.tmp 89) (Operand.tmp 90)) 0 [Av.one (Sv.cel (Cv.ent (rowOf n (List.flatMap rqC (List.zipWith (fun x1 x2 => x1 + x2) a b))))), Av.one (intS (↑k : Int))] (.one (.cel (.ent (ptrTo (rqC (x + y)))))),
    Tr.told (Op.load 27 (Operand.tmp 91)) 27 [Av.one (Sv.cel (Cv.ent (ptrTo [Cv.raw (Value.bool (decide (Rat.num (x + y) < (0 : Int)))), Cv.ent (nat (Int.natAbs (Rat.num (x + y)))), Cv.ent (nat (Rat.den (x + y)))])))] (.one (rq (x + y))),
    Tr.call 37 [rq (x + y), rq (x + y)] [] (Av.tup [ok0, ok0]),
    Tr.norm 135 (Av.one (intS (IntKind.wrap IntKind.i64 ((↑k : Int) + (1 : Int))))) (Av.one (intS (↑(k + (1 : Nat)) : Int)))] := ⟨
    norm_bool (lt_true (idx_lt hx h1)),
    idx_ok (e := 27) (s := 3) (j := k) (by kernel_rfl) (by kernel_rfl) rfl (idx_lt hx h1) (flat_get rqC_len hx) (flat_ne rqC_len (by omega) hx),
    loadn_ok (by kernel_rfl) (by kernel_rfl) (Nat.le_refl _) rfl,
    idx_ok (e := 27) (s := 3) (j := k) (by kernel_rfl) (by kernel_rfl) rfl (idx_lt hy h2) (flat_get rqC_len hy) (flat_ne rqC_len (by omega) hy),
    loadn_ok (by kernel_rfl) (by kernel_rfl) (Nat.le_refl _) rfl,
    addQ_f (mem_get ha hx) (mem_get hb hy) (by omega),
    idx_ok (e := 27) (s := 3) (j := k) (by kernel_rfl) (by kernel_rfl) rfl (idx_lt (zip_some (f := (· + ·)) hx hy) (zip_len (f := (· + ·)) h1 h2)) (flat_get rqC_len (zip_some (f := (· + ·)) hx hy)) (flat_ne rqC_len (by omega) (zip_some (f := (· + ·)) hx hy)),
    loadn_ok (by kernel_rfl) (by kernel_rfl) (Nat.le_refl _) rfl,
    cmp_lit (BQ.add (mem_get ha hx) (mem_get hb hy)) (BQ.add (mem_get ha hx) (mem_get hb hy)) (by omega) (ord_self rfl),
    norm_succ (idx_lt hx h1) (by omega), trivial⟩
  exact moves_of_trace (n := 200) (k := 100) (keep := [0, 1, 2, 7, 71, 72]) (ids := []) hT (by kernel_rfl)

set_option maxRecDepth 100000 in
theorem rkL_exit {n : Nat} {a b c : List Rat}  : AM.Moves Tryz.prog Glob (loopN Tryz.f4 0) (rkLT n a b c n) (rkLV n a b c n) (.exit 0) (rkLT n a b c n) (rkLV n a b c n) := by
  have hT : AllOk Tryz.prog Glob [
    Tr.norm 100 (Av.one (Sv.cel (Cv.raw (Value.bool (decide ((↑n : Int) < (↑n : Int))))))) (Av.one (boolS false))] := ⟨
    norm_bool (lt_false), trivial⟩
  exact moves_of_trace (n := 200) (k := 100) (keep := [0, 1, 2, 7, 71, 72]) (ids := []) hT (by kernel_rfl)

theorem rkL_loop {n : Nat} {a b c : List Rat} (hn : n ≤ 6) (h1 : a.length = n) (h2 : b.length = n) (ha : ∀ x ∈ a, BQ 5 x) (hb : ∀ x ∈ b, BQ 5 x) :
    AM.Moves Tryz.prog Glob (.loop (loopN Tryz.f4 0)) (rkLT n a b c 0) (rkLV n a b c 0) (.exit 0) (rkLT n a b c n) (rkLV n a b c n) :=
  loop_moves (n := n) (tm := fun k => (rkLT n a b c k)) (vr := fun k => (rkLV n a b c k)) (fun k hk => by
    obtain ⟨x, hx⟩ : ∃ x, a[k]? = some x := ⟨_, List.getElem?_eq_getElem (by omega)⟩
    obtain ⟨y, hy⟩ : ∃ y, b[k]? = some y := ⟨_, List.getElem?_eq_getElem (by omega)⟩
    exact rkL_round hn h1 h2 ha hb hx hy) (by simp) rkL_exit
theorem fit3R {n : Nat} {a b c : List Rat} (hn : n ≤ 16) (h1 : a.length = n) (h2 : b.length = n) (h3 : c.length = n) (ha : ∀ x ∈ a, BQ 5 x) (hb : ∀ x ∈ b, BQ 5 x) (hc : ∀ x ∈ c, BQ 5 x) : FitsP 33 [.cel (.ent (rowOf 3 [.ent (rowOf n (a.flatMap rqC)), .ent (rowOf n (b.flatMap rqC)), .ent (rowOf n (c.flatMap rqC))]))] [] (.one (boolS true)) := by
  subst h1
  have := foR_true (m := 3) (ls := [a, b, c]) (l0 := a) (by omega) rfl rfl (fun l hl => by
      simp only [List.mem_cons, List.not_mem_nil, or_false] at hl
      rcases hl with rfl | rfl | rfl
      · exact ⟨rfl, by omega, ha⟩
      · exact ⟨by omega, by omega, hb⟩
      · exact ⟨by omega, by omega, hc⟩)
  simp only [List.flatMap_cons, List.flatMap_nil, ratsC, h2, h3] at this
  exact this
set_option maxRecDepth 100000 in
theorem VecReckons_fit {n : Nat} {a b c : List Rat} (hn : n ≤ 6) (h1 : a.length = n) (h2 : b.length = n) (ha : ∀ x ∈ a, BQ 5 x) (hb : ∀ x ∈ b, BQ 5 x) (h3 : c.length = n) (hc : ∀ x ∈ c, BQ 5 x) : FitsP 4 [ratsN n a, ratsN n b, ratsN n c] [] (.one (boolS true)) := by
  have hT : AllOk Tryz.prog Glob [
    Tr.call 32 [] [] (Av.one (boolS true)),
    Tr.froz,
    Tr.call 33 [Sv.cel (Cv.ent (rowOf (3 : Nat) [Cv.ent (rowOf n (List.flatMap rqC a)), Cv.ent (rowOf n (List.flatMap rqC b)), Cv.ent (rowOf n (List.flatMap rqC c))]))] [] (Av.one (boolS true)),
    Tr.norm 13 (Av.one (Sv.cel (Cv.raw (Value.bool (decide ((↑n : Int) > (6 : Int))))))) (Av.one (boolS false)),
    Tr.call 34 [Sv.cel (Cv.ent (rowOf n (List.flatMap rqC a))), Sv.cel (Cv.ent (rowOf n (List.flatMap rqC b)))] [] (Av.tup [Sv.cel (Cv.ent (rowOf n (List.flatMap rqC (List.zipWith (fun x1 x2 => x1 + x2) a b)))), ok0]),
    Tr.call 35 [Sv.cel (Cv.ent (rowOf n (List.flatMap rqC (List.zipWith (fun x1 x2 => x1 + x2) a b)))), Sv.cel (Cv.ent (rowOf n (List.flatMap rqC b)))] [] (Av.tup [Sv.cel (Cv.ent (rowOf n (List.flatMap rqC a))), ok0]),
    Tr.call 36 [Sv.cel (Cv.ent (rowOf n (List.flatMap rqC a))), Sv.cel (Cv.ent (rowOf n (List.flatMap rqC a)))] [] (Av.one (boolS true)),
    Tr.norm 48 (Av.one (Sv.cel (Cv.raw (Value.bool ((↑n : Int) != (↑n : Int)))))) (Av.one (boolS false)),
    Tr.loop ((loopN Tryz.f4 0)) [nat_lit 0, nat_lit 1, nat_lit 2, nat_lit 7, nat_lit 71, nat_lit 72] [] ((rkLT n a b c 0)) ((rkLV n a b c 0)) (Exit.exit (nat_lit 0)) ((rkLT n a b c n)) ((rkLV n a b c n)) (nat_lit 100),
    Tr.call 38 [Sv.cel (Cv.ent (rowOf n (List.flatMap rqC (List.zipWith (fun x1 x2 => x1 + x2) a b)))), Sv.cel (Cv.ent (rowOf n (List.flatMap rqC c)))] [] (Av.tup [rq (dotQ (List.zipWith (fun x1 x2 => x1 + x2) a b) c n), ok0]),
    Tr.call 38 [Sv.cel (Cv.ent (rowOf n (List.flatMap rqC a))), Sv.cel (Cv.ent (rowOf n (List.flatMap rqC c)))] [] (Av.tup [rq (dotQ a c n), ok0]),
    Tr.call 38 [Sv.cel (Cv.ent (rowOf n (List.flatMap rqC c))), Sv.cel (Cv.ent (rowOf n (List.flatMap rqC b)))] [] (Av.tup [rq (dotQ c b n), ok0]),
    Tr.call 24 [rq (dotQ a c n), rq (dotQ c b n)] [] (Av.tup [rq (dotQ a c n + dotQ c b n), ok0]),
    Tr.call 37 [rq (dotQ (List.zipWith (fun x1 x2 => x1 + x2) a b) c n), rq (dotQ a c n + dotQ c b n)] [] (Av.tup [ok0, ok0])] := ⟨
    points7,
    trivial,
    fit3R (by omega) h1 h2 h3 ha hb hc,
    norm_bool (len_false hn),
    addV_f (by omega) h1 h2 (zip_len h1 h2) (fun k x y z e1 e2 e3 => by rw [zip_get e1 e2 e3]; exact addQ_f (mem_get ha e1) (mem_get hb e2) (by omega)),
    subV_f (by omega) (zip_len h1 h2) h2 h1 (fun k x y z e1 e2 e3 => by
      rw [zip_get e3 e2 e1]
      have := subQ_f (BQ.add (mem_get ha e3) (mem_get hb e2)) (mem_get hb e2) (by omega)
      rw [show z + y - y = z by grind] at this; exact this),
    sameV_true (by omega) h1 rfl,
    norm_bool (ne_self),
    rkL_loop hn h1 h2 ha hb,
    dotQ_f (m := 11) (j := 5) (by omega) (zip_len (f := (· + ·)) h1 h2) h3 (adds_bq ha hb) hc (by omega) (by omega),
    dotQ_f (m := 5) (j := 5) (by omega) h1 h3 ha hc (by omega) (by omega),
    dotQ_f (m := 5) (j := 5) (by omega) h3 h2 hc hb (by omega) (by omega),
    addQ_f ((dotQ_bq ha hc (by omega)).mono (show n * 11 + 1 ≤ 67 by omega)) ((dotQ_bq hc hb (by omega)).mono (show n * 11 + 1 ≤ 67 by omega)) (by omega),
    cmp_lit ((dotQ_bq (adds_bq ha hb) hc (by omega)).mono (show n * 17 + 1 ≤ 103 by omega)) (BQ.add ((dotQ_bq ha hc (by omega)).mono (show n * 11 + 1 ≤ 67 by omega)) ((dotQ_bq hc hb (by omega)).mono (show n * 11 + 1 ≤ 67 by omega))) (by omega) (ord_self (dot_split h1 h2 h3 n (Nat.le_refl n))), trivial⟩
  exact fits_of_trace (n := 600) (k0 := 0) hT Tryz.func4 (by kernel_rfl) (by kernel_rfl) (by kernel_rfl)

set_option maxRecDepth 100000 in
theorem VecReckons_long {n : Nat} {a b c : List Rat} (hn : 6 < n) (hn2 : n ≤ 16) (h1 : a.length = n) (h2 : b.length = n) (h3 : c.length = n) (ha : ∀ x ∈ a, BQ 5 x) (hb : ∀ x ∈ b, BQ 5 x) (hc : ∀ x ∈ c, BQ 5 x) : FitsP 4 [ratsN n a, ratsN n b, ratsN n c] [] (.one (boolS true)) := by
  have hT : AllOk Tryz.prog Glob [
    Tr.call 32 [] [] (Av.one (boolS true)),
    Tr.froz,
    Tr.call 33 [Sv.cel (Cv.ent (rowOf (3 : Nat) [Cv.ent (rowOf n (List.flatMap rqC a)), Cv.ent (rowOf n (List.flatMap rqC b)), Cv.ent (rowOf n (List.flatMap rqC c))]))] [] (Av.one (boolS true)),
    Tr.norm 13 (Av.one (Sv.cel (Cv.raw (Value.bool (decide ((↑n : Int) > (6 : Int))))))) (Av.one (boolS true))] := ⟨
    points7,
    trivial,
    fit3R hn2 h1 h2 h3 ha hb hc,
    norm_bool (gt_true hn), trivial⟩
  exact fits_of_trace (n := 300) (k0 := 0) hT Tryz.func4 (by kernel_rfl) (by kernel_rfl) (by kernel_rfl)

set_option maxRecDepth 100000 in
theorem VecReckons_un {p q r : Nat} {cs ds es : List Cv} (hu : FitsP 33 [.cel (.ent (rowOf 3 [.ent (rowOf p cs), .ent (rowOf q ds), .ent (rowOf r es)]))] [] (.one (boolS false))) : FitsP 4 [.cel (.ent (rowOf p cs)), .cel (.ent (rowOf q ds)), .cel (.ent (rowOf r es))] [] (.one (boolS true)) := by
  have hT : AllOk Tryz.prog Glob [
    Tr.call 32 [] [] (Av.one (boolS true)),
    Tr.froz,
    Tr.call 33 [Sv.cel (Cv.ent (rowOf (3 : Nat) [Cv.ent (rowOf p cs), Cv.ent (rowOf q ds), Cv.ent (rowOf r es)]))] [] (Av.one (boolS false))] := ⟨
    points7,
    trivial,
    hu, trivial⟩
  exact fits_of_trace (n := 300) (k0 := 0) hT Tryz.func4 (by kernel_rfl) (by kernel_rfl) (by kernel_rfl)
end Go.Proofs.YtejkcmklhmifaaaGreatDoor
