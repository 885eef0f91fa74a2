/- VecHolds. -/
import Derived.Test.YtejkcmklhmifaaaGreatDoorVecHold0
namespace Go.Proofs.YtejkcmklhmifaaaGreatDoor
open Go Go.RowKit Go.Shelf AM
theorem nears_bd {w : Nat} {a : List Rat} (hw : 2 ≤ w) (hw2 : w ≤ 300) (ha : ∀ x ∈ a, BQ 5 x) : ∀ s ∈ a.map (nearP w), BDp 7 134 s := fun s hs => by
  obtain ⟨x, hx, rfl⟩ := List.mem_map.1 hs
  exact near_bd (ha x hx) (by omega) (by omega)
theorem pluss_bd {w : Nat} {a b : List Rat} (hw : 2 ≤ w) (hw2 : w ≤ 300) (ha : ∀ x ∈ a, BQ 5 x) (hb : ∀ x ∈ b, BQ 5 x) : ∀ s ∈ List.zipWith (plusP w) (a.map (nearP w)) (b.map (nearP w)), BDp 9 134 s :=
  zip_all (f := plusP w) (R := fun z => BDp 9 134 z) (nears_bd hw hw2 ha) (nears_bd hw hw2 hb) fun x y p q => plus_bd (by omega) p q
theorem muls_bd {w : Nat} {a b : List Rat} (hw : 2 ≤ w) (hw2 : w ≤ 300) (ha : ∀ x ∈ a, BQ 5 x) (hb : ∀ x ∈ b, BQ 5 x) : ∀ s ∈ List.zipWith (mulP w) (a.map (nearP w)) (b.map (nearP w)), BDp 15 268 s :=
  zip_all (f := mulP w) (R := fun z => BDp 15 268 z) (nears_bd hw hw2 ha) (nears_bd hw hw2 hb) fun x y p q => mul_bd (by omega) p q
theorem map_back {α β : Type} {f : α → β} {xs : List α} {k : Nat} {y : β} (h : (xs.map f)[k]? = some y) : ∃ x, xs[k]? = some x ∧ y = f x := by
  rw [List.getElem?_map] at h
  cases hx : xs[k]? with
  | none => rw [hx] at h; cases h
  | some x => rw [hx] at h; injection h with h; exact ⟨x, rfl, h.symm⟩
theorem zip_back {α β γ : Type} {f : α → β → γ} {xs : List α} {ys : List β} {k : Nat} {z : γ} (h : (List.zipWith f xs ys)[k]? = some z) : ∃ x y, xs[k]? = some x ∧ ys[k]? = some y ∧ z = f x y := by
  rw [List.getElem?_zipWith] at h
  cases hx : xs[k]? with
  | none => rw [hx] at h; simp at h
  | some x =>
    cases hy : ys[k]? with
    | none => rw [hx, hy] at h; simp at h
    | some y => rw [hx, hy] at h; injection h with h; exact ⟨x, y, rfl, rfl, h.symm⟩
theorem nears_hld {w : Nat} {a : List Rat} (j : Nat) (s : Dy × Dy) (y : Rat) (h1 : (a.map (nearP w))[j]? = some s) (h2 : a[j]? = some y) : Hld s y := by
  rw [map_get h2 h1]; exact near_hld
theorem pluss_hld {w : Nat} {a b : List Rat} (j : Nat) (s : Dy × Dy) (y : Rat) (h1 : (List.zipWith (plusP w) (a.map (nearP w)) (b.map (nearP w)))[j]? = some s) (h2 : (List.zipWith (· + ·) a b)[j]? = some y) : Hld s y := by
  obtain ⟨p, q, e1, e2, rfl⟩ := zip_back h2
  rw [zip_get (map_some (f := nearP w) e1) (map_some (f := nearP w) e2) h1]
  exact plus_hld near_hld near_hld
theorem muls_hld {w : Nat} {a b : List Rat} (j : Nat) (s : Dy × Dy) (y : Rat) (h1 : (List.zipWith (mulP w) (a.map (nearP w)) (b.map (nearP w)))[j]? = some s) (h2 : (List.zipWith (· * ·) a b)[j]? = some y) : Hld s y := by
  obtain ⟨p, q, e1, e2, rfl⟩ := zip_back h2
  rw [zip_get (map_some (f := nearP w) e1) (map_some (f := nearP w) e2) h1]
  exact mul_hld near_hld near_hld
theorem ord_ge {p q : Rat} (h : q ≤ p) : ¬ ordQ p q < 0 := by unfold ordQ; split <;> (try split) <;> first | omega | grind
theorem abs5 {q : Rat} (h : BQ 5 q) : BQ 5 (absQ q) := by unfold absQ; split; exact h.neg'; exact h
def hoLT (n w : Nat) (a b : List Rat) (k : Nat) : List Av := mkT 188 [(2, .one (intS (w : Int))), (7, .one (.cel (.ent (rowOf n ((a.map (nearP w)).flatMap spC))))), (9, .one (.cel (.ent (rowOf n ((b.map (nearP w)).flatMap spC))))), (25, .one (.cel (.ptr 139 0))), (150, .one (.cel (.ent (rowOf n (a.flatMap rqC))))), (151, .one (.cel (.raw (.int .i64 (n : Int))))), (152, .one (.cel (.raw (.int .i64 ((k : Nat) : Int)))))]
def hoLV (n w : Nat) (a _b : List Rat) (_k : Nat) : List (Nat × VarSt) := [(139, ⟨30, [.raw (.bool (decide ((normP (a.map (nearP w)) n).m < 0))), .ent (nat (normP (a.map (nearP w)) n).m.natAbs), .raw (.int .i64 (normP (a.map (nearP w)) n).e)], true, .no⟩)]
set_option maxRecDepth 100000 in
theorem hoL_round {n w : Nat} {a b : List Rat} {k : Nat} {x y : Rat} (h1 : a.length = n) (h2 : b.length = n) (ha : ∀ x ∈ a, BQ 5 x) (hb : ∀ x ∈ b, BQ 5 x) (hn : n ≤ 6) (hw : 2 ≤ w) (hw2 : w ≤ 300) (hx : a[k]? = some x) (hy : b[0]? = some y) : AM.Moves Tryz.prog Glob (loopN Tryz.f6 0) (hoLT n w a b k) (hoLV n w a b k) .normal (hoLT n w a b (k + 1)) (hoLV n w a b (k + 1)) := by
  have hT : AllOk Tryz.prog Glob [
    Tr.norm (nat_lit 200) (Av.one (Sv.cel (Cv.raw (Value.bool (decide ((↑k : Int) < (↑n : Int))))))) (Av.one (Sv.cel (Cv.raw (Value.bool true)))),
    Tr.told (Op.indexAddr 28 (Operand.tmp (150 : Nat)) (Operand.tmp (152 : Nat))) 0 [Av.one (Sv.cel (Cv.ent (rowOf n (List.flatMap rqC a)))), Av.one (Sv.cel (Cv.raw (Value.int IntKind.i64 (↑k : Int))))] (.one (.cel (.ent (ptrTo (rqC x))))),
    Tr.told (Op.load 27 (Operand.tmp (154 : Nat))) 27 [Av.one (Sv.cel (Cv.ent (ptrTo [Cv.raw (Value.bool (decide (Rat.num x < (0 : Int)))), Cv.ent (nat (Int.natAbs (Rat.num x))), Cv.ent (nat (Rat.den x))])))] (.one (rq x)),
    Tr.call 31 [Sv.agg [Cv.raw (Value.bool (decide (Rat.num x < (0 : Int)))), Cv.ent (nat (Int.natAbs (Rat.num x))), Cv.ent (nat (Rat.den x))]] [] (Av.one (Sv.agg [Cv.raw (Value.bool (decide (Rat.num (absQ x) < (0 : Int)))), Cv.ent (nat (Int.natAbs (Rat.num (absQ x)))), Cv.ent (nat (Rat.den (absQ x)))])),
    Tr.call 30 [Sv.agg [Cv.raw (Value.bool (decide (Dy.m (normP (List.map (nearP w) a) n) < (0 : Int)))), Cv.ent (nat (Int.natAbs (Dy.m (normP (List.map (nearP w) a) n)))), Cv.raw (Value.int IntKind.i64 (Dy.e (normP (List.map (nearP w) a) n)))], Sv.agg [Cv.raw (Value.bool (decide (Rat.num (absQ x) < (0 : Int)))), Cv.ent (nat (Int.natAbs (Rat.num (absQ x)))), Cv.ent (nat (Rat.den (absQ x)))]] [] (Av.tup [Sv.cel (Cv.raw (Value.int IntKind.i64 (ordQ (dv (normP (List.map (nearP w) a) n)) (absQ x)))), Sv.cel (Cv.raw (Value.int IntKind.i64 (Int.ofNat (nat_lit 0))))]),
    Tr.norm (nat_lit 219) (Av.one (Sv.cel (Cv.raw (Value.bool (decide (ordQ (dv (normP (List.map (nearP w) a) n)) (absQ x) < (0 : Int))))))) (Av.one (Sv.cel (Cv.raw (Value.bool false)))),
    Tr.told (Op.indexAddr 65 (Operand.tmp (171 : Nat)) (Operand.const (Value.int IntKind.i64 (0 : Int)))) (nat_lit 0) [Av.one (Sv.cel (Cv.ent (rowOf n (List.flatMap spC (List.map (nearP w) b))))), Av.one (Sv.cel (Cv.raw (Value.int IntKind.i64 (Int.ofNat (nat_lit 0)))))] (.one (.cel (.ent (ptrTo (spC (nearP w y)))))),
    Tr.told (Op.load 32 (Operand.tmp (172 : Nat))) 32 [Av.one (Sv.cel (Cv.ent (ptrTo [Cv.raw (Value.bool (decide (Dy.m (Prod.fst (nearP w y)) < (0 : Int)))), Cv.ent (nat (Int.natAbs (Dy.m (Prod.fst (nearP w y))))), Cv.raw (Value.int IntKind.i64 (Dy.e (Prod.fst (nearP w y)))), Cv.raw (Value.bool (decide (Dy.m (Prod.snd (nearP w y)) < (0 : Int)))), Cv.ent (nat (Int.natAbs (Dy.m (Prod.snd (nearP w y))))), Cv.raw (Value.int IntKind.i64 (Dy.e (Prod.snd (nearP w y))))])))] (.one (spQ (nearP w y))),
    Tr.call 46 [Sv.cel (Cv.ent (rowOf n (List.flatMap spC (List.map (nearP w) a)))), Sv.agg [Cv.raw (Value.bool (decide (Dy.m (Prod.fst (nearP w y)) < (0 : Int)))), Cv.ent (nat (Int.natAbs (Dy.m (Prod.fst (nearP w y))))), Cv.raw (Value.int IntKind.i64 (Dy.e (Prod.fst (nearP w y)))), Cv.raw (Value.bool (decide (Dy.m (Prod.snd (nearP w y)) < (0 : Int)))), Cv.ent (nat (Int.natAbs (Dy.m (Prod.snd (nearP w y))))), Cv.raw (Value.int IntKind.i64 (Dy.e (Prod.snd (nearP w y))))], Sv.cel (Cv.raw (Value.int IntKind.i64 (↑w : Int)))] [] (Av.tup [Sv.cel (Cv.ent (rowOf n (List.flatMap spC (List.map (fun s => mulP w s (nearP w y)) (List.map (nearP w) a))))), Sv.cel (Cv.raw (Value.int IntKind.i64 (Int.ofNat (nat_lit 0))))]),
    Tr.norm (nat_lit 239) (Av.one (Sv.cel (Cv.raw (Value.bool ((↑n : Int) != (↑n : Int)))))) (Av.one (Sv.cel (Cv.raw (Value.bool false)))),
    Tr.norm (nat_lit 240) (Av.one (Sv.cel (Cv.raw (Value.int IntKind.i64 (IntKind.wrap IntKind.i64 ((↑k : Int) + (1 : Int))))))) (Av.one (Sv.cel (Cv.raw (Value.int IntKind.i64 (↑(k + (1 : Nat)) : Int)))))] := ⟨
    norm_bool (lt_true (idx_lt hx h1)),
    idx_ok (e := 27) (s := 3) (j := k) (by kernel_rfl) (by kernel_rfl) rfl (idx_lt hx h1) (flat_get rqC_len hx) (flat_ne rqC_len (by omega) hx),
    loadn_ok (by kernel_rfl) (by kernel_rfl) (Nat.le_refl _) rfl,
    absQ_f,
    cmpDQ_f ((norm_bd (nears_bd hw hw2 ha) n)) (abs5 (mem_get ha hx)) (by omega) rfl,
    norm_bool (decide_eq_false (ord_ge (norm_hld (map_some (f := nearP w) hx) near_hld n (by have := idx_lt hx h1; omega)))),
    idx_ok (e := 32) (s := 6) (j := 0) (by kernel_rfl) (by kernel_rfl) rfl (idx_lt hy h2) (flat_get spC_len (map_some (f := nearP w) hy)) (flat_ne spC_len (by omega) (map_some (f := nearP w) hy)),
    loadn_ok (by kernel_rfl) (by kernel_rfl) (Nat.le_refl _) rfl,
    timesR_f (m := 7) (k := 134) (i := 7) (j := 134) (by omega) (map_len h1) (nears_bd hw hw2 ha) (near_bd (mem_get hb hy) (by omega) (by omega)) (by omega) hw (by omega),
    norm_bool (ne_self),
    norm_succ (idx_lt hx h1) (by omega), trivial⟩
  exact moves_of_trace (n := 300) (k := 200) (keep := [2, 7, 9, 25, 150, 151, 152]) (ids := [139]) hT (by kernel_rfl)

set_option maxRecDepth 100000 in
theorem hoL_exit {n w : Nat} {a b : List Rat}  : AM.Moves Tryz.prog Glob (loopN Tryz.f6 0) (hoLT n w a b n) (hoLV n w a b n) (.exit 0) (hoLT n w a b n) (hoLV n w a b n) := by
  have hT : AllOk Tryz.prog Glob [
    Tr.norm (nat_lit 200) (Av.one (Sv.cel (Cv.raw (Value.bool (decide ((↑n : Int) < (↑n : Int))))))) (Av.one (Sv.cel (Cv.raw (Value.bool false))))] := ⟨
    norm_bool (lt_false), trivial⟩
  exact moves_of_trace (n := 200) (k := 200) (keep := [2, 7, 9, 25, 150, 151, 152]) (ids := [139]) hT (by kernel_rfl)

theorem hoL_loop {n w : Nat} {a b : List Rat} (h1 : a.length = n) (h2 : b.length = n) (ha : ∀ x ∈ a, BQ 5 x) (hb : ∀ x ∈ b, BQ 5 x) (hn : n ≤ 6) (hw : 2 ≤ w) (hw2 : w ≤ 300) :
    AM.Moves Tryz.prog Glob (.loop (loopN Tryz.f6 0)) (hoLT n w a b 0) (hoLV n w a b 0) (.exit 0) (hoLT n w a b n) (hoLV n w a b n) :=
  loop_moves (n := n) (tm := fun k => (hoLT n w a b k)) (vr := fun k => (hoLV n w a b k)) (fun k hk => by
    obtain ⟨x, hx⟩ : ∃ x, a[k]? = some x := ⟨_, List.getElem?_eq_getElem (by omega)⟩
    obtain ⟨y, hy⟩ : ∃ y, b[0]? = some y := ⟨_, List.getElem?_eq_getElem (by omega)⟩
    exact hoL_round h1 h2 ha hb hn hw hw2 hx hy) (by simp) hoL_exit
set_option maxRecDepth 100000 in
theorem VecHolds_fit {n w : Nat} {a b : List Rat} (hn : n ≤ 6) (h1 : a.length = n) (h2 : b.length = n) (ha : ∀ x ∈ a, BQ 5 x) (hb : ∀ x ∈ b, BQ 5 x) (hw : 2 ≤ w) (hw2 : w ≤ 300) : FitsP 6 [ratsN n a, ratsN n b, intS (w : Int)] [] (.one (boolS true)) := by
  have hT : AllOk Tryz.prog Glob [
    Tr.call 32 [] [] (Av.one (Sv.cel (Cv.raw (Value.bool true)))),
    Tr.froz,
    Tr.call 33 [Sv.cel (Cv.ent (rowOf (2 : Nat) [Cv.ent (rowOf n (List.flatMap rqC a)), Cv.ent (rowOf n (List.flatMap rqC b))]))] [] (Av.one (Sv.cel (Cv.raw (Value.bool true)))),
    Tr.norm (nat_lit 13) (Av.one (Sv.cel (Cv.raw (Value.bool (decide ((↑n : Int) > (6 : Int))))))) (Av.one (Sv.cel (Cv.raw (Value.bool false)))),
    Tr.norm (nat_lit 17) (Av.one (Sv.cel (Cv.raw (Value.bool (decide ((↑w : Int) < (2 : Int))))))) (Av.one (Sv.cel (Cv.raw (Value.bool false)))),
    Tr.norm (nat_lit 20) (Av.one (Sv.cel (Cv.raw (Value.bool (decide ((↑w : Int) > (300 : Int))))))) (Av.one (Sv.cel (Cv.raw (Value.bool false)))),
    Tr.call 41 [Sv.cel (Cv.ent (rowOf n (List.flatMap rqC a))), Sv.cel (Cv.raw (Value.int IntKind.i64 (↑w : Int)))] [] (Av.tup [Sv.cel (Cv.ent (rowOf n (List.flatMap spC (List.map (nearP w) a)))), Sv.cel (Cv.raw (Value.int IntKind.i64 (Int.ofNat (nat_lit 0))))]),
    Tr.call 41 [Sv.cel (Cv.ent (rowOf n (List.flatMap rqC b))), Sv.cel (Cv.raw (Value.int IntKind.i64 (↑w : Int)))] [] (Av.tup [Sv.cel (Cv.ent (rowOf n (List.flatMap spC (List.map (nearP w) b)))), Sv.cel (Cv.raw (Value.int IntKind.i64 (Int.ofNat (nat_lit 0))))]),
    Tr.call 42 [Sv.cel (Cv.ent (rowOf n (List.flatMap spC (List.map (nearP w) a)))), Sv.cel (Cv.ent (rowOf n (List.flatMap spC (List.map (nearP w) b)))), Sv.cel (Cv.raw (Value.int IntKind.i64 (↑w : Int)))] [] (Av.tup [Sv.cel (Cv.ent (rowOf n (List.flatMap spC (List.zipWith (plusP w) (List.map (nearP w) a) (List.map (nearP w) b))))), Sv.cel (Cv.raw (Value.int IntKind.i64 (Int.ofNat (nat_lit 0))))]),
    Tr.call 43 [Sv.cel (Cv.ent (rowOf n (List.flatMap spC (List.map (nearP w) a)))), Sv.cel (Cv.ent (rowOf n (List.flatMap spC (List.map (nearP w) b)))), Sv.cel (Cv.raw (Value.int IntKind.i64 (↑w : Int)))] [] (Av.tup [Sv.agg [Cv.raw (Value.bool (decide (Dy.m (Prod.fst (accP w (List.zipWith (mulP w) (List.map (nearP w) a) (List.map (nearP w) b)) n)) < (0 : Int)))), Cv.ent (nat (Int.natAbs (Dy.m (Prod.fst (accP w (List.zipWith (mulP w) (List.map (nearP w) a) (List.map (nearP w) b)) n))))), Cv.raw (Value.int IntKind.i64 (Dy.e (Prod.fst (accP w (List.zipWith (mulP w) (List.map (nearP w) a) (List.map (nearP w) b)) n)))), Cv.raw (Value.bool (decide (Dy.m (Prod.snd (accP w (List.zipWith (mulP w) (List.map (nearP w) a) (List.map (nearP w) b)) n)) < (0 : Int)))), Cv.ent (nat (Int.natAbs (Dy.m (Prod.snd (accP w (List.zipWith (mulP w) (List.map (nearP w) a) (List.map (nearP w) b)) n))))), Cv.raw (Value.int IntKind.i64 (Dy.e (Prod.snd (accP w (List.zipWith (mulP w) (List.map (nearP w) a) (List.map (nearP w) b)) n))))], Sv.cel (Cv.raw (Value.int IntKind.i64 (Int.ofNat (nat_lit 0))))]),
    Tr.call 34 [Sv.cel (Cv.ent (rowOf n (List.flatMap rqC a))), Sv.cel (Cv.ent (rowOf n (List.flatMap rqC b)))] [] (Av.tup [Sv.cel (Cv.ent (rowOf n (List.flatMap rqC (List.zipWith (fun x1 x2 => x1 + x2) a b)))), Sv.cel (Cv.raw (Value.int IntKind.i64 (Int.ofNat (nat_lit 0))))]),
    Tr.call 38 [Sv.cel (Cv.ent (rowOf n (List.flatMap rqC a))), Sv.cel (Cv.ent (rowOf n (List.flatMap rqC b)))] [] (Av.tup [Sv.agg [Cv.raw (Value.bool (decide (Rat.num (dotQ a b n) < (0 : Int)))), Cv.ent (nat (Int.natAbs (Rat.num (dotQ a b n)))), Cv.ent (nat (Rat.den (dotQ a b n)))], Sv.cel (Cv.raw (Value.int IntKind.i64 (Int.ofNat (nat_lit 0))))]),
    Tr.call 44 [Sv.cel (Cv.ent (rowOf n (List.flatMap spC (List.map (nearP w) a)))), Sv.cel (Cv.ent (rowOf n (List.flatMap rqC a)))] [] (Av.tup [Sv.cel (Cv.raw (Value.bool true)), Sv.cel (Cv.raw (Value.int IntKind.i64 (Int.ofNat (nat_lit 0))))]),
    Tr.call 44 [Sv.cel (Cv.ent (rowOf n (List.flatMap spC (List.zipWith (plusP w) (List.map (nearP w) a) (List.map (nearP w) b))))), Sv.cel (Cv.ent (rowOf n (List.flatMap rqC (List.zipWith (fun x1 x2 => x1 + x2) a b))))] [] (Av.tup [Sv.cel (Cv.raw (Value.bool true)), Sv.cel (Cv.raw (Value.int IntKind.i64 (Int.ofNat (nat_lit 0))))]),
    Tr.call 25 [Sv.agg [Cv.raw (Value.bool (decide (Dy.m (Prod.fst (accP w (List.zipWith (mulP w) (List.map (nearP w) a) (List.map (nearP w) b)) n)) < (0 : Int)))), Cv.ent (nat (Int.natAbs (Dy.m (Prod.fst (accP w (List.zipWith (mulP w) (List.map (nearP w) a) (List.map (nearP w) b)) n))))), Cv.raw (Value.int IntKind.i64 (Dy.e (Prod.fst (accP w (List.zipWith (mulP w) (List.map (nearP w) a) (List.map (nearP w) b)) n)))), Cv.raw (Value.bool (decide (Dy.m (Prod.snd (accP w (List.zipWith (mulP w) (List.map (nearP w) a) (List.map (nearP w) b)) n)) < (0 : Int)))), Cv.ent (nat (Int.natAbs (Dy.m (Prod.snd (accP w (List.zipWith (mulP w) (List.map (nearP w) a) (List.map (nearP w) b)) n))))), Cv.raw (Value.int IntKind.i64 (Dy.e (Prod.snd (accP w (List.zipWith (mulP w) (List.map (nearP w) a) (List.map (nearP w) b)) n))))], Sv.agg [Cv.raw (Value.bool (decide (Rat.num (dotQ a b n) < (0 : Int)))), Cv.ent (nat (Int.natAbs (Rat.num (dotQ a b n)))), Cv.ent (nat (Rat.den (dotQ a b n)))]] [] (Av.tup [Sv.cel (Cv.raw (Value.bool true)), Sv.cel (Cv.raw (Value.int IntKind.i64 (Int.ofNat (nat_lit 0))))]),
    Tr.call 45 [Sv.cel (Cv.ent (rowOf n (List.flatMap spC (List.map (nearP w) a))))] [] (Av.one (Sv.agg [Cv.raw (Value.bool (decide (Dy.m (normP (List.map (nearP w) a) n) < (0 : Int)))), Cv.ent (nat (Int.natAbs (Dy.m (normP (List.map (nearP w) a) n)))), Cv.raw (Value.int IntKind.i64 (Dy.e (normP (List.map (nearP w) a) n)))])),
    Tr.loop ((loopN Tryz.f6 0)) [nat_lit 2, nat_lit 7, nat_lit 9, nat_lit 25, nat_lit 150, nat_lit 151, nat_lit 152] [nat_lit 139] ((hoLT n w a b 0)) ((hoLV n w a b 0)) (Exit.exit (nat_lit 0)) ((hoLT n w a b n)) ((hoLV n w a b n)) (nat_lit 300)] := ⟨
    points7,
    trivial,
    fit2R (by omega) h1 h2 ha hb,
    norm_bool (len_false hn),
    norm_bool (decide_eq_false (show ¬ (w : Int) < 2 by omega)),
    norm_bool (decide_eq_false (show ¬ (w : Int) > 300 by omega)),
    nearR_f (by omega) h1 ha (by omega) hw (by omega),
    nearR_f (by omega) h2 hb (by omega) hw (by omega),
    plusR_f (m := 7) (k := 134) (by omega) (map_len h1) (map_len h2) (nears_bd hw hw2 ha) (nears_bd hw hw2 hb) (by omega) hw (by omega),
    innerR_f (m := 7) (k := 134) (i := 7) (j := 134) (by omega) (map_len h1) (map_len h2) (nears_bd hw hw2 ha) (nears_bd hw hw2 hb) (by omega) hw (by omega),
    addV_f (by omega) h1 h2 (zip_len h1 h2) (fun k x y z e1 e2 e3 => by rw [zip_get e1 e2 e3]; exact addQ_f (mem_get ha e1) (mem_get hb e2) (by omega)),
    dotQ_f (m := 5) (j := 5) (by omega) h1 h2 ha hb (by omega) (by omega),
    holdsR_f (m := 7) (k := 134) (i := 5) (by omega) (map_len h1) h1 (nears_bd hw hw2 ha) ha (by omega) nears_hld,
    holdsR_f (m := 9) (k := 134) (i := 11) (by omega) (zip_len (f := plusP w) (map_len h1) (map_len h2)) (zip_len (f := (· + ·)) h1 h2) (pluss_bd hw hw2 ha hb) (adds_bq ha hb) (by omega) pluss_hld,
    hldQ_f (m := 67) ((acc_bd (b := w) (by omega) (muls_bd hw hw2 ha hb) n).mono (show 15 + 2 * n ≤ 27 by omega) (Nat.le_refl 268)) ((dotQ_bq ha hb (by omega)).mono (show n * 11 + 1 ≤ 67 by omega)) (by omega) (by have := acc_hld (b := w) (muls_hld (w := w) (a := a) (b := b)) (by simp) n (by simp [h1, h2]); exact this),
    normR_f (m := 7) (k := 134) (by omega) (map_len h1) (nears_bd hw hw2 ha) (by omega),
    hoL_loop h1 h2 ha hb hn hw hw2, trivial⟩
  exact fits_of_trace (n := 600) (k0 := 0) hT Tryz.func6 (by kernel_rfl) (by kernel_rfl) (by kernel_rfl)

set_option maxRecDepth 100000 in
theorem VecHolds_long {n : Nat} {w : Int} {a b : List Rat} (hm : n ≤ 16) (h1 : a.length = n) (h2 : b.length = n) (ha : ∀ x ∈ a, BQ 5 x) (hb : ∀ x ∈ b, BQ 5 x) (hn : 6 < n) : FitsP 6 [ratsN n a, ratsN n b, intS w] [] (.one (boolS true)) := by
  have hT : AllOk Tryz.prog Glob [
    Tr.call 32 [] [] (Av.one (Sv.cel (Cv.raw (Value.bool true)))),
    Tr.froz,
    Tr.call 33 [Sv.cel (Cv.ent (rowOf (2 : Nat) [Cv.ent (rowOf n (List.flatMap rqC a)), Cv.ent (rowOf n (List.flatMap rqC b))]))] [] (Av.one (Sv.cel (Cv.raw (Value.bool true)))),
    Tr.norm (nat_lit 13) (Av.one (Sv.cel (Cv.raw (Value.bool (decide ((↑n : Int) > (6 : Int))))))) (Av.one (Sv.cel (Cv.raw (Value.bool true))))] := ⟨
    points7,
    trivial,
    fit2R hm h1 h2 ha hb,
    norm_bool (gt_true hn), trivial⟩
  exact fits_of_trace (n := 300) (k0 := 0) hT Tryz.func6 (by kernel_rfl) (by kernel_rfl) (by kernel_rfl)

set_option maxRecDepth 100000 in
theorem VecHolds_lo {n : Nat} {w : Int} {a b : List Rat} (hm : n ≤ 16) (h1 : a.length = n) (h2 : b.length = n) (ha : ∀ x ∈ a, BQ 5 x) (hb : ∀ x ∈ b, BQ 5 x) (hn : n ≤ 6) (hw : w < 2) : FitsP 6 [ratsN n a, ratsN n b, intS w] [] (.one (boolS true)) := by
  have hT : AllOk Tryz.prog Glob [
    Tr.call 32 [] [] (Av.one (Sv.cel (Cv.raw (Value.bool true)))),
    Tr.froz,
    Tr.call 33 [Sv.cel (Cv.ent (rowOf (2 : Nat) [Cv.ent (rowOf n (List.flatMap rqC a)), Cv.ent (rowOf n (List.flatMap rqC b))]))] [] (Av.one (Sv.cel (Cv.raw (Value.bool true)))),
    Tr.norm (nat_lit 13) (Av.one (Sv.cel (Cv.raw (Value.bool (decide ((↑n : Int) > (6 : Int))))))) (Av.one (Sv.cel (Cv.raw (Value.bool false)))),
    Tr.norm (nat_lit 17) (Av.one (Sv.cel (Cv.raw (Value.bool (decide (w < (2 : Int))))))) (Av.one (Sv.cel (Cv.raw (Value.bool true))))] := ⟨
    points7,
    trivial,
    fit2R hm h1 h2 ha hb,
    norm_bool (len_false hn),
    norm_bool (decide_eq_true hw), trivial⟩
  exact fits_of_trace (n := 300) (k0 := 0) hT Tryz.func6 (by kernel_rfl) (by kernel_rfl) (by kernel_rfl)

set_option maxRecDepth 100000 in
theorem VecHolds_hi {n : Nat} {w : Int} {a b : List Rat} (hm : n ≤ 16) (h1 : a.length = n) (h2 : b.length = n) (ha : ∀ x ∈ a, BQ 5 x) (hb : ∀ x ∈ b, BQ 5 x) (hn : n ≤ 6) (hw : ¬ w < 2) (hw2 : w > 300) : FitsP 6 [ratsN n a, ratsN n b, intS w] [] (.one (boolS true)) := by
  have hT : AllOk Tryz.prog Glob [
    Tr.call 32 [] [] (Av.one (Sv.cel (Cv.raw (Value.bool true)))),
    Tr.froz,
    Tr.call 33 [Sv.cel (Cv.ent (rowOf (2 : Nat) [Cv.ent (rowOf n (List.flatMap rqC a)), Cv.ent (rowOf n (List.flatMap rqC b))]))] [] (Av.one (Sv.cel (Cv.raw (Value.bool true)))),
    Tr.norm (nat_lit 13) (Av.one (Sv.cel (Cv.raw (Value.bool (decide ((↑n : Int) > (6 : Int))))))) (Av.one (Sv.cel (Cv.raw (Value.bool false)))),
    Tr.norm (nat_lit 17) (Av.one (Sv.cel (Cv.raw (Value.bool (decide (w < (2 : Int))))))) (Av.one (Sv.cel (Cv.raw (Value.bool false)))),
    Tr.norm (nat_lit 20) (Av.one (Sv.cel (Cv.raw (Value.bool (decide (w > (300 : Int))))))) (Av.one (Sv.cel (Cv.raw (Value.bool true))))] := ⟨
    points7,
    trivial,
    fit2R hm h1 h2 ha hb,
    norm_bool (len_false hn),
    norm_bool (decide_eq_false hw),
    norm_bool (decide_eq_true hw2), trivial⟩
  exact fits_of_trace (n := 300) (k0 := 0) hT Tryz.func6 (by kernel_rfl) (by kernel_rfl) (by kernel_rfl)

set_option maxRecDepth 100000 in
theorem VecHolds_un {m r : Nat} {cs ds : List Cv} {w : Int} (hu : FitsP 33 [.cel (.ent (rowOf 2 [.ent (rowOf m cs), .ent (rowOf r ds)]))] [] (.one (boolS false))) : FitsP 6 [.cel (.ent (rowOf m cs)), .cel (.ent (rowOf r ds)), intS w] [] (.one (boolS true)) := by
  have hT : AllOk Tryz.prog Glob [
    Tr.call 32 [] [] (Av.one (Sv.cel (Cv.raw (Value.bool true)))),
    Tr.froz,
    Tr.call 33 [Sv.cel (Cv.ent (rowOf (2 : Nat) [Cv.ent (rowOf m cs), Cv.ent (rowOf r ds)]))] [] (Av.one (Sv.cel (Cv.raw (Value.bool false))))] := ⟨
    points7,
    trivial,
    hu, trivial⟩
  exact fits_of_trace (n := 300) (k0 := 0) hT Tryz.func6 (by kernel_rfl) (by kernel_rfl) (by kernel_rfl)
end Go.Proofs.YtejkcmklhmifaaaGreatDoor
