/- WholeHeld. -/
import Derived.Test.YtnncfbmddpijcaaGreatDoorHeld0
import Derived.Test.YtnncfbmddpijcaaGreatDoorSpL
import Derived.Test.YtnncfbmddpijcaaGreatDoorSpP
namespace Go.Proofs.YtnncfbmddpijcaaGreatDoor
open Go Go.RowKit Go.Shelf AM
theorem bitsN {n c : Nat} (h : n ≤ c) : decide ((n : Int) > (c : Int)) = false := decide_eq_false (by omega)
def heLT (n m w : Nat) (_x : Rat) (ts ys : List Rat) (k : Nat) : List Av := mkT 209 [(1, .one (.cel (.ent (rowOf n (ts.flatMap rqC))))), (2, .one (intS (w : Int))), (3, .one (.cel (.ptr 0 0))), (66, .one (.cel (.ent (rowOf m (ys.flatMap rqC))))), (67, .one (.cel (.raw (.int .i64 (m : Int))))), (68, .one (.cel (.raw (.int .i64 ((k : Nat) : Int)))))]
def heLV (_n _m _w : Nat) (x : Rat) (_ts _ys : List Rat) (_k : Nat) : List (Nat × VarSt) := [(0, ⟨27, [.raw (.bool (decide (x.num < 0))), .ent (nat x.num.natAbs), .ent (nat x.den)], true, .no⟩)]
set_option maxRecDepth 100000 in
theorem heL_round {n m w : Nat} {x : Rat} {ts ys : List Rat} {k : Nat} {y : Rat} (hm : m ≤ 9) (hl : ys.length = m) (hy : ys[k]? = some y) (hg : BQ 3 y) : AM.Moves Tryz.prog Glob (loopN Tryz.f3 0) (heLT n m w x ts ys k) (heLV n m w x ts ys k) .normal (heLT n m w x ts ys (k + 1)) (heLV n m w x ts ys (k + 1)) := by
  have hT : AllOk Tryz.prog Glob [
    Tr.norm (nat_lit 100) (Av.one (Sv.cel (Cv.raw (Value.bool (decide ((↑k : Int) < (↑m : Int))))))) (Av.one (Sv.cel (Cv.raw (Value.bool true)))),
    Tr.told (Op.indexAddr 28 (Operand.tmp (66 : Nat)) (Operand.tmp (68 : Nat))) 0 [Av.one (Sv.cel (Cv.ent (rowOf m (List.flatMap rqC ys)))), Av.one (Sv.cel (Cv.raw (Value.int IntKind.i64 (↑k : Int))))] (.one (.cel (.ent (ptrTo (rqC y))))),
    Tr.told (Op.load 27 (Operand.tmp (70 : Nat))) 27 [Av.one (Sv.cel (Cv.ent (ptrTo [Cv.raw (Value.bool (decide (Rat.num y < (0 : Int)))), Cv.ent (nat (Int.natAbs (Rat.num y))), Cv.ent (nat (Rat.den y))])))] (.one (rq y)),
    Tr.call 9 [Sv.agg [Cv.raw (Value.bool (decide (Rat.num y < (0 : Int)))), Cv.ent (nat (Int.natAbs (Rat.num y))), Cv.ent (nat (Rat.den y))]] [] (Av.one (Sv.cel (Cv.raw (Value.int IntKind.i64 (Int.ofNat (nat_lit 0)))))),
    Tr.norm (nat_lit 115) (Av.one (Sv.cel (Cv.raw (Value.bool (decide ((↑(lenN (Int.natAbs (Rat.num y))) : Int) > (3 : Int))))))) (Av.one (Sv.cel (Cv.raw (Value.bool false)))),
    Tr.norm (nat_lit 120) (Av.one (Sv.cel (Cv.raw (Value.bool (decide ((↑(lenN (Rat.den y)) : Int) > (3 : Int))))))) (Av.one (Sv.cel (Cv.raw (Value.bool false)))),
    Tr.norm (nat_lit 121) (Av.one (Sv.cel (Cv.raw (Value.int IntKind.i64 (IntKind.wrap IntKind.i64 ((↑k : Int) + (1 : Int))))))) (Av.one (Sv.cel (Cv.raw (Value.int IntKind.i64 (↑(k + (1 : Nat)) : Int)))))] := ⟨
    norm_bool (lt_true (idx_lt hy hl)),
    idx_ok (e := 27) (s := 3) (j := k) (by kernel_rfl) (by kernel_rfl) rfl (idx_lt hy hl) (flat_get rqC_len hy) (flat_ne rqC_len (by omega) hy),
    loadn_ok (by kernel_rfl) (by kernel_rfl) (Nat.le_refl _) rfl,
    checkB_f hg (by omega),
    norm_bool (gt_false (lenN_le.2 hg.1)),
    norm_bool (gt_false (lenN_le.2 hg.2)),
    norm_succ (idx_lt hy hl) (by omega), trivial⟩
  exact moves_of_trace (n := 200) (k := 100) (keep := [1, 2, 3, 66, 67, 68]) (ids := [0]) hT (by kernel_rfl)

set_option maxRecDepth 100000 in
theorem heL_exit {n m w : Nat} {x : Rat} {ts ys : List Rat}  : AM.Moves Tryz.prog Glob (loopN Tryz.f3 0) (heLT n m w x ts ys m) (heLV n m w x ts ys m) (.exit 0) (heLT n m w x ts ys m) (heLV n m w x ts ys m) := by
  have hT : AllOk Tryz.prog Glob [
    Tr.norm (nat_lit 100) (Av.one (Sv.cel (Cv.raw (Value.bool (decide ((↑m : Int) < (↑m : Int))))))) (Av.one (Sv.cel (Cv.raw (Value.bool false))))] := ⟨
    norm_bool (lt_false), trivial⟩
  exact moves_of_trace (n := 200) (k := 100) (keep := [1, 2, 3, 66, 67, 68]) (ids := [0]) hT (by kernel_rfl)

theorem heL_loop {n m w : Nat} {x : Rat} {ts ys : List Rat} (hm : m ≤ 9) (hl : ys.length = m) (hg : ∀ y ∈ ys, BQ 3 y) :
    AM.Moves Tryz.prog Glob (.loop (loopN Tryz.f3 0)) (heLT n m w x ts ys 0) (heLV n m w x ts ys 0) (.exit 0) (heLT n m w x ts ys m) (heLV n m w x ts ys m) :=
  loop_moves (n := m) (tm := fun k => (heLT n m w x ts ys k)) (vr := fun k => (heLV n m w x ts ys k)) (fun k hk => by
    obtain ⟨y, hy⟩ : ∃ y, ys[k]? = some y := ⟨_, List.getElem?_eq_getElem (by omega)⟩
    exact heL_round hm hl hy (hg y (List.mem_of_getElem? hy))) (by simp) heL_exit
theorem norm_back {n k : Nat} (h : k < n) (hn : n ≤ 17179869184) : Norm (.one (.cel (.raw (.int .i64 (IntKind.i64.wrap ((n : Int) - 1 - (k : Int) - 1)))))) (.one (.cel (.raw (.int .i64 ((n : Int) - 1 - ((k + 1 : Nat) : Int)))))) := Norm.of_eq (by
  rw [show IntKind.i64.wrap ((n : Int) - 1 - (k : Int) - 1) = (n : Int) - 1 - ((k + 1 : Nat) : Int) by rw [IntKind.wrap_i64]; omega])
theorem norm_last {n : Nat} (hn : n ≤ 17179869184) : Norm (.one (.cel (.raw (.int .i64 (IntKind.i64.wrap ((n : Int) - 1)))))) (.one (.cel (.raw (.int .i64 ((n : Int) - 1 - ((0 : Nat) : Int)))))) := Norm.of_eq (by
  rw [show IntKind.i64.wrap ((n : Int) - 1) = (n : Int) - 1 - ((0 : Nat) : Int) by rw [IntKind.wrap_i64]; omega])
def hoMT (n w : Nat) (_x : Rat) (ts : List Rat) (_nx : Dy × Dy) (_P : Nat → Dy × Dy) (_Q : Nat → Rat) (k : Nat) : List Av := mkT 209 [(1, .one (.cel (.ent (rowOf n (ts.flatMap rqC))))), (2, .one (intS (w : Int))), (3, .one (.cel (.ptr 0 0))), (11, .one (.cel (.ptr 206 0))), (12, .one (.cel (.ptr 211 0))), (13, .one (.cel (.ptr 213 0))), (14, .one (.cel (.raw (.int .i64 ((n : Int) - 1 - ((k : Nat) : Int))))))]
def hoMV (_n _w : Nat) (x : Rat) (_ts : List Rat) (nx : Dy × Dy) (P : Nat → Dy × Dy) (Q : Nat → Rat) (k : Nat) : List (Nat × VarSt) := [(0, ⟨27, [.raw (.bool (decide (x.num < 0))), .ent (nat x.num.natAbs), .ent (nat x.den)], true, .no⟩), (206, ⟨32, spC nx, true, .no⟩), (211, ⟨32, spC (P k), true, .no⟩), (213, ⟨27, rqC (Q k), true, .no⟩)]
set_option maxRecDepth 100000 in
theorem hoM_round {n w : Nat} {x : Rat} {ts : List Rat} {nx : Dy × Dy} {P : Nat → Dy × Dy} {Q : Nat → Rat} {k : Nat} {t v : Rat} {nt u : Dy × Dy} (hn : n ≤ 8) (hl : ts.length = n) (hk : k < n) (ht : ts[n - 1 - k]? = some t) (h1 : FitsP 4 [rq t, intS (w : Int)] [] (.tup [spQ nt, ok0])) (h2 : FitsP 11 [spQ (P k), spQ nx, intS (w : Int)] [] (.tup [spQ u, ok0])) (h3 : FitsP 12 [spQ u, spQ nt, intS (w : Int)] [] (.tup [spQ (P (k + 1)), ok0])) (h4 : FitsP 13 [rq (Q k), rq x] [] (.tup [rq v, ok0])) (h5 : FitsP 14 [rq v, rq t] [] (.tup [rq (Q (k + 1)), ok0])) : AM.Moves Tryz.prog Glob (loopN Tryz.f3 1) (hoMT n w x ts nx P Q k) (hoMV n w x ts nx P Q k) .normal (hoMT n w x ts nx P Q (k + 1)) (hoMV n w x ts nx P Q (k + 1)) := by
  have hT : AllOk Tryz.prog Glob [
    Tr.norm (nat_lit 301) (Av.one (Sv.cel (Cv.raw (Value.bool (decide ((↑n : Int) - (1 : Int) - (↑k : Int) ≥ (0 : Int))))))) (Av.one (Sv.cel (Cv.raw (Value.bool true)))),
    Tr.told (Op.indexAddr 28 (Operand.tmp (106 : Nat)) (Operand.tmp (107 : Nat))) 0 [Av.one (Sv.cel (Cv.ent (rowOf n (List.flatMap rqC ts)))), Av.one (Sv.cel (Cv.raw (Value.int IntKind.i64 ((↑n : Int) - (1 : Int) - (↑k : Int)))))] (.one (.cel (.ent (ptrTo (rqC t))))),
    Tr.told (Op.load 27 (Operand.tmp (108 : Nat))) 27 [Av.one (Sv.cel (Cv.ent (ptrTo [Cv.raw (Value.bool (decide (Rat.num t < (0 : Int)))), Cv.ent (nat (Int.natAbs (Rat.num t))), Cv.ent (nat (Rat.den t))])))] (.one (rq t)),
    Tr.call 4 [Sv.agg [Cv.raw (Value.bool (decide (Rat.num t < (0 : Int)))), Cv.ent (nat (Int.natAbs (Rat.num t))), Cv.ent (nat (Rat.den t))], Sv.cel (Cv.raw (Value.int IntKind.i64 (↑w : Int)))] [] (Av.tup [Sv.agg [Cv.raw (Value.bool (decide (Dy.m (Prod.fst nt) < (0 : Int)))), Cv.ent (nat (Int.natAbs (Dy.m (Prod.fst nt)))), Cv.raw (Value.int IntKind.i64 (Dy.e (Prod.fst nt))), Cv.raw (Value.bool (decide (Dy.m (Prod.snd nt) < (0 : Int)))), Cv.ent (nat (Int.natAbs (Dy.m (Prod.snd nt)))), Cv.raw (Value.int IntKind.i64 (Dy.e (Prod.snd nt)))], Sv.cel (Cv.raw (Value.int IntKind.i64 (Int.ofNat (nat_lit 0))))]),
    Tr.call 11 [Sv.agg [Cv.raw (Value.bool (decide (Dy.m (Prod.fst (P k)) < (0 : Int)))), Cv.ent (nat (Int.natAbs (Dy.m (Prod.fst (P k))))), Cv.raw (Value.int IntKind.i64 (Dy.e (Prod.fst (P k)))), Cv.raw (Value.bool (decide (Dy.m (Prod.snd (P k)) < (0 : Int)))), Cv.ent (nat (Int.natAbs (Dy.m (Prod.snd (P k))))), Cv.raw (Value.int IntKind.i64 (Dy.e (Prod.snd (P k))))], Sv.agg [Cv.raw (Value.bool (decide (Dy.m (Prod.fst nx) < (0 : Int)))), Cv.ent (nat (Int.natAbs (Dy.m (Prod.fst nx)))), Cv.raw (Value.int IntKind.i64 (Dy.e (Prod.fst nx))), Cv.raw (Value.bool (decide (Dy.m (Prod.snd nx) < (0 : Int)))), Cv.ent (nat (Int.natAbs (Dy.m (Prod.snd nx)))), Cv.raw (Value.int IntKind.i64 (Dy.e (Prod.snd nx)))], Sv.cel (Cv.raw (Value.int IntKind.i64 (↑w : Int)))] [] (Av.tup [Sv.agg [Cv.raw (Value.bool (decide (Dy.m (Prod.fst u) < (0 : Int)))), Cv.ent (nat (Int.natAbs (Dy.m (Prod.fst u)))), Cv.raw (Value.int IntKind.i64 (Dy.e (Prod.fst u))), Cv.raw (Value.bool (decide (Dy.m (Prod.snd u) < (0 : Int)))), Cv.ent (nat (Int.natAbs (Dy.m (Prod.snd u)))), Cv.raw (Value.int IntKind.i64 (Dy.e (Prod.snd u)))], Sv.cel (Cv.raw (Value.int IntKind.i64 (Int.ofNat (nat_lit 0))))]),
    Tr.call 12 [Sv.agg [Cv.raw (Value.bool (decide (Dy.m (Prod.fst u) < (0 : Int)))), Cv.ent (nat (Int.natAbs (Dy.m (Prod.fst u)))), Cv.raw (Value.int IntKind.i64 (Dy.e (Prod.fst u))), Cv.raw (Value.bool (decide (Dy.m (Prod.snd u) < (0 : Int)))), Cv.ent (nat (Int.natAbs (Dy.m (Prod.snd u)))), Cv.raw (Value.int IntKind.i64 (Dy.e (Prod.snd u)))], Sv.agg [Cv.raw (Value.bool (decide (Dy.m (Prod.fst nt) < (0 : Int)))), Cv.ent (nat (Int.natAbs (Dy.m (Prod.fst nt)))), Cv.raw (Value.int IntKind.i64 (Dy.e (Prod.fst nt))), Cv.raw (Value.bool (decide (Dy.m (Prod.snd nt) < (0 : Int)))), Cv.ent (nat (Int.natAbs (Dy.m (Prod.snd nt)))), Cv.raw (Value.int IntKind.i64 (Dy.e (Prod.snd nt)))], Sv.cel (Cv.raw (Value.int IntKind.i64 (↑w : Int)))] [] (Av.tup [Sv.agg [Cv.raw (Value.bool (decide (Dy.m (Prod.fst (P (k + (1 : Nat)))) < (0 : Int)))), Cv.ent (nat (Int.natAbs (Dy.m (Prod.fst (P (k + (1 : Nat))))))), Cv.raw (Value.int IntKind.i64 (Dy.e (Prod.fst (P (k + (1 : Nat)))))), Cv.raw (Value.bool (decide (Dy.m (Prod.snd (P (k + (1 : Nat)))) < (0 : Int)))), Cv.ent (nat (Int.natAbs (Dy.m (Prod.snd (P (k + (1 : Nat))))))), Cv.raw (Value.int IntKind.i64 (Dy.e (Prod.snd (P (k + (1 : Nat))))))], Sv.cel (Cv.raw (Value.int IntKind.i64 (Int.ofNat (nat_lit 0))))]),
    Tr.call 13 [Sv.agg [Cv.raw (Value.bool (decide (Rat.num (Q k) < (0 : Int)))), Cv.ent (nat (Int.natAbs (Rat.num (Q k)))), Cv.ent (nat (Rat.den (Q k)))], Sv.agg [Cv.raw (Value.bool (decide (Rat.num x < (0 : Int)))), Cv.ent (nat (Int.natAbs (Rat.num x))), Cv.ent (nat (Rat.den x))]] [] (Av.tup [Sv.agg [Cv.raw (Value.bool (decide (Rat.num v < (0 : Int)))), Cv.ent (nat (Int.natAbs (Rat.num v))), Cv.ent (nat (Rat.den v))], Sv.cel (Cv.raw (Value.int IntKind.i64 (Int.ofNat (nat_lit 0))))]),
    Tr.told (Op.indexAddr 28 (Operand.tmp (147 : Nat)) (Operand.tmp (148 : Nat))) 0 [Av.one (Sv.cel (Cv.ent (rowOf n (List.flatMap rqC ts)))), Av.one (Sv.cel (Cv.raw (Value.int IntKind.i64 ((↑n : Int) - (1 : Int) - (↑k : Int)))))] (.one (.cel (.ent (ptrTo (rqC t))))),
    Tr.told (Op.load 27 (Operand.tmp (149 : Nat))) 27 [Av.one (Sv.cel (Cv.ent (ptrTo [Cv.raw (Value.bool (decide (Rat.num t < (0 : Int)))), Cv.ent (nat (Int.natAbs (Rat.num t))), Cv.ent (nat (Rat.den t))])))] (.one (rq t)),
    Tr.call 14 [Sv.agg [Cv.raw (Value.bool (decide (Rat.num v < (0 : Int)))), Cv.ent (nat (Int.natAbs (Rat.num v))), Cv.ent (nat (Rat.den v))], Sv.agg [Cv.raw (Value.bool (decide (Rat.num t < (0 : Int)))), Cv.ent (nat (Int.natAbs (Rat.num t))), Cv.ent (nat (Rat.den t))]] [] (Av.tup [Sv.agg [Cv.raw (Value.bool (decide (Rat.num (Q (k + (1 : Nat))) < (0 : Int)))), Cv.ent (nat (Int.natAbs (Rat.num (Q (k + (1 : Nat)))))), Cv.ent (nat (Rat.den (Q (k + (1 : Nat)))))], Sv.cel (Cv.raw (Value.int IntKind.i64 (Int.ofNat (nat_lit 0))))]),
    Tr.norm (nat_lit 364) (Av.one (Sv.cel (Cv.raw (Value.int IntKind.i64 (IntKind.wrap IntKind.i64 ((↑n : Int) - (1 : Int) - (↑k : Int) - (1 : Int))))))) (Av.one (Sv.cel (Cv.raw (Value.int IntKind.i64 ((↑n : Int) - (1 : Int) - (↑(k + (1 : Nat)) : Int))))))] := ⟨
    norm_bool (decide_eq_true (show (n : Int) - 1 - (k : Int) ≥ 0 by omega)),
    idx_ok (e := 27) (s := 3) (j := n - 1 - k) (by kernel_rfl) (by kernel_rfl) (by have := idx_lt ht hl; omega) (idx_lt ht hl) (flat_get rqC_len ht) (flat_ne rqC_len (by omega) ht),
    loadn_ok (by kernel_rfl) (by kernel_rfl) (Nat.le_refl _) rfl,
    h1,
    h2,
    h3,
    h4,
    idx_ok (e := 27) (s := 3) (j := n - 1 - k) (by kernel_rfl) (by kernel_rfl) (by have := idx_lt ht hl; omega) (idx_lt ht hl) (flat_get rqC_len ht) (flat_ne rqC_len (by omega) ht),
    loadn_ok (by kernel_rfl) (by kernel_rfl) (Nat.le_refl _) rfl,
    h5,
    norm_back hk (by omega), trivial⟩
  exact moves_of_trace (n := 200) (k := 300) (keep := [1, 2, 3, 11, 12, 13, 14]) (ids := [0, 206, 211, 213]) hT (by kernel_rfl)

set_option maxRecDepth 100000 in
theorem hoM_exit {n w : Nat} {x : Rat} {ts : List Rat} {nx : Dy × Dy} {P : Nat → Dy × Dy} {Q : Nat → Rat}  : AM.Moves Tryz.prog Glob (loopN Tryz.f3 1) (hoMT n w x ts nx P Q n) (hoMV n w x ts nx P Q n) (.exit 2) (hoMT n w x ts nx P Q n) (hoMV n w x ts nx P Q n) := by
  have hT : AllOk Tryz.prog Glob [
    Tr.norm (nat_lit 301) (Av.one (Sv.cel (Cv.raw (Value.bool (decide ((↑n : Int) - (1 : Int) - (↑n : Int) ≥ (0 : Int))))))) (Av.one (Sv.cel (Cv.raw (Value.bool false))))] := ⟨
    norm_bool (decide_eq_false (show ¬ (n : Int) - 1 - (n : Int) ≥ 0 by omega)), trivial⟩
  exact moves_of_trace (n := 200) (k := 300) (keep := [1, 2, 3, 11, 12, 13, 14]) (ids := [0, 206, 211, 213]) hT (by kernel_rfl)

theorem hoM_loop {n w : Nat} {x : Rat} {ts : List Rat} {nx : Dy × Dy} {P : Nat → Dy × Dy} {Q : Nat → Rat} (hn : n ≤ 8) (hl : ts.length = n) (hc : ∀ k, k < n → ∃ (t v : Rat) (nt u : Dy × Dy), ts[n - 1 - k]? = some t ∧ FitsP 4 [rq t, intS (w : Int)] [] (.tup [spQ nt, ok0]) ∧ FitsP 11 [spQ (P k), spQ nx, intS (w : Int)] [] (.tup [spQ u, ok0]) ∧ FitsP 12 [spQ u, spQ nt, intS (w : Int)] [] (.tup [spQ (P (k + 1)), ok0]) ∧ FitsP 13 [rq (Q k), rq x] [] (.tup [rq v, ok0]) ∧ FitsP 14 [rq v, rq t] [] (.tup [rq (Q (k + 1)), ok0])) :
    AM.Moves Tryz.prog Glob (.loop (loopN Tryz.f3 1)) (hoMT n w x ts nx P Q 0) (hoMV n w x ts nx P Q 0) (.exit 2) (hoMT n w x ts nx P Q n) (hoMV n w x ts nx P Q n) :=
  loop_moves (n := n) (tm := fun k => (hoMT n w x ts nx P Q k)) (vr := fun k => (hoMV n w x ts nx P Q k)) (fun k hk => by
    obtain ⟨t, v, nt, u, a, h1, h2, h3, h4, h5⟩ := hc k hk
    exact hoM_round hn hl hk a h1 h2 h3 h4 h5) (by simp) hoM_exit
theorem hoM_zero {n w : Nat} {x : Rat} {ts : List Rat} {nx : Dy × Dy} {P : Nat → Dy × Dy} {Q : Nat → Rat} (h0 : P 0 = (⟨0, 0⟩, ⟨0, 0⟩)) (hq : Q 0 = 0) (hn : n ≤ 8) (hl : ts.length = n) (hc : ∀ k, k < n → ∃ (t v : Rat) (nt u : Dy × Dy), ts[n - 1 - k]? = some t ∧ FitsP 4 [rq t, intS (w : Int)] [] (.tup [spQ nt, ok0]) ∧ FitsP 11 [spQ (P k), spQ nx, intS (w : Int)] [] (.tup [spQ u, ok0]) ∧ FitsP 12 [spQ u, spQ nt, intS (w : Int)] [] (.tup [spQ (P (k + 1)), ok0]) ∧ FitsP 13 [rq (Q k), rq x] [] (.tup [rq v, ok0]) ∧ FitsP 14 [rq v, rq t] [] (.tup [rq (Q (k + 1)), ok0])) : AM.Moves Tryz.prog Glob (.loop (loopN Tryz.f3 1)) (hoMT n w x ts nx P Q 0) [(0, ⟨27, [.raw (.bool (decide (x.num < 0))), .ent (nat x.num.natAbs), .ent (nat x.den)], true, .no⟩), (206, ⟨32, spC nx, true, .no⟩), (211, ⟨32, [.raw (.bool false), .raw (.slice none 0 0), .raw (.int .i64 0), .raw (.bool false), .raw (.slice none 0 0), .raw (.int .i64 0)], true, .no⟩), (213, ⟨27, rqC 0, true, .no⟩)] (.exit 2) (hoMT n w x ts nx P Q n) (hoMV n w x ts nx P Q n) := by
  refine Moves.pre ?_ (hoM_loop hn hl hc)
  refine ⟨rfl, rfl, rfl, fun _ _ _ h => h, rfl, rfl, rfl, fun _ _ _ h => h, rfl, rfl, rfl, fun β W us h => ?_, rfl, rfl, rfl, fun β W us h => ?_, trivial⟩
  · rw [h0]
    match us, h with
    | [p1, p2, p3, q1, q2, q3], ⟨k1, k2, k3, k4, k5, k6, _⟩ => exact ⟨k1, norm_nil k2, k3, k4, norm_nil k5, k6, trivial⟩
  · rw [hq]; exact h
theorem hoM_con {n w : Nat} {x : Rat} {ts : List Rat} (hn : n ≤ 8) (hl : ts.length = n) (hx : BQ 3 x) (ht : ∀ t ∈ ts, BQ 3 t) (hw : 2 ≤ w) (hw2 : w ≤ 200) (k : Nat) (hk : k < n) : ∃ (t v : Rat) (nt u : Dy × Dy), ts[n - 1 - k]? = some t ∧ FitsP 4 [rq t, intS (w : Int)] [] (.tup [spQ nt, ok0]) ∧ FitsP 11 [spQ (horP w x ts k), spQ (nearP w x), intS (w : Int)] [] (.tup [spQ u, ok0]) ∧ FitsP 12 [spQ u, spQ nt, intS (w : Int)] [] (.tup [spQ (horP w x ts (k + 1)), ok0]) ∧ FitsP 13 [rq (horQ x ts k), rq x] [] (.tup [rq v, ok0]) ∧ FitsP 14 [rq v, rq t] [] (.tup [rq (horQ x ts (k + 1)), ok0]) := by
  obtain ⟨t, h⟩ : ∃ t, ts[n - 1 - k]? = some t := ⟨_, List.getElem?_eq_getElem (by omega)⟩
  have he : ts.getD (ts.length - 1 - k) 0 = t := by rw [hl]; exact getD_at h
  exact ⟨t, _, _, _, h, nearH_f (mem_get ht h) hw hw2, mulH_f (by omega) hw hw2 hx ht, addH_f (by omega) hw hw2 hx ht he, mulQH_f (by omega) hx ht, addQH_f (by omega) hx ht he⟩
theorem hor8 {n w : Nat} {x : Rat} {ts : List Rat} (hn : n ≤ 8) (hx : BQ 3 x) (ht : ∀ t ∈ ts, BQ 3 t) (hw : 2 ≤ w) (hw2 : w ≤ 200) : BDp 64 88 (horP w x ts n) := (hor_bd (by omega) hw2 hx ht n).mono (by omega) (by omega)
theorem cons_len {α : Type} {n m : Nat} {x : α} {ts ys : List α} (hm : m = 1 + n) (hys : ys = x :: ts) (hl : ts.length = n) : ys.length = m := by subst hm hys; simp [hl]; omega
theorem cons_bq {x : Rat} {ts ys : List Rat} (hys : ys = x :: ts) (hx : BQ 3 x) (ht : ∀ t ∈ ts, BQ 3 t) : ∀ y ∈ ys, BQ 3 y := fun y hy => by
  subst hys
  rcases List.mem_cons.1 hy with rfl | h
  · exact hx
  · exact ht y h
theorem hmd_bd {n : Nat} {P : Nat → Dy × Dy} {md : Dy} (hmd : md = mdD (P n).1 (P n).2) (h : BDp 64 88 (P n)) : BD 66 89 md := by subst hmd; exact BD.md h.1 h.2
theorem hwd_bd {n : Nat} {P : Nat → Dy × Dy} {wd : Dy} (hwd : wd = subD (P n).2 (P n).1) (h : BDp 64 88 (P n)) : BD 65 88 wd := by subst hwd; exact h.2.sub h.1
theorem hratio_f {md : Dy} {r : Rat} (hr : r = dv md) (h : BD 66 89 md) : FitsP 18 [dS md] [] (.tup [rq r, ok0]) := by subst hr; exact ratioD_f h (by omega)
theorem hsub_f {md : Dy} {r q : Rat} (hr : r = dv md) (h : BD 66 89 md) (hq : BQ 57 q) : FitsP 19 [rq r, rq q] [] (.tup [rq (r - q), ok0]) := by subst hr; exact subQ_f h.bq hq (by omega)
theorem bq_absH {n : Nat} {q : Rat} (h : BQ n q) : BQ n (absQ q) := by
  unfold absQ
  split
  · exact h.neg'
  · exact h
theorem hcmp_f {wd md : Dy} {r q : Rat} {c : Int} (hr : r = dv md) (h : BD 66 89 md) (hw : BD 65 88 wd) (hq : BQ 57 q) (hc : ordQ (dv wd) (absQ (r - q)) = c) : FitsP 20 [dS wd, rq (absQ (r - q))] [] (.tup [intS c, ok0]) := by
  subst hr; exact cmpDQ_f hw (bq_absH (h.bq.sub hq)) (by omega) hc
theorem hor8q {n : Nat} {x : Rat} {ts : List Rat} (hn : n ≤ 8) (hx : BQ 3 x) (ht : ∀ t ∈ ts, BQ 3 t) : BQ 57 (horQ x ts n) := (hor_bq hx ht n).mono (by omega)
set_option maxRecDepth 100000 in
theorem WholeHeld_fit {n m w : Nat} {x r : Rat} {ts ys : List Rat} {P : Nat → Dy × Dy} {Q : Nat → Rat} {nx : Dy × Dy} {md wd : Dy} {c : Int} (hc : ordQ (dv wd) (absQ (r - Q n)) = c) (hc0 : ¬ c < 0) (hP : P = horP w x ts) (hQ : Q = horQ x ts) (hnx : nx = nearP w x) (hmd : md = mdD (P n).1 (P n).2) (hwd : wd = subD (P n).2 (P n).1) (hr : r = dv md) (hm : m = 1 + n) (hys : ys = x :: ts) (hn : n ≤ 8) (hl : ts.length = n) (hx : BQ 3 x) (ht : ∀ t ∈ ts, BQ 3 t) (hw : 2 ≤ w) (hw2 : w ≤ 200) : FitsP 3 [rq x, ratsN n ts, intS (w : Int)] [] (.one (boolS true)) := by
  have hT : AllOk Tryz.prog Glob [
    Tr.call 5 [Sv.cel (Cv.raw (Value.int IntKind.i64 (Int.ofNat (nat_lit 1)))), Sv.cel (Cv.raw (Value.int IntKind.i64 (Int.ofNat (nat_lit 1))))] [] (Av.one (Sv.agg [Cv.raw (Value.bool (decide (Rat.num (1 : Rat) < (0 : Int)))), Cv.ent (nat (Int.natAbs (Rat.num (1 : Rat)))), Cv.ent (nat (Rat.den (1 : Rat)))])),
    Tr.call 4 [Sv.agg [Cv.raw (Value.bool (decide (Rat.num (1 : Rat) < (0 : Int)))), Cv.ent (nat (Int.natAbs (Rat.num (1 : Rat)))), Cv.ent (nat (Rat.den (1 : Rat)))], Sv.cel (Cv.raw (Value.int IntKind.i64 (Int.ofNat (nat_lit 10))))] [] (Av.tup [Sv.agg [Cv.raw (Value.bool (decide (Dy.m (Prod.fst ({ m := (1 : Int), e := (0 : Int) : Dy }, { m := (1 : Int), e := (0 : Int) : Dy })) < (0 : Int)))), Cv.ent (nat (Int.natAbs (Dy.m (Prod.fst ({ m := (1 : Int), e := (0 : Int) : Dy }, { m := (1 : Int), e := (0 : Int) : Dy }))))), Cv.raw (Value.int IntKind.i64 (Int.ofNat (nat_lit 0))), Cv.raw (Value.bool (decide (Dy.m (Prod.snd ({ m := (1 : Int), e := (0 : Int) : Dy }, { m := (1 : Int), e := (0 : Int) : Dy })) < (0 : Int)))), Cv.ent (nat (Int.natAbs (Dy.m (Prod.snd ({ m := (1 : Int), e := (0 : Int) : Dy }, { m := (1 : Int), e := (0 : Int) : Dy }))))), Cv.raw (Value.int IntKind.i64 (Int.ofNat (nat_lit 0)))], Sv.cel (Cv.raw (Value.int IntKind.i64 (Int.ofNat (nat_lit 0))))]),
    Tr.call 7 [Sv.cel (Cv.raw (Value.int IntKind.i64 (Int.ofNat (nat_lit 1)))), Sv.cel (Cv.raw (Value.int IntKind.i64 (Int.ofNat (nat_lit 0))))] [] (Av.one (Sv.agg [Cv.raw (Value.bool (decide (Dy.m { m := (1 : Int), e := (0 : Int) : Dy } < (0 : Int)))), Cv.ent (nat (Int.natAbs (Dy.m { m := (1 : Int), e := (0 : Int) : Dy }))), Cv.raw (Value.int IntKind.i64 (Int.ofNat (nat_lit 0)))])),
    Tr.call 6 [Sv.agg [Cv.raw (Value.bool (decide (Dy.m (Prod.fst ({ m := (1 : Int), e := (0 : Int) : Dy }, { m := (1 : Int), e := (0 : Int) : Dy })) < (0 : Int)))), Cv.ent (nat (Int.natAbs (Dy.m (Prod.fst ({ m := (1 : Int), e := (0 : Int) : Dy }, { m := (1 : Int), e := (0 : Int) : Dy }))))), Cv.raw (Value.int IntKind.i64 (Int.ofNat (nat_lit 0))), Cv.raw (Value.bool (decide (Dy.m (Prod.snd ({ m := (1 : Int), e := (0 : Int) : Dy }, { m := (1 : Int), e := (0 : Int) : Dy })) < (0 : Int)))), Cv.ent (nat (Int.natAbs (Dy.m (Prod.snd ({ m := (1 : Int), e := (0 : Int) : Dy }, { m := (1 : Int), e := (0 : Int) : Dy }))))), Cv.raw (Value.int IntKind.i64 (Int.ofNat (nat_lit 0)))], Sv.agg [Cv.raw (Value.bool (decide (Dy.m { m := (1 : Int), e := (0 : Int) : Dy } < (0 : Int)))), Cv.ent (nat (Int.natAbs (Dy.m { m := (1 : Int), e := (0 : Int) : Dy }))), Cv.raw (Value.int IntKind.i64 (Int.ofNat (nat_lit 0)))]] [] (Av.one (Sv.cel (Cv.raw (Value.bool true)))),
    Tr.call 8 [Sv.agg [Cv.raw (Value.bool (decide (Dy.m (Prod.fst ({ m := (1 : Int), e := (0 : Int) : Dy }, { m := (1 : Int), e := (0 : Int) : Dy })) < (0 : Int)))), Cv.ent (nat (Int.natAbs (Dy.m (Prod.fst ({ m := (1 : Int), e := (0 : Int) : Dy }, { m := (1 : Int), e := (0 : Int) : Dy }))))), Cv.raw (Value.int IntKind.i64 (Int.ofNat (nat_lit 0)))]] [] (Av.one (Sv.cel (Cv.raw (Value.int IntKind.i64 (Int.ofNat (nat_lit 1)))))),
    Tr.norm (nat_lit 27) (Av.one (Sv.cel (Cv.raw (Value.bool (decide ((↑n : Int) > (8 : Int))))))) (Av.one (Sv.cel (Cv.raw (Value.bool false)))),
    Tr.norm (nat_lit 31) (Av.one (Sv.cel (Cv.raw (Value.bool (decide ((↑w : Int) < (2 : Int))))))) (Av.one (Sv.cel (Cv.raw (Value.bool false)))),
    Tr.norm (nat_lit 34) (Av.one (Sv.cel (Cv.raw (Value.bool (decide ((↑w : Int) > (200 : Int))))))) (Av.one (Sv.cel (Cv.raw (Value.bool false)))),
    Tr.toldAt (nat_lit 36) (Op.buildSlice (28 : Nat) (1 : Nat) #[((0 : Nat), Operand.tmp (63 : Nat))]) 28 [Av.one (Sv.agg [Cv.raw (Value.bool (decide (Rat.num x < (0 : Int)))), Cv.ent (nat (Int.natAbs (Rat.num x))), Cv.ent (nat (Rat.den x))])] (.one (.cel (.ent (rowEx 1 (rqC x))))),
    Tr.told (Op.call { callee := Callee.builtin Builtin.append, args := #[Operand.tmp (64 : Nat), Operand.tmp (65 : Nat)], argTypes := #[(28 : Nat), (28 : Nat)] : Call }) 28 [Av.one (Sv.cel (Cv.ent (rowEx (1 : Nat) [Cv.raw (Value.bool (decide (Rat.num x < (0 : Int)))), Cv.ent (nat (Int.natAbs (Rat.num x))), Cv.ent (nat (Rat.den x))]))), Av.one (Sv.cel (Cv.ent (rowOf n (List.flatMap rqC ts))))] (.one (.cel (.ent (rowOf m (ys.flatMap rqC))))),
    Tr.loop ((loopN Tryz.f3 0)) [nat_lit 1, nat_lit 2, nat_lit 3, nat_lit 66, nat_lit 67, nat_lit 68] [nat_lit 0] ((heLT n m w x ts ys 0)) ((heLV n m w x ts ys 0)) (Exit.exit (nat_lit 0)) ((heLT n m w x ts ys m)) ((heLV n m w x ts ys m)) (nat_lit 200),
    Tr.call 4 [Sv.agg [Cv.raw (Value.bool (decide (Rat.num x < (0 : Int)))), Cv.ent (nat (Int.natAbs (Rat.num x))), Cv.ent (nat (Rat.den x))], Sv.cel (Cv.raw (Value.int IntKind.i64 (↑w : Int)))] [] (Av.tup [Sv.agg [Cv.raw (Value.bool (decide (Dy.m (Prod.fst nx) < (0 : Int)))), Cv.ent (nat (Int.natAbs (Dy.m (Prod.fst nx)))), Cv.raw (Value.int IntKind.i64 (Dy.e (Prod.fst nx))), Cv.raw (Value.bool (decide (Dy.m (Prod.snd nx) < (0 : Int)))), Cv.ent (nat (Int.natAbs (Dy.m (Prod.snd nx)))), Cv.raw (Value.int IntKind.i64 (Dy.e (Prod.snd nx)))], Sv.cel (Cv.raw (Value.int IntKind.i64 (Int.ofNat (nat_lit 0))))]),
    Tr.call 10 [] [] (Av.one (Sv.agg [Cv.raw (Value.bool (decide (Rat.num (0 : Rat) < (0 : Int)))), Cv.ent (nat (Int.natAbs (Rat.num (0 : Rat)))), Cv.ent (nat (Rat.den (0 : Rat)))])),
    Tr.norm (nat_lit 217) (Av.one (Sv.cel (Cv.raw (Value.int IntKind.i64 (IntKind.wrap IntKind.i64 ((↑n : Int) - (1 : Int))))))) (Av.one (Sv.cel (Cv.raw (Value.int IntKind.i64 ((↑n : Int) - (1 : Int) - (↑(0 : Nat) : Int)))))),
    Tr.loop ((loopN Tryz.f3 1)) [nat_lit 1, nat_lit 2, nat_lit 3, nat_lit 11, nat_lit 12, nat_lit 13, nat_lit 14] [nat_lit 0, nat_lit 206, nat_lit 211, nat_lit 213] ((hoMT n w x ts nx P Q 0)) ([(0, ⟨27, [.raw (.bool (decide (x.num < 0))), .ent (nat x.num.natAbs), .ent (nat x.den)], true, .no⟩), (206, ⟨32, spC nx, true, .no⟩), (211, ⟨32, [.raw (.bool false), .raw (.slice none 0 0), .raw (.int .i64 0), .raw (.bool false), .raw (.slice none 0 0), .raw (.int .i64 0)], true, .no⟩), (213, ⟨27, rqC 0, true, .no⟩)]) (Exit.exit (nat_lit 2)) ((hoMT n w x ts nx P Q n)) ((hoMV n w x ts nx P Q n)) (nat_lit 400),
    Tr.call 15 [Sv.agg [Cv.raw (Value.bool (decide (Dy.m (Prod.fst (P n)) < (0 : Int)))), Cv.ent (nat (Int.natAbs (Dy.m (Prod.fst (P n))))), Cv.raw (Value.int IntKind.i64 (Dy.e (Prod.fst (P n)))), Cv.raw (Value.bool (decide (Dy.m (Prod.snd (P n)) < (0 : Int)))), Cv.ent (nat (Int.natAbs (Dy.m (Prod.snd (P n))))), Cv.raw (Value.int IntKind.i64 (Dy.e (Prod.snd (P n))))], Sv.agg [Cv.raw (Value.bool (decide (Rat.num (Q n) < (0 : Int)))), Cv.ent (nat (Int.natAbs (Rat.num (Q n)))), Cv.ent (nat (Rat.den (Q n)))]] [] (Av.tup [Sv.cel (Cv.raw (Value.bool true)), Sv.cel (Cv.raw (Value.int IntKind.i64 (Int.ofNat (nat_lit 0))))]),
    Tr.call 16 [Sv.agg [Cv.raw (Value.bool (decide (Dy.m (Prod.fst (P n)) < (0 : Int)))), Cv.ent (nat (Int.natAbs (Dy.m (Prod.fst (P n))))), Cv.raw (Value.int IntKind.i64 (Dy.e (Prod.fst (P n)))), Cv.raw (Value.bool (decide (Dy.m (Prod.snd (P n)) < (0 : Int)))), Cv.ent (nat (Int.natAbs (Dy.m (Prod.snd (P n))))), Cv.raw (Value.int IntKind.i64 (Dy.e (Prod.snd (P n))))]] [] (Av.tup [Sv.agg [Cv.raw (Value.bool (decide (Dy.m md < (0 : Int)))), Cv.ent (nat (Int.natAbs (Dy.m md))), Cv.raw (Value.int IntKind.i64 (Dy.e md))], Sv.cel (Cv.raw (Value.int IntKind.i64 (Int.ofNat (nat_lit 0))))]),
    Tr.call 17 [Sv.agg [Cv.raw (Value.bool (decide (Dy.m (Prod.fst (P n)) < (0 : Int)))), Cv.ent (nat (Int.natAbs (Dy.m (Prod.fst (P n))))), Cv.raw (Value.int IntKind.i64 (Dy.e (Prod.fst (P n)))), Cv.raw (Value.bool (decide (Dy.m (Prod.snd (P n)) < (0 : Int)))), Cv.ent (nat (Int.natAbs (Dy.m (Prod.snd (P n))))), Cv.raw (Value.int IntKind.i64 (Dy.e (Prod.snd (P n))))]] [] (Av.tup [Sv.agg [Cv.raw (Value.bool (decide (Dy.m wd < (0 : Int)))), Cv.ent (nat (Int.natAbs (Dy.m wd))), Cv.raw (Value.int IntKind.i64 (Dy.e wd))], Sv.cel (Cv.raw (Value.int IntKind.i64 (Int.ofNat (nat_lit 0))))]),
    Tr.call 18 [Sv.agg [Cv.raw (Value.bool (decide (Dy.m md < (0 : Int)))), Cv.ent (nat (Int.natAbs (Dy.m md))), Cv.raw (Value.int IntKind.i64 (Dy.e md))]] [] (Av.tup [Sv.agg [Cv.raw (Value.bool (decide (Rat.num r < (0 : Int)))), Cv.ent (nat (Int.natAbs (Rat.num r))), Cv.ent (nat (Rat.den r))], Sv.cel (Cv.raw (Value.int IntKind.i64 (Int.ofNat (nat_lit 0))))]),
    Tr.call 19 [Sv.agg [Cv.raw (Value.bool (decide (Rat.num r < (0 : Int)))), Cv.ent (nat (Int.natAbs (Rat.num r))), Cv.ent (nat (Rat.den r))], Sv.agg [Cv.raw (Value.bool (decide (Rat.num (Q n) < (0 : Int)))), Cv.ent (nat (Int.natAbs (Rat.num (Q n)))), Cv.ent (nat (Rat.den (Q n)))]] [] (Av.tup [Sv.agg [Cv.raw (Value.bool (decide (Rat.num (r - Q n) < (0 : Int)))), Cv.ent (nat (Int.natAbs (Rat.num (r - Q n)))), Cv.ent (nat (Rat.den (r - Q n)))], Sv.cel (Cv.raw (Value.int IntKind.i64 (Int.ofNat (nat_lit 0))))]),
    Tr.call 21 [Sv.agg [Cv.raw (Value.bool (decide (Rat.num (r - Q n) < (0 : Int)))), Cv.ent (nat (Int.natAbs (Rat.num (r - Q n)))), Cv.ent (nat (Rat.den (r - Q n)))]] [] (Av.one (Sv.agg [Cv.raw (Value.bool (decide (Rat.num (absQ (r - Q n)) < (0 : Int)))), Cv.ent (nat (Int.natAbs (Rat.num (absQ (r - Q n))))), Cv.ent (nat (Rat.den (absQ (r - Q n))))])),
    Tr.call 20 [Sv.agg [Cv.raw (Value.bool (decide (Dy.m wd < (0 : Int)))), Cv.ent (nat (Int.natAbs (Dy.m wd))), Cv.raw (Value.int IntKind.i64 (Dy.e wd))], Sv.agg [Cv.raw (Value.bool (decide (Rat.num (absQ (r - Q n)) < (0 : Int)))), Cv.ent (nat (Int.natAbs (Rat.num (absQ (r - Q n))))), Cv.ent (nat (Rat.den (absQ (r - Q n))))]] [] (Av.tup [Sv.cel (Cv.raw (Value.int IntKind.i64 c)), Sv.cel (Cv.raw (Value.int IntKind.i64 (Int.ofNat (nat_lit 0))))]),
    Tr.norm (nat_lit 470) (Av.one (Sv.cel (Cv.raw (Value.bool (decide (c ≥ (0 : Int))))))) (Av.one (Sv.cel (Cv.raw (Value.bool true))))] := ⟨
    ofQ_lit (a := 1) (d := 1) _ (by decide +kernel) (by decide +kernel) (by decide +kernel) (by decide +kernel),
    (nearX (b := 10) rfl ⟨1, 0⟩ (by decide +kernel) (by decide +kernel) (by decide +kernel) (by decide +kernel) (by decide +kernel) (by decide +kernel)),
    ofL ⟨1, 0⟩ (inI_small (by decide +kernel) (by decide +kernel)) (by decide +kernel) (by decide +kernel) (by decide +kernel) (by decide +kernel) (by decide +kernel),
    hasYes_f (n := 4) (k := 4) (by decide +kernel) (by decide +kernel) (by decide +kernel) (by omega) (by decide +kernel) (by decide +kernel),
    signD_f (a := ⟨1, 0⟩) rfl,
    norm_bool (decide_eq_false (show ¬ (n : Int) > 8 by omega)),
    norm_bool (decide_eq_false (show ¬ (w : Int) < 2 by omega)),
    norm_bool (decide_eq_false (show ¬ (w : Int) > 200 by omega)),
    litR_ok (e := 27) (by kernel_rfl) (by kernel_rfl) (by kernel_rfl) (by kernel_rfl) (by kernel_rfl) (by kernel_rfl) (rqC_shut x),
    (by subst hm; subst hys; exact appR_ok (e := 27) (n := 1) (sz := 3) (bt := 56) (by kernel_rfl) (by kernel_rfl) (by kernel_rfl) (by kernel_rfl) (by kernel_rfl) (by omega) rfl (by rw [flat_len rqC_len, hl]) (by omega) (by omega)),
    heL_loop (by omega) (cons_len hm hys hl) (cons_bq hys hx ht),
    (by subst hnx; exact nearH_f hx hw hw2),
    zeroQ0_f,
    norm_last (by omega),
    (by subst hP hQ hnx; exact hoM_zero rfl rfl hn hl (hoM_con hn hl hx ht hw hw2)),
    (by subst hP hQ; exact hldQ_f (hor8 hn hx ht hw hw2) (hor8q hn hx ht) (by omega) (hor_hld n)),
    (by subst hP hQ; subst hmd; exact middleS_f (hor8 hn hx ht hw hw2).1 (hor8 hn hx ht hw hw2).2 (by omega)),
    (by subst hP hQ; subst hwd; exact widthS_f (hor8 hn hx ht hw hw2).1 (hor8 hn hx ht hw hw2).2 (by omega)),
    hratio_f hr (hmd_bd hmd (by subst hP; exact hor8 hn hx ht hw hw2)),
    hsub_f hr (hmd_bd hmd (by subst hP; exact hor8 hn hx ht hw hw2)) (by subst hQ; exact hor8q hn hx ht),
    absQ_f,
    hcmp_f hr (hmd_bd hmd (by subst hP; exact hor8 hn hx ht hw hw2)) (hwd_bd hwd (by subst hP; exact hor8 hn hx ht hw hw2)) (by subst hQ; exact hor8q hn hx ht) hc,
    norm_bool (decide_eq_true (show c ≥ 0 by omega)), trivial⟩
  exact fits_of_trace (n := 600) (k0 := 0) hT Tryz.func3 (by kernel_rfl) (by kernel_rfl) (by kernel_rfl)
end Go.Proofs.YtnncfbmddpijcaaGreatDoor
