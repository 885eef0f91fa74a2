/- Rows of ratios: sums, the same rows. -/
import Derived.Test.YtejkcmklhmifaaaGreatDoorRowF
import Derived.Test.YtejkcmklhmifaaaGreatDoorRatN
namespace Go.Proofs.YtejkcmklhmifaaaGreatDoor
open Go Go.RowKit Go.Shelf AM
def sumRT (n : Nat) (xs : List Rat) (_acc : Nat → Rat) (k : Nat) : List Av := mkT 27 [(2, .one (.cel (.ptr 0 0))), (4, .one (.cel (.ptr 3 0))), (9, .one (.cel (.ent (rowOf n (xs.flatMap rqC))))), (10, .one (.cel (.raw (.int .i64 (n : Int))))), (11, .one (.cel (.raw (.int .i64 ((k : Nat) : Int)))))]
def sumRV (_n : Nat) (_xs : List Rat) (acc : Nat → Rat) (k : Nat) : List (Nat × VarSt) := [(0, ⟨27, rqZ, true, .no⟩), (3, ⟨27, rqC (acc k), true, .no⟩)]
set_option maxRecDepth 100000 in
theorem sumR_round {n : Nat} {xs : List Rat} {acc : Nat → Rat} {k : Nat} {x : Rat} (hn : n ≤ 17179869184) (hl : xs.length = n) (hx : xs[k]? = some x) (hc : FitsP 24 [rq (acc k), rq x] [] (.tup [rq (acc (k + 1)), ok0])) : AM.Moves Tryz.prog Glob (loopN Tryz.f106 0) (sumRT n xs acc k) (sumRV n xs acc k) .normal (sumRT n xs acc (k + 1)) (sumRV n xs acc (k + 1)) := by
  have hT : AllOk Tryz.prog Glob [
    Tr.norm 8 (Av.one (Sv.cel (Cv.raw (Value.bool (decide ((↑k : Int) < (↑n : Int))))))) (Av.one (boolS true)),
    Tr.told (Op.indexAddr 28 (Operand.tmp 9) (Operand.tmp 11)) 0 [Av.one (Sv.cel (Cv.ent (rowOf n (List.flatMap rqC xs)))), Av.one (intS (↑k : Int))] (.one (.cel (.ent (ptrTo (rqC x))))),
    Tr.told (Op.load 27 (Operand.tmp 13)) 27 [Av.one (Sv.cel (Cv.ent (ptrTo (rqC x))))] (.one (rq x)),
    Tr.call 24 [rq (acc k), rq x] [] (Av.tup [rq (acc (k + (1 : Nat))), ok0]),
    Tr.norm 24 (Av.one (intS (IntKind.wrap IntKind.i64 ((↑k : Int) + (1 : Int))))) (Av.one (intS (↑(k + (1 : Nat)) : Int)))] := ⟨
    norm_bool (lt_true (idx_lt hx hl)),
    idx_ok (e := 27) (s := 3) (j := k) (by kernel_rfl) (by kernel_rfl) rfl (idx_lt hx hl) (flat_get rqC_len hx) (flat_ne rqC_len (by omega) hx),
    loadn_ok (by kernel_rfl) (by kernel_rfl) (Nat.le_refl _) rfl,
    hc,
    norm_succ (idx_lt hx hl) hn, trivial⟩
  exact moves_of_trace (n := 200) (k := 8) (keep := [2, 4, 9, 10, 11]) (ids := [0, 3]) hT (by kernel_rfl)

set_option maxRecDepth 100000 in
theorem sumR_exit {n : Nat} {xs : List Rat} {acc : Nat → Rat}  : AM.Moves Tryz.prog Glob (loopN Tryz.f106 0) (sumRT n xs acc n) (sumRV n xs acc n) (.exit 0) (sumRT n xs acc n) (sumRV n xs acc n) := by
  have hT : AllOk Tryz.prog Glob [
    Tr.norm 8 (Av.one (Sv.cel (Cv.raw (Value.bool (decide ((↑n : Int) < (↑n : Int))))))) (Av.one (boolS false))] := ⟨
    norm_bool (lt_false), trivial⟩
  exact moves_of_trace (n := 200) (k := 8) (keep := [2, 4, 9, 10, 11]) (ids := [0, 3]) hT (by kernel_rfl)

theorem sumR_loop {n : Nat} {xs : List Rat} {acc : Nat → Rat} (hn : n ≤ 17179869184) (hl : xs.length = n) (hc : ∀ (k : Nat) (x : Rat), xs[k]? = some x → FitsP 24 [rq (acc k), rq x] [] (.tup [rq (acc (k + 1)), ok0])) :
    AM.Moves Tryz.prog Glob (.loop (loopN Tryz.f106 0)) (sumRT n xs acc 0) (sumRV n xs acc 0) (.exit 0) (sumRT n xs acc n) (sumRV n xs acc n) :=
  loop_moves (n := n) (tm := fun k => (sumRT n xs acc k)) (vr := fun k => (sumRV n xs acc k)) (fun k hk => by
    obtain ⟨x, hx⟩ : ∃ x, xs[k]? = some x := ⟨_, List.getElem?_eq_getElem (by omega)⟩
    exact sumR_round hn hl hx (hc k x hx)) (by simp) sumR_exit
set_option maxRecDepth 100000 in
theorem sumR_f {n : Nat} {xs : List Rat} (acc : Nat → Rat) (h0 : acc 0 = 0) (hn : n ≤ 17179869184) (hl : xs.length = n) (hc : ∀ (k : Nat) (x : Rat), xs[k]? = some x → FitsP 24 [rq (acc k), rq x] [] (.tup [rq (acc (k + 1)), ok0])) : FitsP 106 [.cel (.ent (rowOf n (xs.flatMap rqC)))] [] (.tup [rq (acc n), ok0]) := by
  have hT : AllOk Tryz.prog Glob [
    Tr.call 20 [] [] (Av.one (rq (acc (0 : Nat)))),
    Tr.loop ((loopN Tryz.f106 0)) [nat_lit 2, nat_lit 4, nat_lit 9, nat_lit 10, nat_lit 11] [nat_lit 0, nat_lit 3] ((sumRT n xs acc 0)) ((sumRV n xs acc 0)) (Exit.exit (nat_lit 0)) ((sumRT n xs acc n)) ((sumRV n xs acc n)) (nat_lit 100)] := ⟨
    by rw [h0]; exact zeroQ0_f,
    sumR_loop hn hl hc, trivial⟩
  exact fits_of_trace (n := 300) (k0 := 0) hT Tryz.func106 (by kernel_rfl) (by kernel_rfl) (by kernel_rfl)

def eqRT (e : Ent) (n : Nat) (xs ys : List Rat) (k : Nat) : List Av := mkT 32 [(1, .one (.cel (.ent (rowOf n (ys.flatMap rqC))))), (2, .one (.cel (.ent e))), (15, .one (.cel (.ent (rowOf n (xs.flatMap rqC))))), (16, .one (.cel (.raw (.int .i64 (n : Int))))), (17, .one (.cel (.raw (.int .i64 ((k : Nat) : Int)))))]
def eqRV (_e : Ent) (_n : Nat) (_xs _ys : List Rat) (_k : Nat) : List (Nat × VarSt) := []
set_option maxRecDepth 100000 in
theorem eqR_round {e : Ent} {n : Nat} {xs ys : List Rat} {k : Nat} {x y : Rat} (hn : n ≤ 17179869184) (hl : xs.length = n) (hm : ys.length = n) (hx : xs[k]? = some x) (hy : ys[k]? = some y) (hc : CallV Tryz.prog Glob e [rq x, rq y] [] (.one (boolS true))) : AM.Moves Tryz.prog Glob (loopN Tryz.f102 0) (eqRT e n xs ys k) (eqRV e n xs ys k) .normal (eqRT e n xs ys (k + 1)) (eqRV e n xs ys (k + 1)) := by
  have hT : AllOk Tryz.prog Glob [
    Tr.norm 10 (Av.one (Sv.cel (Cv.raw (Value.bool (decide ((↑k : Int) < (↑n : Int))))))) (Av.one (boolS true)),
    Tr.told (Op.indexAddr 28 (Operand.tmp 15) (Operand.tmp 17)) 0 [Av.one (Sv.cel (Cv.ent (rowOf n (List.flatMap rqC xs)))), Av.one (intS (↑k : Int))] (.one (.cel (.ent (ptrTo (rqC x))))),
    Tr.told (Op.load 27 (Operand.tmp 20)) 27 [Av.one (Sv.cel (Cv.ent (ptrTo (rqC x))))] (.one (rq x)),
    Tr.told (Op.indexAddr 28 (Operand.tmp 22) (Operand.tmp 23)) 0 [Av.one (Sv.cel (Cv.ent (rowOf n (List.flatMap rqC ys)))), Av.one (intS (↑k : Int))] (.one (.cel (.ent (ptrTo (rqC y))))),
    Tr.told (Op.load 27 (Operand.tmp 24)) 27 [Av.one (Sv.cel (Cv.ent (ptrTo (rqC y))))] (.one (rq y)),
    Tr.callv e [rq x, rq y] [] (.one (boolS true)),
    Tr.norm 28 (Av.one (intS (IntKind.wrap IntKind.i64 ((↑k : Int) + (1 : Int))))) (Av.one (intS (↑(k + (1 : Nat)) : Int)))] := ⟨
    norm_bool (lt_true (idx_lt hx hl)),
    idx_ok (e := 27) (s := 3) (j := k) (by kernel_rfl) (by kernel_rfl) rfl (idx_lt hx hl) (flat_get rqC_len hx) (flat_ne rqC_len (by omega) hx),
    loadn_ok (by kernel_rfl) (by kernel_rfl) (Nat.le_refl _) rfl,
    idx_ok (e := 27) (s := 3) (j := k) (by kernel_rfl) (by kernel_rfl) rfl (idx_lt hy hm) (flat_get rqC_len hy) (flat_ne rqC_len (by omega) hy),
    loadn_ok (by kernel_rfl) (by kernel_rfl) (Nat.le_refl _) rfl,
    hc,
    norm_succ (idx_lt hx hl) hn, trivial⟩
  exact moves_of_trace (n := 200) (k := 10) (keep := [1, 2, 15, 16, 17]) (ids := []) hT (by kernel_rfl)

set_option maxRecDepth 100000 in
theorem eqR_exit {e : Ent} {n : Nat} {xs ys : List Rat}  : AM.Moves Tryz.prog Glob (loopN Tryz.f102 0) (eqRT e n xs ys n) (eqRV e n xs ys n) (.exit 0) (eqRT e n xs ys n) (eqRV e n xs ys n) := by
  have hT : AllOk Tryz.prog Glob [
    Tr.norm 10 (Av.one (Sv.cel (Cv.raw (Value.bool (decide ((↑n : Int) < (↑n : Int))))))) (Av.one (boolS false))] := ⟨
    norm_bool (lt_false), trivial⟩
  exact moves_of_trace (n := 200) (k := 10) (keep := [1, 2, 15, 16, 17]) (ids := []) hT (by kernel_rfl)

theorem eqR_loop {e : Ent} {n : Nat} {xs ys : List Rat} (hn : n ≤ 17179869184) (hl : xs.length = n) (hm : ys.length = n) (hc : ∀ (k : Nat) (x y : Rat), xs[k]? = some x → ys[k]? = some y → CallV Tryz.prog Glob e [rq x, rq y] [] (.one (boolS true))) :
    AM.Moves Tryz.prog Glob (.loop (loopN Tryz.f102 0)) (eqRT e n xs ys 0) (eqRV e n xs ys 0) (.exit 0) (eqRT e n xs ys n) (eqRV e n xs ys n) :=
  loop_moves (n := n) (tm := fun k => (eqRT e n xs ys k)) (vr := fun k => (eqRV e n xs ys k)) (fun k hk => by
    obtain ⟨x, hx⟩ : ∃ x, xs[k]? = some x := ⟨_, List.getElem?_eq_getElem (by omega)⟩
    obtain ⟨y, hy⟩ : ∃ y, ys[k]? = some y := ⟨_, List.getElem?_eq_getElem (by omega)⟩
    exact eqR_round hn hl hm hx hy (hc k x y hx hy)) (by simp) eqR_exit
set_option maxRecDepth 100000 in
theorem eqR_true {e : Ent} {n : Nat} {xs ys : List Rat} (hn : n ≤ 17179869184) (hl : xs.length = n) (hm : ys.length = n) (hc : ∀ (k : Nat) (x y : Rat), xs[k]? = some x → ys[k]? = some y → CallV Tryz.prog Glob e [rq x, rq y] [] (.one (boolS true))) : FitsP 102 [.cel (.ent (rowOf n (xs.flatMap rqC))), .cel (.ent (rowOf n (ys.flatMap rqC))), .cel (.ent e)] [] (.one (boolS true)) := by
  have hT : AllOk Tryz.prog Glob [
    Tr.norm 5 (Av.one (Sv.cel (Cv.raw (Value.bool ((↑n : Int) != (↑n : Int)))))) (Av.one (boolS false)),
    Tr.loop ((loopN Tryz.f102 0)) [nat_lit 1, nat_lit 2, nat_lit 15, nat_lit 16, nat_lit 17] [] ((eqRT e n xs ys 0)) ((eqRV e n xs ys 0)) (Exit.exit (nat_lit 0)) ((eqRT e n xs ys n)) ((eqRV e n xs ys n)) (nat_lit 100)] := ⟨
    norm_bool (ne_self),
    eqR_loop hn hl hm hc, trivial⟩
  exact fits_of_trace (n := 300) (k0 := 0) hT Tryz.func102 (by kernel_rfl) (by kernel_rfl) (by kernel_rfl)

set_option maxRecDepth 100000 in
theorem eqR_un {e : Ent} {n m : Nat} {cs ds : List Cv} (h : n ≠ m) : FitsP 102 [.cel (.ent (rowOf n cs)), .cel (.ent (rowOf m ds)), .cel (.ent e)] [] (.one (boolS false)) := by
  have hT : AllOk Tryz.prog Glob [
    Tr.norm 5 (Av.one (Sv.cel (Cv.raw (Value.bool ((↑n : Int) != (↑m : Int)))))) (Av.one (boolS true))] := ⟨
    norm_bool (ne_len h), trivial⟩
  exact fits_of_trace (n := 300) (k0 := 0) hT Tryz.func102 (by kernel_rfl) (by kernel_rfl) (by kernel_rfl)

set_option maxRecDepth 100000 in
theorem eqR_out {e : Ent} {n : Nat} {xs ys : List Rat} {k : Nat} {x y : Rat} (_hn : n ≤ 17179869184) (hl : xs.length = n) (hm : ys.length = n) (hx : xs[k]? = some x) (hy : ys[k]? = some y) (hc : CallV Tryz.prog Glob e [rq x, rq y] [] (.one (boolS false))) : AM.Moves Tryz.prog Glob (loopN Tryz.f102 0) (eqRT e n xs ys k) (eqRV e n xs ys k) .ret (mkT 32 [(6, .one (boolS false))]) [] := by
  have hT : AllOk Tryz.prog Glob [
    Tr.norm 10 (Av.one (Sv.cel (Cv.raw (Value.bool (decide ((↑k : Int) < (↑n : Int))))))) (Av.one (boolS true)),
    Tr.told (Op.indexAddr 28 (Operand.tmp 15) (Operand.tmp 17)) 0 [Av.one (Sv.cel (Cv.ent (rowOf n (List.flatMap rqC xs)))), Av.one (intS (↑k : Int))] (.one (.cel (.ent (ptrTo (rqC x))))),
    Tr.told (Op.load 27 (Operand.tmp 20)) 27 [Av.one (Sv.cel (Cv.ent (ptrTo (rqC x))))] (.one (rq x)),
    Tr.told (Op.indexAddr 28 (Operand.tmp 22) (Operand.tmp 23)) 0 [Av.one (Sv.cel (Cv.ent (rowOf n (List.flatMap rqC ys)))), Av.one (intS (↑k : Int))] (.one (.cel (.ent (ptrTo (rqC y))))),
    Tr.told (Op.load 27 (Operand.tmp 24)) 27 [Av.one (Sv.cel (Cv.ent (ptrTo (rqC y))))] (.one (rq y)),
    Tr.callv e [rq x, rq y] [] (.one (boolS false))] := ⟨
    norm_bool (lt_true (idx_lt hx hl)),
    idx_ok (e := 27) (s := 3) (j := k) (by kernel_rfl) (by kernel_rfl) rfl (idx_lt hx hl) (flat_get rqC_len hx) (flat_ne rqC_len (by omega) hx),
    loadn_ok (by kernel_rfl) (by kernel_rfl) (Nat.le_refl _) rfl,
    idx_ok (e := 27) (s := 3) (j := k) (by kernel_rfl) (by kernel_rfl) rfl (idx_lt hy hm) (flat_get rqC_len hy) (flat_ne rqC_len (by omega) hy),
    loadn_ok (by kernel_rfl) (by kernel_rfl) (Nat.le_refl _) rfl,
    hc, trivial⟩
  exact moves_of_trace (n := 200) (k := 10) (keep := [6]) (ids := []) hT (by kernel_rfl)

theorem eqR_brk {e : Ent} {n : Nat} {xs ys : List Rat} (hn : n ≤ 17179869184) (hl : xs.length = n) (hm : ys.length = n) {j : Nat} {x y : Rat} (hx : xs[j]? = some x) (hy : ys[j]? = some y) (hf : CallV Tryz.prog Glob e [rq x, rq y] [] (.one (boolS false))) (hc : ∀ (k : Nat) (x y : Rat), k < j → xs[k]? = some x → ys[k]? = some y → CallV Tryz.prog Glob e [rq x, rq y] [] (.one (boolS true))) :
    AM.Moves Tryz.prog Glob (.loop (loopN Tryz.f102 0)) (eqRT e n xs ys 0) (eqRV e n xs ys 0) .ret (mkT 32 [(6, .one (boolS false))]) [] :=
  loop_moves (n := j) (tm := fun k => (eqRT e n xs ys k)) (vr := fun k => (eqRV e n xs ys k)) (fun k hk => by
    have hj := idx_lt hx hl
    obtain ⟨x, hx⟩ : ∃ x, xs[k]? = some x := ⟨_, List.getElem?_eq_getElem (by omega)⟩
    obtain ⟨y, hy⟩ : ∃ y, ys[k]? = some y := ⟨_, List.getElem?_eq_getElem (by omega)⟩
    exact eqR_round hn hl hm hx hy (hc k x y hk hx hy)) (by simp) (eqR_out hn hl hm hx hy hf)
set_option maxRecDepth 100000 in
theorem eqR_false {e : Ent} {n : Nat} {xs ys : List Rat} (hn : n ≤ 17179869184) (hl : xs.length = n) (hm : ys.length = n) {j : Nat} {x y : Rat} (hx : xs[j]? = some x) (hy : ys[j]? = some y) (hf : CallV Tryz.prog Glob e [rq x, rq y] [] (.one (boolS false))) (hc : ∀ (k : Nat) (x y : Rat), k < j → xs[k]? = some x → ys[k]? = some y → CallV Tryz.prog Glob e [rq x, rq y] [] (.one (boolS true))) : FitsP 102 [.cel (.ent (rowOf n (xs.flatMap rqC))), .cel (.ent (rowOf n (ys.flatMap rqC))), .cel (.ent e)] [] (.one (boolS false)) := by
  have hT : AllOk Tryz.prog Glob [
    Tr.norm 5 (Av.one (Sv.cel (Cv.raw (Value.bool ((↑n : Int) != (↑n : Int)))))) (Av.one (boolS false)),
    Tr.loop ((loopN Tryz.f102 0)) [nat_lit 1, nat_lit 2, nat_lit 15, nat_lit 16, nat_lit 17] [] ((eqRT e n xs ys 0)) ((eqRV e n xs ys 0)) Exit.ret ((mkT 32 [(6, .one (boolS false))])) ([]) (nat_lit 100)] := ⟨
    norm_bool (ne_self),
    eqR_brk hn hl hm hx hy hf hc, trivial⟩
  exact fits_of_trace (n := 300) (k0 := 0) hT Tryz.func102 (by kernel_rfl) (by kernel_rfl) (by kernel_rfl)
end Go.Proofs.YtejkcmklhmifaaaGreatDoor
