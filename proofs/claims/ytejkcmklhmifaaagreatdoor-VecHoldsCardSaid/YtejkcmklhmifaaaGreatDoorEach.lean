/- Rows of ratios made place by place. -/
import Derived.Test.YtejkcmklhmifaaaGreatDoorRowF
namespace Go.Proofs.YtejkcmklhmifaaaGreatDoor
open Go Go.RowKit Go.Shelf AM
def eachRRT (e : Ent) (n : Nat) (xs : List Rat) (_ys : List Rat) (k : Nat) : List Av := mkT 34 [(1, .one (.cel (.ent e))), (6, .one (.cel (.row 4 0 n n))), (13, .one (.cel (.ent (rowOf n (xs.flatMap rqC))))), (14, .one (.cel (.raw (.int .i64 (n : Int))))), (15, .one (.cel (.raw (.int .i64 ((k : Nat) : Int)))))]
def eachRRV (_e : Ent) (n : Nat) (_xs : List Rat) (ys : List Rat) (k : Nat) : List (Nat × VarSt) := [(4, ⟨27, fillL rqC rqZ n ys k, true, .yes (fill_shut rqC_shut rqZ_shut)⟩)]
set_option maxRecDepth 100000 in
theorem eachRR_round {e : Ent} {n : Nat} {xs : List Rat} {ys : List Rat} {k : Nat} {x : Rat} {y : Rat} (hn : n ≤ 17179869184) (hl : xs.length = n) (hm : ys.length = n) (hx : xs[k]? = some x) (hy : ys[k]? = some y) (hc : CallV Tryz.prog Glob e [rq x] [] (.tup [rq y, ok0])) : AM.Moves Tryz.prog Glob (loopN Tryz.f107 0) (eachRRT e n xs ys k) (eachRRV e n xs ys k) .normal (eachRRT e n xs ys (k + 1)) (eachRRV e n xs ys (k + 1)) := by
  have hT : AllOk Tryz.prog Glob [
    Tr.norm 5 (Av.one (Sv.cel (Cv.raw (Value.bool (decide ((↑k : Int) < (↑n : Int))))))) (Av.one (boolS true)),
    Tr.told (Op.indexAddr 28 (Operand.tmp 13) (Operand.tmp 15)) 0 [Av.one (Sv.cel (Cv.ent (rowOf n (List.flatMap rqC xs)))), Av.one (intS (↑k : Int))] (.one (.cel (.ent (ptrTo (rqC x))))),
    Tr.told (Op.load 27 (Operand.tmp 18)) 27 [Av.one (Sv.cel (Cv.ent (ptrTo (rqC x))))] (.one (rq x)),
    Tr.callv e [rq x] [] (.tup [rq y, ok0]),
    Tr.toldAt 21 (Op.indexAddr 28 (Operand.tmp 21) (Operand.tmp 22)) 0 [Av.one (Sv.cel (Cv.row (nat_lit 4) (nat_lit 0) n n)), Av.one (intS (↑k : Int))] (.one (.cel (.ptr 4 (k * 3)))),
    Tr.sto (fillL rqC rqZ n ys k) (k * 3) [Cv.raw (Value.bool (decide (Rat.num y < (0 : Int)))), Cv.ent (nat (Int.natAbs (Rat.num y))), Cv.ent (nat (Rat.den y))] (fillL rqC rqZ n ys (k + 1)) (.yes (fill_shut rqC_shut rqZ_shut)),
    Tr.norm 26 (Av.one (intS (IntKind.wrap IntKind.i64 ((↑k : Int) + (1 : Int))))) (Av.one (intS (↑(k + (1 : Nat)) : Int)))] := ⟨
    norm_bool (lt_true (idx_lt hx hl)),
    idx_ok (e := 27) (s := 3) (j := k) (by kernel_rfl) (by kernel_rfl) rfl (idx_lt hx hl) (flat_get rqC_len hx) (flat_ne rqC_len (by omega) hx),
    loadn_ok (by kernel_rfl) (by kernel_rfl) (Nat.le_refl _) rfl,
    hc,
    own_ok (e := 27) (s := 3) (j := k) (by kernel_rfl) (by kernel_rfl) rfl (idx_lt hy hm) (Nat.zero_add _).symm,
    ⟨fill_room rqC_len rfl hm (idx_lt hy hm) rfl, fill_put rqC_len rfl hm hy rfl⟩,
    norm_succ (idx_lt hx hl) hn, trivial⟩
  exact moves_of_trace (n := 200) (k := 5) (keep := [1, 6, 13, 14, 15]) (ids := [4]) hT (by kernel_rfl)

set_option maxRecDepth 100000 in
theorem eachRR_exit {e : Ent} {n : Nat} {xs : List Rat} {ys : List Rat}  : AM.Moves Tryz.prog Glob (loopN Tryz.f107 0) (eachRRT e n xs ys n) (eachRRV e n xs ys n) (.exit 0) (eachRRT e n xs ys n) (eachRRV e n xs ys n) := by
  have hT : AllOk Tryz.prog Glob [
    Tr.norm 5 (Av.one (Sv.cel (Cv.raw (Value.bool (decide ((↑n : Int) < (↑n : Int))))))) (Av.one (boolS false))] := ⟨
    norm_bool (lt_false), trivial⟩
  exact moves_of_trace (n := 200) (k := 5) (keep := [1, 6, 13, 14, 15]) (ids := [4]) hT (by kernel_rfl)

theorem eachRR_loop {e : Ent} {n : Nat} {xs : List Rat} {ys : List Rat} (hn : n ≤ 17179869184) (hl : xs.length = n) (hm : ys.length = n) (hc : ∀ (k : Nat) (x : Rat) (y : Rat), xs[k]? = some x → ys[k]? = some y → CallV Tryz.prog Glob e [rq x] [] (.tup [rq y, ok0])) :
    AM.Moves Tryz.prog Glob (.loop (loopN Tryz.f107 0)) (eachRRT e n xs ys 0) (eachRRV e n xs ys 0) (.exit 0) (eachRRT e n xs ys n) (eachRRV e n xs ys n) :=
  loop_moves (n := n) (tm := fun k => (eachRRT e n xs ys k)) (vr := fun k => (eachRRV e n xs ys k)) (fun k hk => by
    obtain ⟨x, hx⟩ : ∃ x, xs[k]? = some x := ⟨_, List.getElem?_eq_getElem (by omega)⟩
    obtain ⟨y, hy⟩ : ∃ y, ys[k]? = some y := ⟨_, List.getElem?_eq_getElem (by omega)⟩
    exact eachRR_round hn hl hm hx hy (hc k x y hx hy)) (by simp) eachRR_exit
set_option maxRecDepth 100000 in
theorem eachRR_f {e : Ent} {n : Nat} {xs : List Rat} {ys : List Rat} (hn : n ≤ 17179869184) (hl : xs.length = n) (hm : ys.length = n) (hc : ∀ (k : Nat) (x : Rat) (y : Rat), xs[k]? = some x → ys[k]? = some y → CallV Tryz.prog Glob e [rq x] [] (.tup [rq y, ok0])) : FitsP 107 [.cel (.ent (rowOf n (xs.flatMap rqC))), .cel (.ent e)] [] (.tup [.cel (.ent (rowOf n (ys.flatMap rqC))), ok0]) := by
  have hT : AllOk Tryz.prog Glob [
    Tr.make (Op.makeSlice 28 (Operand.tmp 11) (Operand.tmp 11)) 28 [Av.one (intS (↑n : Int)), Av.one (intS (↑n : Int))] (⟨27, fillL rqC rqZ n ys 0, true, .yes (fill_shut rqC_shut rqZ_shut)⟩) (n) (n),
    Tr.loop ((loopN Tryz.f107 0)) [nat_lit 1, nat_lit 6, nat_lit 13, nat_lit 14, nat_lit 15] [nat_lit 4] ((eachRRT e n xs ys 0)) ((eachRRV e n xs ys 0)) (Exit.exit (nat_lit 0)) ((eachRRT e n xs ys n)) ((eachRRV e n xs ys n)) (nat_lit 100),
    Tr.freeze (nat_lit 4) (fillL rqC rqZ n ys n)] := ⟨
    new_ok (e := 27) (z := rqZ) (N := n) (by kernel_rfl) (by kernel_rfl) rfl rfl hn rfl rfl rfl,
    eachRR_loop hn hl hm hc,
    fill_shut rqC_shut rqZ_shut, trivial⟩
  exact Fits.res (r := (.tup [.cel (.ent (rowOf n (fillL rqC rqZ n ys n))), ok0])) (fits_of_trace (n := 300) (k0 := 0) hT Tryz.func107 (by kernel_rfl) (by kernel_rfl) (by kernel_rfl)) (norm_fill hm)

def pairRRRT (e : Ent) (n : Nat) (xs : List Rat) (ys : List Rat) (_zs : List Rat) (k : Nat) : List Av := mkT 45 [(1, .one (.cel (.ent (rowOf n (ys.flatMap rqC))))), (2, .one (.cel (.ent e))), (8, .one (.cel (.row 9 0 n n))), (20, .one (.cel (.ent (rowOf n (xs.flatMap rqC))))), (21, .one (.cel (.raw (.int .i64 (n : Int))))), (22, .one (.cel (.raw (.int .i64 ((k : Nat) : Int)))))]
def pairRRRV (_e : Ent) (n : Nat) (_xs : List Rat) (_ys : List Rat) (zs : List Rat) (k : Nat) : List (Nat × VarSt) := [(9, ⟨27, fillL rqC rqZ n zs k, true, .yes (fill_shut rqC_shut rqZ_shut)⟩)]
set_option maxRecDepth 100000 in
theorem pairRRR_round {e : Ent} {n : Nat} {xs : List Rat} {ys : List Rat} {zs : List Rat} {k : Nat} {x : Rat} {y : Rat} {z : Rat} (hn : n ≤ 17179869184) (hl : xs.length = n) (hm : ys.length = n) (ho : zs.length = n) (hx : xs[k]? = some x) (hy : ys[k]? = some y) (hz : zs[k]? = some z) (hc : CallV Tryz.prog Glob e [rq x, rq y] [] (.tup [rq z, ok0])) : AM.Moves Tryz.prog Glob (loopN Tryz.f101 0) (pairRRRT e n xs ys zs k) (pairRRRV e n xs ys zs k) .normal (pairRRRT e n xs ys zs (k + 1)) (pairRRRV e n xs ys zs (k + 1)) := by
  have hT : AllOk Tryz.prog Glob [
    Tr.norm 10 (Av.one (Sv.cel (Cv.raw (Value.bool (decide ((↑k : Int) < (↑n : Int))))))) (Av.one (boolS true)),
    Tr.told (Op.indexAddr 28 (Operand.tmp 20) (Operand.tmp 22)) 0 [Av.one (Sv.cel (Cv.ent (rowOf n (List.flatMap rqC xs)))), Av.one (intS (↑k : Int))] (.one (.cel (.ent (ptrTo (rqC x))))),
    Tr.told (Op.load 27 (Operand.tmp 25)) 27 [Av.one (Sv.cel (Cv.ent (ptrTo (rqC x))))] (.one (rq x)),
    Tr.told (Op.indexAddr 28 (Operand.tmp 32) (Operand.tmp 33)) 0 [Av.one (Sv.cel (Cv.ent (rowOf n (List.flatMap rqC ys)))), Av.one (intS (↑k : Int))] (.one (.cel (.ent (ptrTo (rqC y))))),
    Tr.told (Op.load 27 (Operand.tmp 34)) 27 [Av.one (Sv.cel (Cv.ent (ptrTo (rqC y))))] (.one (rq y)),
    Tr.callv e [rq x, rq y] [] (.tup [rq z, ok0]),
    Tr.toldAt 30 (Op.indexAddr 28 (Operand.tmp 28) (Operand.tmp 29)) 0 [Av.one (Sv.cel (Cv.row (nat_lit 9) (nat_lit 0) n n)), Av.one (intS (↑k : Int))] (.one (.cel (.ptr 9 (k * 3)))),
    Tr.sto (fillL rqC rqZ n zs k) (k * 3) [Cv.raw (Value.bool (decide (Rat.num z < (0 : Int)))), Cv.ent (nat (Int.natAbs (Rat.num z))), Cv.ent (nat (Rat.den z))] (fillL rqC rqZ n zs (k + 1)) (.yes (fill_shut rqC_shut rqZ_shut)),
    Tr.norm 35 (Av.one (intS (IntKind.wrap IntKind.i64 ((↑k : Int) + (1 : Int))))) (Av.one (intS (↑(k + (1 : Nat)) : Int)))] := ⟨
    norm_bool (lt_true (idx_lt hx hl)),
    idx_ok (e := 27) (s := 3) (j := k) (by kernel_rfl) (by kernel_rfl) rfl (idx_lt hx hl) (flat_get rqC_len hx) (flat_ne rqC_len (by omega) hx),
    loadn_ok (by kernel_rfl) (by kernel_rfl) (Nat.le_refl _) rfl,
    idx_ok (e := 27) (s := 3) (j := k) (by kernel_rfl) (by kernel_rfl) rfl (idx_lt hy hm) (flat_get rqC_len hy) (flat_ne rqC_len (by omega) hy),
    loadn_ok (by kernel_rfl) (by kernel_rfl) (Nat.le_refl _) rfl,
    hc,
    own_ok (e := 27) (s := 3) (j := k) (by kernel_rfl) (by kernel_rfl) rfl (idx_lt hz ho) (Nat.zero_add _).symm,
    ⟨fill_room rqC_len rfl ho (idx_lt hz ho) rfl, fill_put rqC_len rfl ho hz rfl⟩,
    norm_succ (idx_lt hx hl) hn, trivial⟩
  exact moves_of_trace (n := 200) (k := 10) (keep := [1, 2, 8, 20, 21, 22]) (ids := [9]) hT (by kernel_rfl)

set_option maxRecDepth 100000 in
theorem pairRRR_exit {e : Ent} {n : Nat} {xs : List Rat} {ys : List Rat} {zs : List Rat}  : AM.Moves Tryz.prog Glob (loopN Tryz.f101 0) (pairRRRT e n xs ys zs n) (pairRRRV e n xs ys zs n) (.exit 0) (pairRRRT e n xs ys zs n) (pairRRRV e n xs ys zs n) := by
  have hT : AllOk Tryz.prog Glob [
    Tr.norm 10 (Av.one (Sv.cel (Cv.raw (Value.bool (decide ((↑n : Int) < (↑n : Int))))))) (Av.one (boolS false))] := ⟨
    norm_bool (lt_false), trivial⟩
  exact moves_of_trace (n := 200) (k := 10) (keep := [1, 2, 8, 20, 21, 22]) (ids := [9]) hT (by kernel_rfl)

theorem pairRRR_loop {e : Ent} {n : Nat} {xs : List Rat} {ys : List Rat} {zs : List Rat} (hn : n ≤ 17179869184) (hl : xs.length = n) (hm : ys.length = n) (ho : zs.length = n) (hc : ∀ (k : Nat) (x : Rat) (y : Rat) (z : Rat), xs[k]? = some x → ys[k]? = some y → zs[k]? = some z → CallV Tryz.prog Glob e [rq x, rq y] [] (.tup [rq z, ok0])) :
    AM.Moves Tryz.prog Glob (.loop (loopN Tryz.f101 0)) (pairRRRT e n xs ys zs 0) (pairRRRV e n xs ys zs 0) (.exit 0) (pairRRRT e n xs ys zs n) (pairRRRV e n xs ys zs n) :=
  loop_moves (n := n) (tm := fun k => (pairRRRT e n xs ys zs k)) (vr := fun k => (pairRRRV e n xs ys zs k)) (fun k hk => by
    obtain ⟨x, hx⟩ : ∃ x, xs[k]? = some x := ⟨_, List.getElem?_eq_getElem (by omega)⟩
    obtain ⟨y, hy⟩ : ∃ y, ys[k]? = some y := ⟨_, List.getElem?_eq_getElem (by omega)⟩
    obtain ⟨z, hz⟩ : ∃ z, zs[k]? = some z := ⟨_, List.getElem?_eq_getElem (by omega)⟩
    exact pairRRR_round hn hl hm ho hx hy hz (hc k x y z hx hy hz)) (by simp) pairRRR_exit
set_option maxRecDepth 100000 in
theorem pairRRR_f {e : Ent} {n : Nat} {xs : List Rat} {ys : List Rat} {zs : List Rat} (hn : n ≤ 17179869184) (hl : xs.length = n) (hm : ys.length = n) (ho : zs.length = n) (hc : ∀ (k : Nat) (x : Rat) (y : Rat) (z : Rat), xs[k]? = some x → ys[k]? = some y → zs[k]? = some z → CallV Tryz.prog Glob e [rq x, rq y] [] (.tup [rq z, ok0])) : FitsP 101 [.cel (.ent (rowOf n (xs.flatMap rqC))), .cel (.ent (rowOf n (ys.flatMap rqC))), .cel (.ent e)] [] (.tup [.cel (.ent (rowOf n (zs.flatMap rqC))), ok0]) := by
  have hT : AllOk Tryz.prog Glob [
    Tr.norm 6 (Av.one (Sv.cel (Cv.raw (Value.bool ((↑n : Int) != (↑n : Int)))))) (Av.one (boolS false)),
    Tr.make (Op.makeSlice 28 (Operand.tmp 18) (Operand.tmp 18)) 28 [Av.one (intS (↑n : Int)), Av.one (intS (↑n : Int))] (⟨27, fillL rqC rqZ n zs 0, true, .yes (fill_shut rqC_shut rqZ_shut)⟩) (n) (n),
    Tr.loop ((loopN Tryz.f101 0)) [nat_lit 1, nat_lit 2, nat_lit 8, nat_lit 20, nat_lit 21, nat_lit 22] [nat_lit 9] ((pairRRRT e n xs ys zs 0)) ((pairRRRV e n xs ys zs 0)) (Exit.exit (nat_lit 0)) ((pairRRRT e n xs ys zs n)) ((pairRRRV e n xs ys zs n)) (nat_lit 100),
    Tr.freeze (nat_lit 9) (fillL rqC rqZ n zs n)] := ⟨
    norm_bool (ne_self),
    new_ok (e := 27) (z := rqZ) (N := n) (by kernel_rfl) (by kernel_rfl) rfl rfl hn rfl rfl rfl,
    pairRRR_loop hn hl hm ho hc,
    fill_shut rqC_shut rqZ_shut, trivial⟩
  exact Fits.res (r := (.tup [.cel (.ent (rowOf n (fillL rqC rqZ n zs n))), ok0])) (fits_of_trace (n := 300) (k0 := 0) hT Tryz.func101 (by kernel_rfl) (by kernel_rfl) (by kernel_rfl)) (norm_fill ho)

set_option maxRecDepth 100000 in
theorem pairRRR_un {e : Ent} {n m : Nat} {cs ds : List Cv} (h : n ≠ m) : FitsP 101 [.cel (.ent (rowOf n cs)), .cel (.ent (rowOf m ds)), .cel (.ent e)] [] (.tup [nilS, intS 20]) := by
  have hT : AllOk Tryz.prog Glob [
    Tr.norm 6 (Av.one (Sv.cel (Cv.raw (Value.bool ((↑n : Int) != (↑m : Int)))))) (Av.one (boolS true))] := ⟨
    norm_bool (ne_len h), trivial⟩
  exact fits_of_trace (n := 300) (k0 := 0) hT Tryz.func101 (by kernel_rfl) (by kernel_rfl) (by kernel_rfl)
end Go.Proofs.YtejkcmklhmifaaaGreatDoor
