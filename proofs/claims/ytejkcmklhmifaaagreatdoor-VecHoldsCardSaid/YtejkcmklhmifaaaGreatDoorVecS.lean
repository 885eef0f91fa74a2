/- Rows of spans: layer 7. -/
import Derived.Test.YtejkcmklhmifaaaGreatDoorEachS
namespace Go.Proofs.YtejkcmklhmifaaaGreatDoor
open Go Go.RowKit Go.Shelf AM
set_option maxRecDepth 100000 in
theorem nearV1 {x : Rat} {b : Int} {z : Dy × Dy} (hc : FitsP 14 [rq x, intS b] [] (.tup [spQ z, ok0])) : FitsP 110 [rq x, .cel (bits1 b)] [] (.tup [spQ z, ok0]) := by
  have hT : AllOk Tryz.prog Glob [
    Tr.told (Op.load 3 (Operand.tmp 1)) 3 [Av.one (Sv.cel (Cv.ent (ptrTo [Cv.raw (Value.int IntKind.i64 b)])))] (.one (intS b)),
    Tr.call 14 [rq x, intS b] [] (Av.tup [spS (Prod.fst z) (Prod.snd z), ok0])] := ⟨
    load1_ok (by kernel_rfl) rfl,
    hc, trivial⟩
  exact fits_of_trace (n := 300) (k0 := 0) hT Tryz.func110 (by kernel_rfl) (by kernel_rfl) (by kernel_rfl)

set_option maxRecDepth 100000 in
theorem nearV_f {n : Nat} {xs : List Rat} {ys : List (Dy × Dy)} {b : Int} (hn : n ≤ 17179869184) (hl : xs.length = n) (hm : ys.length = n) (hc : ∀ (k : Nat) (x : Rat) (y : Dy × Dy), xs[k]? = some x → ys[k]? = some y → FitsP 14 [rq x, intS b] [] (.tup [spQ y, ok0])) : FitsP 41 [ratsN n xs, intS b] [] (.tup [spansN n ys, ok0]) := by
  have hT : AllOk Tryz.prog Glob [
    Tr.froz,
    Tr.told (Op.makeFunc (Fn.func 110) #[] #[Operand.tmp 3]) 148 [Av.one (Sv.cel (Cv.ent (ptrTo (cellsOf (intS b)))))] (.one (.cel (.ent (fnE 110 [] [bits1 b])))),
    Tr.call 109 [Sv.cel (Cv.ent (rowOf n (List.flatMap rqC xs))), Sv.cel (Cv.ent (fnE 110 [] [bits1 b]))] [] (Av.tup [Sv.cel (Cv.ent (rowOf n (List.flatMap spC ys))), ok0])] := ⟨
    trivial,
    fn1_ok rfl,
    eachRS_f hn hl hm fun k x y h1 h2 => callV_of (nearV1 (hc k x y h1 h2)), trivial⟩
  exact fits_of_trace (n := 300) (k0 := 0) hT Tryz.func41 (by kernel_rfl) (by kernel_rfl) (by kernel_rfl)

set_option maxRecDepth 100000 in
theorem plusV1 {x y z : Dy × Dy} {b : Int} (hc : FitsP 22 [spQ x, spQ y, intS b] [] (.tup [spQ z, ok0])) : FitsP 112 [spQ x, spQ y, .cel (bits1 b)] [] (.tup [spQ z, ok0]) := by
  have hT : AllOk Tryz.prog Glob [
    Tr.told (Op.load 3 (Operand.tmp 2)) 3 [Av.one (Sv.cel (Cv.ent (ptrTo [Cv.raw (Value.int IntKind.i64 b)])))] (.one (intS b)),
    Tr.call 22 [spS (Prod.fst x) (Prod.snd x), spS (Prod.fst y) (Prod.snd y), intS b] [] (Av.tup [spS (Prod.fst z) (Prod.snd z), ok0])] := ⟨
    load1_ok (by kernel_rfl) rfl,
    hc, trivial⟩
  exact fits_of_trace (n := 300) (k0 := 0) hT Tryz.func112 (by kernel_rfl) (by kernel_rfl) (by kernel_rfl)

set_option maxRecDepth 100000 in
theorem innerV1 {x y z : Dy × Dy} {b : Int} (hc : FitsP 21 [spQ x, spQ y, intS b] [] (.tup [spQ z, ok0])) : FitsP 113 [spQ x, spQ y, .cel (bits1 b)] [] (.tup [spQ z, ok0]) := by
  have hT : AllOk Tryz.prog Glob [
    Tr.told (Op.load 3 (Operand.tmp 2)) 3 [Av.one (Sv.cel (Cv.ent (ptrTo [Cv.raw (Value.int IntKind.i64 b)])))] (.one (intS b)),
    Tr.call 21 [spS (Prod.fst x) (Prod.snd x), spS (Prod.fst y) (Prod.snd y), intS b] [] (Av.tup [spS (Prod.fst z) (Prod.snd z), ok0])] := ⟨
    load1_ok (by kernel_rfl) rfl,
    hc, trivial⟩
  exact fits_of_trace (n := 300) (k0 := 0) hT Tryz.func113 (by kernel_rfl) (by kernel_rfl) (by kernel_rfl)

set_option maxRecDepth 100000 in
theorem plusV_f {n : Nat} {xs ys zs : List (Dy × Dy)} {b : Int} (hn : n ≤ 17179869184) (hl : xs.length = n) (hm : ys.length = n) (ho : zs.length = n) (hc : ∀ (k : Nat) (x y z : Dy × Dy), xs[k]? = some x → ys[k]? = some y → zs[k]? = some z → FitsP 22 [spQ x, spQ y, intS b] [] (.tup [spQ z, ok0])) : FitsP 42 [spansN n xs, spansN n ys, intS b] [] (.tup [spansN n zs, ok0]) := by
  have hT : AllOk Tryz.prog Glob [
    Tr.froz,
    Tr.told (Op.makeFunc (Fn.func 112) #[] #[Operand.tmp 5]) 150 [Av.one (Sv.cel (Cv.ent (ptrTo (cellsOf (intS b)))))] (.one (.cel (.ent (fnE 112 [] [bits1 b])))),
    Tr.call 111 [Sv.cel (Cv.ent (rowOf n (List.flatMap spC xs))), Sv.cel (Cv.ent (rowOf n (List.flatMap spC ys))), Sv.cel (Cv.ent (fnE 112 [] [bits1 b]))] [] (Av.tup [Sv.cel (Cv.ent (rowOf n (List.flatMap spC zs))), ok0])] := ⟨
    trivial,
    fn1_ok rfl,
    pairSSS_f hn hl hm ho fun k x y z h1 h2 h3 => callV_of (plusV1 (hc k x y z h1 h2 h3)), trivial⟩
  exact fits_of_trace (n := 300) (k0 := 0) hT Tryz.func42 (by kernel_rfl) (by kernel_rfl) (by kernel_rfl)

set_option maxRecDepth 100000 in
theorem timesV1 {x y z : Dy × Dy} {b : Int} (hc : FitsP 21 [spQ x, spQ y, intS b] [] (.tup [spQ z, ok0])) : FitsP 120 [spQ x, .cel (.ent (ptrTo (spC y))), .cel (bits1 b)] [] (.tup [spQ z, ok0]) := by
  have hT : AllOk Tryz.prog Glob [
    Tr.told (Op.load 32 (Operand.tmp 1)) 32 [Av.one (Sv.cel (Cv.ent (ptrTo (spC y))))] (.one (spQ y)),
    Tr.told (Op.load 3 (Operand.tmp 2)) 3 [Av.one (Sv.cel (Cv.ent (ptrTo [Cv.raw (Value.int IntKind.i64 b)])))] (.one (intS b)),
    Tr.call 21 [spS (Prod.fst x) (Prod.snd x), spS (Prod.fst y) (Prod.snd y), intS b] [] (Av.tup [spS (Prod.fst z) (Prod.snd z), ok0])] := ⟨
    loadn_ok (by kernel_rfl) (by kernel_rfl) (Nat.le_refl _) rfl,
    load1_ok (by kernel_rfl) rfl,
    hc, trivial⟩
  exact fits_of_trace (n := 300) (k0 := 0) hT Tryz.func120 (by kernel_rfl) (by kernel_rfl) (by kernel_rfl)

set_option maxRecDepth 100000 in
theorem timesV_f {n : Nat} {xs zs : List (Dy × Dy)} {y : Dy × Dy} {b : Int} (hn : n ≤ 17179869184) (hl : xs.length = n) (ho : zs.length = n) (hc : ∀ (k : Nat) (x z : Dy × Dy), xs[k]? = some x → zs[k]? = some z → FitsP 21 [spQ x, spQ y, intS b] [] (.tup [spQ z, ok0])) : FitsP 46 [spansN n xs, spQ y, intS b] [] (.tup [spansN n zs, ok0]) := by
  have hT : AllOk Tryz.prog Glob [
    Tr.froz,
    Tr.froz,
    Tr.told (Op.makeFunc (Fn.func 120) #[] #[Operand.tmp 4, Operand.tmp 5]) 159 [Av.one (Sv.cel (Cv.ent (ptrTo (cellsOf (spQ y))))), Av.one (Sv.cel (Cv.ent (ptrTo (cellsOf (intS b)))))] (.one (.cel (.ent (fnE 120 [] [.ent (ptrTo (spC y)), bits1 b])))),
    Tr.call 119 [Sv.cel (Cv.ent (rowOf n (List.flatMap spC xs))), Sv.cel (Cv.ent (fnE 120 [] [Cv.ent (ptrTo (spC y)), bits1 b]))] [] (Av.tup [Sv.cel (Cv.ent (rowOf n (List.flatMap spC zs))), ok0])] := ⟨
    trivial,
    trivial,
    fn2_ok rfl rfl,
    eachSS_f hn hl ho fun k x z h1 h2 => callV_of (timesV1 (hc k x z h1 h2)), trivial⟩
  exact fits_of_trace (n := 300) (k0 := 0) hT Tryz.func46 (by kernel_rfl) (by kernel_rfl) (by kernel_rfl)

def sumVsT (n : Nat) (xs : List (Dy × Dy)) (b : Int) (_acc : Nat → Dy × Dy) (k : Nat) : List Av := mkT 38 [(0, .one (intS b)), (4, .one (.cel (.ptr 0 0))), (6, .one (.cel (.ptr 2 0))), (10, .one (.cel (.ent (rowOf n (xs.flatMap spC))))), (11, .one (.cel (.raw (.int .i64 (n : Int))))), (12, .one (.cel (.raw (.int .i64 (((k) + 1 : Nat) : Int)))))]
def sumVsV (_n : Nat) (_xs : List (Dy × Dy)) (_b : Int) (acc : Nat → Dy × Dy) (k : Nat) : List (Nat × VarSt) := [(0, ⟨32, spZ, true, .no⟩), (2, ⟨32, spC (acc ((k) + 1)), true, .no⟩)]
set_option maxRecDepth 100000 in
theorem sumVs_round {n : Nat} {xs : List (Dy × Dy)} {b : Int} {acc : Nat → Dy × Dy} {k : Nat} {x : Dy × Dy} (hn : n ≤ 17179869184) (hl : xs.length = n) (hx : xs[k + 1]? = some x) (hc : FitsP 22 [spQ (acc (k + 1)), spQ x, intS b] [] (.tup [spQ (acc (k + 1 + 1)), ok0])) : AM.Moves Tryz.prog Glob (loopN Tryz.f114 0) (sumVsT n xs b acc k) (sumVsV n xs b acc k) .normal (sumVsT n xs b acc (k + 1)) (sumVsV n xs b acc (k + 1)) := by
  have hT : AllOk Tryz.prog Glob [
    Tr.norm 20 (Av.one (Sv.cel (Cv.raw (Value.bool (decide ((↑(k + (1 : Nat)) : Int) < (↑n : Int))))))) (Av.one (boolS true)),
    Tr.told (Op.indexAddr 65 (Operand.tmp 10) (Operand.tmp 12)) 0 [Av.one (Sv.cel (Cv.ent (rowOf n (List.flatMap spC xs)))), Av.one (intS (↑(k + (1 : Nat)) : Int))] (.one (.cel (.ent (ptrTo (spC x))))),
    Tr.told (Op.load 32 (Operand.tmp 15)) 32 [Av.one (Sv.cel (Cv.ent (ptrTo (spC x))))] (.one (spQ x)),
    Tr.call 22 [Sv.agg [Cv.raw (Value.bool (decide (Dy.m (Prod.fst (acc (k + (1 : Nat)))) < (0 : Int)))), Cv.ent (nat (Int.natAbs (Dy.m (Prod.fst (acc (k + (1 : Nat))))))), Cv.raw (Value.int IntKind.i64 (Dy.e (Prod.fst (acc (k + (1 : Nat)))))), Cv.raw (Value.bool (decide (Dy.m (Prod.snd (acc (k + (1 : Nat)))) < (0 : Int)))), Cv.ent (nat (Int.natAbs (Dy.m (Prod.snd (acc (k + (1 : Nat))))))), Cv.raw (Value.int IntKind.i64 (Dy.e (Prod.snd (acc (k + (1 : Nat))))))], spS (Prod.fst x) (Prod.snd x), intS b] [] (Av.tup [Sv.agg [Cv.raw (Value.bool (decide (Dy.m (Prod.fst (acc (k + (1 : Nat) + (1 : Nat)))) < (0 : Int)))), Cv.ent (nat (Int.natAbs (Dy.m (Prod.fst (acc (k + (1 : Nat) + (1 : Nat))))))), Cv.raw (Value.int IntKind.i64 (Dy.e (Prod.fst (acc (k + (1 : Nat) + (1 : Nat)))))), Cv.raw (Value.bool (decide (Dy.m (Prod.snd (acc (k + (1 : Nat) + (1 : Nat)))) < (0 : Int)))), Cv.ent (nat (Int.natAbs (Dy.m (Prod.snd (acc (k + (1 : Nat) + (1 : Nat))))))), Cv.raw (Value.int IntKind.i64 (Dy.e (Prod.snd (acc (k + (1 : Nat) + (1 : Nat))))))], ok0]),
    Tr.norm 41 (Av.one (Sv.cel (Cv.raw (Value.int IntKind.i64 (IntKind.wrap IntKind.i64 ((↑(k + (1 : Nat)) : Int) + (1 : Int))))))) (Av.one (intS (↑(k + (1 : Nat) + (1 : Nat)) : Int)))] := ⟨
    norm_bool (lt_true (idx_lt hx hl)),
    idx_ok (e := 32) (s := 6) (j := k + 1) (by kernel_rfl) (by kernel_rfl) rfl (idx_lt hx hl) (flat_get spC_len hx) (flat_ne spC_len (by omega) hx),
    loadn_ok (by kernel_rfl) (by kernel_rfl) (Nat.le_refl _) rfl,
    hc,
    norm_succ (idx_lt hx hl) hn, trivial⟩
  exact moves_of_trace (n := 200) (k := 20) (keep := [0, 4, 6, 10, 11, 12]) (ids := [0, 2]) hT (by kernel_rfl)

set_option maxRecDepth 100000 in
theorem sumVs_exit {n : Nat} {xs : List (Dy × Dy)} {b : Int} {acc : Nat → Dy × Dy} {q : Nat} (hq : q + 1 = n) : AM.Moves Tryz.prog Glob (loopN Tryz.f114 0) (sumVsT n xs b acc q) (sumVsV n xs b acc q) (.exit 0) (sumVsT n xs b acc q) (sumVsV n xs b acc q) := by
  have hT : AllOk Tryz.prog Glob [
    Tr.norm 20 (Av.one (Sv.cel (Cv.raw (Value.bool (decide ((↑(q + (1 : Nat)) : Int) < (↑n : Int))))))) (Av.one (boolS false))] := ⟨
    norm_bool (by rw [hq]; exact lt_false), trivial⟩
  exact moves_of_trace (n := 200) (k := 20) (keep := [0, 4, 6, 10, 11, 12]) (ids := [0, 2]) hT (by kernel_rfl)

set_option maxRecDepth 100000 in
theorem sumVs_first {n : Nat} {xs : List (Dy × Dy)} {b : Int} {acc : Nat → Dy × Dy} {x : Dy × Dy} (hl : xs.length = n) (hx : xs[0]? = some x) (hn : n ≤ 17179869184) (hc : FitsP 81 [spQ x, intS b] [] (.tup [spQ (acc 1), ok0])) : AM.Moves Tryz.prog Glob (loopN Tryz.f114 0) (mkT 38 [(0, .one (intS b)), (4, .one (.cel (.ptr 0 0))), (6, .one (.cel (.ptr 2 0))), (10, .one (.cel (.ent (rowOf n (xs.flatMap spC))))), (11, .one (.cel (.raw (.int .i64 (n : Int))))), (12, .one (.cel (.raw (.int .i64 ((0 : Nat) : Int)))))]) [(0, ⟨32, spZ, true, .no⟩), (2, ⟨32, spZ, true, .no⟩)] .normal (sumVsT n xs b acc 0) (sumVsV n xs b acc 0) := by
  have hT : AllOk Tryz.prog Glob [
    Tr.norm 20 (Av.one (Sv.cel (Cv.raw (Value.bool (decide ((↑(0 : Nat) : Int) < (↑n : Int))))))) (Av.one (boolS true)),
    Tr.told (Op.indexAddr 65 (Operand.tmp 10) (Operand.tmp 12)) 0 [Av.one (Sv.cel (Cv.ent (rowOf n (List.flatMap spC xs)))), Av.one (ok0)] (.one (.cel (.ent (ptrTo (spC x))))),
    Tr.told (Op.load 32 (Operand.tmp 15)) 32 [Av.one (Sv.cel (Cv.ent (ptrTo (spC x))))] (.one (spQ x)),
    Tr.call 81 [spS (Prod.fst x) (Prod.snd x), intS b] [] (Av.tup [spS (Prod.fst (acc (1 : Nat))) (Prod.snd (acc (1 : Nat))), ok0]),
    Tr.norm 41 (Av.one (intS (Int.ofNat (nat_lit 1)))) (Av.one (intS (Int.ofNat (nat_lit 1))))] := ⟨
    norm_bool (lt_true (idx_lt hx hl)),
    idx_ok (e := 32) (s := 6) (j := 0) (by kernel_rfl) (by kernel_rfl) rfl (idx_lt hx hl) (flat_get spC_len hx) (flat_ne spC_len (by omega) hx),
    loadn_ok (by kernel_rfl) (by kernel_rfl) (Nat.le_refl _) rfl,
    hc,
    norm_succ (k := 0) (idx_lt hx hl) hn, trivial⟩
  exact moves_of_trace (n := 200) (k := 20) (keep := [0, 4, 6, 10, 11, 12]) (ids := [0, 2]) hT (by kernel_rfl)

def sumVsTm (n : Nat) (xs : List (Dy × Dy)) (b : Int) (acc : Nat → Dy × Dy) : Nat → List Av
  | 0 => (mkT 38 [(0, .one (intS b)), (4, .one (.cel (.ptr 0 0))), (6, .one (.cel (.ptr 2 0))), (10, .one (.cel (.ent (rowOf n (xs.flatMap spC))))), (11, .one (.cel (.raw (.int .i64 ((n : Nat) : Int))))), (12, .one (.cel (.raw (.int .i64 ((0 : Nat) : Int)))))])
  | k + 1 => (sumVsT n xs b acc k)
def sumVsVr (n : Nat) (xs : List (Dy × Dy)) (b : Int) (acc : Nat → Dy × Dy) : Nat → List (Nat × VarSt)
  | 0 => [(0, ⟨32, spZ, true, .no⟩), (2, ⟨32, spZ, true, .no⟩)]
  | k + 1 => (sumVsV n xs b acc k)
theorem sumVs_loop {q : Nat} {xs : List (Dy × Dy)} {b : Int} {acc : Nat → Dy × Dy} (hn : q + 1 ≤ 17179869184) (hl : xs.length = q + 1) (h1 : ∀ x, xs[0]? = some x → FitsP 81 [spQ x, intS b] [] (.tup [spQ (acc 1), ok0]))
    (hc : ∀ (k : Nat) (x : Dy × Dy), xs[k + 1]? = some x → FitsP 22 [spQ (acc (k + 1)), spQ x, intS b] [] (.tup [spQ (acc (k + 1 + 1)), ok0])) :
    AM.Moves Tryz.prog Glob (.loop (loopN Tryz.f114 0)) (mkT 38 [(0, .one (intS b)), (4, .one (.cel (.ptr 0 0))), (6, .one (.cel (.ptr 2 0))), (10, .one (.cel (.ent (rowOf (q + 1) (xs.flatMap spC))))), (11, .one (.cel (.raw (.int .i64 (((q + 1) : Nat) : Int))))), (12, .one (.cel (.raw (.int .i64 ((0 : Nat) : Int)))))]) [(0, ⟨32, spZ, true, .no⟩), (2, ⟨32, spZ, true, .no⟩)] (.exit 0) (sumVsT (q + 1) xs b acc q) (sumVsV (q + 1) xs b acc q) :=
  loop_moves (n := q + 1) (tm := sumVsTm (q + 1) xs b acc) (vr := sumVsVr (q + 1) xs b acc) (fun k hk => by
    match k with
    | 0 =>
      obtain ⟨x, hx⟩ : ∃ x, xs[0]? = some x := ⟨_, List.getElem?_eq_getElem (by omega)⟩
      exact sumVs_first hl hx hn (h1 x hx)
    | k + 1 =>
      obtain ⟨x, hx⟩ : ∃ x, xs[k + 1]? = some x := ⟨_, List.getElem?_eq_getElem (by omega)⟩
      exact sumVs_round hn hl hx (hc k x hx)) (by simp) (sumVs_exit rfl)
set_option maxRecDepth 100000 in
theorem sumVs_f {q : Nat} {xs : List (Dy × Dy)} {b : Int} (acc : Nat → Dy × Dy) (hn : q + 1 ≤ 17179869184) (hl : xs.length = q + 1) (h1 : ∀ x, xs[0]? = some x → FitsP 81 [spQ x, intS b] [] (.tup [spQ (acc 1), ok0])) (hc : ∀ (k : Nat) (x : Dy × Dy), xs[k + 1]? = some x → FitsP 22 [spQ (acc (k + 1)), spQ x, intS b] [] (.tup [spQ (acc (k + 1 + 1)), ok0])) : FitsP 114 [intS b, spansN (q + 1) xs] [] (.tup [spQ (acc (q + 1)), ok0]) := by
  have hT : AllOk Tryz.prog Glob [
    Tr.loop ((loopN Tryz.f114 0)) [nat_lit 0, nat_lit 4, nat_lit 6, nat_lit 10, nat_lit 11, nat_lit 12] [nat_lit 0, nat_lit 2] ((mkT 38 [(0, .one (intS b)), (4, .one (.cel (.ptr 0 0))), (6, .one (.cel (.ptr 2 0))), (10, .one (.cel (.ent (rowOf (q + 1) (xs.flatMap spC))))), (11, .one (.cel (.raw (.int .i64 (((q + 1) : Nat) : Int))))), (12, .one (.cel (.raw (.int .i64 ((0 : Nat) : Int)))))])) ([(0, ⟨32, spZ, true, .no⟩), (2, ⟨32, spZ, true, .no⟩)]) (Exit.exit (nat_lit 0)) ((sumVsT (q + 1) xs b acc q)) ((sumVsV (q + 1) xs b acc q)) (nat_lit 100)] := ⟨
    sumVs_loop hn hl h1 hc, trivial⟩
  exact fits_of_trace (n := 300) (k0 := 0) hT Tryz.func114 (by kernel_rfl) (by kernel_rfl) (by kernel_rfl)

set_option maxRecDepth 100000 in
theorem sumVs_0 {b : Int} : FitsP 114 [intS b, spansN 0 []] [] (.tup [spS ⟨0, 0⟩ ⟨0, 0⟩, ok0]) := by
  have hT : AllOk Tryz.prog Glob [] := trivial
  exact Fits.res (r := (.tup [spN, ok0])) (fits_of_trace (n := 300) (k0 := 0) hT Tryz.func114 (by kernel_rfl) (by kernel_rfl) (by kernel_rfl)) (norm_sp2)

set_option maxRecDepth 100000 in
theorem innerV_f {q : Nat} {xs ys zs : List (Dy × Dy)} {b : Int} (hn : q + 1 ≤ 17179869184) (hl : xs.length = q + 1) (hm : ys.length = q + 1) (ho : zs.length = q + 1) (acc : Nat → Dy × Dy) (hc : ∀ (k : Nat) (x y z : Dy × Dy), xs[k]? = some x → ys[k]? = some y → zs[k]? = some z → FitsP 21 [spQ x, spQ y, intS b] [] (.tup [spQ z, ok0])) (h1 : ∀ x, zs[0]? = some x → FitsP 81 [spQ x, intS b] [] (.tup [spQ (acc 1), ok0])) (hd : ∀ (k : Nat) (x : Dy × Dy), zs[k + 1]? = some x → FitsP 22 [spQ (acc (k + 1)), spQ x, intS b] [] (.tup [spQ (acc (k + 1 + 1)), ok0])) : FitsP 43 [spansN (q + 1) xs, spansN (q + 1) ys, intS b] [] (.tup [spQ (acc (q + 1)), ok0]) := by
  have hT : AllOk Tryz.prog Glob [
    Tr.froz,
    Tr.told (Op.makeFunc (Fn.func 113) #[] #[Operand.tmp 5]) 150 [Av.one (Sv.cel (Cv.ent (ptrTo (cellsOf (intS b)))))] (.one (.cel (.ent (fnE 113 [] [bits1 b])))),
    Tr.call 111 [Sv.cel (Cv.ent (rowOf (q + (1 : Nat)) (List.flatMap spC xs))), Sv.cel (Cv.ent (rowOf (q + (1 : Nat)) (List.flatMap spC ys))), Sv.cel (Cv.ent (fnE 113 [] [bits1 b]))] [] (Av.tup [Sv.cel (Cv.ent (rowOf (q + (1 : Nat)) (List.flatMap spC zs))), ok0]),
    Tr.told (Op.load 3 (Operand.tmp 5)) 3 [Av.one (Sv.cel (Cv.ent (ptrTo (cellsOf (intS b)))))] (.one (intS b)),
    Tr.call 114 [intS b, Sv.cel (Cv.ent (rowOf (q + (1 : Nat)) (List.flatMap spC zs)))] [] (Av.tup [Sv.agg [Cv.raw (Value.bool (decide (Dy.m (Prod.fst (acc (q + (1 : Nat)))) < (0 : Int)))), Cv.ent (nat (Int.natAbs (Dy.m (Prod.fst (acc (q + (1 : Nat))))))), Cv.raw (Value.int IntKind.i64 (Dy.e (Prod.fst (acc (q + (1 : Nat)))))), Cv.raw (Value.bool (decide (Dy.m (Prod.snd (acc (q + (1 : Nat)))) < (0 : Int)))), Cv.ent (nat (Int.natAbs (Dy.m (Prod.snd (acc (q + (1 : Nat))))))), Cv.raw (Value.int IntKind.i64 (Dy.e (Prod.snd (acc (q + (1 : Nat))))))], ok0])] := ⟨
    trivial,
    fn1_ok rfl,
    pairSSS_f hn hl hm ho fun k x y z h1 h2 h3 => callV_of (innerV1 (hc k x y z h1 h2 h3)),
    load1_ok (by kernel_rfl) rfl,
    sumVs_f acc hn ho h1 hd, trivial⟩
  exact fits_of_trace (n := 300) (k0 := 0) hT Tryz.func43 (by kernel_rfl) (by kernel_rfl) (by kernel_rfl)

set_option maxRecDepth 100000 in
theorem innerV_0 {b : Int} : FitsP 43 [spansN 0 [], spansN 0 [], intS b] [] (.tup [spS ⟨0, 0⟩ ⟨0, 0⟩, ok0]) := by
  have hT : AllOk Tryz.prog Glob [
    Tr.froz,
    Tr.told (Op.makeFunc (Fn.func 113) #[] #[Operand.tmp 5]) 150 [Av.one (Sv.cel (Cv.ent (ptrTo (cellsOf (intS b)))))] (.one (.cel (.ent (fnE 113 [] [bits1 b])))),
    Tr.call 111 [Sv.cel (Cv.ent (rowOf (0 : Nat) (List.flatMap spC []))), Sv.cel (Cv.ent (rowOf (0 : Nat) (List.flatMap spC []))), Sv.cel (Cv.ent (fnE 113 [] [bits1 b]))] [] (Av.tup [Sv.cel (Cv.ent (rowOf (0 : Nat) (List.flatMap spC []))), ok0]),
    Tr.told (Op.load 3 (Operand.tmp 5)) 3 [Av.one (Sv.cel (Cv.ent (ptrTo (cellsOf (intS b)))))] (.one (intS b)),
    Tr.call 114 [intS b, Sv.cel (Cv.ent (rowOf (0 : Nat) (List.flatMap spC [])))] [] (Av.tup [Sv.agg [Cv.raw (Value.bool (decide (Dy.m { m := (0 : Int), e := (0 : Int) } < (0 : Int)))), Cv.ent (nat (Int.natAbs (Dy.m { m := (0 : Int), e := (0 : Int) }))), Cv.raw (Value.int IntKind.i64 (Int.ofNat (nat_lit 0))), Cv.raw (Value.bool (decide (Dy.m { m := (0 : Int), e := (0 : Int) } < (0 : Int)))), Cv.ent (nat (Int.natAbs (Dy.m { m := (0 : Int), e := (0 : Int) }))), Cv.raw (Value.int IntKind.i64 (Int.ofNat (nat_lit 0)))], ok0])] := ⟨
    trivial,
    fn1_ok rfl,
    pairSSS_f (n := 0) (xs := []) (ys := []) (zs := []) (by omega) rfl rfl rfl (fun k x y z h => by simp at h),
    load1_ok (by kernel_rfl) rfl,
    sumVs_0, trivial⟩
  exact fits_of_trace (n := 300) (k0 := 0) hT Tryz.func43 (by kernel_rfl) (by kernel_rfl) (by kernel_rfl)

def idxBT (n : Nat) (xs : List Bool) (k : Nat) : List Av := mkT 19 [(0, .one (.cel (.ent (rowOf n (xs.flatMap boC))))), (1, .one (boolS false)), (7, .one (.cel (.raw (.int .i64 (n : Int))))), (8, .one (.cel (.raw (.int .i64 ((k : Nat) : Int)))))]
def idxBV (_n : Nat) (_xs : List Bool) (_k : Nat) : List (Nat × VarSt) := []
set_option maxRecDepth 100000 in
theorem idxB_round {n : Nat} {xs : List Bool} {k : Nat} {x : Bool} (hn : n ≤ 17179869184) (hl : xs.length = n) (hx : xs[k]? = some x) (hc : x = true) : AM.Moves Tryz.prog Glob (loopN Tryz.f177 0) (idxBT n xs k) (idxBV n xs k) .normal (idxBT n xs (k + 1)) (idxBV n xs (k + 1)) := by
  have hT : AllOk Tryz.prog Glob [
    Tr.norm 10 (Av.one (Sv.cel (Cv.raw (Value.bool (decide ((↑k : Int) < (↑n : Int))))))) (Av.one (boolS true)),
    Tr.told (Op.indexAddr 152 (Operand.tmp 12) (Operand.tmp 13)) 0 [Av.one (Sv.cel (Cv.ent (rowOf n (List.flatMap boC xs)))), Av.one (intS (↑k : Int))] (.one (.cel (.ent (ptrTo (boC x))))),
    Tr.told (Op.load 4 (Operand.tmp 14)) 4 [Av.one (Sv.cel (Cv.ent (ptrTo (boC x))))] (.one (boolS x)),
    Tr.norm 18 (Av.one (Sv.cel (Cv.raw (Value.bool (false == x))))) (Av.one (boolS false)),
    Tr.norm 19 (Av.one (intS (IntKind.wrap IntKind.i64 ((↑k : Int) + (1 : Int))))) (Av.one (intS (↑(k + (1 : Nat)) : Int)))] := ⟨
    norm_bool (lt_true (idx_lt hx hl)),
    idx_ok (e := 4) (s := 1) (j := k) (by kernel_rfl) (by kernel_rfl) rfl (idx_lt hx hl) (flat_get boC_len hx) (flat_ne boC_len (by omega) hx),
    load1_ok (by kernel_rfl) rfl,
    norm_bool (by rw [hc]; rfl),
    norm_succ (idx_lt hx hl) hn, trivial⟩
  exact moves_of_trace (n := 200) (k := 10) (keep := [0, 1, 7, 8]) (ids := []) hT (by kernel_rfl)

set_option maxRecDepth 100000 in
theorem idxB_exit {n : Nat} {xs : List Bool}  : AM.Moves Tryz.prog Glob (loopN Tryz.f177 0) (idxBT n xs n) (idxBV n xs n) (.exit 0) (idxBT n xs n) (idxBV n xs n) := by
  have hT : AllOk Tryz.prog Glob [
    Tr.norm 10 (Av.one (Sv.cel (Cv.raw (Value.bool (decide ((↑n : Int) < (↑n : Int))))))) (Av.one (boolS false))] := ⟨
    norm_bool (lt_false), trivial⟩
  exact moves_of_trace (n := 200) (k := 10) (keep := [0, 1, 7, 8]) (ids := []) hT (by kernel_rfl)

theorem idxB_loop {n : Nat} {xs : List Bool} (hn : n ≤ 17179869184) (hl : xs.length = n) (hc : ∀ x ∈ xs, x = true) :
    AM.Moves Tryz.prog Glob (.loop (loopN Tryz.f177 0)) (idxBT n xs 0) (idxBV n xs 0) (.exit 0) (idxBT n xs n) (idxBV n xs n) :=
  loop_moves (n := n) (tm := fun k => (idxBT n xs k)) (vr := fun k => (idxBV n xs k)) (fun k hk => by
    obtain ⟨x, hx⟩ : ∃ x, xs[k]? = some x := ⟨_, List.getElem?_eq_getElem (by omega)⟩
    exact idxB_round hn hl hx (hc x (List.mem_of_getElem? hx))) (by simp) idxB_exit
set_option maxRecDepth 100000 in
theorem idxB_f {n : Nat} {xs : List Bool} (hn : n ≤ 17179869184) (hl : xs.length = n) (hc : ∀ x ∈ xs, x = true) : FitsP 177 [.cel (.ent (rowOf n (xs.flatMap boC))), boolS false] [] (.one (intS (-1))) := by
  have hT : AllOk Tryz.prog Glob [
    Tr.loop ((loopN Tryz.f177 0)) [nat_lit 0, nat_lit 1, nat_lit 7, nat_lit 8] [] ((idxBT n xs 0)) ((idxBV n xs 0)) (Exit.exit (nat_lit 0)) ((idxBT n xs n)) ((idxBV n xs n)) (nat_lit 100)] := ⟨
    idxB_loop hn hl hc, trivial⟩
  exact fits_of_trace (n := 300) (k0 := 0) hT Tryz.func177 (by kernel_rfl) (by kernel_rfl) (by kernel_rfl)

set_option maxRecDepth 100000 in
theorem contB_f {n : Nat} {xs : List Bool} (hn : n ≤ 17179869184) (hl : xs.length = n) (hc : ∀ x ∈ xs, x = true) : FitsP 116 [.cel (.ent (rowOf n (xs.flatMap boC))), boolS false] [] (.one (boolS false)) := by
  have hT : AllOk Tryz.prog Glob [
    Tr.call 177 [Sv.cel (Cv.ent (rowOf n (List.flatMap boC xs))), boolS false] [] (Av.one (intS (Int.negSucc (nat_lit 0))))] := ⟨
    idxB_f hn hl hc, trivial⟩
  exact fits_of_trace (n := 300) (k0 := 0) hT Tryz.func116 (by kernel_rfl) (by kernel_rfl) (by kernel_rfl)

set_option maxRecDepth 100000 in
theorem holdsV_f {n : Nat} {xs : List (Dy × Dy)} {ys : List Rat} (hn : n ≤ 17179869184) (hl : xs.length = n) (hm : ys.length = n) (hc : ∀ (k : Nat) (x : Dy × Dy) (y : Rat), xs[k]? = some x → ys[k]? = some y → FitsP 25 [spQ x, rq y] [] (.tup [boolS true, ok0])) : FitsP 44 [spansN n xs, ratsN n ys] [] (.tup [boolS true, ok0]) := by
  have hT : AllOk Tryz.prog Glob [
    Tr.call 115 [Sv.cel (Cv.ent (rowOf n (List.flatMap spC xs))), Sv.cel (Cv.ent (rowOf n (List.flatMap rqC ys))), Sv.cel (Cv.raw (Value.func (Fn.func 25) #[] #[]))] [] (Av.tup [Sv.cel (Cv.ent (rowOf n (List.flatMap boC (List.replicate n true)))), ok0]),
    Tr.call 116 [Sv.cel (Cv.ent (rowOf n (List.flatMap boC (List.replicate n true)))), boolS false] [] (Av.one (boolS false))] := ⟨
    Fits.fn2 (pairSRB_f (zs := List.replicate n true) hn hl hm (List.length_replicate ..) fun k x y z h1 h2 h3 => callV_of (by rw [show z = true by rw [List.getElem?_replicate] at h3; split at h3 <;> simp at h3; exact h3]; exact hc k x y h1 h2)),
    contB_f hn (List.length_replicate ..) (fun x hx => (List.mem_replicate.1 hx).2), trivial⟩
  exact fits_of_trace (n := 300) (k0 := 0) hT Tryz.func44 (by kernel_rfl) (by kernel_rfl) (by kernel_rfl)

set_option maxRecDepth 100000 in
theorem holdsV_un {n m : Nat} {cs ds : List Cv} (h : n ≠ m) : FitsP 44 [.cel (.ent (rowOf n cs)), .cel (.ent (rowOf m ds))] [] (.tup [boolS false, intS 20]) := by
  have hT : AllOk Tryz.prog Glob [
    Tr.call 115 [Sv.cel (Cv.ent (rowOf n cs)), Sv.cel (Cv.ent (rowOf m ds)), Sv.cel (Cv.raw (Value.func (Fn.func 25) #[] #[]))] [] (Av.tup [Sv.cel (Cv.raw (Value.slice none (nat_lit 0) (nat_lit 0))), intS (Int.ofNat (nat_lit 20))])] := ⟨
    Fits.fn2 (pairSRB_un h), trivial⟩
  exact fits_of_trace (n := 300) (k0 := 0) hT Tryz.func44 (by kernel_rfl) (by kernel_rfl) (by kernel_rfl)
end Go.Proofs.YtejkcmklhmifaaaGreatDoor
