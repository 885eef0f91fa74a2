/- Rows of spans made place by place. -/
import Derived.Test.YtejkcmklhmifaaaGreatDoorVecR
import Derived.Test.YtejkcmklhmifaaaGreatDoorSpF
import Derived.Test.YtejkcmklhmifaaaGreatDoorSpO
namespace Go.Proofs.YtejkcmklhmifaaaGreatDoor
open Go Go.RowKit Go.Shelf AM
/-- A span: its two ends. -/
def spQ (s : Dy × Dy) : Sv := spS s.1 s.2
def spC (s : Dy × Dy) : List Cv := [.raw (.bool (decide (s.1.m < 0))), .ent (nat s.1.m.natAbs), .raw (.int .i64 s.1.e), .raw (.bool (decide (s.2.m < 0))), .ent (nat s.2.m.natAbs), .raw (.int .i64 s.2.e)]
def spZ : List Cv := [.raw (.bool false), .raw (.slice none 0 0), .raw (.int .i64 0), .raw (.bool false), .raw (.slice none 0 0), .raw (.int .i64 0)]
theorem spC_len (s : Dy × Dy) : (spC s).length = 6 := rfl
theorem spC_shut (s : Dy × Dy) : ∀ c ∈ spC s, varsC c = [] := by
  intro c hc
  simp only [spC, List.mem_cons, List.not_mem_nil, or_false] at hc
  rcases hc with rfl | rfl | rfl | rfl | rfl | rfl <;> rfl
theorem spZ_shut : ∀ c ∈ spZ, varsC c = [] := by
  intro c hc
  simp only [spZ, List.mem_cons, List.not_mem_nil, or_false] at hc
  rcases hc with rfl | rfl | rfl | rfl | rfl | rfl <;> rfl
abbrev spansN (n : Nat) (xs : List (Dy × Dy)) : Sv := .cel (.ent (rowOf n (xs.flatMap spC)))
abbrev bits1 (b : Int) : Cv := .ent (ptrTo [.raw (.int .i64 b)])

def eachRST (e : Ent) (n : Nat) (xs : List Rat) (_ys : List (Dy × Dy)) (k : Nat) : List Av := mkT 34 [(1, .one (.cel (.ent e))), (6, .one (.cel (.row 4 0 n n))), (13, .one (.cel (.ent (rowOf n (xs.flatMap rqC))))), (14, .one (.cel (.raw (.int .i64 (n : Int))))), (15, .one (.cel (.raw (.int .i64 ((k : Nat) : Int)))))]
def eachRSV (_e : Ent) (n : Nat) (_xs : List Rat) (ys : List (Dy × Dy)) (k : Nat) : List (Nat × VarSt) := [(4, ⟨32, fillL spC spZ n ys k, true, .yes (fill_shut spC_shut spZ_shut)⟩)]
set_option maxRecDepth 100000 in
theorem eachRS_round {e : Ent} {n : Nat} {xs : List Rat} {ys : List (Dy × Dy)} {k : Nat} {x : Rat} {y : (Dy × Dy)} (hn : n ≤ 17179869184) (hl : xs.length = n) (hm : ys.length = n) (hx : xs[k]? = some x) (hy : ys[k]? = some y) (hc : CallV Tryz.prog Glob e [rq x] [] (.tup [spQ y, ok0])) : AM.Moves Tryz.prog Glob (loopN Tryz.f109 0) (eachRST e n xs ys k) (eachRSV e n xs ys k) .normal (eachRST e n xs ys (k + 1)) (eachRSV e n xs ys (k + 1)) := by
  have hT : AllOk Tryz.prog Glob [
    Tr.norm 5 (Av.one (Sv.cel (Cv.raw (Value.bool (decide ((↑k : Int) < (↑n : Int))))))) (Av.one (boolS true)),
    Tr.told (Op.indexAddr 28 (Operand.tmp 13) (Operand.tmp 15)) 0 [Av.one (Sv.cel (Cv.ent (rowOf n (List.flatMap rqC xs)))), Av.one (intS (↑k : Int))] (.one (.cel (.ent (ptrTo (rqC x))))),
    Tr.told (Op.load 27 (Operand.tmp 18)) 27 [Av.one (Sv.cel (Cv.ent (ptrTo (rqC x))))] (.one (rq x)),
    Tr.callv e [rq x] [] (.tup [spQ y, ok0]),
    Tr.toldAt 21 (Op.indexAddr 65 (Operand.tmp 21) (Operand.tmp 22)) 0 [Av.one (Sv.cel (Cv.row (nat_lit 4) (nat_lit 0) n n)), Av.one (intS (↑k : Int))] (.one (.cel (.ptr 4 (k * 6)))),
    Tr.sto (fillL spC spZ n ys k) (k * 6) [Cv.raw (Value.bool (decide (Dy.m (Prod.fst y) < (0 : Int)))), Cv.ent (nat (Int.natAbs (Dy.m (Prod.fst y)))), Cv.raw (Value.int IntKind.i64 (Dy.e (Prod.fst y))), Cv.raw (Value.bool (decide (Dy.m (Prod.snd y) < (0 : Int)))), Cv.ent (nat (Int.natAbs (Dy.m (Prod.snd y)))), Cv.raw (Value.int IntKind.i64 (Dy.e (Prod.snd y)))] (fillL spC spZ n ys (k + 1)) (.yes (fill_shut spC_shut spZ_shut)),
    Tr.norm 26 (Av.one (intS (IntKind.wrap IntKind.i64 ((↑k : Int) + (1 : Int))))) (Av.one (intS (↑(k + (1 : Nat)) : Int)))] := ⟨
    norm_bool (lt_true (idx_lt hx hl)),
    idx_ok (e := 27) (s := 3) (j := k) (by kernel_rfl) (by kernel_rfl) rfl (idx_lt hx hl) (flat_get rqC_len hx) (flat_ne rqC_len (by omega) hx),
    loadn_ok (by kernel_rfl) (by kernel_rfl) (Nat.le_refl _) rfl,
    hc,
    own_ok (e := 32) (s := 6) (j := k) (by kernel_rfl) (by kernel_rfl) rfl (idx_lt hy hm) (Nat.zero_add _).symm,
    ⟨fill_room spC_len rfl hm (idx_lt hy hm) rfl, fill_put spC_len rfl hm hy rfl⟩,
    norm_succ (idx_lt hx hl) hn, trivial⟩
  exact moves_of_trace (n := 200) (k := 5) (keep := [1, 6, 13, 14, 15]) (ids := [4]) hT (by kernel_rfl)

set_option maxRecDepth 100000 in
theorem eachRS_exit {e : Ent} {n : Nat} {xs : List Rat} {ys : List (Dy × Dy)}  : AM.Moves Tryz.prog Glob (loopN Tryz.f109 0) (eachRST e n xs ys n) (eachRSV e n xs ys n) (.exit 0) (eachRST e n xs ys n) (eachRSV e n xs ys n) := by
  have hT : AllOk Tryz.prog Glob [
    Tr.norm 5 (Av.one (Sv.cel (Cv.raw (Value.bool (decide ((↑n : Int) < (↑n : Int))))))) (Av.one (boolS false))] := ⟨
    norm_bool (lt_false), trivial⟩
  exact moves_of_trace (n := 200) (k := 5) (keep := [1, 6, 13, 14, 15]) (ids := [4]) hT (by kernel_rfl)

theorem eachRS_loop {e : Ent} {n : Nat} {xs : List Rat} {ys : List (Dy × Dy)} (hn : n ≤ 17179869184) (hl : xs.length = n) (hm : ys.length = n) (hc : ∀ (k : Nat) (x : Rat) (y : (Dy × Dy)), xs[k]? = some x → ys[k]? = some y → CallV Tryz.prog Glob e [rq x] [] (.tup [spQ y, ok0])) :
    AM.Moves Tryz.prog Glob (.loop (loopN Tryz.f109 0)) (eachRST e n xs ys 0) (eachRSV e n xs ys 0) (.exit 0) (eachRST e n xs ys n) (eachRSV e n xs ys n) :=
  loop_moves (n := n) (tm := fun k => (eachRST e n xs ys k)) (vr := fun k => (eachRSV e n xs ys k)) (fun k hk => by
    obtain ⟨x, hx⟩ : ∃ x, xs[k]? = some x := ⟨_, List.getElem?_eq_getElem (by omega)⟩
    obtain ⟨y, hy⟩ : ∃ y, ys[k]? = some y := ⟨_, List.getElem?_eq_getElem (by omega)⟩
    exact eachRS_round hn hl hm hx hy (hc k x y hx hy)) (by simp) eachRS_exit
set_option maxRecDepth 100000 in
theorem eachRS_f {e : Ent} {n : Nat} {xs : List Rat} {ys : List (Dy × Dy)} (hn : n ≤ 17179869184) (hl : xs.length = n) (hm : ys.length = n) (hc : ∀ (k : Nat) (x : Rat) (y : (Dy × Dy)), xs[k]? = some x → ys[k]? = some y → CallV Tryz.prog Glob e [rq x] [] (.tup [spQ y, ok0])) : FitsP 109 [.cel (.ent (rowOf n (xs.flatMap rqC))), .cel (.ent e)] [] (.tup [.cel (.ent (rowOf n (ys.flatMap spC))), ok0]) := by
  have hT : AllOk Tryz.prog Glob [
    Tr.make (Op.makeSlice 65 (Operand.tmp 11) (Operand.tmp 11)) 65 [Av.one (intS (↑n : Int)), Av.one (intS (↑n : Int))] (⟨32, fillL spC spZ n ys 0, true, .yes (fill_shut spC_shut spZ_shut)⟩) (n) (n),
    Tr.loop ((loopN Tryz.f109 0)) [nat_lit 1, nat_lit 6, nat_lit 13, nat_lit 14, nat_lit 15] [nat_lit 4] ((eachRST e n xs ys 0)) ((eachRSV e n xs ys 0)) (Exit.exit (nat_lit 0)) ((eachRST e n xs ys n)) ((eachRSV e n xs ys n)) (nat_lit 100),
    Tr.freeze (nat_lit 4) (fillL spC spZ n ys n)] := ⟨
    new_ok (e := 32) (z := spZ) (N := n) (by kernel_rfl) (by kernel_rfl) rfl rfl hn rfl rfl rfl,
    eachRS_loop hn hl hm hc,
    fill_shut spC_shut spZ_shut, trivial⟩
  exact Fits.res (r := (.tup [.cel (.ent (rowOf n (fillL spC spZ n ys n))), ok0])) (fits_of_trace (n := 300) (k0 := 0) hT Tryz.func109 (by kernel_rfl) (by kernel_rfl) (by kernel_rfl)) (norm_fill hm)

def eachSST (e : Ent) (n : Nat) (xs : List (Dy × Dy)) (_ys : List (Dy × Dy)) (k : Nat) : List Av := mkT 34 [(1, .one (.cel (.ent e))), (6, .one (.cel (.row 4 0 n n))), (13, .one (.cel (.ent (rowOf n (xs.flatMap spC))))), (14, .one (.cel (.raw (.int .i64 (n : Int))))), (15, .one (.cel (.raw (.int .i64 ((k : Nat) : Int)))))]
def eachSSV (_e : Ent) (n : Nat) (_xs : List (Dy × Dy)) (ys : List (Dy × Dy)) (k : Nat) : List (Nat × VarSt) := [(4, ⟨32, fillL spC spZ n ys k, true, .yes (fill_shut spC_shut spZ_shut)⟩)]
set_option maxRecDepth 100000 in
theorem eachSS_round {e : Ent} {n : Nat} {xs : List (Dy × Dy)} {ys : List (Dy × Dy)} {k : Nat} {x : (Dy × Dy)} {y : (Dy × Dy)} (hn : n ≤ 17179869184) (hl : xs.length = n) (hm : ys.length = n) (hx : xs[k]? = some x) (hy : ys[k]? = some y) (hc : CallV Tryz.prog Glob e [spQ x] [] (.tup [spQ y, ok0])) : AM.Moves Tryz.prog Glob (loopN Tryz.f119 0) (eachSST e n xs ys k) (eachSSV e n xs ys k) .normal (eachSST e n xs ys (k + 1)) (eachSSV e n xs ys (k + 1)) := by
  have hT : AllOk Tryz.prog Glob [
    Tr.norm 5 (Av.one (Sv.cel (Cv.raw (Value.bool (decide ((↑k : Int) < (↑n : Int))))))) (Av.one (boolS true)),
    Tr.told (Op.indexAddr 65 (Operand.tmp 13) (Operand.tmp 15)) 0 [Av.one (Sv.cel (Cv.ent (rowOf n (List.flatMap spC xs)))), Av.one (intS (↑k : Int))] (.one (.cel (.ent (ptrTo (spC x))))),
    Tr.told (Op.load 32 (Operand.tmp 18)) 32 [Av.one (Sv.cel (Cv.ent (ptrTo (spC x))))] (.one (spQ x)),
    Tr.callv e [spS (Prod.fst x) (Prod.snd x)] [] (.tup [spQ y, ok0]),
    Tr.toldAt 21 (Op.indexAddr 65 (Operand.tmp 21) (Operand.tmp 22)) 0 [Av.one (Sv.cel (Cv.row (nat_lit 4) (nat_lit 0) n n)), Av.one (intS (↑k : Int))] (.one (.cel (.ptr 4 (k * 6)))),
    Tr.sto (fillL spC spZ n ys k) (k * 6) [Cv.raw (Value.bool (decide (Dy.m (Prod.fst y) < (0 : Int)))), Cv.ent (nat (Int.natAbs (Dy.m (Prod.fst y)))), Cv.raw (Value.int IntKind.i64 (Dy.e (Prod.fst y))), Cv.raw (Value.bool (decide (Dy.m (Prod.snd y) < (0 : Int)))), Cv.ent (nat (Int.natAbs (Dy.m (Prod.snd y)))), Cv.raw (Value.int IntKind.i64 (Dy.e (Prod.snd y)))] (fillL spC spZ n ys (k + 1)) (.yes (fill_shut spC_shut spZ_shut)),
    Tr.norm 26 (Av.one (intS (IntKind.wrap IntKind.i64 ((↑k : Int) + (1 : Int))))) (Av.one (intS (↑(k + (1 : Nat)) : Int)))] := ⟨
    norm_bool (lt_true (idx_lt hx hl)),
    idx_ok (e := 32) (s := 6) (j := k) (by kernel_rfl) (by kernel_rfl) rfl (idx_lt hx hl) (flat_get spC_len hx) (flat_ne spC_len (by omega) hx),
    loadn_ok (by kernel_rfl) (by kernel_rfl) (Nat.le_refl _) rfl,
    hc,
    own_ok (e := 32) (s := 6) (j := k) (by kernel_rfl) (by kernel_rfl) rfl (idx_lt hy hm) (Nat.zero_add _).symm,
    ⟨fill_room spC_len rfl hm (idx_lt hy hm) rfl, fill_put spC_len rfl hm hy rfl⟩,
    norm_succ (idx_lt hx hl) hn, trivial⟩
  exact moves_of_trace (n := 200) (k := 5) (keep := [1, 6, 13, 14, 15]) (ids := [4]) hT (by kernel_rfl)

set_option maxRecDepth 100000 in
theorem eachSS_exit {e : Ent} {n : Nat} {xs : List (Dy × Dy)} {ys : List (Dy × Dy)}  : AM.Moves Tryz.prog Glob (loopN Tryz.f119 0) (eachSST e n xs ys n) (eachSSV e n xs ys n) (.exit 0) (eachSST e n xs ys n) (eachSSV e n xs ys n) := by
  have hT : AllOk Tryz.prog Glob [
    Tr.norm 5 (Av.one (Sv.cel (Cv.raw (Value.bool (decide ((↑n : Int) < (↑n : Int))))))) (Av.one (boolS false))] := ⟨
    norm_bool (lt_false), trivial⟩
  exact moves_of_trace (n := 200) (k := 5) (keep := [1, 6, 13, 14, 15]) (ids := [4]) hT (by kernel_rfl)

theorem eachSS_loop {e : Ent} {n : Nat} {xs : List (Dy × Dy)} {ys : List (Dy × Dy)} (hn : n ≤ 17179869184) (hl : xs.length = n) (hm : ys.length = n) (hc : ∀ (k : Nat) (x : (Dy × Dy)) (y : (Dy × Dy)), xs[k]? = some x → ys[k]? = some y → CallV Tryz.prog Glob e [spQ x] [] (.tup [spQ y, ok0])) :
    AM.Moves Tryz.prog Glob (.loop (loopN Tryz.f119 0)) (eachSST e n xs ys 0) (eachSSV e n xs ys 0) (.exit 0) (eachSST e n xs ys n) (eachSSV e n xs ys n) :=
  loop_moves (n := n) (tm := fun k => (eachSST e n xs ys k)) (vr := fun k => (eachSSV e n xs ys k)) (fun k hk => by
    obtain ⟨x, hx⟩ : ∃ x, xs[k]? = some x := ⟨_, List.getElem?_eq_getElem (by omega)⟩
    obtain ⟨y, hy⟩ : ∃ y, ys[k]? = some y := ⟨_, List.getElem?_eq_getElem (by omega)⟩
    exact eachSS_round hn hl hm hx hy (hc k x y hx hy)) (by simp) eachSS_exit
set_option maxRecDepth 100000 in
theorem eachSS_f {e : Ent} {n : Nat} {xs : List (Dy × Dy)} {ys : List (Dy × Dy)} (hn : n ≤ 17179869184) (hl : xs.length = n) (hm : ys.length = n) (hc : ∀ (k : Nat) (x : (Dy × Dy)) (y : (Dy × Dy)), xs[k]? = some x → ys[k]? = some y → CallV Tryz.prog Glob e [spQ x] [] (.tup [spQ y, ok0])) : FitsP 119 [.cel (.ent (rowOf n (xs.flatMap spC))), .cel (.ent e)] [] (.tup [.cel (.ent (rowOf n (ys.flatMap spC))), ok0]) := by
  have hT : AllOk Tryz.prog Glob [
    Tr.make (Op.makeSlice 65 (Operand.tmp 11) (Operand.tmp 11)) 65 [Av.one (intS (↑n : Int)), Av.one (intS (↑n : Int))] (⟨32, fillL spC spZ n ys 0, true, .yes (fill_shut spC_shut spZ_shut)⟩) (n) (n),
    Tr.loop ((loopN Tryz.f119 0)) [nat_lit 1, nat_lit 6, nat_lit 13, nat_lit 14, nat_lit 15] [nat_lit 4] ((eachSST e n xs ys 0)) ((eachSSV e n xs ys 0)) (Exit.exit (nat_lit 0)) ((eachSST e n xs ys n)) ((eachSSV e n xs ys n)) (nat_lit 100),
    Tr.freeze (nat_lit 4) (fillL spC spZ n ys n)] := ⟨
    new_ok (e := 32) (z := spZ) (N := n) (by kernel_rfl) (by kernel_rfl) rfl rfl hn rfl rfl rfl,
    eachSS_loop hn hl hm hc,
    fill_shut spC_shut spZ_shut, trivial⟩
  exact Fits.res (r := (.tup [.cel (.ent (rowOf n (fillL spC spZ n ys n))), ok0])) (fits_of_trace (n := 300) (k0 := 0) hT Tryz.func119 (by kernel_rfl) (by kernel_rfl) (by kernel_rfl)) (norm_fill hm)

def pairSSST (e : Ent) (n : Nat) (xs : List (Dy × Dy)) (ys : List (Dy × Dy)) (_zs : List (Dy × Dy)) (k : Nat) : List Av := mkT 45 [(1, .one (.cel (.ent (rowOf n (ys.flatMap spC))))), (2, .one (.cel (.ent e))), (8, .one (.cel (.row 9 0 n n))), (20, .one (.cel (.ent (rowOf n (xs.flatMap spC))))), (21, .one (.cel (.raw (.int .i64 (n : Int))))), (22, .one (.cel (.raw (.int .i64 ((k : Nat) : Int)))))]
def pairSSSV (_e : Ent) (n : Nat) (_xs : List (Dy × Dy)) (_ys : List (Dy × Dy)) (zs : List (Dy × Dy)) (k : Nat) : List (Nat × VarSt) := [(9, ⟨32, fillL spC spZ n zs k, true, .yes (fill_shut spC_shut spZ_shut)⟩)]
set_option maxRecDepth 100000 in
theorem pairSSS_round {e : Ent} {n : Nat} {xs : List (Dy × Dy)} {ys : List (Dy × Dy)} {zs : List (Dy × Dy)} {k : Nat} {x : (Dy × Dy)} {y : (Dy × Dy)} {z : (Dy × Dy)} (hn : n ≤ 17179869184) (hl : xs.length = n) (hm : ys.length = n) (ho : zs.length = n) (hx : xs[k]? = some x) (hy : ys[k]? = some y) (hz : zs[k]? = some z) (hc : CallV Tryz.prog Glob e [spQ x, spQ y] [] (.tup [spQ z, ok0])) : AM.Moves Tryz.prog Glob (loopN Tryz.f111 0) (pairSSST e n xs ys zs k) (pairSSSV e n xs ys zs k) .normal (pairSSST e n xs ys zs (k + 1)) (pairSSSV e n xs ys zs (k + 1)) := by
  have hT : AllOk Tryz.prog Glob [
    Tr.norm 10 (Av.one (Sv.cel (Cv.raw (Value.bool (decide ((↑k : Int) < (↑n : Int))))))) (Av.one (boolS true)),
    Tr.told (Op.indexAddr 65 (Operand.tmp 20) (Operand.tmp 22)) 0 [Av.one (Sv.cel (Cv.ent (rowOf n (List.flatMap spC xs)))), Av.one (intS (↑k : Int))] (.one (.cel (.ent (ptrTo (spC x))))),
    Tr.told (Op.load 32 (Operand.tmp 25)) 32 [Av.one (Sv.cel (Cv.ent (ptrTo (spC x))))] (.one (spQ x)),
    Tr.told (Op.indexAddr 65 (Operand.tmp 32) (Operand.tmp 33)) 0 [Av.one (Sv.cel (Cv.ent (rowOf n (List.flatMap spC ys)))), Av.one (intS (↑k : Int))] (.one (.cel (.ent (ptrTo (spC y))))),
    Tr.told (Op.load 32 (Operand.tmp 34)) 32 [Av.one (Sv.cel (Cv.ent (ptrTo (spC y))))] (.one (spQ y)),
    Tr.callv e [spS (Prod.fst x) (Prod.snd x), spS (Prod.fst y) (Prod.snd y)] [] (.tup [spQ z, ok0]),
    Tr.toldAt 30 (Op.indexAddr 65 (Operand.tmp 28) (Operand.tmp 29)) 0 [Av.one (Sv.cel (Cv.row (nat_lit 9) (nat_lit 0) n n)), Av.one (intS (↑k : Int))] (.one (.cel (.ptr 9 (k * 6)))),
    Tr.sto (fillL spC spZ n zs k) (k * 6) [Cv.raw (Value.bool (decide (Dy.m (Prod.fst z) < (0 : Int)))), Cv.ent (nat (Int.natAbs (Dy.m (Prod.fst z)))), Cv.raw (Value.int IntKind.i64 (Dy.e (Prod.fst z))), Cv.raw (Value.bool (decide (Dy.m (Prod.snd z) < (0 : Int)))), Cv.ent (nat (Int.natAbs (Dy.m (Prod.snd z)))), Cv.raw (Value.int IntKind.i64 (Dy.e (Prod.snd z)))] (fillL spC spZ n zs (k + 1)) (.yes (fill_shut spC_shut spZ_shut)),
    Tr.norm 35 (Av.one (intS (IntKind.wrap IntKind.i64 ((↑k : Int) + (1 : Int))))) (Av.one (intS (↑(k + (1 : Nat)) : Int)))] := ⟨
    norm_bool (lt_true (idx_lt hx hl)),
    idx_ok (e := 32) (s := 6) (j := k) (by kernel_rfl) (by kernel_rfl) rfl (idx_lt hx hl) (flat_get spC_len hx) (flat_ne spC_len (by omega) hx),
    loadn_ok (by kernel_rfl) (by kernel_rfl) (Nat.le_refl _) rfl,
    idx_ok (e := 32) (s := 6) (j := k) (by kernel_rfl) (by kernel_rfl) rfl (idx_lt hy hm) (flat_get spC_len hy) (flat_ne spC_len (by omega) hy),
    loadn_ok (by kernel_rfl) (by kernel_rfl) (Nat.le_refl _) rfl,
    hc,
    own_ok (e := 32) (s := 6) (j := k) (by kernel_rfl) (by kernel_rfl) rfl (idx_lt hz ho) (Nat.zero_add _).symm,
    ⟨fill_room spC_len rfl ho (idx_lt hz ho) rfl, fill_put spC_len rfl ho hz rfl⟩,
    norm_succ (idx_lt hx hl) hn, trivial⟩
  exact moves_of_trace (n := 200) (k := 10) (keep := [1, 2, 8, 20, 21, 22]) (ids := [9]) hT (by kernel_rfl)

set_option maxRecDepth 100000 in
theorem pairSSS_exit {e : Ent} {n : Nat} {xs : List (Dy × Dy)} {ys : List (Dy × Dy)} {zs : List (Dy × Dy)}  : AM.Moves Tryz.prog Glob (loopN Tryz.f111 0) (pairSSST e n xs ys zs n) (pairSSSV e n xs ys zs n) (.exit 0) (pairSSST e n xs ys zs n) (pairSSSV e n xs ys zs n) := by
  have hT : AllOk Tryz.prog Glob [
    Tr.norm 10 (Av.one (Sv.cel (Cv.raw (Value.bool (decide ((↑n : Int) < (↑n : Int))))))) (Av.one (boolS false))] := ⟨
    norm_bool (lt_false), trivial⟩
  exact moves_of_trace (n := 200) (k := 10) (keep := [1, 2, 8, 20, 21, 22]) (ids := [9]) hT (by kernel_rfl)

theorem pairSSS_loop {e : Ent} {n : Nat} {xs : List (Dy × Dy)} {ys : List (Dy × Dy)} {zs : List (Dy × Dy)} (hn : n ≤ 17179869184) (hl : xs.length = n) (hm : ys.length = n) (ho : zs.length = n) (hc : ∀ (k : Nat) (x : (Dy × Dy)) (y : (Dy × Dy)) (z : (Dy × Dy)), xs[k]? = some x → ys[k]? = some y → zs[k]? = some z → CallV Tryz.prog Glob e [spQ x, spQ y] [] (.tup [spQ z, ok0])) :
    AM.Moves Tryz.prog Glob (.loop (loopN Tryz.f111 0)) (pairSSST e n xs ys zs 0) (pairSSSV e n xs ys zs 0) (.exit 0) (pairSSST e n xs ys zs n) (pairSSSV e n xs ys zs n) :=
  loop_moves (n := n) (tm := fun k => (pairSSST e n xs ys zs k)) (vr := fun k => (pairSSSV e n xs ys zs k)) (fun k hk => by
    obtain ⟨x, hx⟩ : ∃ x, xs[k]? = some x := ⟨_, List.getElem?_eq_getElem (by omega)⟩
    obtain ⟨y, hy⟩ : ∃ y, ys[k]? = some y := ⟨_, List.getElem?_eq_getElem (by omega)⟩
    obtain ⟨z, hz⟩ : ∃ z, zs[k]? = some z := ⟨_, List.getElem?_eq_getElem (by omega)⟩
    exact pairSSS_round hn hl hm ho hx hy hz (hc k x y z hx hy hz)) (by simp) pairSSS_exit
set_option maxRecDepth 100000 in
theorem pairSSS_f {e : Ent} {n : Nat} {xs : List (Dy × Dy)} {ys : List (Dy × Dy)} {zs : List (Dy × Dy)} (hn : n ≤ 17179869184) (hl : xs.length = n) (hm : ys.length = n) (ho : zs.length = n) (hc : ∀ (k : Nat) (x : (Dy × Dy)) (y : (Dy × Dy)) (z : (Dy × Dy)), xs[k]? = some x → ys[k]? = some y → zs[k]? = some z → CallV Tryz.prog Glob e [spQ x, spQ y] [] (.tup [spQ z, ok0])) : FitsP 111 [.cel (.ent (rowOf n (xs.flatMap spC))), .cel (.ent (rowOf n (ys.flatMap spC))), .cel (.ent e)] [] (.tup [.cel (.ent (rowOf n (zs.flatMap spC))), ok0]) := by
  have hT : AllOk Tryz.prog Glob [
    Tr.norm 6 (Av.one (Sv.cel (Cv.raw (Value.bool ((↑n : Int) != (↑n : Int)))))) (Av.one (boolS false)),
    Tr.make (Op.makeSlice 65 (Operand.tmp 18) (Operand.tmp 18)) 65 [Av.one (intS (↑n : Int)), Av.one (intS (↑n : Int))] (⟨32, fillL spC spZ n zs 0, true, .yes (fill_shut spC_shut spZ_shut)⟩) (n) (n),
    Tr.loop ((loopN Tryz.f111 0)) [nat_lit 1, nat_lit 2, nat_lit 8, nat_lit 20, nat_lit 21, nat_lit 22] [nat_lit 9] ((pairSSST e n xs ys zs 0)) ((pairSSSV e n xs ys zs 0)) (Exit.exit (nat_lit 0)) ((pairSSST e n xs ys zs n)) ((pairSSSV e n xs ys zs n)) (nat_lit 100),
    Tr.freeze (nat_lit 9) (fillL spC spZ n zs n)] := ⟨
    norm_bool (ne_self),
    new_ok (e := 32) (z := spZ) (N := n) (by kernel_rfl) (by kernel_rfl) rfl rfl hn rfl rfl rfl,
    pairSSS_loop hn hl hm ho hc,
    fill_shut spC_shut spZ_shut, trivial⟩
  exact Fits.res (r := (.tup [.cel (.ent (rowOf n (fillL spC spZ n zs n))), ok0])) (fits_of_trace (n := 300) (k0 := 0) hT Tryz.func111 (by kernel_rfl) (by kernel_rfl) (by kernel_rfl)) (norm_fill ho)

set_option maxRecDepth 100000 in
theorem pairSSS_un {e : Ent} {n m : Nat} {cs ds : List Cv} (h : n ≠ m) : FitsP 111 [.cel (.ent (rowOf n cs)), .cel (.ent (rowOf m ds)), .cel (.ent e)] [] (.tup [nilS, intS 20]) := by
  have hT : AllOk Tryz.prog Glob [
    Tr.norm 6 (Av.one (Sv.cel (Cv.raw (Value.bool ((↑n : Int) != (↑m : Int)))))) (Av.one (boolS true))] := ⟨
    norm_bool (ne_len h), trivial⟩
  exact fits_of_trace (n := 300) (k0 := 0) hT Tryz.func111 (by kernel_rfl) (by kernel_rfl) (by kernel_rfl)

def pairSRBT (e : Ent) (n : Nat) (xs : List (Dy × Dy)) (ys : List Rat) (_zs : List Bool) (k : Nat) : List Av := mkT 45 [(1, .one (.cel (.ent (rowOf n (ys.flatMap rqC))))), (2, .one (.cel (.ent e))), (8, .one (.cel (.row 9 0 n n))), (20, .one (.cel (.ent (rowOf n (xs.flatMap spC))))), (21, .one (.cel (.raw (.int .i64 (n : Int))))), (22, .one (.cel (.raw (.int .i64 ((k : Nat) : Int)))))]
def pairSRBV (_e : Ent) (n : Nat) (_xs : List (Dy × Dy)) (_ys : List Rat) (zs : List Bool) (k : Nat) : List (Nat × VarSt) := [(9, ⟨4, fillL boC boZ n zs k, true, .yes (fill_shut boC_shut boZ_shut)⟩)]
set_option maxRecDepth 100000 in
theorem pairSRB_round {e : Ent} {n : Nat} {xs : List (Dy × Dy)} {ys : List Rat} {zs : List Bool} {k : Nat} {x : (Dy × Dy)} {y : Rat} {z : Bool} (hn : n ≤ 17179869184) (hl : xs.length = n) (hm : ys.length = n) (ho : zs.length = n) (hx : xs[k]? = some x) (hy : ys[k]? = some y) (hz : zs[k]? = some z) (hc : CallV Tryz.prog Glob e [spQ x, rq y] [] (.tup [boolS z, ok0])) : AM.Moves Tryz.prog Glob (loopN Tryz.f115 0) (pairSRBT e n xs ys zs k) (pairSRBV e n xs ys zs k) .normal (pairSRBT e n xs ys zs (k + 1)) (pairSRBV e n xs ys zs (k + 1)) := by
  have hT : AllOk Tryz.prog Glob [
    Tr.norm 10 (Av.one (Sv.cel (Cv.raw (Value.bool (decide ((↑k : Int) < (↑n : Int))))))) (Av.one (boolS true)),
    Tr.told (Op.indexAddr 65 (Operand.tmp 20) (Operand.tmp 22)) 0 [Av.one (Sv.cel (Cv.ent (rowOf n (List.flatMap spC xs)))), Av.one (intS (↑k : Int))] (.one (.cel (.ent (ptrTo (spC x))))),
    Tr.told (Op.load 32 (Operand.tmp 25)) 32 [Av.one (Sv.cel (Cv.ent (ptrTo (spC x))))] (.one (spQ x)),
    Tr.told (Op.indexAddr 28 (Operand.tmp 32) (Operand.tmp 33)) 0 [Av.one (Sv.cel (Cv.ent (rowOf n (List.flatMap rqC ys)))), Av.one (intS (↑k : Int))] (.one (.cel (.ent (ptrTo (rqC y))))),
    Tr.told (Op.load 27 (Operand.tmp 34)) 27 [Av.one (Sv.cel (Cv.ent (ptrTo (rqC y))))] (.one (rq y)),
    Tr.callv e [spS (Prod.fst x) (Prod.snd x), rq y] [] (.tup [boolS z, ok0]),
    Tr.toldAt 30 (Op.indexAddr 152 (Operand.tmp 28) (Operand.tmp 29)) 0 [Av.one (Sv.cel (Cv.row (nat_lit 9) (nat_lit 0) n n)), Av.one (intS (↑k : Int))] (.one (.cel (.ptr 9 (k * 1)))),
    Tr.sto (fillL boC boZ n zs k) (k * 1) [Cv.raw (Value.bool z)] (fillL boC boZ n zs (k + 1)) (.yes (fill_shut boC_shut boZ_shut)),
    Tr.norm 35 (Av.one (intS (IntKind.wrap IntKind.i64 ((↑k : Int) + (1 : Int))))) (Av.one (intS (↑(k + (1 : Nat)) : Int)))] := ⟨
    norm_bool (lt_true (idx_lt hx hl)),
    idx_ok (e := 32) (s := 6) (j := k) (by kernel_rfl) (by kernel_rfl) rfl (idx_lt hx hl) (flat_get spC_len hx) (flat_ne spC_len (by omega) hx),
    loadn_ok (by kernel_rfl) (by kernel_rfl) (Nat.le_refl _) rfl,
    idx_ok (e := 27) (s := 3) (j := k) (by kernel_rfl) (by kernel_rfl) rfl (idx_lt hy hm) (flat_get rqC_len hy) (flat_ne rqC_len (by omega) hy),
    loadn_ok (by kernel_rfl) (by kernel_rfl) (Nat.le_refl _) rfl,
    hc,
    own_ok (e := 4) (s := 1) (j := k) (by kernel_rfl) (by kernel_rfl) rfl (idx_lt hz ho) (Nat.zero_add _).symm,
    ⟨fill_room boC_len rfl ho (idx_lt hz ho) rfl, fill_put boC_len rfl ho hz rfl⟩,
    norm_succ (idx_lt hx hl) hn, trivial⟩
  exact moves_of_trace (n := 200) (k := 10) (keep := [1, 2, 8, 20, 21, 22]) (ids := [9]) hT (by kernel_rfl)

set_option maxRecDepth 100000 in
theorem pairSRB_exit {e : Ent} {n : Nat} {xs : List (Dy × Dy)} {ys : List Rat} {zs : List Bool}  : AM.Moves Tryz.prog Glob (loopN Tryz.f115 0) (pairSRBT e n xs ys zs n) (pairSRBV e n xs ys zs n) (.exit 0) (pairSRBT e n xs ys zs n) (pairSRBV e n xs ys zs n) := by
  have hT : AllOk Tryz.prog Glob [
    Tr.norm 10 (Av.one (Sv.cel (Cv.raw (Value.bool (decide ((↑n : Int) < (↑n : Int))))))) (Av.one (boolS false))] := ⟨
    norm_bool (lt_false), trivial⟩
  exact moves_of_trace (n := 200) (k := 10) (keep := [1, 2, 8, 20, 21, 22]) (ids := [9]) hT (by kernel_rfl)

theorem pairSRB_loop {e : Ent} {n : Nat} {xs : List (Dy × Dy)} {ys : List Rat} {zs : List Bool} (hn : n ≤ 17179869184) (hl : xs.length = n) (hm : ys.length = n) (ho : zs.length = n) (hc : ∀ (k : Nat) (x : (Dy × Dy)) (y : Rat) (z : Bool), xs[k]? = some x → ys[k]? = some y → zs[k]? = some z → CallV Tryz.prog Glob e [spQ x, rq y] [] (.tup [boolS z, ok0])) :
    AM.Moves Tryz.prog Glob (.loop (loopN Tryz.f115 0)) (pairSRBT e n xs ys zs 0) (pairSRBV e n xs ys zs 0) (.exit 0) (pairSRBT e n xs ys zs n) (pairSRBV e n xs ys zs n) :=
  loop_moves (n := n) (tm := fun k => (pairSRBT e n xs ys zs k)) (vr := fun k => (pairSRBV e n xs ys zs k)) (fun k hk => by
    obtain ⟨x, hx⟩ : ∃ x, xs[k]? = some x := ⟨_, List.getElem?_eq_getElem (by omega)⟩
    obtain ⟨y, hy⟩ : ∃ y, ys[k]? = some y := ⟨_, List.getElem?_eq_getElem (by omega)⟩
    obtain ⟨z, hz⟩ : ∃ z, zs[k]? = some z := ⟨_, List.getElem?_eq_getElem (by omega)⟩
    exact pairSRB_round hn hl hm ho hx hy hz (hc k x y z hx hy hz)) (by simp) pairSRB_exit
set_option maxRecDepth 100000 in
theorem pairSRB_f {e : Ent} {n : Nat} {xs : List (Dy × Dy)} {ys : List Rat} {zs : List Bool} (hn : n ≤ 17179869184) (hl : xs.length = n) (hm : ys.length = n) (ho : zs.length = n) (hc : ∀ (k : Nat) (x : (Dy × Dy)) (y : Rat) (z : Bool), xs[k]? = some x → ys[k]? = some y → zs[k]? = some z → CallV Tryz.prog Glob e [spQ x, rq y] [] (.tup [boolS z, ok0])) : FitsP 115 [.cel (.ent (rowOf n (xs.flatMap spC))), .cel (.ent (rowOf n (ys.flatMap rqC))), .cel (.ent e)] [] (.tup [.cel (.ent (rowOf n (zs.flatMap boC))), ok0]) := by
  have hT : AllOk Tryz.prog Glob [
    Tr.norm 6 (Av.one (Sv.cel (Cv.raw (Value.bool ((↑n : Int) != (↑n : Int)))))) (Av.one (boolS false)),
    Tr.make (Op.makeSlice 152 (Operand.tmp 18) (Operand.tmp 18)) 152 [Av.one (intS (↑n : Int)), Av.one (intS (↑n : Int))] (⟨4, fillL boC boZ n zs 0, true, .yes (fill_shut boC_shut boZ_shut)⟩) (n) (n),
    Tr.loop ((loopN Tryz.f115 0)) [nat_lit 1, nat_lit 2, nat_lit 8, nat_lit 20, nat_lit 21, nat_lit 22] [nat_lit 9] ((pairSRBT e n xs ys zs 0)) ((pairSRBV e n xs ys zs 0)) (Exit.exit (nat_lit 0)) ((pairSRBT e n xs ys zs n)) ((pairSRBV e n xs ys zs n)) (nat_lit 100),
    Tr.freeze (nat_lit 9) (fillL boC boZ n zs n)] := ⟨
    norm_bool (ne_self),
    new_ok (e := 4) (z := boZ) (N := n) (by kernel_rfl) (by kernel_rfl) rfl rfl hn rfl rfl rfl,
    pairSRB_loop hn hl hm ho hc,
    fill_shut boC_shut boZ_shut, trivial⟩
  exact Fits.res (r := (.tup [.cel (.ent (rowOf n (fillL boC boZ n zs n))), ok0])) (fits_of_trace (n := 300) (k0 := 0) hT Tryz.func115 (by kernel_rfl) (by kernel_rfl) (by kernel_rfl)) (norm_fill ho)

set_option maxRecDepth 100000 in
theorem pairSRB_un {e : Ent} {n m : Nat} {cs ds : List Cv} (h : n ≠ m) : FitsP 115 [.cel (.ent (rowOf n cs)), .cel (.ent (rowOf m ds)), .cel (.ent e)] [] (.tup [nilS, intS 20]) := by
  have hT : AllOk Tryz.prog Glob [
    Tr.norm 6 (Av.one (Sv.cel (Cv.raw (Value.bool ((↑n : Int) != (↑m : Int)))))) (Av.one (boolS true))] := ⟨
    norm_bool (ne_len h), trivial⟩
  exact fits_of_trace (n := 300) (k0 := 0) hT Tryz.func115 (by kernel_rfl) (by kernel_rfl) (by kernel_rfl)
end Go.Proofs.YtejkcmklhmifaaaGreatDoor
