/- Lists that come in: may they be? -/
import Derived.Test.YtejkcmklhmifaaaGreatDoorRowIn
import Derived.Test.YtejkcmklhmifaaaGreatDoorRatN
namespace Go.Proofs.YtejkcmklhmifaaaGreatDoor
open Go Go.RowKit Go.Shelf AM
def fiRT (m p n : Nat) (cs : List Cv) (xs : List Rat) (k : Nat) : List Av := mkT 49 [(0, .one (.cel (.ent (rowOf m cs)))), (7, .one (.cel (.ent (rowOf m cs)))), (8, .one (.cel (.raw (.int .i64 (m : Int))))), (9, .one (.cel (.raw (.int .i64 (p : Int))))), (25, .one (.cel (.ent (rowOf n (xs.flatMap rqC))))), (26, .one (.cel (.raw (.int .i64 (n : Int))))), (27, .one (.cel (.raw (.int .i64 ((k : Nat) : Int)))))]
def fiRV (_m _p _n : Nat) (_cs : List Cv) (_xs : List Rat) (_k : Nat) : List (Nat × VarSt) := []
set_option maxRecDepth 100000 in
theorem fiR_round {m p n : Nat} {cs : List Cv} {xs : List Rat} {k : Nat} {x : Rat} (hn : n ≤ 17179869184) (hl : xs.length = n) (hx : xs[k]? = some x) (hg : BQ 5 x) : AM.Moves Tryz.prog Glob (loopN Tryz.f33 1) (fiRT m p n cs xs k) (fiRV m p n cs xs k) .normal (fiRT m p n cs xs (k + 1)) (fiRV m p n cs xs (k + 1)) := by
  have hT : AllOk Tryz.prog Glob [
    Tr.norm 60 (Av.one (Sv.cel (Cv.raw (Value.bool (decide ((↑k : Int) < (↑n : Int))))))) (Av.one (boolS true)),
    Tr.told (Op.indexAddr 28 (Operand.tmp 25) (Operand.tmp 27)) 0 [Av.one (Sv.cel (Cv.ent (rowOf n (List.flatMap rqC xs)))), Av.one (intS (↑k : Int))] (.one (.cel (.ent (ptrTo (rqC x))))),
    Tr.told (Op.load 27 (Operand.tmp 29)) 27 [Av.one (Sv.cel (Cv.ent (ptrTo (rqC x))))] (.one (rq x)),
    Tr.norm 70 (Av.one (Sv.cel (Cv.raw (Value.bool (decide ((↑(lenN (Int.natAbs (Rat.num x))) : Int) > (5 : Int))))))) (Av.one (boolS false)),
    Tr.norm 76 (Av.one (Sv.cel (Cv.raw (Value.bool (decide ((↑(lenN (Rat.den x)) : Int) > (5 : Int))))))) (Av.one (boolS false)),
    Tr.call 19 [rq x] [] (Av.one (ok0)),
    Tr.norm 81 (Av.one (intS (IntKind.wrap IntKind.i64 ((↑k : Int) + (1 : Int))))) (Av.one (intS (↑(k + (1 : Nat)) : Int)))] := ⟨
    norm_bool (lt_true (idx_lt hx hl)),
    idx_ok (e := 27) (s := 3) (j := k) (by kernel_rfl) (by kernel_rfl) rfl (idx_lt hx hl) (flat_get rqC_len hx) (flat_ne rqC_len (by omega) hx),
    loadn_ok (by kernel_rfl) (by kernel_rfl) (Nat.le_refl _) rfl,
    norm_bool (gt_false (lenN_le.2 hg.1)),
    norm_bool (gt_false (lenN_le.2 hg.2)),
    checkB_f hg (by omega),
    norm_succ (idx_lt hx hl) hn, trivial⟩
  exact moves_of_trace (n := 200) (k := 60) (keep := [0, 7, 8, 9, 25, 26, 27]) (ids := []) hT (by kernel_rfl)

set_option maxRecDepth 100000 in
theorem fiR_exit {m p n : Nat} {cs : List Cv} {xs : List Rat}  : AM.Moves Tryz.prog Glob (loopN Tryz.f33 1) (fiRT m p n cs xs n) (fiRV m p n cs xs n) (.exit 2) (fiRT m p n cs xs n) (fiRV m p n cs xs n) := by
  have hT : AllOk Tryz.prog Glob [
    Tr.norm 60 (Av.one (Sv.cel (Cv.raw (Value.bool (decide ((↑n : Int) < (↑n : Int))))))) (Av.one (boolS false))] := ⟨
    norm_bool (lt_false), trivial⟩
  exact moves_of_trace (n := 200) (k := 60) (keep := [0, 7, 8, 9, 25, 26, 27]) (ids := []) hT (by kernel_rfl)

theorem fiR_loop {m p n : Nat} {cs : List Cv} {xs : List Rat} (hn : n ≤ 17179869184) (hl : xs.length = n) (hg : ∀ (k : Nat) (x : Rat), xs[k]? = some x → BQ 5 x) :
    AM.Moves Tryz.prog Glob (.loop (loopN Tryz.f33 1)) (fiRT m p n cs xs 0) (fiRV m p n cs xs 0) (.exit 2) (fiRT m p n cs xs n) (fiRV m p n cs xs n) :=
  loop_moves (n := n) (tm := fun k => (fiRT m p n cs xs k)) (vr := fun k => (fiRV m p n cs xs k)) (fun k hk => by
    obtain ⟨x, hx⟩ : ∃ x, xs[k]? = some x := ⟨_, List.getElem?_eq_getElem (by omega)⟩
    exact fiR_round hn hl hx (hg k x hx)) (by simp) fiR_exit
def foRT (m : Nat) (_l0 : (List Rat)) (ls : List (List Rat)) (k : Nat) : List Av := mkT 49 [(0, .one (.cel (.ent (rowOf m (ls.flatMap ratsC))))), (7, .one (.cel (.ent (rowOf m (ls.flatMap ratsC))))), (8, .one (.cel (.raw (.int .i64 (m : Int))))), (9, .one (.cel (.raw (.int .i64 ((k : Nat) : Int)))))]
def foRV (_m : Nat) (_l0 : (List Rat)) (_ls : List (List Rat)) (_k : Nat) : List (Nat × VarSt) := []
set_option maxRecDepth 100000 in
theorem foR_round {m : Nat} {l0 : (List Rat)} {ls : List (List Rat)} {k : Nat} {l : (List Rat)} (hm : m ≤ 17179869184) (hl : ls.length = m) (h0 : ls[0]? = some l0) (hx : ls[k]? = some l) (hn : l.length = l0.length) (hk : l0.length ≤ 16) (hg : ∀ (i : Nat) (x : Rat), l[i]? = some x → BQ 5 x) : AM.Moves Tryz.prog Glob (loopN Tryz.f33 0) (foRT m l0 ls k) (foRV m l0 ls k) .normal (foRT m l0 ls (k + 1)) (foRV m l0 ls (k + 1)) := by
  have hT : AllOk Tryz.prog Glob [
    Tr.norm 10 (Av.one (Sv.cel (Cv.raw (Value.bool (decide ((↑k : Int) < (↑m : Int))))))) (Av.one (boolS true)),
    Tr.told (Op.indexAddr 80 (Operand.tmp 7) (Operand.tmp 9)) 0 [Av.one (Sv.cel (Cv.ent (rowOf m (List.flatMap ratsC ls)))), Av.one (intS (↑k : Int))] (.one (.cel (.ent (ptrTo (ratsC l))))),
    Tr.told (Op.load 28 (Operand.tmp 11)) 28 [Av.one (Sv.cel (Cv.ent (ptrTo (ratsC l))))] (.one (ratsS l)),
    Tr.told (Op.indexAddr 80 (Operand.tmp 15) (Operand.const (Value.int IntKind.i64 (0 : Int)))) (nat_lit 0) [Av.one (Sv.cel (Cv.ent (rowOf m (List.flatMap ratsC ls)))), Av.one (ok0)] (.one (.cel (.ent (ptrTo (ratsC l0))))),
    Tr.told (Op.load 28 (Operand.tmp 16)) 28 [Av.one (Sv.cel (Cv.ent (ptrTo (ratsC l0))))] (.one (ratsS l0)),
    Tr.norm 21 (Av.one (Sv.cel (Cv.raw (Value.bool ((↑(List.length l) : Int) != (↑(List.length l0) : Int)))))) (Av.one (boolS false)),
    Tr.norm 25 (Av.one (Sv.cel (Cv.raw (Value.bool (decide ((↑(List.length l) : Int) > (16 : Int))))))) (Av.one (boolS false)),
    Tr.loop ((loopN Tryz.f33 1)) [nat_lit 0, nat_lit 7, nat_lit 8, nat_lit 9, nat_lit 25, nat_lit 26, nat_lit 27] [] ((fiRT m k l.length (ls.flatMap ratsC) l 0)) ([]) (Exit.exit (nat_lit 2)) ((fiRT m k l.length (ls.flatMap ratsC) l l.length)) ([]) (nat_lit 100),
    Tr.norm 100 (Av.one (intS (IntKind.wrap IntKind.i64 ((↑k : Int) + (1 : Int))))) (Av.one (intS (↑(k + (1 : Nat)) : Int)))] := ⟨
    norm_bool (lt_true (idx_lt hx hl)),
    idx_ok (e := 28) (s := 1) (j := k) (by kernel_rfl) (by kernel_rfl) rfl (idx_lt hx hl) (flat_get ratsC_len hx) (flat_ne ratsC_len (by omega) hx),
    load1_ok (by kernel_rfl) rfl,
    idx_ok (e := 28) (s := 1) (j := 0) (by kernel_rfl) (by kernel_rfl) rfl (idx_lt h0 hl) (flat_get ratsC_len h0) (flat_ne ratsC_len (by omega) h0),
    load1_ok (by kernel_rfl) rfl,
    norm_bool (by rw [hn]; exact ne_self),
    norm_bool (by rw [hn]; exact gt_false hk),
    fiR_loop (by omega) rfl hg,
    norm_succ (idx_lt hx hl) hm, trivial⟩
  exact moves_of_trace (n := 200) (k := 10) (keep := [0, 7, 8, 9]) (ids := []) hT (by kernel_rfl)

set_option maxRecDepth 100000 in
theorem foR_exit {m : Nat} {l0 : (List Rat)} {ls : List (List Rat)}  : AM.Moves Tryz.prog Glob (loopN Tryz.f33 0) (foRT m l0 ls m) (foRV m l0 ls m) (.exit 0) (foRT m l0 ls m) (foRV m l0 ls m) := by
  have hT : AllOk Tryz.prog Glob [
    Tr.norm 10 (Av.one (Sv.cel (Cv.raw (Value.bool (decide ((↑m : Int) < (↑m : Int))))))) (Av.one (boolS false))] := ⟨
    norm_bool (lt_false), trivial⟩
  exact moves_of_trace (n := 200) (k := 10) (keep := [0, 7, 8, 9]) (ids := []) hT (by kernel_rfl)

theorem foR_loop {m : Nat} {l0 : (List Rat)} {ls : List (List Rat)} (hm : m ≤ 17179869184) (hl : ls.length = m) (h0 : ls[0]? = some l0) (hg : ∀ l ∈ ls, l.length = l0.length ∧ l0.length ≤ 16 ∧ ∀ x ∈ l, BQ 5 x) :
    AM.Moves Tryz.prog Glob (.loop (loopN Tryz.f33 0)) (foRT m l0 ls 0) (foRV m l0 ls 0) (.exit 0) (foRT m l0 ls m) (foRV m l0 ls m) :=
  loop_moves (n := m) (tm := fun k => (foRT m l0 ls k)) (vr := fun k => (foRV m l0 ls k)) (fun k hk => by
    obtain ⟨l, hl⟩ : ∃ l, ls[k]? = some l := ⟨_, List.getElem?_eq_getElem (by omega)⟩
    obtain ⟨a, b, c⟩ := hg l (List.mem_of_getElem? hl)
    exact foR_round hm (by assumption) h0 hl a b (fun i x hi => c x (List.mem_of_getElem? hi))) (by simp) foR_exit
set_option maxRecDepth 100000 in
theorem foR_true {m : Nat} {l0 : (List Rat)} {ls : List (List Rat)} (hm : m ≤ 17179869184) (hl : ls.length = m) (h0 : ls[0]? = some l0) (hg : ∀ l ∈ ls, l.length = l0.length ∧ l0.length ≤ 16 ∧ ∀ x ∈ l, BQ 5 x) : FitsP 33 [.cel (.ent (rowOf m (ls.flatMap ratsC)))] [] (.one (boolS true)) := by
  have hT : AllOk Tryz.prog Glob [
    Tr.loop ((loopN Tryz.f33 0)) [nat_lit 0, nat_lit 7, nat_lit 8, nat_lit 9] [] ((foRT m l0 ls 0)) ((foRV m l0 ls 0)) (Exit.exit (nat_lit 0)) ((foRT m l0 ls m)) ((foRV m l0 ls m)) (nat_lit 100)] := ⟨
    foR_loop hm hl h0 hg, trivial⟩
  exact fits_of_trace (n := 300) (k0 := 0) hT Tryz.func33 (by kernel_rfl) (by kernel_rfl) (by kernel_rfl)

def fiAT (m p n : Nat) (cs : List Cv) (xs : List Ag) (k : Nat) : List Av := mkT 49 [(0, .one (.cel (.ent (rowOf m cs)))), (7, .one (.cel (.ent (rowOf m cs)))), (8, .one (.cel (.raw (.int .i64 (m : Int))))), (9, .one (.cel (.raw (.int .i64 (p : Int))))), (25, .one (.cel (.ent (rowOf n (xs.flatMap agC))))), (26, .one (.cel (.raw (.int .i64 (n : Int))))), (27, .one (.cel (.raw (.int .i64 ((k : Nat) : Int)))))]
def fiAV (_m _p _n : Nat) (_cs : List Cv) (_xs : List Ag) (_k : Nat) : List (Nat × VarSt) := []
set_option maxRecDepth 100000 in
theorem fiA_round {m p n : Nat} {cs : List Cv} {xs : List Ag} {k : Nat} {x : Ag} (hn : n ≤ 17179869184) (hl : xs.length = n) (hx : xs[k]? = some x) {q : Rat} (hg : x.Good 5 q) : AM.Moves Tryz.prog Glob (loopN Tryz.f33 1) (fiAT m p n cs xs k) (fiAV m p n cs xs k) .normal (fiAT m p n cs xs (k + 1)) (fiAV m p n cs xs (k + 1)) := by
  have hT : AllOk Tryz.prog Glob [
    Tr.norm 60 (Av.one (Sv.cel (Cv.raw (Value.bool (decide ((↑k : Int) < (↑n : Int))))))) (Av.one (boolS true)),
    Tr.told (Op.indexAddr 28 (Operand.tmp 25) (Operand.tmp 27)) 0 [Av.one (Sv.cel (Cv.ent (rowOf n (List.flatMap agC xs)))), Av.one (intS (↑k : Int))] (.one (.cel (.ent (ptrTo (agC x))))),
    Tr.told (Op.load 27 (Operand.tmp 29)) 27 [Av.one (Sv.cel (Cv.ent (ptrTo (agC x))))] (.one (agS x)),
    Tr.norm 70 (Av.one (Sv.cel (Cv.raw (Value.bool (decide ((↑(List.length (Ag.xs x)) : Int) > (5 : Int))))))) (Av.one (boolS false)),
    Tr.norm 76 (Av.one (Sv.cel (Cv.raw (Value.bool (decide ((↑(List.length (Ag.ds x)) : Int) > (5 : Int))))))) (Av.one (boolS false)),
    Tr.call 19 [Sv.agg [Cv.raw (Value.bool (Ag.m x)), Cv.ent (argE (Ag.xs x)), Cv.ent (argE (Ag.ds x))]] [] (Av.one (ok0)),
    Tr.norm 81 (Av.one (intS (IntKind.wrap IntKind.i64 ((↑k : Int) + (1 : Int))))) (Av.one (intS (↑(k + (1 : Nat)) : Int)))] := ⟨
    norm_bool (lt_true (idx_lt hx hl)),
    idx_ok (e := 27) (s := 3) (j := k) (by kernel_rfl) (by kernel_rfl) rfl (idx_lt hx hl) (flat_get agC_len hx) (flat_ne agC_len (by omega) hx),
    loadn_ok (by kernel_rfl) (by kernel_rfl) (Nat.le_refl _) rfl,
    norm_bool (gt_false hg.len1),
    norm_bool (gt_false hg.len2),
    hg.check (by omega),
    norm_succ (idx_lt hx hl) hn, trivial⟩
  exact moves_of_trace (n := 200) (k := 60) (keep := [0, 7, 8, 9, 25, 26, 27]) (ids := []) hT (by kernel_rfl)

set_option maxRecDepth 100000 in
theorem fiA_exit {m p n : Nat} {cs : List Cv} {xs : List Ag}  : AM.Moves Tryz.prog Glob (loopN Tryz.f33 1) (fiAT m p n cs xs n) (fiAV m p n cs xs n) (.exit 2) (fiAT m p n cs xs n) (fiAV m p n cs xs n) := by
  have hT : AllOk Tryz.prog Glob [
    Tr.norm 60 (Av.one (Sv.cel (Cv.raw (Value.bool (decide ((↑n : Int) < (↑n : Int))))))) (Av.one (boolS false))] := ⟨
    norm_bool (lt_false), trivial⟩
  exact moves_of_trace (n := 200) (k := 60) (keep := [0, 7, 8, 9, 25, 26, 27]) (ids := []) hT (by kernel_rfl)

theorem fiA_loop {m p n : Nat} {cs : List Cv} {xs : List Ag} (hn : n ≤ 17179869184) (hl : xs.length = n) (hg : ∀ (k : Nat) (x : Ag), xs[k]? = some x → ∃ q, x.Good 5 q) :
    AM.Moves Tryz.prog Glob (.loop (loopN Tryz.f33 1)) (fiAT m p n cs xs 0) (fiAV m p n cs xs 0) (.exit 2) (fiAT m p n cs xs n) (fiAV m p n cs xs n) :=
  loop_moves (n := n) (tm := fun k => (fiAT m p n cs xs k)) (vr := fun k => (fiAV m p n cs xs k)) (fun k hk => by
    obtain ⟨x, hx⟩ : ∃ x, xs[k]? = some x := ⟨_, List.getElem?_eq_getElem (by omega)⟩
    obtain ⟨q, hq⟩ := hg k x hx
    exact fiA_round hn hl hx hq) (by simp) fiA_exit
set_option maxRecDepth 100000 in
theorem fiA_o1 {m p n : Nat} {cs : List Cv} {xs : List Ag} {k : Nat} {x : Ag} (hl : xs.length = n) (hx : xs[k]? = some x) (hb : 5 < x.xs.length) : AM.Moves Tryz.prog Glob (loopN Tryz.f33 1) (fiAT m p n cs xs k) (fiAV m p n cs xs k) .ret (mkT 49 [(2, .one (boolS false))]) [] := by
  have hT : AllOk Tryz.prog Glob [
    Tr.norm 60 (Av.one (Sv.cel (Cv.raw (Value.bool (decide ((↑k : Int) < (↑n : Int))))))) (Av.one (boolS true)),
    Tr.told (Op.indexAddr 28 (Operand.tmp 25) (Operand.tmp 27)) 0 [Av.one (Sv.cel (Cv.ent (rowOf n (List.flatMap agC xs)))), Av.one (intS (↑k : Int))] (.one (.cel (.ent (ptrTo (agC x))))),
    Tr.told (Op.load 27 (Operand.tmp 29)) 27 [Av.one (Sv.cel (Cv.ent (ptrTo (agC x))))] (.one (agS x)),
    Tr.norm 70 (Av.one (Sv.cel (Cv.raw (Value.bool (decide ((↑(List.length (Ag.xs x)) : Int) > (5 : Int))))))) (Av.one (boolS true))] := ⟨
    norm_bool (lt_true (idx_lt hx hl)),
    idx_ok (e := 27) (s := 3) (j := k) (by kernel_rfl) (by kernel_rfl) rfl (idx_lt hx hl) (flat_get agC_len hx) (flat_ne agC_len (by omega) hx),
    loadn_ok (by kernel_rfl) (by kernel_rfl) (Nat.le_refl _) rfl,
    norm_bool (gt_true hb), trivial⟩
  exact moves_of_trace (n := 200) (k := 60) (keep := [2]) (ids := []) hT (by kernel_rfl)

set_option maxRecDepth 100000 in
theorem fiA_o2 {m p n : Nat} {cs : List Cv} {xs : List Ag} {k : Nat} {x : Ag} (hl : xs.length = n) (hx : xs[k]? = some x) (h1 : x.xs.length ≤ 5) (hb : 5 < x.ds.length) : AM.Moves Tryz.prog Glob (loopN Tryz.f33 1) (fiAT m p n cs xs k) (fiAV m p n cs xs k) .ret (mkT 49 [(2, .one (boolS false))]) [] := by
  have hT : AllOk Tryz.prog Glob [
    Tr.norm 60 (Av.one (Sv.cel (Cv.raw (Value.bool (decide ((↑k : Int) < (↑n : Int))))))) (Av.one (boolS true)),
    Tr.told (Op.indexAddr 28 (Operand.tmp 25) (Operand.tmp 27)) 0 [Av.one (Sv.cel (Cv.ent (rowOf n (List.flatMap agC xs)))), Av.one (intS (↑k : Int))] (.one (.cel (.ent (ptrTo (agC x))))),
    Tr.told (Op.load 27 (Operand.tmp 29)) 27 [Av.one (Sv.cel (Cv.ent (ptrTo (agC x))))] (.one (agS x)),
    Tr.norm 70 (Av.one (Sv.cel (Cv.raw (Value.bool (decide ((↑(List.length (Ag.xs x)) : Int) > (5 : Int))))))) (Av.one (boolS false)),
    Tr.norm 76 (Av.one (Sv.cel (Cv.raw (Value.bool (decide ((↑(List.length (Ag.ds x)) : Int) > (5 : Int))))))) (Av.one (boolS true))] := ⟨
    norm_bool (lt_true (idx_lt hx hl)),
    idx_ok (e := 27) (s := 3) (j := k) (by kernel_rfl) (by kernel_rfl) rfl (idx_lt hx hl) (flat_get agC_len hx) (flat_ne agC_len (by omega) hx),
    loadn_ok (by kernel_rfl) (by kernel_rfl) (Nat.le_refl _) rfl,
    norm_bool (gt_false h1),
    norm_bool (gt_true hb), trivial⟩
  exact moves_of_trace (n := 200) (k := 60) (keep := [2]) (ids := []) hT (by kernel_rfl)

set_option maxRecDepth 100000 in
theorem fiA_o3 {m p n : Nat} {cs : List Cv} {xs : List Ag} {k : Nat} {x : Ag} (hl : xs.length = n) (hx : xs[k]? = some x) (h1 : x.xs.length ≤ 5) (h2 : x.ds.length ≤ 5) {c : Int} (hc : c ≠ 0) (hb : FitsP 19 [agS x] [] (.one (intS c))) : AM.Moves Tryz.prog Glob (loopN Tryz.f33 1) (fiAT m p n cs xs k) (fiAV m p n cs xs k) .ret (mkT 49 [(2, .one (boolS false))]) [] := by
  have hT : AllOk Tryz.prog Glob [
    Tr.norm 60 (Av.one (Sv.cel (Cv.raw (Value.bool (decide ((↑k : Int) < (↑n : Int))))))) (Av.one (boolS true)),
    Tr.told (Op.indexAddr 28 (Operand.tmp 25) (Operand.tmp 27)) 0 [Av.one (Sv.cel (Cv.ent (rowOf n (List.flatMap agC xs)))), Av.one (intS (↑k : Int))] (.one (.cel (.ent (ptrTo (agC x))))),
    Tr.told (Op.load 27 (Operand.tmp 29)) 27 [Av.one (Sv.cel (Cv.ent (ptrTo (agC x))))] (.one (agS x)),
    Tr.norm 70 (Av.one (Sv.cel (Cv.raw (Value.bool (decide ((↑(List.length (Ag.xs x)) : Int) > (5 : Int))))))) (Av.one (boolS false)),
    Tr.norm 76 (Av.one (Sv.cel (Cv.raw (Value.bool (decide ((↑(List.length (Ag.ds x)) : Int) > (5 : Int))))))) (Av.one (boolS false)),
    Tr.call 19 [Sv.agg [Cv.raw (Value.bool (Ag.m x)), Cv.ent (argE (Ag.xs x)), Cv.ent (argE (Ag.ds x))]] [] (Av.one (intS c)),
    Tr.norm 80 (Av.one (Sv.cel (Cv.raw (Value.bool (c != (0 : Int)))))) (Av.one (boolS true))] := ⟨
    norm_bool (lt_true (idx_lt hx hl)),
    idx_ok (e := 27) (s := 3) (j := k) (by kernel_rfl) (by kernel_rfl) rfl (idx_lt hx hl) (flat_get agC_len hx) (flat_ne agC_len (by omega) hx),
    loadn_ok (by kernel_rfl) (by kernel_rfl) (Nat.le_refl _) rfl,
    norm_bool (gt_false h1),
    norm_bool (gt_false h2),
    hb,
    norm_bool (ne_true hc), trivial⟩
  exact moves_of_trace (n := 200) (k := 60) (keep := [2]) (ids := []) hT (by kernel_rfl)

theorem fiA_out {m p n : Nat} {cs : List Cv} {xs : List Ag} {k : Nat} {x : Ag} (hl : xs.length = n) (hx : xs[k]? = some x) (hb : x.Bad 5) : AM.Moves Tryz.prog Glob (loopN Tryz.f33 1) (fiAT m p n cs xs k) (fiAV m p n cs xs k) .ret (mkT 49 [(2, .one (boolS false))]) [] := by
  rcases hb with h | ⟨h1, h⟩ | ⟨h1, h2, c, hc, h⟩
  · exact fiA_o1 hl hx h
  · exact fiA_o2 hl hx h1 h
  · exact fiA_o3 hl hx h1 h2 hc h
theorem fiA_brk {m p n : Nat} {cs : List Cv} {xs : List Ag} (hn : n ≤ 17179869184) (hl : xs.length = n) {j : Nat} {x : Ag} (hx : xs[j]? = some x) (hb : x.Bad 5) (hg : ∀ (k : Nat) (x : Ag), k < j → xs[k]? = some x → ∃ q, x.Good 5 q) :
    AM.Moves Tryz.prog Glob (.loop (loopN Tryz.f33 1)) (fiAT m p n cs xs 0) (fiAV m p n cs xs 0) .ret (mkT 49 [(2, .one (boolS false))]) [] :=
  loop_moves (n := j) (tm := fun k => (fiAT m p n cs xs k)) (vr := fun k => (fiAV m p n cs xs k)) (fun k hk => by
    have hj := idx_lt hx hl
    obtain ⟨y, hy⟩ : ∃ y, xs[k]? = some y := ⟨_, List.getElem?_eq_getElem (by omega)⟩
    obtain ⟨q, hq⟩ := hg k y hk hy
    exact fiA_round hn hl hy hq) (by simp) (fiA_out hl hx hb)
def foAT (m : Nat) (_l0 : (List Ag)) (ls : List (List Ag)) (k : Nat) : List Av := mkT 49 [(0, .one (.cel (.ent (rowOf m (ls.flatMap agsC))))), (7, .one (.cel (.ent (rowOf m (ls.flatMap agsC))))), (8, .one (.cel (.raw (.int .i64 (m : Int))))), (9, .one (.cel (.raw (.int .i64 ((k : Nat) : Int)))))]
def foAV (_m : Nat) (_l0 : (List Ag)) (_ls : List (List Ag)) (_k : Nat) : List (Nat × VarSt) := []
set_option maxRecDepth 100000 in
theorem foA_round {m : Nat} {l0 : (List Ag)} {ls : List (List Ag)} {k : Nat} {l : (List Ag)} (hm : m ≤ 17179869184) (hl : ls.length = m) (h0 : ls[0]? = some l0) (hx : ls[k]? = some l) (hn : l.length = l0.length) (hk : l0.length ≤ 16) (hg : ∀ (i : Nat) (x : Ag), l[i]? = some x → ∃ q, x.Good 5 q) : AM.Moves Tryz.prog Glob (loopN Tryz.f33 0) (foAT m l0 ls k) (foAV m l0 ls k) .normal (foAT m l0 ls (k + 1)) (foAV m l0 ls (k + 1)) := by
  have hT : AllOk Tryz.prog Glob [
    Tr.norm 10 (Av.one (Sv.cel (Cv.raw (Value.bool (decide ((↑k : Int) < (↑m : Int))))))) (Av.one (boolS true)),
    Tr.told (Op.indexAddr 80 (Operand.tmp 7) (Operand.tmp 9)) 0 [Av.one (Sv.cel (Cv.ent (rowOf m (List.flatMap agsC ls)))), Av.one (intS (↑k : Int))] (.one (.cel (.ent (ptrTo (agsC l))))),
    Tr.told (Op.load 28 (Operand.tmp 11)) 28 [Av.one (Sv.cel (Cv.ent (ptrTo (agsC l))))] (.one (agsS l)),
    Tr.told (Op.indexAddr 80 (Operand.tmp 15) (Operand.const (Value.int IntKind.i64 (0 : Int)))) (nat_lit 0) [Av.one (Sv.cel (Cv.ent (rowOf m (List.flatMap agsC ls)))), Av.one (ok0)] (.one (.cel (.ent (ptrTo (agsC l0))))),
    Tr.told (Op.load 28 (Operand.tmp 16)) 28 [Av.one (Sv.cel (Cv.ent (ptrTo (agsC l0))))] (.one (agsS l0)),
    Tr.norm 21 (Av.one (Sv.cel (Cv.raw (Value.bool ((↑(List.length l) : Int) != (↑(List.length l0) : Int)))))) (Av.one (boolS false)),
    Tr.norm 25 (Av.one (Sv.cel (Cv.raw (Value.bool (decide ((↑(List.length l) : Int) > (16 : Int))))))) (Av.one (boolS false)),
    Tr.loop ((loopN Tryz.f33 1)) [nat_lit 0, nat_lit 7, nat_lit 8, nat_lit 9, nat_lit 25, nat_lit 26, nat_lit 27] [] ((fiAT m k l.length (ls.flatMap agsC) l 0)) ([]) (Exit.exit (nat_lit 2)) ((fiAT m k l.length (ls.flatMap agsC) l l.length)) ([]) (nat_lit 100),
    Tr.norm 100 (Av.one (intS (IntKind.wrap IntKind.i64 ((↑k : Int) + (1 : Int))))) (Av.one (intS (↑(k + (1 : Nat)) : Int)))] := ⟨
    norm_bool (lt_true (idx_lt hx hl)),
    idx_ok (e := 28) (s := 1) (j := k) (by kernel_rfl) (by kernel_rfl) rfl (idx_lt hx hl) (flat_get agsC_len hx) (flat_ne agsC_len (by omega) hx),
    load1_ok (by kernel_rfl) rfl,
    idx_ok (e := 28) (s := 1) (j := 0) (by kernel_rfl) (by kernel_rfl) rfl (idx_lt h0 hl) (flat_get agsC_len h0) (flat_ne agsC_len (by omega) h0),
    load1_ok (by kernel_rfl) rfl,
    norm_bool (by rw [hn]; exact ne_self),
    norm_bool (by rw [hn]; exact gt_false hk),
    fiA_loop (by omega) rfl hg,
    norm_succ (idx_lt hx hl) hm, trivial⟩
  exact moves_of_trace (n := 200) (k := 10) (keep := [0, 7, 8, 9]) (ids := []) hT (by kernel_rfl)

set_option maxRecDepth 100000 in
theorem foA_exit {m : Nat} {l0 : (List Ag)} {ls : List (List Ag)}  : AM.Moves Tryz.prog Glob (loopN Tryz.f33 0) (foAT m l0 ls m) (foAV m l0 ls m) (.exit 0) (foAT m l0 ls m) (foAV m l0 ls m) := by
  have hT : AllOk Tryz.prog Glob [
    Tr.norm 10 (Av.one (Sv.cel (Cv.raw (Value.bool (decide ((↑m : Int) < (↑m : Int))))))) (Av.one (boolS false))] := ⟨
    norm_bool (lt_false), trivial⟩
  exact moves_of_trace (n := 200) (k := 10) (keep := [0, 7, 8, 9]) (ids := []) hT (by kernel_rfl)

set_option maxRecDepth 100000 in
theorem foA_o1 {m : Nat} {l0 : (List Ag)} {ls : List (List Ag)} {k : Nat} {l : (List Ag)} (hl : ls.length = m) (h0 : ls[0]? = some l0) (hx : ls[k]? = some l) (hn : l.length ≠ l0.length) : AM.Moves Tryz.prog Glob (loopN Tryz.f33 0) (foAT m l0 ls k) (foAV m l0 ls k) .ret (mkT 49 [(2, .one (boolS false))]) [] := by
  have hT : AllOk Tryz.prog Glob [
    Tr.norm 10 (Av.one (Sv.cel (Cv.raw (Value.bool (decide ((↑k : Int) < (↑m : Int))))))) (Av.one (boolS true)),
    Tr.told (Op.indexAddr 80 (Operand.tmp 7) (Operand.tmp 9)) 0 [Av.one (Sv.cel (Cv.ent (rowOf m (List.flatMap agsC ls)))), Av.one (intS (↑k : Int))] (.one (.cel (.ent (ptrTo (agsC l))))),
    Tr.told (Op.load 28 (Operand.tmp 11)) 28 [Av.one (Sv.cel (Cv.ent (ptrTo (agsC l))))] (.one (agsS l)),
    Tr.told (Op.indexAddr 80 (Operand.tmp 15) (Operand.const (Value.int IntKind.i64 (0 : Int)))) (nat_lit 0) [Av.one (Sv.cel (Cv.ent (rowOf m (List.flatMap agsC ls)))), Av.one (ok0)] (.one (.cel (.ent (ptrTo (agsC l0))))),
    Tr.told (Op.load 28 (Operand.tmp 16)) 28 [Av.one (Sv.cel (Cv.ent (ptrTo (agsC l0))))] (.one (agsS l0)),
    Tr.norm 21 (Av.one (Sv.cel (Cv.raw (Value.bool ((↑(List.length l) : Int) != (↑(List.length l0) : Int)))))) (Av.one (boolS true))] := ⟨
    norm_bool (lt_true (idx_lt hx hl)),
    idx_ok (e := 28) (s := 1) (j := k) (by kernel_rfl) (by kernel_rfl) rfl (idx_lt hx hl) (flat_get agsC_len hx) (flat_ne agsC_len (by omega) hx),
    load1_ok (by kernel_rfl) rfl,
    idx_ok (e := 28) (s := 1) (j := 0) (by kernel_rfl) (by kernel_rfl) rfl (idx_lt h0 hl) (flat_get agsC_len h0) (flat_ne agsC_len (by omega) h0),
    load1_ok (by kernel_rfl) rfl,
    norm_bool (ne_len hn), trivial⟩
  exact moves_of_trace (n := 200) (k := 10) (keep := [2]) (ids := []) hT (by kernel_rfl)

set_option maxRecDepth 100000 in
theorem foA_o2 {m : Nat} {l0 : (List Ag)} {ls : List (List Ag)} {k : Nat} {l : (List Ag)} (hl : ls.length = m) (h0 : ls[0]? = some l0) (hx : ls[k]? = some l) (hn : l.length = l0.length) (hk : 16 < l0.length) : AM.Moves Tryz.prog Glob (loopN Tryz.f33 0) (foAT m l0 ls k) (foAV m l0 ls k) .ret (mkT 49 [(2, .one (boolS false))]) [] := by
  have hT : AllOk Tryz.prog Glob [
    Tr.norm 10 (Av.one (Sv.cel (Cv.raw (Value.bool (decide ((↑k : Int) < (↑m : Int))))))) (Av.one (boolS true)),
    Tr.told (Op.indexAddr 80 (Operand.tmp 7) (Operand.tmp 9)) 0 [Av.one (Sv.cel (Cv.ent (rowOf m (List.flatMap agsC ls)))), Av.one (intS (↑k : Int))] (.one (.cel (.ent (ptrTo (agsC l))))),
    Tr.told (Op.load 28 (Operand.tmp 11)) 28 [Av.one (Sv.cel (Cv.ent (ptrTo (agsC l))))] (.one (agsS l)),
    Tr.told (Op.indexAddr 80 (Operand.tmp 15) (Operand.const (Value.int IntKind.i64 (0 : Int)))) (nat_lit 0) [Av.one (Sv.cel (Cv.ent (rowOf m (List.flatMap agsC ls)))), Av.one (ok0)] (.one (.cel (.ent (ptrTo (agsC l0))))),
    Tr.told (Op.load 28 (Operand.tmp 16)) 28 [Av.one (Sv.cel (Cv.ent (ptrTo (agsC l0))))] (.one (agsS l0)),
    Tr.norm 21 (Av.one (Sv.cel (Cv.raw (Value.bool ((↑(List.length l) : Int) != (↑(List.length l0) : Int)))))) (Av.one (boolS false)),
    Tr.norm 25 (Av.one (Sv.cel (Cv.raw (Value.bool (decide ((↑(List.length l) : Int) > (16 : Int))))))) (Av.one (boolS true))] := ⟨
    norm_bool (lt_true (idx_lt hx hl)),
    idx_ok (e := 28) (s := 1) (j := k) (by kernel_rfl) (by kernel_rfl) rfl (idx_lt hx hl) (flat_get agsC_len hx) (flat_ne agsC_len (by omega) hx),
    load1_ok (by kernel_rfl) rfl,
    idx_ok (e := 28) (s := 1) (j := 0) (by kernel_rfl) (by kernel_rfl) rfl (idx_lt h0 hl) (flat_get agsC_len h0) (flat_ne agsC_len (by omega) h0),
    load1_ok (by kernel_rfl) rfl,
    norm_bool (by rw [hn]; exact ne_self),
    norm_bool (by rw [hn]; exact gt_true hk), trivial⟩
  exact moves_of_trace (n := 200) (k := 10) (keep := [2]) (ids := []) hT (by kernel_rfl)

set_option maxRecDepth 100000 in
theorem foA_o3 {m : Nat} {l0 : (List Ag)} {ls : List (List Ag)} {k : Nat} {l : (List Ag)} (hl : ls.length = m) (h0 : ls[0]? = some l0) (hx : ls[k]? = some l) (hn : l.length = l0.length) (hk : l0.length ≤ 16) {j : Nat} {x : Ag} (hj : l[j]? = some x) (hb : x.Bad 5) (hg : ∀ (i : Nat) (x : Ag), i < j → l[i]? = some x → ∃ q, x.Good 5 q) : AM.Moves Tryz.prog Glob (loopN Tryz.f33 0) (foAT m l0 ls k) (foAV m l0 ls k) .ret (mkT 49 [(2, .one (boolS false))]) [] := by
  have hT : AllOk Tryz.prog Glob [
    Tr.norm 10 (Av.one (Sv.cel (Cv.raw (Value.bool (decide ((↑k : Int) < (↑m : Int))))))) (Av.one (boolS true)),
    Tr.told (Op.indexAddr 80 (Operand.tmp 7) (Operand.tmp 9)) 0 [Av.one (Sv.cel (Cv.ent (rowOf m (List.flatMap agsC ls)))), Av.one (intS (↑k : Int))] (.one (.cel (.ent (ptrTo (agsC l))))),
    Tr.told (Op.load 28 (Operand.tmp 11)) 28 [Av.one (Sv.cel (Cv.ent (ptrTo (agsC l))))] (.one (agsS l)),
    Tr.told (Op.indexAddr 80 (Operand.tmp 15) (Operand.const (Value.int IntKind.i64 (0 : Int)))) (nat_lit 0) [Av.one (Sv.cel (Cv.ent (rowOf m (List.flatMap agsC ls)))), Av.one (ok0)] (.one (.cel (.ent (ptrTo (agsC l0))))),
    Tr.told (Op.load 28 (Operand.tmp 16)) 28 [Av.one (Sv.cel (Cv.ent (ptrTo (agsC l0))))] (.one (agsS l0)),
    Tr.norm 21 (Av.one (Sv.cel (Cv.raw (Value.bool ((↑(List.length l) : Int) != (↑(List.length l0) : Int)))))) (Av.one (boolS false)),
    Tr.norm 25 (Av.one (Sv.cel (Cv.raw (Value.bool (decide ((↑(List.length l) : Int) > (16 : Int))))))) (Av.one (boolS false)),
    Tr.loop ((loopN Tryz.f33 1)) [nat_lit 0, nat_lit 7, nat_lit 8, nat_lit 9, nat_lit 25, nat_lit 26, nat_lit 27] [] ((fiAT m k l.length (ls.flatMap agsC) l 0)) ([]) Exit.ret ((mkT 49 [(2, .one (boolS false))])) ([]) (nat_lit 100)] := ⟨
    norm_bool (lt_true (idx_lt hx hl)),
    idx_ok (e := 28) (s := 1) (j := k) (by kernel_rfl) (by kernel_rfl) rfl (idx_lt hx hl) (flat_get agsC_len hx) (flat_ne agsC_len (by omega) hx),
    load1_ok (by kernel_rfl) rfl,
    idx_ok (e := 28) (s := 1) (j := 0) (by kernel_rfl) (by kernel_rfl) rfl (idx_lt h0 hl) (flat_get agsC_len h0) (flat_ne agsC_len (by omega) h0),
    load1_ok (by kernel_rfl) rfl,
    norm_bool (by rw [hn]; exact ne_self),
    norm_bool (by rw [hn]; exact gt_false hk),
    fiA_brk (by omega) rfl hj hb hg, trivial⟩
  exact moves_of_trace (n := 200) (k := 10) (keep := [2]) (ids := []) hT (by kernel_rfl)

theorem foA_out {m : Nat} {l0 : (List Ag)} {ls : List (List Ag)} {k : Nat} {l : List Ag} (hl : ls.length = m) (h0 : ls[0]? = some l0) (hx : ls[k]? = some l) (hb : (l.length ≠ l0.length ∨ 16 < l0.length ∨ ∃ (j : Nat) (x : Ag), l[j]? = some x ∧ x.Bad 5 ∧ ∀ (i : Nat) (x : Ag), i < j → l[i]? = some x → ∃ q, x.Good 5 q)) : AM.Moves Tryz.prog Glob (loopN Tryz.f33 0) (foAT m l0 ls k) (foAV m l0 ls k) .ret (mkT 49 [(2, .one (boolS false))]) [] := by
  by_cases h1 : l.length = l0.length
  · by_cases h2 : 16 < l0.length
    · exact foA_o2 hl h0 hx h1 h2
    · rcases hb with h | h | ⟨j, x, a, b, c⟩
      · exact absurd h1 h
      · exact absurd h h2
      · exact foA_o3 hl h0 hx h1 (by omega) a b c
  · exact foA_o1 hl h0 hx h1
theorem foA_brk {m : Nat} {l0 : (List Ag)} {ls : List (List Ag)} (hm : m ≤ 17179869184) (hl : ls.length = m) (h0 : ls[0]? = some l0) {j : Nat} {l : List Ag} (hx : ls[j]? = some l) (hb : (l.length ≠ l0.length ∨ 16 < l0.length ∨ ∃ (j : Nat) (x : Ag), l[j]? = some x ∧ x.Bad 5 ∧ ∀ (i : Nat) (x : Ag), i < j → l[i]? = some x → ∃ q, x.Good 5 q)) (hg : ∀ (k : Nat) (l : List Ag), k < j → ls[k]? = some l → l.length = l0.length ∧ l0.length ≤ 16 ∧ ∀ (i : Nat) (x : Ag), l[i]? = some x → ∃ q, x.Good 5 q) :
    AM.Moves Tryz.prog Glob (.loop (loopN Tryz.f33 0)) (foAT m l0 ls 0) (foAV m l0 ls 0) .ret (mkT 49 [(2, .one (boolS false))]) [] :=
  loop_moves (n := j) (tm := fun k => (foAT m l0 ls k)) (vr := fun k => (foAV m l0 ls k)) (fun k hk => by
    have hj := idx_lt hx hl
    obtain ⟨y, hy⟩ : ∃ y, ls[k]? = some y := ⟨_, List.getElem?_eq_getElem (by omega)⟩
    obtain ⟨a, b, c⟩ := hg k y hk hy
    exact foA_round hm hl h0 hy a b c) (by simp) (foA_out hl h0 hx hb)
set_option maxRecDepth 100000 in
theorem foA_false {m : Nat} {l0 : (List Ag)} {ls : List (List Ag)} (hm : m ≤ 17179869184) (hl : ls.length = m) (h0 : ls[0]? = some l0) {j : Nat} {l : List Ag} (hx : ls[j]? = some l) (hb : (l.length ≠ l0.length ∨ 16 < l0.length ∨ ∃ (j : Nat) (x : Ag), l[j]? = some x ∧ x.Bad 5 ∧ ∀ (i : Nat) (x : Ag), i < j → l[i]? = some x → ∃ q, x.Good 5 q)) (hg : ∀ (k : Nat) (l : List Ag), k < j → ls[k]? = some l → l.length = l0.length ∧ l0.length ≤ 16 ∧ ∀ (i : Nat) (x : Ag), l[i]? = some x → ∃ q, x.Good 5 q) : FitsP 33 [.cel (.ent (rowOf m (ls.flatMap agsC)))] [] (.one (boolS false)) := by
  have hT : AllOk Tryz.prog Glob [
    Tr.loop ((loopN Tryz.f33 0)) [nat_lit 0, nat_lit 7, nat_lit 8, nat_lit 9] [] ((foAT m l0 ls 0)) ([]) Exit.ret ((mkT 49 [(2, .one (boolS false))])) ([]) (nat_lit 100)] := ⟨
    foA_brk hm hl h0 hx hb hg, trivial⟩
  exact fits_of_trace (n := 300) (k0 := 0) hT Tryz.func33 (by kernel_rfl) (by kernel_rfl) (by kernel_rfl)
end Go.Proofs.YtejkcmklhmifaaaGreatDoor
