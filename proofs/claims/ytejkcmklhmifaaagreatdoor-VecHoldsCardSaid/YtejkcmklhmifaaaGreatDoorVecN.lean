/- The greatest size of a row of spans. -/
import Derived.Test.YtejkcmklhmifaaaGreatDoorVecS
import Derived.Test.YtejkcmklhmifaaaGreatDoorDyF
namespace Go.Proofs.YtejkcmklhmifaaaGreatDoor
open Go Go.RowKit Go.Shelf AM
def nrmT (n : Nat) (xs : List (Dy × Dy)) (_acc : Nat → Dy) (k : Nat) : List Av := mkT 18 [(2, .one (.cel (.ptr 0 0))), (3, .one (.cel (.ptr 1 0))), (6, .one (.cel (.ent (rowOf n (xs.flatMap spC))))), (7, .one (.cel (.raw (.int .i64 (n : Int))))), (8, .one (.cel (.raw (.int .i64 ((k : Nat) : Int)))))]
def nrmV (_n : Nat) (_xs : List (Dy × Dy)) (acc : Nat → Dy) (k : Nat) : List (Nat × VarSt) := [(0, ⟨30, [.raw (.bool false), .raw (.slice none 0 0), .raw (.int .i64 0)], true, .no⟩), (1, ⟨30, [.raw (.bool (decide ((acc (k)).m < 0))), .ent (nat (acc (k)).m.natAbs), .raw (.int .i64 (acc (k)).e)], true, .no⟩)]
set_option maxRecDepth 100000 in
theorem nrm_round {n : Nat} {xs : List (Dy × Dy)} {acc : Nat → Dy} {k : Nat} {x : Dy × Dy} {s : Dy} (hn : n ≤ 17179869184) (hl : xs.length = n) (hx : xs[k]? = some x) (hs : FitsP 118 [spQ x] [] (.one (dS s))) (hc : FitsP 117 [dS (acc k), dS s] [] (.one (dS (acc (k + 1))))) : AM.Moves Tryz.prog Glob (loopN Tryz.f45 0) (nrmT n xs acc k) (nrmV n xs acc k) .normal (nrmT n xs acc (k + 1)) (nrmV n xs acc (k + 1)) := by
  have hT : AllOk Tryz.prog Glob [
    Tr.norm 20 (Av.one (Sv.cel (Cv.raw (Value.bool (decide ((↑k : Int) < (↑n : Int))))))) (Av.one (boolS true)),
    Tr.told (Op.indexAddr 65 (Operand.tmp 6) (Operand.tmp 8)) 0 [Av.one (Sv.cel (Cv.ent (rowOf n (List.flatMap spC xs)))), Av.one (intS (↑k : Int))] (.one (.cel (.ent (ptrTo (spC x))))),
    Tr.told (Op.load 32 (Operand.tmp 10)) 32 [Av.one (Sv.cel (Cv.ent (ptrTo (spC x))))] (.one (spQ x)),
    Tr.call 118 [spS (Prod.fst x) (Prod.snd x)] [] (Av.one (dS s)),
    Tr.call 117 [dS (acc k), dS s] [] (Av.one (dS (acc (k + (1 : Nat))))),
    Tr.norm 30 (Av.one (intS (IntKind.wrap IntKind.i64 ((↑k : Int) + (1 : Int))))) (Av.one (intS (↑(k + (1 : Nat)) : Int)))] := ⟨
    norm_bool (lt_true (idx_lt hx hl)),
    idx_ok (e := 32) (s := 6) (j := k) (by kernel_rfl) (by kernel_rfl) rfl (idx_lt hx hl) (flat_get spC_len hx) (flat_ne spC_len (by omega) hx),
    loadn_ok (by kernel_rfl) (by kernel_rfl) (Nat.le_refl _) rfl,
    hs,
    hc,
    norm_succ (idx_lt hx hl) hn, trivial⟩
  exact moves_of_trace (n := 200) (k := 20) (keep := [2, 3, 6, 7, 8]) (ids := [0, 1]) hT (by kernel_rfl)

set_option maxRecDepth 100000 in
theorem nrm_exit {n : Nat} {xs : List (Dy × Dy)} {acc : Nat → Dy}  : AM.Moves Tryz.prog Glob (loopN Tryz.f45 0) (nrmT n xs acc n) (nrmV n xs acc n) (.exit 0) (nrmT n xs acc n) (nrmV n xs acc n) := by
  have hT : AllOk Tryz.prog Glob [
    Tr.norm 20 (Av.one (Sv.cel (Cv.raw (Value.bool (decide ((↑n : Int) < (↑n : Int))))))) (Av.one (boolS false))] := ⟨
    norm_bool (lt_false), trivial⟩
  exact moves_of_trace (n := 200) (k := 20) (keep := [2, 3, 6, 7, 8]) (ids := [0, 1]) hT (by kernel_rfl)

theorem nrm_loop {n : Nat} {xs : List (Dy × Dy)} {acc : Nat → Dy} (hn : n ≤ 17179869184) (hl : xs.length = n) (hs : ∀ (k : Nat) (x : Dy × Dy), xs[k]? = some x → ∃ s, FitsP 118 [spQ x] [] (.one (dS s)) ∧ FitsP 117 [dS (acc k), dS s] [] (.one (dS (acc (k + 1))))) :
    AM.Moves Tryz.prog Glob (.loop (loopN Tryz.f45 0)) (nrmT n xs acc 0) (nrmV n xs acc 0) (.exit 0) (nrmT n xs acc n) (nrmV n xs acc n) :=
  loop_moves (n := n) (tm := fun k => (nrmT n xs acc k)) (vr := fun k => (nrmV n xs acc k)) (fun k hk => by
    obtain ⟨x, hx⟩ : ∃ x, xs[k]? = some x := ⟨_, List.getElem?_eq_getElem (by omega)⟩
    obtain ⟨s, h1, h2⟩ := hs k x hx
    exact nrm_round hn hl hx h1 h2) (by simp) nrm_exit
theorem nrm_zero {n : Nat} {xs : List (Dy × Dy)} {acc : Nat → Dy} (h0 : acc 0 = ⟨0, 0⟩) (hn : n ≤ 17179869184) (hl : xs.length = n) (hs : ∀ (k : Nat) (x : Dy × Dy), xs[k]? = some x → ∃ s, FitsP 118 [spQ x] [] (.one (dS s)) ∧ FitsP 117 [dS (acc k), dS s] [] (.one (dS (acc (k + 1))))) : AM.Moves Tryz.prog Glob (.loop (loopN Tryz.f45 0)) (mkT 18 [(2, .one (.cel (.ptr 0 0))), (3, .one (.cel (.ptr 1 0))), (6, .one (.cel (.ent (rowOf n (xs.flatMap spC))))), (7, .one (.cel (.raw (.int .i64 (n : Int))))), (8, .one (.cel (.raw (.int .i64 ((0 : Nat) : Int)))))]) [(0, ⟨30, [.raw (.bool false), .raw (.slice none 0 0), .raw (.int .i64 0)], true, .no⟩), (1, ⟨30, [.raw (.bool false), .raw (.slice none 0 0), .raw (.int .i64 0)], true, .no⟩)] (.exit 0) (nrmT n xs acc n) (nrmV n xs acc n) := by
  refine Moves.pre ?_ (nrm_loop hn hl hs)
  refine ⟨rfl, rfl, rfl, fun _ _ _ h => h, rfl, rfl, rfl, fun β W us h => ?_, trivial⟩
  rw [h0]
  match us, h with
  | [p, q, r], ⟨k1, k2, k3, _⟩ => exact ⟨k1, norm_nil k2, k3, trivial⟩
set_option maxRecDepth 100000 in
theorem nrm_f {n : Nat} {xs : List (Dy × Dy)} (acc : Nat → Dy) (h0 : acc 0 = ⟨0, 0⟩) (hn : n ≤ 17179869184) (hl : xs.length = n) (hs : ∀ (k : Nat) (x : Dy × Dy), xs[k]? = some x → ∃ s, FitsP 118 [spQ x] [] (.one (dS s)) ∧ FitsP 117 [dS (acc k), dS s] [] (.one (dS (acc (k + 1))))) : FitsP 45 [spansN n xs] [] (.one (dS (acc n))) := by
  have hT : AllOk Tryz.prog Glob [
    Tr.loop ((loopN Tryz.f45 0)) [nat_lit 2, nat_lit 3, nat_lit 6, nat_lit 7, nat_lit 8] [nat_lit 0, nat_lit 1] ((mkT 18 [(2, .one (.cel (.ptr 0 0))), (3, .one (.cel (.ptr 1 0))), (6, .one (.cel (.ent (rowOf n (xs.flatMap spC))))), (7, .one (.cel (.raw (.int .i64 (n : Int))))), (8, .one (.cel (.raw (.int .i64 ((0 : Nat) : Int)))))])) ([(0, ⟨30, [.raw (.bool false), .raw (.slice none 0 0), .raw (.int .i64 0)], true, .no⟩), (1, ⟨30, [.raw (.bool false), .raw (.slice none 0 0), .raw (.int .i64 0)], true, .no⟩)]) (Exit.exit (nat_lit 0)) ((nrmT n xs acc n)) ((nrmV n xs acc n)) (nat_lit 100)] := ⟨
    nrm_zero h0 hn hl hs, trivial⟩
  exact fits_of_trace (n := 300) (k0 := 0) hT Tryz.func45 (by kernel_rfl) (by kernel_rfl) (by kernel_rfl)
end Go.Proofs.YtejkcmklhmifaaaGreatDoor
