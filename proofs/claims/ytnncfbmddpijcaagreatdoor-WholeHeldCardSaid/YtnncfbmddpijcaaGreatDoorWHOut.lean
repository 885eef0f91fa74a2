/- WholeHeld: the ways out. -/
import Derived.Test.YtnncfbmddpijcaaGreatDoorRowL
import Derived.Test.YtnncfbmddpijcaaGreatDoorApp
import Derived.Test.YtnncfbmddpijcaaGreatDoorSpL
import Derived.Test.YtnncfbmddpijcaaGreatDoorSpP
namespace Go.Proofs.YtnncfbmddpijcaaGreatDoor
open Go Go.RowKit Go.Shelf AM
set_option maxRecDepth 100000 in
theorem WholeHeld_o1 {n : Nat} {x : Ag} {cs : List Cv} {w : Int} (h : 8 < n) : FitsP 3 [lagS x, .cel (.ent (rowOf n cs)), intS w] [] (.one (boolS true)) := by
  have hT : AllOk Tryz.prog Glob [
    Tr.call 5 [Sv.cel (Cv.raw (Value.int IntKind.i64 (Int.ofNat (nat_lit 1)))), Sv.cel (Cv.raw (Value.int IntKind.i64 (Int.ofNat (nat_lit 1))))] [] (Av.one (Sv.agg [Cv.raw (Value.bool (decide (Rat.num (1 : Rat) < (0 : Int)))), Cv.ent (nat (Int.natAbs (Rat.num (1 : Rat)))), Cv.ent (nat (Rat.den (1 : Rat)))])),
    Tr.call 4 [Sv.agg [Cv.raw (Value.bool (decide (Rat.num (1 : Rat) < (0 : Int)))), Cv.ent (nat (Int.natAbs (Rat.num (1 : Rat)))), Cv.ent (nat (Rat.den (1 : Rat)))], Sv.cel (Cv.raw (Value.int IntKind.i64 (Int.ofNat (nat_lit 10))))] [] (Av.tup [Sv.agg [Cv.raw (Value.bool (decide (Dy.m (Prod.fst ({ m := (1 : Int), e := (0 : Int) : Dy }, { m := (1 : Int), e := (0 : Int) : Dy })) < (0 : Int)))), Cv.ent (nat (Int.natAbs (Dy.m (Prod.fst ({ m := (1 : Int), e := (0 : Int) : Dy }, { m := (1 : Int), e := (0 : Int) : Dy }))))), Cv.raw (Value.int IntKind.i64 (Int.ofNat (nat_lit 0))), Cv.raw (Value.bool (decide (Dy.m (Prod.snd ({ m := (1 : Int), e := (0 : Int) : Dy }, { m := (1 : Int), e := (0 : Int) : Dy })) < (0 : Int)))), Cv.ent (nat (Int.natAbs (Dy.m (Prod.snd ({ m := (1 : Int), e := (0 : Int) : Dy }, { m := (1 : Int), e := (0 : Int) : Dy }))))), Cv.raw (Value.int IntKind.i64 (Int.ofNat (nat_lit 0)))], Sv.cel (Cv.raw (Value.int IntKind.i64 (Int.ofNat (nat_lit 0))))]),
    Tr.call 7 [Sv.cel (Cv.raw (Value.int IntKind.i64 (Int.ofNat (nat_lit 1)))), Sv.cel (Cv.raw (Value.int IntKind.i64 (Int.ofNat (nat_lit 0))))] [] (Av.one (Sv.agg [Cv.raw (Value.bool (decide (Dy.m { m := (1 : Int), e := (0 : Int) : Dy } < (0 : Int)))), Cv.ent (nat (Int.natAbs (Dy.m { m := (1 : Int), e := (0 : Int) : Dy }))), Cv.raw (Value.int IntKind.i64 (Int.ofNat (nat_lit 0)))])),
    Tr.call 6 [Sv.agg [Cv.raw (Value.bool (decide (Dy.m (Prod.fst ({ m := (1 : Int), e := (0 : Int) : Dy }, { m := (1 : Int), e := (0 : Int) : Dy })) < (0 : Int)))), Cv.ent (nat (Int.natAbs (Dy.m (Prod.fst ({ m := (1 : Int), e := (0 : Int) : Dy }, { m := (1 : Int), e := (0 : Int) : Dy }))))), Cv.raw (Value.int IntKind.i64 (Int.ofNat (nat_lit 0))), Cv.raw (Value.bool (decide (Dy.m (Prod.snd ({ m := (1 : Int), e := (0 : Int) : Dy }, { m := (1 : Int), e := (0 : Int) : Dy })) < (0 : Int)))), Cv.ent (nat (Int.natAbs (Dy.m (Prod.snd ({ m := (1 : Int), e := (0 : Int) : Dy }, { m := (1 : Int), e := (0 : Int) : Dy }))))), Cv.raw (Value.int IntKind.i64 (Int.ofNat (nat_lit 0)))], Sv.agg [Cv.raw (Value.bool (decide (Dy.m { m := (1 : Int), e := (0 : Int) : Dy } < (0 : Int)))), Cv.ent (nat (Int.natAbs (Dy.m { m := (1 : Int), e := (0 : Int) : Dy }))), Cv.raw (Value.int IntKind.i64 (Int.ofNat (nat_lit 0)))]] [] (Av.one (Sv.cel (Cv.raw (Value.bool true)))),
    Tr.call 8 [Sv.agg [Cv.raw (Value.bool (decide (Dy.m (Prod.fst ({ m := (1 : Int), e := (0 : Int) : Dy }, { m := (1 : Int), e := (0 : Int) : Dy })) < (0 : Int)))), Cv.ent (nat (Int.natAbs (Dy.m (Prod.fst ({ m := (1 : Int), e := (0 : Int) : Dy }, { m := (1 : Int), e := (0 : Int) : Dy }))))), Cv.raw (Value.int IntKind.i64 (Int.ofNat (nat_lit 0)))]] [] (Av.one (Sv.cel (Cv.raw (Value.int IntKind.i64 (Int.ofNat (nat_lit 1)))))),
    Tr.norm (nat_lit 27) (Av.one (Sv.cel (Cv.raw (Value.bool (decide ((↑n : Int) > (8 : Int))))))) (Av.one (Sv.cel (Cv.raw (Value.bool true))))] := ⟨
    ofQ_lit (a := 1) (d := 1) _ (by decide +kernel) (by decide +kernel) (by decide +kernel) (by decide +kernel),
    (nearX (b := 10) rfl ⟨1, 0⟩ (by decide +kernel) (by decide +kernel) (by decide +kernel) (by decide +kernel) (by decide +kernel) (by decide +kernel)),
    ofL ⟨1, 0⟩ (inI_small (by decide +kernel) (by decide +kernel)) (by decide +kernel) (by decide +kernel) (by decide +kernel) (by decide +kernel) (by decide +kernel),
    hasYes_f (n := 4) (k := 4) (by decide +kernel) (by decide +kernel) (by decide +kernel) (by omega) (by decide +kernel) (by decide +kernel),
    signD_f (a := ⟨1, 0⟩) rfl,
    norm_bool (gt_true h), trivial⟩
  exact fits_of_trace (n := 300) (k0 := 0) hT Tryz.func3 (by kernel_rfl) (by kernel_rfl) (by kernel_rfl)

set_option maxRecDepth 100000 in
theorem WholeHeld_o2 {n : Nat} {x : Ag} {cs : List Cv} {w : Int} (h : n ≤ 8) (hw : w < 2) : FitsP 3 [lagS x, .cel (.ent (rowOf n cs)), intS w] [] (.one (boolS true)) := by
  have hT : AllOk Tryz.prog Glob [
    Tr.call 5 [Sv.cel (Cv.raw (Value.int IntKind.i64 (Int.ofNat (nat_lit 1)))), Sv.cel (Cv.raw (Value.int IntKind.i64 (Int.ofNat (nat_lit 1))))] [] (Av.one (Sv.agg [Cv.raw (Value.bool (decide (Rat.num (1 : Rat) < (0 : Int)))), Cv.ent (nat (Int.natAbs (Rat.num (1 : Rat)))), Cv.ent (nat (Rat.den (1 : Rat)))])),
    Tr.call 4 [Sv.agg [Cv.raw (Value.bool (decide (Rat.num (1 : Rat) < (0 : Int)))), Cv.ent (nat (Int.natAbs (Rat.num (1 : Rat)))), Cv.ent (nat (Rat.den (1 : Rat)))], Sv.cel (Cv.raw (Value.int IntKind.i64 (Int.ofNat (nat_lit 10))))] [] (Av.tup [Sv.agg [Cv.raw (Value.bool (decide (Dy.m (Prod.fst ({ m := (1 : Int), e := (0 : Int) : Dy }, { m := (1 : Int), e := (0 : Int) : Dy })) < (0 : Int)))), Cv.ent (nat (Int.natAbs (Dy.m (Prod.fst ({ m := (1 : Int), e := (0 : Int) : Dy }, { m := (1 : Int), e := (0 : Int) : Dy }))))), Cv.raw (Value.int IntKind.i64 (Int.ofNat (nat_lit 0))), Cv.raw (Value.bool (decide (Dy.m (Prod.snd ({ m := (1 : Int), e := (0 : Int) : Dy }, { m := (1 : Int), e := (0 : Int) : Dy })) < (0 : Int)))), Cv.ent (nat (Int.natAbs (Dy.m (Prod.snd ({ m := (1 : Int), e := (0 : Int) : Dy }, { m := (1 : Int), e := (0 : Int) : Dy }))))), Cv.raw (Value.int IntKind.i64 (Int.ofNat (nat_lit 0)))], Sv.cel (Cv.raw (Value.int IntKind.i64 (Int.ofNat (nat_lit 0))))]),
    Tr.call 7 [Sv.cel (Cv.raw (Value.int IntKind.i64 (Int.ofNat (nat_lit 1)))), Sv.cel (Cv.raw (Value.int IntKind.i64 (Int.ofNat (nat_lit 0))))] [] (Av.one (Sv.agg [Cv.raw (Value.bool (decide (Dy.m { m := (1 : Int), e := (0 : Int) : Dy } < (0 : Int)))), Cv.ent (nat (Int.natAbs (Dy.m { m := (1 : Int), e := (0 : Int) : Dy }))), Cv.raw (Value.int IntKind.i64 (Int.ofNat (nat_lit 0)))])),
    Tr.call 6 [Sv.agg [Cv.raw (Value.bool (decide (Dy.m (Prod.fst ({ m := (1 : Int), e := (0 : Int) : Dy }, { m := (1 : Int), e := (0 : Int) : Dy })) < (0 : Int)))), Cv.ent (nat (Int.natAbs (Dy.m (Prod.fst ({ m := (1 : Int), e := (0 : Int) : Dy }, { m := (1 : Int), e := (0 : Int) : Dy }))))), Cv.raw (Value.int IntKind.i64 (Int.ofNat (nat_lit 0))), Cv.raw (Value.bool (decide (Dy.m (Prod.snd ({ m := (1 : Int), e := (0 : Int) : Dy }, { m := (1 : Int), e := (0 : Int) : Dy })) < (0 : Int)))), Cv.ent (nat (Int.natAbs (Dy.m (Prod.snd ({ m := (1 : Int), e := (0 : Int) : Dy }, { m := (1 : Int), e := (0 : Int) : Dy }))))), Cv.raw (Value.int IntKind.i64 (Int.ofNat (nat_lit 0)))], Sv.agg [Cv.raw (Value.bool (decide (Dy.m { m := (1 : Int), e := (0 : Int) : Dy } < (0 : Int)))), Cv.ent (nat (Int.natAbs (Dy.m { m := (1 : Int), e := (0 : Int) : Dy }))), Cv.raw (Value.int IntKind.i64 (Int.ofNat (nat_lit 0)))]] [] (Av.one (Sv.cel (Cv.raw (Value.bool true)))),
    Tr.call 8 [Sv.agg [Cv.raw (Value.bool (decide (Dy.m (Prod.fst ({ m := (1 : Int), e := (0 : Int) : Dy }, { m := (1 : Int), e := (0 : Int) : Dy })) < (0 : Int)))), Cv.ent (nat (Int.natAbs (Dy.m (Prod.fst ({ m := (1 : Int), e := (0 : Int) : Dy }, { m := (1 : Int), e := (0 : Int) : Dy }))))), Cv.raw (Value.int IntKind.i64 (Int.ofNat (nat_lit 0)))]] [] (Av.one (Sv.cel (Cv.raw (Value.int IntKind.i64 (Int.ofNat (nat_lit 1)))))),
    Tr.norm (nat_lit 27) (Av.one (Sv.cel (Cv.raw (Value.bool (decide ((↑n : Int) > (8 : Int))))))) (Av.one (Sv.cel (Cv.raw (Value.bool false)))),
    Tr.norm (nat_lit 31) (Av.one (Sv.cel (Cv.raw (Value.bool (decide (w < (2 : Int))))))) (Av.one (Sv.cel (Cv.raw (Value.bool true))))] := ⟨
    ofQ_lit (a := 1) (d := 1) _ (by decide +kernel) (by decide +kernel) (by decide +kernel) (by decide +kernel),
    (nearX (b := 10) rfl ⟨1, 0⟩ (by decide +kernel) (by decide +kernel) (by decide +kernel) (by decide +kernel) (by decide +kernel) (by decide +kernel)),
    ofL ⟨1, 0⟩ (inI_small (by decide +kernel) (by decide +kernel)) (by decide +kernel) (by decide +kernel) (by decide +kernel) (by decide +kernel) (by decide +kernel),
    hasYes_f (n := 4) (k := 4) (by decide +kernel) (by decide +kernel) (by decide +kernel) (by omega) (by decide +kernel) (by decide +kernel),
    signD_f (a := ⟨1, 0⟩) rfl,
    norm_bool (gt_false h),
    norm_bool (decide_eq_true (by omega)), trivial⟩
  exact fits_of_trace (n := 300) (k0 := 0) hT Tryz.func3 (by kernel_rfl) (by kernel_rfl) (by kernel_rfl)

set_option maxRecDepth 100000 in
theorem WholeHeld_o3 {n : Nat} {x : Ag} {cs : List Cv} {w : Int} (h : n ≤ 8) (hw : ¬ w < 2) (hw2 : w > 200) : FitsP 3 [lagS x, .cel (.ent (rowOf n cs)), intS w] [] (.one (boolS true)) := by
  have hT : AllOk Tryz.prog Glob [
    Tr.call 5 [Sv.cel (Cv.raw (Value.int IntKind.i64 (Int.ofNat (nat_lit 1)))), Sv.cel (Cv.raw (Value.int IntKind.i64 (Int.ofNat (nat_lit 1))))] [] (Av.one (Sv.agg [Cv.raw (Value.bool (decide (Rat.num (1 : Rat) < (0 : Int)))), Cv.ent (nat (Int.natAbs (Rat.num (1 : Rat)))), Cv.ent (nat (Rat.den (1 : Rat)))])),
    Tr.call 4 [Sv.agg [Cv.raw (Value.bool (decide (Rat.num (1 : Rat) < (0 : Int)))), Cv.ent (nat (Int.natAbs (Rat.num (1 : Rat)))), Cv.ent (nat (Rat.den (1 : Rat)))], Sv.cel (Cv.raw (Value.int IntKind.i64 (Int.ofNat (nat_lit 10))))] [] (Av.tup [Sv.agg [Cv.raw (Value.bool (decide (Dy.m (Prod.fst ({ m := (1 : Int), e := (0 : Int) : Dy }, { m := (1 : Int), e := (0 : Int) : Dy })) < (0 : Int)))), Cv.ent (nat (Int.natAbs (Dy.m (Prod.fst ({ m := (1 : Int), e := (0 : Int) : Dy }, { m := (1 : Int), e := (0 : Int) : Dy }))))), Cv.raw (Value.int IntKind.i64 (Int.ofNat (nat_lit 0))), Cv.raw (Value.bool (decide (Dy.m (Prod.snd ({ m := (1 : Int), e := (0 : Int) : Dy }, { m := (1 : Int), e := (0 : Int) : Dy })) < (0 : Int)))), Cv.ent (nat (Int.natAbs (Dy.m (Prod.snd ({ m := (1 : Int), e := (0 : Int) : Dy }, { m := (1 : Int), e := (0 : Int) : Dy }))))), Cv.raw (Value.int IntKind.i64 (Int.ofNat (nat_lit 0)))], Sv.cel (Cv.raw (Value.int IntKind.i64 (Int.ofNat (nat_lit 0))))]),
    Tr.call 7 [Sv.cel (Cv.raw (Value.int IntKind.i64 (Int.ofNat (nat_lit 1)))), Sv.cel (Cv.raw (Value.int IntKind.i64 (Int.ofNat (nat_lit 0))))] [] (Av.one (Sv.agg [Cv.raw (Value.bool (decide (Dy.m { m := (1 : Int), e := (0 : Int) : Dy } < (0 : Int)))), Cv.ent (nat (Int.natAbs (Dy.m { m := (1 : Int), e := (0 : Int) : Dy }))), Cv.raw (Value.int IntKind.i64 (Int.ofNat (nat_lit 0)))])),
    Tr.call 6 [Sv.agg [Cv.raw (Value.bool (decide (Dy.m (Prod.fst ({ m := (1 : Int), e := (0 : Int) : Dy }, { m := (1 : Int), e := (0 : Int) : Dy })) < (0 : Int)))), Cv.ent (nat (Int.natAbs (Dy.m (Prod.fst ({ m := (1 : Int), e := (0 : Int) : Dy }, { m := (1 : Int), e := (0 : Int) : Dy }))))), Cv.raw (Value.int IntKind.i64 (Int.ofNat (nat_lit 0))), Cv.raw (Value.bool (decide (Dy.m (Prod.snd ({ m := (1 : Int), e := (0 : Int) : Dy }, { m := (1 : Int), e := (0 : Int) : Dy })) < (0 : Int)))), Cv.ent (nat (Int.natAbs (Dy.m (Prod.snd ({ m := (1 : Int), e := (0 : Int) : Dy }, { m := (1 : Int), e := (0 : Int) : Dy }))))), Cv.raw (Value.int IntKind.i64 (Int.ofNat (nat_lit 0)))], Sv.agg [Cv.raw (Value.bool (decide (Dy.m { m := (1 : Int), e := (0 : Int) : Dy } < (0 : Int)))), Cv.ent (nat (Int.natAbs (Dy.m { m := (1 : Int), e := (0 : Int) : Dy }))), Cv.raw (Value.int IntKind.i64 (Int.ofNat (nat_lit 0)))]] [] (Av.one (Sv.cel (Cv.raw (Value.bool true)))),
    Tr.call 8 [Sv.agg [Cv.raw (Value.bool (decide (Dy.m (Prod.fst ({ m := (1 : Int), e := (0 : Int) : Dy }, { m := (1 : Int), e := (0 : Int) : Dy })) < (0 : Int)))), Cv.ent (nat (Int.natAbs (Dy.m (Prod.fst ({ m := (1 : Int), e := (0 : Int) : Dy }, { m := (1 : Int), e := (0 : Int) : Dy }))))), Cv.raw (Value.int IntKind.i64 (Int.ofNat (nat_lit 0)))]] [] (Av.one (Sv.cel (Cv.raw (Value.int IntKind.i64 (Int.ofNat (nat_lit 1)))))),
    Tr.norm (nat_lit 27) (Av.one (Sv.cel (Cv.raw (Value.bool (decide ((↑n : Int) > (8 : Int))))))) (Av.one (Sv.cel (Cv.raw (Value.bool false)))),
    Tr.norm (nat_lit 31) (Av.one (Sv.cel (Cv.raw (Value.bool (decide (w < (2 : Int))))))) (Av.one (Sv.cel (Cv.raw (Value.bool false)))),
    Tr.norm (nat_lit 34) (Av.one (Sv.cel (Cv.raw (Value.bool (decide (w > (200 : Int))))))) (Av.one (Sv.cel (Cv.raw (Value.bool true))))] := ⟨
    ofQ_lit (a := 1) (d := 1) _ (by decide +kernel) (by decide +kernel) (by decide +kernel) (by decide +kernel),
    (nearX (b := 10) rfl ⟨1, 0⟩ (by decide +kernel) (by decide +kernel) (by decide +kernel) (by decide +kernel) (by decide +kernel) (by decide +kernel)),
    ofL ⟨1, 0⟩ (inI_small (by decide +kernel) (by decide +kernel)) (by decide +kernel) (by decide +kernel) (by decide +kernel) (by decide +kernel) (by decide +kernel),
    hasYes_f (n := 4) (k := 4) (by decide +kernel) (by decide +kernel) (by decide +kernel) (by omega) (by decide +kernel) (by decide +kernel),
    signD_f (a := ⟨1, 0⟩) rfl,
    norm_bool (gt_false h),
    norm_bool (decide_eq_false hw),
    norm_bool (decide_eq_true hw2), trivial⟩
  exact fits_of_trace (n := 300) (k0 := 0) hT Tryz.func3 (by kernel_rfl) (by kernel_rfl) (by kernel_rfl)

def haLT (n m : Nat) (w : Int) (_x : Ag) (ts ys : List Ag) (k : Nat) : List Av := mkT 209 [(1, .one (.cel (.ent (rowOf n (ts.flatMap alC))))), (2, .one (intS w)), (3, .one (.cel (.ptr 0 0))), (66, .one (.cel (.ent (rowOf m (ys.flatMap alC))))), (67, .one (.cel (.raw (.int .i64 (m : Int))))), (68, .one (.cel (.raw (.int .i64 ((k : Nat) : Int)))))]
def haLV (_n _m : Nat) (_w : Int) (x : Ag) (_ts _ys : List Ag) (_k : Nat) : List (Nat × VarSt) := [(0, ⟨27, alC x, true, .no⟩)]
set_option maxRecDepth 100000 in
theorem haL_round {n m : Nat} {w : Int} {x : Ag} {ts ys : List Ag} {k : Nat} {y : Ag} {q : Rat} (hm : m ≤ 9) (hl : ys.length = m) (hy : ys[k]? = some y) (hg : y.GoodL 3 q) : AM.Moves Tryz.prog Glob (loopN Tryz.f3 0) (haLT n m w x ts ys k) (haLV n m w x ts ys k) .normal (haLT n m w x ts ys (k + 1)) (haLV n m w x ts ys (k + 1)) := by
  have hT : AllOk Tryz.prog Glob [
    Tr.norm (nat_lit 100) (Av.one (Sv.cel (Cv.raw (Value.bool (decide ((↑k : Int) < (↑m : Int))))))) (Av.one (Sv.cel (Cv.raw (Value.bool true)))),
    Tr.told (Op.indexAddr 28 (Operand.tmp (66 : Nat)) (Operand.tmp (68 : Nat))) 0 [Av.one (Sv.cel (Cv.ent (rowOf m (List.flatMap alC ys)))), Av.one (Sv.cel (Cv.raw (Value.int IntKind.i64 (↑k : Int))))] (.one (.cel (.ent (ptrTo (alC y))))),
    Tr.told (Op.load 27 (Operand.tmp (70 : Nat))) 27 [Av.one (Sv.cel (Cv.ent (ptrTo [Cv.raw (Value.bool (Ag.m y)), Cv.ent (argL y.2), Cv.ent (argL y.3)])))] (.one (lagS y)),
    Tr.call 9 [Sv.agg [Cv.raw (Value.bool (Ag.m y)), Cv.ent (argL y.2), Cv.ent (argL y.3)]] [] (Av.one (Sv.cel (Cv.raw (Value.int IntKind.i64 (Int.ofNat (nat_lit 0)))))),
    Tr.norm (nat_lit 115) (Av.one (Sv.cel (Cv.raw (Value.bool (decide ((↑(List.length (Ag.xs y)) : Int) > (3 : Int))))))) (Av.one (Sv.cel (Cv.raw (Value.bool false)))),
    Tr.norm (nat_lit 120) (Av.one (Sv.cel (Cv.raw (Value.bool (decide ((↑(List.length (Ag.ds y)) : Int) > (3 : Int))))))) (Av.one (Sv.cel (Cv.raw (Value.bool false)))),
    Tr.norm (nat_lit 121) (Av.one (Sv.cel (Cv.raw (Value.int IntKind.i64 (IntKind.wrap IntKind.i64 ((↑k : Int) + (1 : Int))))))) (Av.one (Sv.cel (Cv.raw (Value.int IntKind.i64 (↑(k + (1 : Nat)) : Int)))))] := ⟨
    norm_bool (lt_true (idx_lt hy hl)),
    idx_ok (e := 27) (s := 3) (j := k) (by kernel_rfl) (by kernel_rfl) rfl (idx_lt hy hl) (flat_get alC_len hy) (flat_ne alC_len (by omega) hy),
    loadn_ok (by kernel_rfl) (by kernel_rfl) (Nat.le_refl _) rfl,
    hg.check (by omega),
    norm_bool (gt_false hg.len1),
    norm_bool (gt_false hg.len2),
    norm_succ (idx_lt hy hl) (by omega), trivial⟩
  exact moves_of_trace (n := 200) (k := 100) (keep := [1, 2, 3, 66, 67, 68]) (ids := [0]) hT (by kernel_rfl)

set_option maxRecDepth 100000 in
theorem haL_o1 {n m : Nat} {w : Int} {x : Ag} {ts ys : List Ag} {k : Nat} {y : Ag} (hl : ys.length = m) (hy : ys[k]? = some y) {c : Int} (hc : c ≠ 0) (hb : FitsP 9 [lagS y] [] (.one (intS c))) : AM.Moves Tryz.prog Glob (loopN Tryz.f3 0) (haLT n m w x ts ys k) (haLV n m w x ts ys k) .ret (mkT 209 [(6, .one (boolS true))]) [] := by
  have hT : AllOk Tryz.prog Glob [
    Tr.norm (nat_lit 100) (Av.one (Sv.cel (Cv.raw (Value.bool (decide ((↑k : Int) < (↑m : Int))))))) (Av.one (Sv.cel (Cv.raw (Value.bool true)))),
    Tr.told (Op.indexAddr 28 (Operand.tmp (66 : Nat)) (Operand.tmp (68 : Nat))) 0 [Av.one (Sv.cel (Cv.ent (rowOf m (List.flatMap alC ys)))), Av.one (Sv.cel (Cv.raw (Value.int IntKind.i64 (↑k : Int))))] (.one (.cel (.ent (ptrTo (alC y))))),
    Tr.told (Op.load 27 (Operand.tmp (70 : Nat))) 27 [Av.one (Sv.cel (Cv.ent (ptrTo [Cv.raw (Value.bool (Ag.m y)), Cv.ent (argL y.2), Cv.ent (argL y.3)])))] (.one (lagS y)),
    Tr.call 9 [Sv.agg [Cv.raw (Value.bool (Ag.m y)), Cv.ent (argL y.2), Cv.ent (argL y.3)]] [] (Av.one (Sv.cel (Cv.raw (Value.int IntKind.i64 c)))),
    Tr.norm (nat_lit 108) (Av.one (Sv.cel (Cv.raw (Value.bool (c != (0 : Int)))))) (Av.one (Sv.cel (Cv.raw (Value.bool true))))] := ⟨
    norm_bool (lt_true (idx_lt hy hl)),
    idx_ok (e := 27) (s := 3) (j := k) (by kernel_rfl) (by kernel_rfl) rfl (idx_lt hy hl) (flat_get alC_len hy) (flat_ne alC_len (by omega) hy),
    loadn_ok (by kernel_rfl) (by kernel_rfl) (Nat.le_refl _) rfl,
    hb,
    norm_bool (ne_true hc), trivial⟩
  exact moves_of_trace (n := 200) (k := 100) (keep := [6]) (ids := []) hT (by kernel_rfl)

set_option maxRecDepth 100000 in
theorem haL_o2 {n m : Nat} {w : Int} {x : Ag} {ts ys : List Ag} {k : Nat} {y : Ag} (hl : ys.length = m) (hy : ys[k]? = some y) (hk : y.ChkOk) (hb : 3 < y.xs.length) : AM.Moves Tryz.prog Glob (loopN Tryz.f3 0) (haLT n m w x ts ys k) (haLV n m w x ts ys k) .ret (mkT 209 [(6, .one (boolS true))]) [] := by
  have hT : AllOk Tryz.prog Glob [
    Tr.norm (nat_lit 100) (Av.one (Sv.cel (Cv.raw (Value.bool (decide ((↑k : Int) < (↑m : Int))))))) (Av.one (Sv.cel (Cv.raw (Value.bool true)))),
    Tr.told (Op.indexAddr 28 (Operand.tmp (66 : Nat)) (Operand.tmp (68 : Nat))) 0 [Av.one (Sv.cel (Cv.ent (rowOf m (List.flatMap alC ys)))), Av.one (Sv.cel (Cv.raw (Value.int IntKind.i64 (↑k : Int))))] (.one (.cel (.ent (ptrTo (alC y))))),
    Tr.told (Op.load 27 (Operand.tmp (70 : Nat))) 27 [Av.one (Sv.cel (Cv.ent (ptrTo [Cv.raw (Value.bool (Ag.m y)), Cv.ent (argL y.2), Cv.ent (argL y.3)])))] (.one (lagS y)),
    Tr.call 9 [Sv.agg [Cv.raw (Value.bool (Ag.m y)), Cv.ent (argL y.2), Cv.ent (argL y.3)]] [] (Av.one (Sv.cel (Cv.raw (Value.int IntKind.i64 (Int.ofNat (nat_lit 0)))))),
    Tr.norm (nat_lit 115) (Av.one (Sv.cel (Cv.raw (Value.bool (decide ((↑(List.length (Ag.xs y)) : Int) > (3 : Int))))))) (Av.one (Sv.cel (Cv.raw (Value.bool true))))] := ⟨
    norm_bool (lt_true (idx_lt hy hl)),
    idx_ok (e := 27) (s := 3) (j := k) (by kernel_rfl) (by kernel_rfl) rfl (idx_lt hy hl) (flat_get alC_len hy) (flat_ne alC_len (by omega) hy),
    loadn_ok (by kernel_rfl) (by kernel_rfl) (Nat.le_refl _) rfl,
    hk,
    norm_bool (gt_true hb), trivial⟩
  exact moves_of_trace (n := 200) (k := 100) (keep := [6]) (ids := []) hT (by kernel_rfl)

set_option maxRecDepth 100000 in
theorem haL_o3 {n m : Nat} {w : Int} {x : Ag} {ts ys : List Ag} {k : Nat} {y : Ag} (hl : ys.length = m) (hy : ys[k]? = some y) (hk : y.ChkOk) (h1 : y.xs.length ≤ 3) (hb : 3 < y.ds.length) : AM.Moves Tryz.prog Glob (loopN Tryz.f3 0) (haLT n m w x ts ys k) (haLV n m w x ts ys k) .ret (mkT 209 [(6, .one (boolS true))]) [] := by
  have hT : AllOk Tryz.prog Glob [
    Tr.norm (nat_lit 100) (Av.one (Sv.cel (Cv.raw (Value.bool (decide ((↑k : Int) < (↑m : Int))))))) (Av.one (Sv.cel (Cv.raw (Value.bool true)))),
    Tr.told (Op.indexAddr 28 (Operand.tmp (66 : Nat)) (Operand.tmp (68 : Nat))) 0 [Av.one (Sv.cel (Cv.ent (rowOf m (List.flatMap alC ys)))), Av.one (Sv.cel (Cv.raw (Value.int IntKind.i64 (↑k : Int))))] (.one (.cel (.ent (ptrTo (alC y))))),
    Tr.told (Op.load 27 (Operand.tmp (70 : Nat))) 27 [Av.one (Sv.cel (Cv.ent (ptrTo [Cv.raw (Value.bool (Ag.m y)), Cv.ent (argL y.2), Cv.ent (argL y.3)])))] (.one (lagS y)),
    Tr.call 9 [Sv.agg [Cv.raw (Value.bool (Ag.m y)), Cv.ent (argL y.2), Cv.ent (argL y.3)]] [] (Av.one (Sv.cel (Cv.raw (Value.int IntKind.i64 (Int.ofNat (nat_lit 0)))))),
    Tr.norm (nat_lit 115) (Av.one (Sv.cel (Cv.raw (Value.bool (decide ((↑(List.length (Ag.xs y)) : Int) > (3 : Int))))))) (Av.one (Sv.cel (Cv.raw (Value.bool false)))),
    Tr.norm (nat_lit 120) (Av.one (Sv.cel (Cv.raw (Value.bool (decide ((↑(List.length (Ag.ds y)) : Int) > (3 : Int))))))) (Av.one (Sv.cel (Cv.raw (Value.bool true))))] := ⟨
    norm_bool (lt_true (idx_lt hy hl)),
    idx_ok (e := 27) (s := 3) (j := k) (by kernel_rfl) (by kernel_rfl) rfl (idx_lt hy hl) (flat_get alC_len hy) (flat_ne alC_len (by omega) hy),
    loadn_ok (by kernel_rfl) (by kernel_rfl) (Nat.le_refl _) rfl,
    hk,
    norm_bool (gt_false h1),
    norm_bool (gt_true hb), trivial⟩
  exact moves_of_trace (n := 200) (k := 100) (keep := [6]) (ids := []) hT (by kernel_rfl)

theorem haL_out {n m : Nat} {w : Int} {x : Ag} {ts ys : List Ag} {k : Nat} {y : Ag} (hl : ys.length = m) (hy : ys[k]? = some y) (hb : y.BadL 3) : AM.Moves Tryz.prog Glob (loopN Tryz.f3 0) (haLT n m w x ts ys k) (haLV n m w x ts ys k) .ret (mkT 209 [(6, .one (boolS true))]) [] := by
  rcases hb with ⟨c, hc, h⟩ | ⟨h1, h⟩ | ⟨h1, h2, h⟩
  · exact haL_o1 hl hy hc h
  · exact haL_o2 hl hy h1 h
  · exact haL_o3 hl hy h1 h2 h
theorem haL_brk {n m : Nat} {w : Int} {x : Ag} {ts ys : List Ag} (hm : m ≤ 9) (hl : ys.length = m) {j : Nat} {z : Ag} (hz : ys[j]? = some z) (hb : z.BadL 3) (hg : ∀ (k : Nat) (y : Ag), k < j → ys[k]? = some y → ∃ q, y.GoodL 3 q) :
    AM.Moves Tryz.prog Glob (.loop (loopN Tryz.f3 0)) (haLT n m w x ts ys 0) (haLV n m w x ts ys 0) .ret (mkT 209 [(6, .one (boolS true))]) [] :=
  loop_moves (n := j) (tm := fun k => (haLT n m w x ts ys k)) (vr := fun k => (haLV n m w x ts ys k)) (fun k hk => by
    have hj := idx_lt hz hl
    obtain ⟨y, hy⟩ : ∃ y, ys[k]? = some y := ⟨_, List.getElem?_eq_getElem (by omega)⟩
    obtain ⟨q, hq⟩ := hg k y hk hy
    exact haL_round hm hl hy hq) (by simp) (haL_out hl hz hb)
set_option maxRecDepth 100000 in
theorem WholeHeld_o4 {n m : Nat} {w : Int} {x : Ag} {ts ys : List Ag} (hm : m = 1 + n) (hys : ys = x :: ts) (hn : n ≤ 8) (hl : ts.length = n) (hw : ¬ w < 2) (hw2 : ¬ w > 200) {j : Nat} {z : Ag} (hz : ys[j]? = some z) (hb : z.BadL 3) (hg : ∀ (k : Nat) (y : Ag), k < j → ys[k]? = some y → ∃ q, y.GoodL 3 q) : FitsP 3 [lagS x, .cel (.ent (rowOf n (ts.flatMap alC))), intS w] [] (.one (boolS true)) := by
  have hT : AllOk Tryz.prog Glob [
    Tr.call 5 [Sv.cel (Cv.raw (Value.int IntKind.i64 (Int.ofNat (nat_lit 1)))), Sv.cel (Cv.raw (Value.int IntKind.i64 (Int.ofNat (nat_lit 1))))] [] (Av.one (Sv.agg [Cv.raw (Value.bool (decide (Rat.num (1 : Rat) < (0 : Int)))), Cv.ent (nat (Int.natAbs (Rat.num (1 : Rat)))), Cv.ent (nat (Rat.den (1 : Rat)))])),
    Tr.call 4 [Sv.agg [Cv.raw (Value.bool (decide (Rat.num (1 : Rat) < (0 : Int)))), Cv.ent (nat (Int.natAbs (Rat.num (1 : Rat)))), Cv.ent (nat (Rat.den (1 : Rat)))], Sv.cel (Cv.raw (Value.int IntKind.i64 (Int.ofNat (nat_lit 10))))] [] (Av.tup [Sv.agg [Cv.raw (Value.bool (decide (Dy.m (Prod.fst ({ m := (1 : Int), e := (0 : Int) : Dy }, { m := (1 : Int), e := (0 : Int) : Dy })) < (0 : Int)))), Cv.ent (nat (Int.natAbs (Dy.m (Prod.fst ({ m := (1 : Int), e := (0 : Int) : Dy }, { m := (1 : Int), e := (0 : Int) : Dy }))))), Cv.raw (Value.int IntKind.i64 (Int.ofNat (nat_lit 0))), Cv.raw (Value.bool (decide (Dy.m (Prod.snd ({ m := (1 : Int), e := (0 : Int) : Dy }, { m := (1 : Int), e := (0 : Int) : Dy })) < (0 : Int)))), Cv.ent (nat (Int.natAbs (Dy.m (Prod.snd ({ m := (1 : Int), e := (0 : Int) : Dy }, { m := (1 : Int), e := (0 : Int) : Dy }))))), Cv.raw (Value.int IntKind.i64 (Int.ofNat (nat_lit 0)))], Sv.cel (Cv.raw (Value.int IntKind.i64 (Int.ofNat (nat_lit 0))))]),
    Tr.call 7 [Sv.cel (Cv.raw (Value.int IntKind.i64 (Int.ofNat (nat_lit 1)))), Sv.cel (Cv.raw (Value.int IntKind.i64 (Int.ofNat (nat_lit 0))))] [] (Av.one (Sv.agg [Cv.raw (Value.bool (decide (Dy.m { m := (1 : Int), e := (0 : Int) : Dy } < (0 : Int)))), Cv.ent (nat (Int.natAbs (Dy.m { m := (1 : Int), e := (0 : Int) : Dy }))), Cv.raw (Value.int IntKind.i64 (Int.ofNat (nat_lit 0)))])),
    Tr.call 6 [Sv.agg [Cv.raw (Value.bool (decide (Dy.m (Prod.fst ({ m := (1 : Int), e := (0 : Int) : Dy }, { m := (1 : Int), e := (0 : Int) : Dy })) < (0 : Int)))), Cv.ent (nat (Int.natAbs (Dy.m (Prod.fst ({ m := (1 : Int), e := (0 : Int) : Dy }, { m := (1 : Int), e := (0 : Int) : Dy }))))), Cv.raw (Value.int IntKind.i64 (Int.ofNat (nat_lit 0))), Cv.raw (Value.bool (decide (Dy.m (Prod.snd ({ m := (1 : Int), e := (0 : Int) : Dy }, { m := (1 : Int), e := (0 : Int) : Dy })) < (0 : Int)))), Cv.ent (nat (Int.natAbs (Dy.m (Prod.snd ({ m := (1 : Int), e := (0 : Int) : Dy }, { m := (1 : Int), e := (0 : Int) : Dy }))))), Cv.raw (Value.int IntKind.i64 (Int.ofNat (nat_lit 0)))], Sv.agg [Cv.raw (Value.bool (decide (Dy.m { m := (1 : Int), e := (0 : Int) : Dy } < (0 : Int)))), Cv.ent (nat (Int.natAbs (Dy.m { m := (1 : Int), e := (0 : Int) : Dy }))), Cv.raw (Value.int IntKind.i64 (Int.ofNat (nat_lit 0)))]] [] (Av.one (Sv.cel (Cv.raw (Value.bool true)))),
    Tr.call 8 [Sv.agg [Cv.raw (Value.bool (decide (Dy.m (Prod.fst ({ m := (1 : Int), e := (0 : Int) : Dy }, { m := (1 : Int), e := (0 : Int) : Dy })) < (0 : Int)))), Cv.ent (nat (Int.natAbs (Dy.m (Prod.fst ({ m := (1 : Int), e := (0 : Int) : Dy }, { m := (1 : Int), e := (0 : Int) : Dy }))))), Cv.raw (Value.int IntKind.i64 (Int.ofNat (nat_lit 0)))]] [] (Av.one (Sv.cel (Cv.raw (Value.int IntKind.i64 (Int.ofNat (nat_lit 1)))))),
    Tr.norm (nat_lit 27) (Av.one (Sv.cel (Cv.raw (Value.bool (decide ((↑n : Int) > (8 : Int))))))) (Av.one (Sv.cel (Cv.raw (Value.bool false)))),
    Tr.norm (nat_lit 31) (Av.one (Sv.cel (Cv.raw (Value.bool (decide (w < (2 : Int))))))) (Av.one (Sv.cel (Cv.raw (Value.bool false)))),
    Tr.norm (nat_lit 34) (Av.one (Sv.cel (Cv.raw (Value.bool (decide (w > (200 : Int))))))) (Av.one (Sv.cel (Cv.raw (Value.bool false)))),
    Tr.toldAt (nat_lit 36) (Op.buildSlice (28 : Nat) (1 : Nat) #[((0 : Nat), Operand.tmp (63 : Nat))]) 28 [Av.one (Sv.agg [Cv.raw (Value.bool (Ag.m x)), Cv.ent (argL x.2), Cv.ent (argL x.3)])] (.one (.cel (.ent (rowEx 1 (alC x))))),
    Tr.told (Op.call { callee := Callee.builtin Builtin.append, args := #[Operand.tmp (64 : Nat), Operand.tmp (65 : Nat)], argTypes := #[(28 : Nat), (28 : Nat)] : Call }) 28 [Av.one (Sv.cel (Cv.ent (rowEx (1 : Nat) [Cv.raw (Value.bool (Ag.m x)), Cv.ent (argL x.2), Cv.ent (argL x.3)]))), Av.one (Sv.cel (Cv.ent (rowOf n (List.flatMap alC ts))))] (.one (.cel (.ent (rowOf m (ys.flatMap alC))))),
    Tr.loop ((loopN Tryz.f3 0)) [nat_lit 1, nat_lit 2, nat_lit 3, nat_lit 66, nat_lit 67, nat_lit 68] [nat_lit 0] ((haLT n m w x ts ys 0)) ((haLV n m w x ts ys 0)) Exit.ret ((mkT 209 [(6, .one (boolS true))])) ([]) (nat_lit 200)] := ⟨
    ofQ_lit (a := 1) (d := 1) _ (by decide +kernel) (by decide +kernel) (by decide +kernel) (by decide +kernel),
    (nearX (b := 10) rfl ⟨1, 0⟩ (by decide +kernel) (by decide +kernel) (by decide +kernel) (by decide +kernel) (by decide +kernel) (by decide +kernel)),
    ofL ⟨1, 0⟩ (inI_small (by decide +kernel) (by decide +kernel)) (by decide +kernel) (by decide +kernel) (by decide +kernel) (by decide +kernel) (by decide +kernel),
    hasYes_f (n := 4) (k := 4) (by decide +kernel) (by decide +kernel) (by decide +kernel) (by omega) (by decide +kernel) (by decide +kernel),
    signD_f (a := ⟨1, 0⟩) rfl,
    norm_bool (gt_false hn),
    norm_bool (decide_eq_false hw),
    norm_bool (decide_eq_false hw2),
    litR_ok (e := 27) (by kernel_rfl) (by kernel_rfl) (by kernel_rfl) (by kernel_rfl) (by kernel_rfl) (by kernel_rfl) (alC_shut x),
    (by subst hm; subst hys; exact appR_ok (e := 27) (n := 1) (sz := 3) (bt := 56) (by kernel_rfl) (by kernel_rfl) (by kernel_rfl) (by kernel_rfl) (by kernel_rfl) (by omega) rfl (by rw [flat_len alC_len, hl]) (by omega) (by omega)),
    haL_brk (by omega) (by subst hm hys; simp [hl]; omega) hz hb hg, trivial⟩
  exact fits_of_trace (n := 300) (k0 := 0) hT Tryz.func3 (by kernel_rfl) (by kernel_rfl) (by kernel_rfl)
end Go.Proofs.YtnncfbmddpijcaaGreatDoor
