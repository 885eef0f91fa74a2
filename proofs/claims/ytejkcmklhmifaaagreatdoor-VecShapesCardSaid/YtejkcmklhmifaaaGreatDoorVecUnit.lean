/- VecUnits. -/
import Derived.Test.YtejkcmklhmifaaaGreatDoorVecScal
namespace Go.Proofs.YtejkcmklhmifaaaGreatDoor
open Go Go.RowKit Go.Shelf AM
theorem bq_one : BQ 1 1 := ⟨by decide, by decide⟩
theorem unit_n {n : Nat} {a : Int} (hn : n ≤ 16) : FitsP 47 [intS (n : Int), intS a] [] (.one (ratsN n (unitL n a))) := by
  have := unit_f (z := (n : Int)) (a := a)
  rw [show dimN (n : Int) = n by unfold dimN; omega] at this
  exact this
theorem unit_get {n j : Nat} {z : Int} (hj : j < n) : (unitL n z)[j]? = some (if (j : Int) = z then 1 else 0) := by
  unfold unitL
  split
  · rename_i h
    rw [List.getElem?_set]
    by_cases e : z.toNat = j
    · rw [if_pos e, if_pos (by rw [nul_len]; omega), if_pos (by omega)]
    · rw [if_neg e, nul_get hj, if_neg (by omega)]
  · rename_i h
    rw [nul_get hj, if_neg (by omega)]
theorem unit_bq {n : Nat} {z : Int} : ∀ q ∈ unitL n z, BQ 1 q := fun q hq => by
  obtain ⟨j, hj⟩ := List.getElem?_of_mem hq
  have hn := (List.getElem?_eq_some_iff.1 hj).1
  rw [unitL_len] at hn
  rw [unit_get hn] at hj
  injection hj with hj
  split at hj <;> subst hj
  · exact bq_one
  · exact bq_zero
/-- The first places of a row, nothing behind them. -/
def part (a : List Rat) (k : Nat) : List Rat := (List.range a.length).map fun j => if j < k then a.getD j 0 else 0
theorem part_len {a : List Rat} {n : Nat} (h : a.length = n) (k : Nat) : (part a k).length = n := by unfold part; simp [h]
theorem part_get {a : List Rat} {n j : Nat} (h : a.length = n) (k : Nat) (hj : j < n) : (part a k)[j]? = some (if j < k then a.getD j 0 else 0) := by
  unfold part
  rw [List.getElem?_map, List.getElem?_range (by omega)]; rfl
theorem part_zero {a : List Rat} {n : Nat} (h : a.length = n) : part a 0 = nul n := by
  apply List.ext_getElem?
  intro j
  by_cases hj : j < n
  · rw [part_get h 0 hj, nul_get hj]; simp
  · rw [List.getElem?_eq_none (by rw [part_len h]; omega), List.getElem?_eq_none (by rw [nul_len]; omega)]
theorem part_full {a : List Rat} {n : Nat} (h : a.length = n) : part a n = a := by
  apply List.ext_getElem?
  intro j
  by_cases hj : j < n
  · rw [part_get h n hj, if_pos hj, List.getD_eq_getElem?_getD, List.getElem?_eq_getElem (by omega)]; rfl
  · rw [List.getElem?_eq_none (by rw [part_len h]; omega), List.getElem?_eq_none (by omega)]
theorem part_bq {a : List Rat} {m : Nat} (hm : 1 ≤ m) (ha : ∀ x ∈ a, BQ m x) (k : Nat) : ∀ q ∈ part a k, BQ m q := fun q hq => by
  unfold part at hq
  obtain ⟨j, _, rfl⟩ := List.mem_map.1 hq
  split
  · rw [List.getD_eq_getElem?_getD]
    cases h : a[j]? with
    | none => exact bq_zero.mono hm
    | some x => exact ha x (List.mem_of_getElem? h)
  · exact bq_zero.mono hm
/-- One place more. -/
theorem part_step {a : List Rat} {n k : Nat} {x : Rat} (h : a.length = n) (hx : a[k]? = some x) (ha : ∀ x ∈ a, BQ 5 x) (hn : n ≤ 16) : FitsP 34 [ratsN n (part a k), ratsN n ((unitL n (k : Int)).map (· * x))] [] (.tup [ratsN n (part a (k + 1)), ok0]) :=
  addV_f (by omega) (part_len h k) (map_len (unitL_len n _)) (part_len h (k + 1)) fun j p q r e1 e2 e3 => by
    have hj : j < n := by have := (List.getElem?_eq_some_iff.1 e1).1; rw [part_len h] at this; exact this
    rw [part_get h k hj] at e1
    rw [part_get h (k + 1) hj] at e3
    rw [map_get (unit_get hj) e2]
    injection e1 with e1
    injection e3 with e3
    have hb : BQ 5 p := by rw [← e1]; exact part_bq (by omega) ha k _ (List.mem_of_getElem? (part_get h k hj))
    have hu : BQ 1 (if (j : Int) = (k : Int) then (1 : Rat) else 0) := by split <;> first | exact bq_one | exact bq_zero
    have := addQ_f hb (BQ.mul hu (mem_get ha hx)) (by omega)
    have e : p + (if (j : Int) = (k : Int) then (1 : Rat) else 0) * x = r := by
      rw [← e1, ← e3]
      rcases Nat.lt_trichotomy j k with hlt | heq | hgt
      · rw [if_pos hlt, if_neg (by omega), if_pos (by omega)]; grind
      · subst heq
        rw [if_neg (by omega), if_pos rfl, if_pos (by omega), List.getD_eq_getElem?_getD, hx]
        show (0 : Rat) + 1 * x = x
        grind
      · rw [if_neg (by omega), if_neg (by omega), if_neg (by omega)]; grind
    rw [e] at this; exact this
/-- What a unit tells of a row. -/
theorem dot_unit {a : List Rat} {n k : Nat} {x : Rat} (h : a.length = n) (hx : a[k]? = some x) : ∀ m, m ≤ n → sumTo (List.zipWith (· * ·) a (unitL n (k : Int))) m = if k < m then x else 0
  | 0, _ => by rw [if_neg (by omega)]; rfl
  | m + 1, hm => by
    have ih := dot_unit h hx m (by omega)
    obtain ⟨y, hy⟩ : ∃ y, a[m]? = some y := ⟨_, List.getElem?_eq_getElem (by omega)⟩
    rw [sumTo_succ (zip_some hy (unit_get (by omega))), ih]
    rcases Nat.lt_trichotomy k m with hlt | heq | hgt
    · rw [if_pos hlt, if_neg (by omega), if_pos (by omega)]; grind
    · subst heq
      rw [hx] at hy; injection hy with hy; subst hy
      rw [if_neg (by omega), if_pos rfl, if_pos (by omega)]; grind
    · rw [if_neg (by omega), if_neg (by omega), if_neg (by omega)]; grind
theorem dot_unit_f {a : List Rat} {n k : Nat} {x : Rat} (hn : n ≤ 16) (h : a.length = n) (hx : a[k]? = some x) (ha : ∀ x ∈ a, BQ 5 x) : FitsP 38 [ratsN n a, ratsN n (unitL n (k : Int))] [] (.tup [rq x, ok0]) := by
  have := dotQ_f (m := 5) (j := 1) hn h (unitL_len n (k : Int)) ha unit_bq (by omega) (by omega)
  rw [show dotQ a (unitL n (k : Int)) n = x by
    have hk := (List.getElem?_eq_some_iff.1 hx).1
    unfold dotQ; rw [dot_unit h hx n (Nat.le_refl n), if_pos (by omega)]] at this
  exact this

def unLT (n : Nat) (a : List Rat) (k : Nat) : List Av := mkT 78 [(0, .one (.cel (.ent (rowOf n (a.flatMap rqC))))), (3, .one (.cel (.ent (rowOf n ((part a (k)).flatMap rqC))))), (23, .one (.cel (.ent (rowOf n (a.flatMap rqC))))), (24, .one (.cel (.raw (.int .i64 (n : Int))))), (25, .one (.cel (.raw (.int .i64 ((k : Nat) : Int)))))]
def unLV (_n : Nat) (_a : List Rat) (_k : Nat) : List (Nat × VarSt) := []
set_option maxRecDepth 100000 in
theorem unL_round {n : Nat} {a : List Rat} {k : Nat} (hn : n ≤ 16) (h1 : a.length = n) (ha : ∀ x ∈ a, BQ 5 x) {x : Rat} (hx : a[k]? = some x) : AM.Moves Tryz.prog Glob (loopN Tryz.f8 0) (unLT n a k) (unLV n a k) .normal (unLT n a (k + 1)) (unLV n a (k + 1)) := by
  have hT : AllOk Tryz.prog Glob [
    Tr.norm 100 (Av.one (Sv.cel (Cv.raw (Value.bool (decide ((↑k : Int) < (↑n : Int))))))) (Av.one (boolS true)),
    Tr.told (Op.indexAddr 28 (Operand.tmp 23) (Operand.tmp 25)) 0 [Av.one (Sv.cel (Cv.ent (rowOf n (List.flatMap rqC a)))), Av.one (intS (↑k : Int))] (.one (.cel (.ent (ptrTo (rqC x))))),
    Tr.told (Op.load 27 (Operand.tmp 28)) 27 [Av.one (Sv.cel (Cv.ent (ptrTo [Cv.raw (Value.bool (decide (Rat.num x < (0 : Int)))), Cv.ent (nat (Int.natAbs (Rat.num x))), Cv.ent (nat (Rat.den x))])))] (.one (rq x)),
    Tr.call 47 [intS (↑n : Int), intS (↑k : Int)] [] (Av.one (Sv.cel (Cv.ent (rowOf n (List.flatMap rqC (unitL n (↑k : Int))))))),
    Tr.call 38 [Sv.cel (Cv.ent (rowOf n (List.flatMap rqC a))), Sv.cel (Cv.ent (rowOf n (List.flatMap rqC (unitL n (↑k : Int)))))] [] (Av.tup [rq x, ok0]),
    Tr.call 37 [rq x, rq x] [] (Av.tup [ok0, ok0]),
    Tr.call 39 [Sv.cel (Cv.ent (rowOf n (List.flatMap rqC (unitL n (↑k : Int))))), rq x] [] (Av.tup [Sv.cel (Cv.ent (rowOf n (List.flatMap rqC (List.map (fun x_1 => x_1 * x) (unitL n (↑k : Int)))))), ok0]),
    Tr.call 34 [Sv.cel (Cv.ent (rowOf n (List.flatMap rqC (YtejkcmklhmifaaaGreatDoor.part a k)))), Sv.cel (Cv.ent (rowOf n (List.flatMap rqC (List.map (fun x_1 => x_1 * x) (unitL n (↑k : Int))))))] [] (Av.tup [Sv.cel (Cv.ent (rowOf n (List.flatMap rqC (YtejkcmklhmifaaaGreatDoor.part a (k + (1 : Nat)))))), ok0]),
    Tr.norm 162 (Av.one (intS (IntKind.wrap IntKind.i64 ((↑k : Int) + (1 : Int))))) (Av.one (intS (↑(k + (1 : Nat)) : Int)))] := ⟨
    norm_bool (lt_true (idx_lt hx h1)),
    idx_ok (e := 27) (s := 3) (j := k) (by kernel_rfl) (by kernel_rfl) rfl (idx_lt hx h1) (flat_get rqC_len hx) (flat_ne rqC_len (by omega) hx),
    loadn_ok (by kernel_rfl) (by kernel_rfl) (Nat.le_refl _) rfl,
    unit_n hn,
    dot_unit_f hn h1 hx ha,
    cmp_lit (mem_get ha hx) (mem_get ha hx) (by omega) (ord_self rfl),
    scaleQ_f hn (unitL_len n _) unit_bq (mem_get ha hx) (by omega),
    part_step h1 hx ha hn,
    norm_succ (idx_lt hx h1) (by omega), trivial⟩
  exact moves_of_trace (n := 200) (k := 100) (keep := [0, 3, 23, 24, 25]) (ids := []) hT (by kernel_rfl)

set_option maxRecDepth 100000 in
theorem unL_exit {n : Nat} {a : List Rat}  : AM.Moves Tryz.prog Glob (loopN Tryz.f8 0) (unLT n a n) (unLV n a n) (.exit 0) (unLT n a n) (unLV n a n) := by
  have hT : AllOk Tryz.prog Glob [
    Tr.norm 100 (Av.one (Sv.cel (Cv.raw (Value.bool (decide ((↑n : Int) < (↑n : Int))))))) (Av.one (boolS false))] := ⟨
    norm_bool (lt_false), trivial⟩
  exact moves_of_trace (n := 200) (k := 100) (keep := [0, 3, 23, 24, 25]) (ids := []) hT (by kernel_rfl)

theorem unL_loop {n : Nat} {a : List Rat} (hn : n ≤ 16) (h1 : a.length = n) (ha : ∀ x ∈ a, BQ 5 x) :
    AM.Moves Tryz.prog Glob (.loop (loopN Tryz.f8 0)) (unLT n a 0) (unLV n a 0) (.exit 0) (unLT n a n) (unLV n a n) :=
  loop_moves (n := n) (tm := fun k => (unLT n a k)) (vr := fun k => (unLV n a k)) (fun k hk => by
    obtain ⟨x, hx⟩ : ∃ x, a[k]? = some x := ⟨_, List.getElem?_eq_getElem (by omega)⟩
    exact unL_round hn h1 ha hx) (by simp) unL_exit
set_option maxRecDepth 100000 in
theorem VecUnits_fit {n : Nat} {a : List Rat} (hn : n ≤ 16) (h1 : a.length = n) (ha : ∀ x ∈ a, BQ 5 x) : FitsP 8 [ratsN n a] [] (.one (boolS true)) := by
  have hT : AllOk Tryz.prog Glob [
    Tr.call 32 [] [] (Av.one (boolS true)),
    Tr.froz,
    Tr.call 33 [Sv.cel (Cv.ent (rowOf (1 : Nat) [Cv.ent (rowOf n (List.flatMap rqC a))]))] [] (Av.one (boolS true)),
    Tr.call 40 [intS (↑n : Int)] [] (Av.one (Sv.cel (Cv.ent (rowOf n (List.flatMap rqC (YtejkcmklhmifaaaGreatDoor.part a (0 : Nat))))))),
    Tr.loop ((loopN Tryz.f8 0)) [nat_lit 0, nat_lit 3, nat_lit 23, nat_lit 24, nat_lit 25] [] ((unLT n a 0)) ((unLV n a 0)) (Exit.exit (nat_lit 0)) ((unLT n a n)) ((unLV n a n)) (nat_lit 100),
    Tr.call 36 [Sv.cel (Cv.ent (rowOf n (List.flatMap rqC (YtejkcmklhmifaaaGreatDoor.part a n)))), Sv.cel (Cv.ent (rowOf n (List.flatMap rqC a)))] [] (Av.one (boolS true))] := ⟨
    points7,
    trivial,
    fit1R hn h1 ha,
    by rw [part_zero h1]; exact zero_n_f hn,
    unL_loop hn h1 ha,
    sameV_true (by omega) (part_len h1 n) (part_full h1), trivial⟩
  exact fits_of_trace (n := 300) (k0 := 0) hT Tryz.func8 (by kernel_rfl) (by kernel_rfl) (by kernel_rfl)

set_option maxRecDepth 100000 in
theorem VecUnits_un {m : Nat} {cs : List Cv} (hu : FitsP 33 [.cel (.ent (rowOf 1 [.ent (rowOf m cs)]))] [] (.one (boolS false))) : FitsP 8 [.cel (.ent (rowOf m cs))] [] (.one (boolS true)) := by
  have hT : AllOk Tryz.prog Glob [
    Tr.call 32 [] [] (Av.one (boolS true)),
    Tr.froz,
    Tr.call 33 [Sv.cel (Cv.ent (rowOf (1 : Nat) [Cv.ent (rowOf m cs)]))] [] (Av.one (boolS false))] := ⟨
    points7,
    trivial,
    hu, trivial⟩
  exact fits_of_trace (n := 300) (k0 := 0) hT Tryz.func8 (by kernel_rfl) (by kernel_rfl) (by kernel_rfl)
end Go.Proofs.YtejkcmklhmifaaaGreatDoor
