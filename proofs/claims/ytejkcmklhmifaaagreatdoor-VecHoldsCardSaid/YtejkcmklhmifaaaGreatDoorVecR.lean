/- Rows of ratios: layer 7. -/
import Derived.Test.YtejkcmklhmifaaaGreatDoorVecZ
import Derived.Test.YtejkcmklhmifaaaGreatDoorRowIn
namespace Go.Proofs.YtejkcmklhmifaaaGreatDoor
open Go Go.RowKit Go.Shelf AM
theorem callEqN : Callable Tryz.prog 175 := ⟨_, Tryz.func175, by kernel_rfl, by kernel_rfl⟩
theorem eqN_f {x y : Nat} : FitsP 175 [natS x, natS y] [] (.one (boolS (decide (x = y)))) := fits_of callEqN fun β W w vals hp ha => by
  obtain ⟨u, v, rfl, h1, h2⟩ := all2_2 ha
  exact (equal_n (nat_rel hp h1) (nat_rel hp h2)).mono fun _ _ ⟨he, hb⟩ => ⟨_, he, hb, rfl⟩
theorem eqN_true {x y : Nat} (h : x = y) : FitsP 175 [natS x, natS y] [] (.one (boolS true)) := by have := eqN_f (x := x) (y := y); rw [decide_eq_true h] at this; exact this
theorem eqN_false {x y : Nat} (h : x ≠ y) : FitsP 175 [natS x, natS y] [] (.one (boolS false)) := by have := eqN_f (x := x) (y := y); rw [decide_eq_false h] at this; exact this
theorem beq_true {a b : Bool} (h : a = b) : (a == b) = true := by rw [beq_iff_eq]; exact h
theorem beq_false {a b : Bool} (h : a ≠ b) : (a == b) = false := by rw [beq_eq_false_iff_ne]; exact h
theorem Fits.fn2 {P : Program} {G : World → Prop} {f g : FuncId} {a b : Sv} {mem : List (Nat × VarSt)} {r : Av} (h : Fits P G f [a, b, .cel (.ent (fnE g [] []))] mem r) : Fits P G f [a, b, .cel (.raw (.func (.func g) #[] #[]))] mem r :=
  Fits.args h fun β W vals hv => by
    match vals, hv with
    | [x, y, z], ⟨h1, h2, h3, _⟩ => exact ⟨h1, h2, fn_raw (β := β) h3, trivial⟩
theorem Fits.fn1 {P : Program} {G : World → Prop} {f g : FuncId} {a : Sv} {mem : List (Nat × VarSt)} {r : Av} (h : Fits P G f [a, .cel (.ent (fnE g [] []))] mem r) : Fits P G f [a, .cel (.raw (.func (.func g) #[] #[]))] mem r :=
  Fits.args h fun β W vals hv => by
    match vals, hv with
    | [x, z], ⟨h1, h3, _⟩ => exact ⟨h1, fn_raw (β := β) h3, trivial⟩
/-- All together, up to a place. -/
def sumTo (ps : List Rat) : Nat → Rat
  | 0 => 0
  | k + 1 => sumTo ps k + ps.getD k 0
theorem sumTo_bq {m : Nat} {ps : List Rat} (h : ∀ p ∈ ps, BQ m p) (hm : 1 ≤ m) : ∀ k, BQ (k * (m + 1) + 1) (sumTo ps k)
  | 0 => bq_zero.mono (by omega)
  | k + 1 => by
    unfold sumTo
    have ih := sumTo_bq h hm k
    have hp : BQ m (ps.getD k 0) := by
      rw [List.getD_eq_getElem?_getD]
      cases hk : ps[k]? with
      | none => exact bq_zero.mono hm
      | some p => exact h p (List.mem_of_getElem? hk)
    exact (BQ.add ih hp).mono (by rw [Nat.succ_mul]; omega)
/-- A row's words. -/
abbrev ratsN (n : Nat) (xs : List Rat) : Sv := .cel (.ent (rowOf n (xs.flatMap rqC)))

set_option maxRecDepth 100000 in
theorem addV_f {n : Nat} {xs ys zs : List Rat} (hn : n ≤ 17179869184) (hl : xs.length = n) (hm : ys.length = n) (ho : zs.length = n) (hc : ∀ (k : Nat) (x y z : Rat), xs[k]? = some x → ys[k]? = some y → zs[k]? = some z → FitsP 24 [rq x, rq y] [] (.tup [rq z, ok0])) : FitsP 34 [ratsN n xs, ratsN n ys] [] (.tup [ratsN n zs, ok0]) := by
  have hT : AllOk Tryz.prog Glob [
    Tr.call 101 [Sv.cel (Cv.ent (rowOf n (List.flatMap rqC xs))), Sv.cel (Cv.ent (rowOf n (List.flatMap rqC ys))), Sv.cel (Cv.raw (Value.func (Fn.func 24) #[] #[]))] [] (Av.tup [Sv.cel (Cv.ent (rowOf n (List.flatMap rqC zs))), ok0])] := ⟨
    Fits.fn2 (pairRRR_f hn hl hm ho fun k x y z h1 h2 h3 => callV_of (hc k x y z h1 h2 h3)), trivial⟩
  exact fits_of_trace (n := 300) (k0 := 0) hT Tryz.func34 (by kernel_rfl) (by kernel_rfl) (by kernel_rfl)

set_option maxRecDepth 100000 in
theorem addV_un {n m : Nat} {cs ds : List Cv} (h : n ≠ m) : FitsP 34 [.cel (.ent (rowOf n cs)), .cel (.ent (rowOf m ds))] [] (.tup [nilS, intS 20]) := by
  have hT : AllOk Tryz.prog Glob [
    Tr.call 101 [Sv.cel (Cv.ent (rowOf n cs)), Sv.cel (Cv.ent (rowOf m ds)), Sv.cel (Cv.raw (Value.func (Fn.func 24) #[] #[]))] [] (Av.tup [Sv.cel (Cv.raw (Value.slice none (nat_lit 0) (nat_lit 0))), intS (Int.ofNat (nat_lit 20))])] := ⟨
    Fits.fn2 (pairRRR_un h), trivial⟩
  exact fits_of_trace (n := 300) (k0 := 0) hT Tryz.func34 (by kernel_rfl) (by kernel_rfl) (by kernel_rfl)

set_option maxRecDepth 100000 in
theorem subV_f {n : Nat} {xs ys zs : List Rat} (hn : n ≤ 17179869184) (hl : xs.length = n) (hm : ys.length = n) (ho : zs.length = n) (hc : ∀ (k : Nat) (x y z : Rat), xs[k]? = some x → ys[k]? = some y → zs[k]? = some z → FitsP 29 [rq x, rq y] [] (.tup [rq z, ok0])) : FitsP 35 [ratsN n xs, ratsN n ys] [] (.tup [ratsN n zs, ok0]) := by
  have hT : AllOk Tryz.prog Glob [
    Tr.call 101 [Sv.cel (Cv.ent (rowOf n (List.flatMap rqC xs))), Sv.cel (Cv.ent (rowOf n (List.flatMap rqC ys))), Sv.cel (Cv.raw (Value.func (Fn.func 29) #[] #[]))] [] (Av.tup [Sv.cel (Cv.ent (rowOf n (List.flatMap rqC zs))), ok0])] := ⟨
    Fits.fn2 (pairRRR_f hn hl hm ho fun k x y z h1 h2 h3 => callV_of (hc k x y z h1 h2 h3)), trivial⟩
  exact fits_of_trace (n := 300) (k0 := 0) hT Tryz.func35 (by kernel_rfl) (by kernel_rfl) (by kernel_rfl)

set_option maxRecDepth 100000 in
theorem subV_un {n m : Nat} {cs ds : List Cv} (h : n ≠ m) : FitsP 35 [.cel (.ent (rowOf n cs)), .cel (.ent (rowOf m ds))] [] (.tup [nilS, intS 20]) := by
  have hT : AllOk Tryz.prog Glob [
    Tr.call 101 [Sv.cel (Cv.ent (rowOf n cs)), Sv.cel (Cv.ent (rowOf m ds)), Sv.cel (Cv.raw (Value.func (Fn.func 29) #[] #[]))] [] (Av.tup [Sv.cel (Cv.raw (Value.slice none (nat_lit 0) (nat_lit 0))), intS (Int.ofNat (nat_lit 20))])] := ⟨
    Fits.fn2 (pairRRR_un h), trivial⟩
  exact fits_of_trace (n := 300) (k0 := 0) hT Tryz.func35 (by kernel_rfl) (by kernel_rfl) (by kernel_rfl)

set_option maxRecDepth 100000 in
theorem dotV_f {n : Nat} {xs ys zs : List Rat} (hn : n ≤ 17179869184) (hl : xs.length = n) (hm : ys.length = n) (ho : zs.length = n) (hc : ∀ (k : Nat) (x y z : Rat), xs[k]? = some x → ys[k]? = some y → zs[k]? = some z → FitsP 23 [rq x, rq y] [] (.tup [rq z, ok0])) (hs : ∀ (k : Nat) (z : Rat), zs[k]? = some z → FitsP 24 [rq (sumTo zs k), rq z] [] (.tup [rq (sumTo zs (k + 1)), ok0])) : FitsP 38 [ratsN n xs, ratsN n ys] [] (.tup [rq (sumTo zs n), ok0]) := by
  have hT : AllOk Tryz.prog Glob [
    Tr.call 101 [Sv.cel (Cv.ent (rowOf n (List.flatMap rqC xs))), Sv.cel (Cv.ent (rowOf n (List.flatMap rqC ys))), Sv.cel (Cv.raw (Value.func (Fn.func 23) #[] #[]))] [] (Av.tup [Sv.cel (Cv.ent (rowOf n (List.flatMap rqC zs))), ok0]),
    Tr.call 106 [Sv.cel (Cv.ent (rowOf n (List.flatMap rqC zs)))] [] (Av.tup [rq (sumTo zs n), ok0])] := ⟨
    Fits.fn2 (pairRRR_f hn hl hm ho fun k x y z h1 h2 h3 => callV_of (hc k x y z h1 h2 h3)),
    sumR_f (sumTo zs) rfl hn ho hs, trivial⟩
  exact fits_of_trace (n := 300) (k0 := 0) hT Tryz.func38 (by kernel_rfl) (by kernel_rfl) (by kernel_rfl)

set_option maxRecDepth 100000 in
theorem dotV_un {n m : Nat} {cs ds : List Cv} (h : n ≠ m) : FitsP 38 [.cel (.ent (rowOf n cs)), .cel (.ent (rowOf m ds))] [] (.tup [rq 0, intS 20]) := by
  have hT : AllOk Tryz.prog Glob [
    Tr.call 101 [Sv.cel (Cv.ent (rowOf n cs)), Sv.cel (Cv.ent (rowOf m ds)), Sv.cel (Cv.raw (Value.func (Fn.func 23) #[] #[]))] [] (Av.tup [Sv.cel (Cv.raw (Value.slice none (nat_lit 0) (nat_lit 0))), intS (Int.ofNat (nat_lit 20))]),
    Tr.call 20 [] [] (Av.one (rq (0 : Rat)))] := ⟨
    Fits.fn2 (pairRRR_un h),
    zeroQ0_f, trivial⟩
  exact fits_of_trace (n := 300) (k0 := 0) hT Tryz.func38 (by kernel_rfl) (by kernel_rfl) (by kernel_rfl)

set_option maxRecDepth 100000 in
theorem scaleV1 {x b z : Rat} (hc : FitsP 23 [rq x, rq b] [] (.tup [rq z, ok0])) : FitsP 108 [rq x, .cel (.ent (ptrTo (rqC b)))] [] (.tup [rq z, ok0]) := by
  have hT : AllOk Tryz.prog Glob [
    Tr.told (Op.load 27 (Operand.tmp 1)) 27 [Av.one (Sv.cel (Cv.ent (ptrTo (rqC b))))] (.one (rq b)),
    Tr.call 23 [rq x, rq b] [] (Av.tup [rq z, ok0])] := ⟨
    loadn_ok (by kernel_rfl) (by kernel_rfl) (Nat.le_refl _) rfl,
    hc, trivial⟩
  exact fits_of_trace (n := 300) (k0 := 0) hT Tryz.func108 (by kernel_rfl) (by kernel_rfl) (by kernel_rfl)

set_option maxRecDepth 100000 in
theorem scaleV_f {n : Nat} {xs ys : List Rat} {b : Rat} (hn : n ≤ 17179869184) (hl : xs.length = n) (hm : ys.length = n) (hc : ∀ (k : Nat) (x y : Rat), xs[k]? = some x → ys[k]? = some y → FitsP 23 [rq x, rq b] [] (.tup [rq y, ok0])) : FitsP 39 [ratsN n xs, rq b] [] (.tup [ratsN n ys, ok0]) := by
  have hT : AllOk Tryz.prog Glob [
    Tr.froz,
    Tr.told (Op.makeFunc (Fn.func 108) #[] #[Operand.tmp 3]) 146 [Av.one (Sv.cel (Cv.ent (ptrTo (cellsOf (rq b)))))] (.one (.cel (.ent (fnE 108 [] [.ent (ptrTo (rqC b))])))),
    Tr.call 107 [Sv.cel (Cv.ent (rowOf n (List.flatMap rqC xs))), Sv.cel (Cv.ent (fnE 108 [] [Cv.ent (ptrTo (rqC b))]))] [] (Av.tup [Sv.cel (Cv.ent (rowOf n (List.flatMap rqC ys))), ok0])] := ⟨
    trivial,
    fn1_ok rfl,
    eachRR_f hn hl hm fun k x y h1 h2 => callV_of (scaleV1 (hc k x y h1 h2)), trivial⟩
  exact fits_of_trace (n := 300) (k0 := 0) hT Tryz.func39 (by kernel_rfl) (by kernel_rfl) (by kernel_rfl)

set_option maxRecDepth 100000 in
theorem sameQ_true {x y : Rat} (h : x = y) : FitsP 103 [rq x, rq y] [] (.one (boolS true)) := by
  have hT : AllOk Tryz.prog Glob [
    Tr.norm 10 (Av.one (Sv.cel (Cv.raw (Value.bool (decide (Rat.num x < (0 : Int)) == decide (Rat.num y < (0 : Int))))))) (Av.one (boolS true)),
    Tr.call 175 [natS (Int.natAbs (Rat.num x)), natS (Int.natAbs (Rat.num y))] [] (Av.one (boolS true)),
    Tr.call 175 [natS (Rat.den x), natS (Rat.den y)] [] (Av.one (boolS true))] := ⟨
    norm_bool (beq_true (by rw [h])),
    eqN_true (by rw [h]),
    eqN_true (by rw [h]), trivial⟩
  exact fits_of_trace (n := 300) (k0 := 0) hT Tryz.func103 (by kernel_rfl) (by kernel_rfl) (by kernel_rfl)

set_option maxRecDepth 100000 in
theorem sameQ_f1 {x y : Rat} (h : decide (x.num < 0) ≠ decide (y.num < 0)) : FitsP 103 [rq x, rq y] [] (.one (boolS false)) := by
  have hT : AllOk Tryz.prog Glob [
    Tr.norm 10 (Av.one (Sv.cel (Cv.raw (Value.bool (decide (Rat.num x < (0 : Int)) == decide (Rat.num y < (0 : Int))))))) (Av.one (boolS false))] := ⟨
    norm_bool (beq_false h), trivial⟩
  exact fits_of_trace (n := 300) (k0 := 0) hT Tryz.func103 (by kernel_rfl) (by kernel_rfl) (by kernel_rfl)

set_option maxRecDepth 100000 in
theorem sameQ_f2 {x y : Rat} (h : decide (x.num < 0) = decide (y.num < 0)) (h2 : x.num.natAbs ≠ y.num.natAbs) : FitsP 103 [rq x, rq y] [] (.one (boolS false)) := by
  have hT : AllOk Tryz.prog Glob [
    Tr.norm 10 (Av.one (Sv.cel (Cv.raw (Value.bool (decide (Rat.num x < (0 : Int)) == decide (Rat.num y < (0 : Int))))))) (Av.one (boolS true)),
    Tr.call 175 [natS (Int.natAbs (Rat.num x)), natS (Int.natAbs (Rat.num y))] [] (Av.one (boolS false))] := ⟨
    norm_bool (beq_true h),
    eqN_false h2, trivial⟩
  exact fits_of_trace (n := 300) (k0 := 0) hT Tryz.func103 (by kernel_rfl) (by kernel_rfl) (by kernel_rfl)

set_option maxRecDepth 100000 in
theorem sameQ_f3 {x y : Rat} (h : decide (x.num < 0) = decide (y.num < 0)) (h2 : x.num.natAbs = y.num.natAbs) (h3 : x.den ≠ y.den) : FitsP 103 [rq x, rq y] [] (.one (boolS false)) := by
  have hT : AllOk Tryz.prog Glob [
    Tr.norm 10 (Av.one (Sv.cel (Cv.raw (Value.bool (decide (Rat.num x < (0 : Int)) == decide (Rat.num y < (0 : Int))))))) (Av.one (boolS true)),
    Tr.call 175 [natS (Int.natAbs (Rat.num x)), natS (Int.natAbs (Rat.num y))] [] (Av.one (boolS true)),
    Tr.call 175 [natS (Rat.den x), natS (Rat.den y)] [] (Av.one (boolS false))] := ⟨
    norm_bool (beq_true h),
    eqN_true h2,
    eqN_false h3, trivial⟩
  exact fits_of_trace (n := 300) (k0 := 0) hT Tryz.func103 (by kernel_rfl) (by kernel_rfl) (by kernel_rfl)

theorem sameQ_false {x y : Rat} (h : x ≠ y) : FitsP 103 [rq x, rq y] [] (.one (boolS false)) := by
  by_cases h1 : decide (x.num < 0) = decide (y.num < 0)
  · by_cases h2 : x.num.natAbs = y.num.natAbs
    · by_cases h3 : x.den = y.den
      · exact absurd (Rat.ext (by
          have e : (x.num < 0) ↔ (y.num < 0) := by simpa using h1
          omega) h3) h
      · exact sameQ_f3 h1 h2 h3
    · exact sameQ_f2 h1 h2
  · exact sameQ_f1 h1
set_option maxRecDepth 100000 in
theorem sameV_r {n m : Nat} {xs ys : List Rat} {b : Bool} (h : FitsP 102 [ratsN n xs, ratsN m ys, .cel (.ent (fnE 103 [] []))] [] (.one (boolS b))) : FitsP 36 [ratsN n xs, ratsN m ys] [] (.one (boolS b)) := by
  have hT : AllOk Tryz.prog Glob [
    Tr.call 102 [Sv.cel (Cv.ent (rowOf n (List.flatMap rqC xs))), Sv.cel (Cv.ent (rowOf m (List.flatMap rqC ys))), Sv.cel (Cv.raw (Value.func (Fn.func 103) #[] #[]))] [] (Av.one (Sv.cel (Cv.raw (Value.bool b))))] := ⟨
    Fits.fn2 h, trivial⟩
  exact fits_of_trace (n := 300) (k0 := 0) hT Tryz.func36 (by kernel_rfl) (by kernel_rfl) (by kernel_rfl)

theorem first_ne : ∀ {xs ys : List Rat}, xs.length = ys.length → xs ≠ ys → ∃ (j : Nat) (x y : Rat), xs[j]? = some x ∧ ys[j]? = some y ∧ x ≠ y ∧ ∀ (k : Nat) (x y : Rat), k < j → xs[k]? = some x → ys[k]? = some y → x = y
  | [], [], _, h => absurd rfl h
  | [], _ :: _, h, _ => by simp at h
  | _ :: _, [], h, _ => by simp at h
  | x :: xs, y :: ys, hl, h => by
    by_cases e : x = y
    · subst e
      obtain ⟨j, a, b, h1, h2, h3, h4⟩ := first_ne (xs := xs) (ys := ys) (by simpa using hl) (fun e => h (by rw [e]))
      refine ⟨j + 1, a, b, by simpa using h1, by simpa using h2, h3, fun k p q hk hp hq => ?_⟩
      cases k with
      | zero => simp at hp hq; rw [← hp, ← hq]
      | succ k => exact h4 k p q (by omega) (by simpa using hp) (by simpa using hq)
    · exact ⟨0, x, y, rfl, rfl, e, fun k p q hk => by omega⟩
theorem sameV_true {n : Nat} {xs ys : List Rat} (hn : n ≤ 17179869184) (hl : xs.length = n) (h : xs = ys) : FitsP 36 [ratsN n xs, ratsN n ys] [] (.one (boolS true)) := by
  subst h
  exact sameV_r (eqR_true hn hl hl fun k x y h1 h2 => callV_of (sameQ_true (by rw [h1] at h2; injection h2)))
theorem sameV_un {n m : Nat} {xs ys : List Rat} (h : n ≠ m) : FitsP 36 [ratsN n xs, ratsN m ys] [] (.one (boolS false)) := sameV_r (eqR_un h)
theorem sameV_false {n : Nat} {xs ys : List Rat} (hn : n ≤ 17179869184) (hl : xs.length = n) (hm : ys.length = n) (h : xs ≠ ys) : FitsP 36 [ratsN n xs, ratsN n ys] [] (.one (boolS false)) := by
  obtain ⟨j, x, y, h1, h2, h3, h4⟩ := first_ne (by rw [hl, hm]) h
  exact sameV_r (eqR_false hn hl hm h1 h2 (callV_of (sameQ_false h3)) fun k p q hk hp hq => callV_of (sameQ_true (h4 k p q hk hp hq)))
def chkT (n : Nat) (xs : List Rat) (k : Nat) : List Av := mkT 32 [(20, .one (.cel (.ent (rowOf n (xs.flatMap rqC))))), (21, .one (.cel (.raw (.int .i64 (n : Int))))), (22, .one (.cel (.raw (.int .i64 ((k : Nat) : Int)))))]
def chkV (_n : Nat) (_xs : List Rat) (_k : Nat) : List (Nat × VarSt) := []
set_option maxRecDepth 100000 in
theorem chk_round {n : Nat} {xs : List Rat} {k : Nat} {x : Rat} (hn : n ≤ 17179869184) (hl : xs.length = n) (hx : xs[k]? = some x) (hc : FitsP 19 [rq x] [] (.one ok0)) : AM.Moves Tryz.prog Glob (loopN Tryz.f48 0) (chkT n xs k) (chkV n xs k) .normal (chkT n xs (k + 1)) (chkV n xs (k + 1)) := by
  have hT : AllOk Tryz.prog Glob [
    Tr.norm 20 (Av.one (Sv.cel (Cv.raw (Value.bool (decide ((↑k : Int) < (↑n : Int))))))) (Av.one (boolS true)),
    Tr.told (Op.indexAddr 28 (Operand.tmp 20) (Operand.tmp 22)) 0 [Av.one (Sv.cel (Cv.ent (rowOf n (List.flatMap rqC xs)))), Av.one (intS (↑k : Int))] (.one (.cel (.ent (ptrTo (rqC x))))),
    Tr.told (Op.load 27 (Operand.tmp 24)) 27 [Av.one (Sv.cel (Cv.ent (ptrTo (rqC x))))] (.one (rq x)),
    Tr.call 19 [rq x] [] (Av.one (ok0)),
    Tr.norm 30 (Av.one (intS (IntKind.wrap IntKind.i64 ((↑k : Int) + (1 : Int))))) (Av.one (intS (↑(k + (1 : Nat)) : Int)))] := ⟨
    norm_bool (lt_true (idx_lt hx hl)),
    idx_ok (e := 27) (s := 3) (j := k) (by kernel_rfl) (by kernel_rfl) rfl (idx_lt hx hl) (flat_get rqC_len hx) (flat_ne rqC_len (by omega) hx),
    loadn_ok (by kernel_rfl) (by kernel_rfl) (Nat.le_refl _) rfl,
    hc,
    norm_succ (idx_lt hx hl) hn, trivial⟩
  exact moves_of_trace (n := 200) (k := 20) (keep := [20, 21, 22]) (ids := []) hT (by kernel_rfl)

set_option maxRecDepth 100000 in
theorem chk_exit {n : Nat} {xs : List Rat}  : AM.Moves Tryz.prog Glob (loopN Tryz.f48 0) (chkT n xs n) (chkV n xs n) (.exit 0) (chkT n xs n) (chkV n xs n) := by
  have hT : AllOk Tryz.prog Glob [
    Tr.norm 20 (Av.one (Sv.cel (Cv.raw (Value.bool (decide ((↑n : Int) < (↑n : Int))))))) (Av.one (boolS false))] := ⟨
    norm_bool (lt_false), trivial⟩
  exact moves_of_trace (n := 200) (k := 20) (keep := [20, 21, 22]) (ids := []) hT (by kernel_rfl)

theorem chk_loop {n : Nat} {xs : List Rat} (hn : n ≤ 17179869184) (hl : xs.length = n) (hc : ∀ (k : Nat) (x : Rat), xs[k]? = some x → FitsP 19 [rq x] [] (.one ok0)) :
    AM.Moves Tryz.prog Glob (.loop (loopN Tryz.f48 0)) (chkT n xs 0) (chkV n xs 0) (.exit 0) (chkT n xs n) (chkV n xs n) :=
  loop_moves (n := n) (tm := fun k => (chkT n xs k)) (vr := fun k => (chkV n xs k)) (fun k hk => by
    obtain ⟨x, hx⟩ : ∃ x, xs[k]? = some x := ⟨_, List.getElem?_eq_getElem (by omega)⟩
    exact chk_round hn hl hx (hc k x hx)) (by simp) chk_exit
set_option maxRecDepth 100000 in
theorem checkV_f {n : Nat} {z : Int} {xs : List Rat} (hz : z = (n : Int)) (hn : n ≤ 16) (hl : xs.length = n) (hc : ∀ (k : Nat) (x : Rat), xs[k]? = some x → FitsP 19 [rq x] [] (.one ok0)) : FitsP 48 [ratsN n xs, .cel (.raw (.int .i64 z))] [] (.one ok0) := by
  have hT : AllOk Tryz.prog Glob [
    Tr.norm 3 (Av.one (Sv.cel (Cv.raw (Value.bool (decide (z < (0 : Int))))))) (Av.one (boolS false)),
    Tr.norm 7 (Av.one (Sv.cel (Cv.raw (Value.bool (decide (z > (16 : Int))))))) (Av.one (boolS false)),
    Tr.norm 12 (Av.one (Sv.cel (Cv.raw (Value.bool ((↑n : Int) != z))))) (Av.one (boolS false)),
    Tr.loop ((loopN Tryz.f48 0)) [nat_lit 20, nat_lit 21, nat_lit 22] [] ((chkT n xs 0)) ((chkV n xs 0)) (Exit.exit (nat_lit 0)) ((chkT n xs n)) ((chkV n xs n)) (nat_lit 100)] := ⟨
    norm_bool (decide_eq_false (show ¬ z < 0 by omega)),
    norm_bool (decide_eq_false (show ¬ z > 16 by omega)),
    norm_bool (by rw [hz]; exact ne_self),
    chk_loop (by omega) hl hc, trivial⟩
  exact fits_of_trace (n := 300) (k0 := 0) hT Tryz.func48 (by kernel_rfl) (by kernel_rfl) (by kernel_rfl)

set_option maxRecDepth 100000 in
theorem checkV_un0 {n : Nat} {z : Int} {cs : List Cv} (h1 : ¬ z < 0) (h2 : ¬ z > 16) (hz : (n : Int) ≠ z) : FitsP 48 [.cel (.ent (rowOf n cs)), .cel (.raw (.int .i64 z))] [] (.one (intS 20)) := by
  have hT : AllOk Tryz.prog Glob [
    Tr.norm 3 (Av.one (Sv.cel (Cv.raw (Value.bool (decide (z < (0 : Int))))))) (Av.one (boolS false)),
    Tr.norm 7 (Av.one (Sv.cel (Cv.raw (Value.bool (decide (z > (16 : Int))))))) (Av.one (boolS false)),
    Tr.norm 12 (Av.one (Sv.cel (Cv.raw (Value.bool ((↑n : Int) != z))))) (Av.one (boolS true))] := ⟨
    norm_bool (decide_eq_false h1),
    norm_bool (decide_eq_false h2),
    norm_bool (ne_int hz), trivial⟩
  exact fits_of_trace (n := 300) (k0 := 0) hT Tryz.func48 (by kernel_rfl) (by kernel_rfl) (by kernel_rfl)

set_option maxRecDepth 100000 in
theorem checkV_lo {n : Nat} {z : Int} {cs : List Cv} (h1 : z < 0) : FitsP 48 [.cel (.ent (rowOf n cs)), .cel (.raw (.int .i64 z))] [] (.one (intS 20)) := by
  have hT : AllOk Tryz.prog Glob [
    Tr.norm 3 (Av.one (Sv.cel (Cv.raw (Value.bool (decide (z < (0 : Int))))))) (Av.one (boolS true))] := ⟨
    norm_bool (decide_eq_true h1), trivial⟩
  exact fits_of_trace (n := 300) (k0 := 0) hT Tryz.func48 (by kernel_rfl) (by kernel_rfl) (by kernel_rfl)

set_option maxRecDepth 100000 in
theorem checkV_hi {n : Nat} {z : Int} {cs : List Cv} (h1 : ¬ z < 0) (h2 : z > 16) : FitsP 48 [.cel (.ent (rowOf n cs)), .cel (.raw (.int .i64 z))] [] (.one (intS 20)) := by
  have hT : AllOk Tryz.prog Glob [
    Tr.norm 3 (Av.one (Sv.cel (Cv.raw (Value.bool (decide (z < (0 : Int))))))) (Av.one (boolS false)),
    Tr.norm 7 (Av.one (Sv.cel (Cv.raw (Value.bool (decide (z > (16 : Int))))))) (Av.one (boolS true))] := ⟨
    norm_bool (decide_eq_false h1),
    norm_bool (decide_eq_true h2), trivial⟩
  exact fits_of_trace (n := 300) (k0 := 0) hT Tryz.func48 (by kernel_rfl) (by kernel_rfl) (by kernel_rfl)
end Go.Proofs.YtejkcmklhmifaaaGreatDoor
