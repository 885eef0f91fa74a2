/- Rows of spans, whatever they hold. -/
import Derived.Test.YtejkcmklhmifaaaGreatDoorVecUnit
import Derived.Test.YtejkcmklhmifaaaGreatDoorVecS
namespace Go.Proofs.YtejkcmklhmifaaaGreatDoor
open Go Go.RowKit Go.Shelf AM
theorem sign_one : ordQ 1 0 = 1 := by decide +kernel
theorem sign_zero : ordQ 0 0 = 0 := by decide +kernel
/-- A unit's spans. -/
def unitD (n : Nat) (z : Int) : List (Dy × Dy) := (List.range n).map fun j => if ((j : Nat) : Int) = z then (⟨1, 0⟩, ⟨1, 0⟩) else (⟨0, 0⟩, ⟨0, 0⟩)
theorem unitD_len (n : Nat) (z : Int) : (unitD n z).length = n := by unfold unitD; simp
theorem unitD_get {n j : Nat} {z : Int} (hj : j < n) : (unitD n z)[j]? = some (if ((j : Nat) : Int) = z then (⟨1, 0⟩, ⟨1, 0⟩) else (⟨0, 0⟩, ⟨0, 0⟩)) := by
  unfold unitD
  rw [List.getElem?_map, List.getElem?_range hj]; rfl
theorem near0 {w : Int} (hw : w = ((5 : Nat) : Int)) : FitsP 14 [rq 0, intS w] [] (.tup [spQ (⟨0, 0⟩, ⟨0, 0⟩), ok0]) := nearX (b := 5) hw ⟨0, 0⟩ (by decide +kernel) (by omega) (by omega) (by decide +kernel) (by decide +kernel) (by decide +kernel)
theorem near1 {w : Int} (hw : w = ((5 : Nat) : Int)) : FitsP 14 [rq 1, intS w] [] (.tup [spQ (⟨1, 0⟩, ⟨1, 0⟩), ok0]) := nearX (b := 5) hw ⟨1, 0⟩ (by decide +kernel) (by omega) (by omega) (by decide +kernel) (by decide +kernel) (by decide +kernel)
theorem near_unit {n : Nat} {z : Int} (hn : n ≤ 16) : FitsP 41 [ratsN n (unitL n z), intS 5] [] (.tup [spansN n (unitD n z), ok0]) :=
  nearV_f (by omega) (unitL_len n z) (unitD_len n z) fun j x y h1 h2 => by
    have hj := (List.getElem?_eq_some_iff.1 h1).1
    rw [unitL_len] at hj
    rw [unit_get hj] at h1
    rw [unitD_get hj] at h2
    injection h1 with h1
    injection h2 with h2
    subst h1; subst h2
    split
    · exact near1 rfl
    · exact near0 rfl

set_option maxRecDepth 100000 in
theorem hasQ_lo {x y : Dy} {q : Rat} {n k m : Nat} (hx : BD n k x) (hy : BD n k y) (hq : BQ m q) (hk : n + k + 1 + m ≤ 512) (h : ¬ ordQ (dv x) q ≤ 0) : FitsP 25 [spS x y, rq q] [] (.tup [boolS false, ok0]) := by
  have hT : AllOk Tryz.prog Glob [
    Tr.call 30 [dS x, rq q] [] (Av.tup [intS (ordQ (dv x) q), ok0]),
    Tr.call 30 [dS y, rq q] [] (Av.tup [intS (ordQ (dv y) q), ok0]),
    Tr.norm 28 (Av.one (Sv.cel (Cv.raw (Value.bool (decide (ordQ (dv x) q ≤ (0 : Int))))))) (Av.one (boolS false))] := ⟨
    cmpDQ_f hx hq hk rfl,
    cmpDQ_f hy hq hk rfl,
    norm_bool (decide_eq_false h), trivial⟩
  exact fits_of_trace (n := 300) (k0 := 0) hT Tryz.func25 (by kernel_rfl) (by kernel_rfl) (by kernel_rfl)

set_option maxRecDepth 100000 in
theorem hasQ_hi {x y : Dy} {q : Rat} {n k m : Nat} (hx : BD n k x) (hy : BD n k y) (hq : BQ m q) (hk : n + k + 1 + m ≤ 512) (h : ordQ (dv x) q ≤ 0) : FitsP 25 [spS x y, rq q] [] (.tup [boolS (decide (ordQ (dv y) q ≥ 0)), ok0]) := by
  have hT : AllOk Tryz.prog Glob [
    Tr.call 30 [dS x, rq q] [] (Av.tup [intS (ordQ (dv x) q), ok0]),
    Tr.call 30 [dS y, rq q] [] (Av.tup [intS (ordQ (dv y) q), ok0]),
    Tr.norm 28 (Av.one (Sv.cel (Cv.raw (Value.bool (decide (ordQ (dv x) q ≤ (0 : Int))))))) (Av.one (boolS true))] := ⟨
    cmpDQ_f hx hq hk rfl,
    cmpDQ_f hy hq hk rfl,
    norm_bool (decide_eq_true h), trivial⟩
  exact fits_of_trace (n := 300) (k0 := 0) hT Tryz.func25 (by kernel_rfl) (by kernel_rfl) (by kernel_rfl)

theorem hasQ_any {x y : Dy} {q : Rat} {n k m : Nat} (hx : BD n k x) (hy : BD n k y) (hq : BQ m q) (hk : n + k + 1 + m ≤ 512) : ∃ b, FitsP 25 [spS x y, rq q] [] (.tup [boolS b, ok0]) := by
  by_cases h : ordQ (dv x) q ≤ 0
  · exact ⟨_, hasQ_hi hx hy hq hk h⟩
  · exact ⟨_, hasQ_lo hx hy hq hk h⟩
set_option maxRecDepth 100000 in
theorem idxB_out {n k : Nat} {xs : List Bool} {x : Bool} (hl : xs.length = n) (hx : xs[k]? = some x) (hc : x = false) : AM.Moves Tryz.prog Glob (loopN Tryz.f177 0) (idxBT n xs k) (idxBV n xs k) .ret (mkT 19 [(4, .one (intS (k : Int)))]) [] := by
  have hT : AllOk Tryz.prog Glob [
    Tr.norm 10 (Av.one (Sv.cel (Cv.raw (Value.bool (decide ((↑k : Int) < (↑n : Int))))))) (Av.one (boolS true)),
    Tr.told (Op.indexAddr 152 (Operand.tmp 12) (Operand.tmp 13)) 0 [Av.one (Sv.cel (Cv.ent (rowOf n (List.flatMap boC xs)))), Av.one (intS (↑k : Int))] (.one (.cel (.ent (ptrTo (boC x))))),
    Tr.told (Op.load 4 (Operand.tmp 14)) 4 [Av.one (Sv.cel (Cv.ent (ptrTo [Cv.raw (Value.bool x)])))] (.one (boolS x)),
    Tr.norm 18 (Av.one (Sv.cel (Cv.raw (Value.bool (false == x))))) (Av.one (boolS true))] := ⟨
    norm_bool (lt_true (idx_lt hx hl)),
    idx_ok (e := 4) (s := 1) (j := k) (by kernel_rfl) (by kernel_rfl) rfl (idx_lt hx hl) (flat_get boC_len hx) (flat_ne boC_len (by omega) hx),
    load1_ok (by kernel_rfl) rfl,
    norm_bool (by rw [hc]; rfl), trivial⟩
  exact moves_of_trace (n := 200) (k := 10) (keep := [4]) (ids := []) hT (by kernel_rfl)

theorem idxB_brk {n : Nat} {xs : List Bool} (hn : n ≤ 17179869184) (hl : xs.length = n) {j : Nat} (hj : xs[j]? = some false) (hc : ∀ (k : Nat) (x : Bool), k < j → xs[k]? = some x → x = true) :
    AM.Moves Tryz.prog Glob (.loop (loopN Tryz.f177 0)) (idxBT n xs 0) (idxBV n xs 0) .ret (mkT 19 [(4, .one (intS (j : Int)))]) [] :=
  loop_moves (n := j) (tm := fun k => idxBT n xs k) (vr := fun k => idxBV n xs k) (fun k hk => by
    have hjn := idx_lt hj hl
    obtain ⟨x, hx⟩ : ∃ x, xs[k]? = some x := ⟨_, List.getElem?_eq_getElem (by omega)⟩
    exact idxB_round hn hl hx (hc k x hk hx)) (by simp) (idxB_out hl hj rfl)
set_option maxRecDepth 100000 in
theorem idxB_false {n : Nat} {xs : List Bool} (hn : n ≤ 17179869184) (hl : xs.length = n) {j : Nat} (hj : xs[j]? = some false) (hc : ∀ (k : Nat) (x : Bool), k < j → xs[k]? = some x → x = true) : FitsP 177 [.cel (.ent (rowOf n (xs.flatMap boC))), boolS false] [] (.one (intS (j : Int))) := by
  have hT : AllOk Tryz.prog Glob [
    Tr.loop ((loopN Tryz.f177 0)) [nat_lit 0, nat_lit 1, nat_lit 7, nat_lit 8] [] ((idxBT n xs 0)) ((idxBV n xs 0)) Exit.ret ((mkT 19 [(4, .one (intS (j : Int)))])) ([]) (nat_lit 100)] := ⟨
    idxB_brk hn hl hj hc, trivial⟩
  exact fits_of_trace (n := 300) (k0 := 0) hT Tryz.func177 (by kernel_rfl) (by kernel_rfl) (by kernel_rfl)

set_option maxRecDepth 100000 in
theorem contB_some {n : Nat} {xs : List Bool} {j : Nat} (h : FitsP 177 [.cel (.ent (rowOf n (xs.flatMap boC))), boolS false] [] (.one (intS (j : Int)))) : FitsP 116 [.cel (.ent (rowOf n (xs.flatMap boC))), boolS false] [] (.one (boolS true)) := by
  have hT : AllOk Tryz.prog Glob [
    Tr.call 177 [Sv.cel (Cv.ent (rowOf n (List.flatMap boC xs))), boolS false] [] (Av.one (intS (↑j : Int)))] := ⟨
    h, trivial⟩
  exact Fits.res (r := (.one (boolS (decide ((j : Int) ≥ 0))))) (fits_of_trace (n := 300) (k0 := 0) hT Tryz.func116 (by kernel_rfl) (by kernel_rfl) (by kernel_rfl)) (norm_bool (decide_eq_true (show (j : Int) ≥ 0 by omega)))

theorem contB_any {n : Nat} {xs : List Bool} (hn : n ≤ 17179869184) (hl : xs.length = n) : ∃ b, FitsP 116 [.cel (.ent (rowOf n (xs.flatMap boC))), boolS false] [] (.one (boolS b)) := by
  rcases first_or (G := fun (x : Bool) (_ : Unit) => x = true) (B := fun x => x = false) xs (fun x _ => by cases x <;> simp) with ⟨ys, h1, h2⟩ | ⟨j, x, h1, h2, h3⟩
  · refine ⟨false, contB_f hn hl fun x hx => ?_⟩
    obtain ⟨j, hj⟩ := List.getElem?_of_mem hx
    have := (List.getElem?_eq_some_iff.1 hj).1
    exact h2 j x () hj (by rw [List.getElem?_eq_getElem (by omega)])
  · subst h2
    exact ⟨true, contB_some (idxB_false hn hl h1 fun k y hk hy => by obtain ⟨_, h⟩ := h3 k y hk hy; exact h)⟩
set_option maxRecDepth 100000 in
theorem holdsV_r {n : Nat} {xs : List (Dy × Dy)} {ys : List Rat} {zs : List Bool} {b : Bool} (hn : n ≤ 17179869184) (hl : xs.length = n) (hm : ys.length = n) (ho : zs.length = n) (hc : ∀ (k : Nat) (x : Dy × Dy) (y : Rat) (z : Bool), xs[k]? = some x → ys[k]? = some y → zs[k]? = some z → FitsP 25 [spQ x, rq y] [] (.tup [boolS z, ok0])) (hb : FitsP 116 [.cel (.ent (rowOf n (zs.flatMap boC))), boolS false] [] (.one (boolS b))) : FitsP 44 [spansN n xs, ratsN n ys] [] (.tup [boolS (!b), ok0]) := by
  have hT : AllOk Tryz.prog Glob [
    Tr.call 115 [Sv.cel (Cv.ent (rowOf n (List.flatMap spC xs))), Sv.cel (Cv.ent (rowOf n (List.flatMap rqC ys))), Sv.cel (Cv.raw (Value.func (Fn.func 25) #[] #[]))] [] (Av.tup [Sv.cel (Cv.ent (rowOf n (List.flatMap boC zs))), ok0]),
    Tr.call 116 [Sv.cel (Cv.ent (rowOf n (List.flatMap boC zs))), boolS false] [] (Av.one (Sv.cel (Cv.raw (Value.bool b))))] := ⟨
    Fits.fn2 (pairSRB_f hn hl hm ho fun k x y z h1 h2 h3 => callV_of (hc k x y z h1 h2 h3)),
    hb, trivial⟩
  exact fits_of_trace (n := 300) (k0 := 0) hT Tryz.func44 (by kernel_rfl) (by kernel_rfl) (by kernel_rfl)

theorem some_all {α β : Type} {R : Nat → α → β → Prop} : ∀ (xs : List α) (i : Nat), (∀ (k : Nat) (x : α), xs[k]? = some x → ∃ y, R (i + k) x y) → ∃ ys : List β, ys.length = xs.length ∧ ∀ (k : Nat) (x : α) (y : β), xs[k]? = some x → ys[k]? = some y → R (i + k) x y
  | [], _, _ => ⟨[], rfl, fun k x y h => by simp at h⟩
  | x :: xs, i, h => by
    obtain ⟨y, hy⟩ := h 0 x rfl
    obtain ⟨ys, h1, h2⟩ := some_all xs (i + 1) (fun k z hz => by
      obtain ⟨w, hw⟩ := h (k + 1) z (by simpa using hz)
      exact ⟨w, by rw [show i + 1 + k = i + (k + 1) by omega]; exact hw⟩)
    refine ⟨y :: ys, by simp [h1], fun k a b ha hb => ?_⟩
    cases k with
    | zero => simp at ha hb; subst ha; subst hb; exact hy
    | succ k => have := h2 k a b (by simpa using ha) (by simpa using hb); rw [show i + 1 + k = i + (k + 1) by omega] at this; exact this
/-- Does a row of spans hold a row of ratios: some answer, no error. -/
theorem holds_any {n m : Nat} {xs : List (Dy × Dy)} {ys : List Rat} (hn : n ≤ 16) (hl : xs.length = n) (hm : ys.length = n) (hx : ∀ x ∈ xs, BD 4 4 x.1 ∧ BD 4 4 x.2) (hy : ∀ y ∈ ys, BQ m y) (hb : 9 + m ≤ 512) : ∃ b, FitsP 44 [spansN n xs, ratsN n ys] [] (.tup [boolS b, ok0]) := by
  obtain ⟨zs, h1, h2⟩ := some_all (R := fun k x z => ∀ y, ys[k]? = some y → FitsP 25 [spQ x, rq y] [] (.tup [boolS z, ok0])) xs 0 (fun k x hk => by
    have hkn := (List.getElem?_eq_some_iff.1 hk).1
    obtain ⟨y, hyk⟩ : ∃ y, ys[k]? = some y := ⟨_, List.getElem?_eq_getElem (by omega)⟩
    obtain ⟨b, hb⟩ := hasQ_any (mem_get hx hk).1 (mem_get hx hk).2 (mem_get hy hyk) (by omega)
    refine ⟨b, fun y' hy' => ?_⟩
    rw [Nat.zero_add, hyk] at hy'
    injection hy' with hy'; subst hy'; exact hb)
  obtain ⟨b, hb⟩ := contB_any (n := n) (xs := zs) (by omega) (by omega)
  exact ⟨!b, holdsV_r (by omega) hl hm (by omega) (fun k x y z e1 e2 e3 => h2 k x z e1 e3 y (by rw [Nat.zero_add]; exact e2)) hb⟩end Go.Proofs.YtejkcmklhmifaaaGreatDoor
