/- RatioParses. -/
import Derived.Test.YtphpaejgcahgbaaGreatDoorRatT
namespace Go.Proofs.YtphpaejgcahgbaaGreatDoor
open Go Go.RowKit Go.Shelf AM
/-! What any text is read as. -/
theorem cutPre_call : Callable Tryz.prog 156 := ⟨_, Tryz.func156, by kernel_rfl, by kernel_rfl⟩
theorem cutPre_f {s d : ByteArray} {m : Bool} (h1 : Lib.trimPrefix s.data.toList [45] = d.data.toList) (h2 : Lib.hasPrefix s.data.toList [45] = m) : FitsP 156 [rawS (.string s), rawS (.string ⟨#[45]⟩)] [] (.tup [rawS (.string d), boolS m]) :=
  fits_of cutPre_call fun β W w vals hp ha => by
    obtain ⟨u, v, rfl, h3, h4⟩ := all2_2 ha
    obtain rfl : u = .string s := h3
    obtain rfl : v = .string ⟨#[45]⟩ := h4
    refine (Tryz.strings_CutPrefix s ⟨#[45]⟩ _).mono ?_
    rintro e w' ⟨rfl, rfl⟩
    rw [show Lib.trimPrefix s.data.toList (⟨#[45]⟩ : ByteArray).data.toList = d.data.toList from h1, show Lib.hasPrefix s.data.toList (⟨#[45]⟩ : ByteArray).data.toList = m from h2]
    exact ⟨_, rfl, Below.refl _ _, rel_tup2 rfl rfl⟩
theorem norm_im0e {c : Int} : Norm (.tup [.agg [.raw (.bool false), .raw (.slice none 0 0)], intS c]) (.tup [im 0, intS c]) := fun β W v h => by
  obtain ⟨vs, rfl, hh⟩ := h
  match vs, hh with
  | [a, b], ⟨h1, h2, _⟩ => exact ⟨[a, b], rfl, norm_im0 β W a h1, h2, trivial⟩

set_option maxRecDepth 100000 in
theorem answerBad_f {m : Bool} {c : Int} (hc : c ≠ 0) : FitsP 85 [boolS m, nilS, intS c] [] (.tup [im 0, intS c]) := by
  have hT : AllOk Tryz.prog Glob [
    Tr.norm (nat_lit 3) (Av.one (Sv.cel (Cv.raw (Value.bool (c != (0 : Int)))))) (Av.one (Sv.cel (Cv.raw (Value.bool true))))] := ⟨
    norm_bool (ne_true hc), trivial⟩
  exact Fits.res (r := (.tup [Sv.agg [Cv.raw (Value.bool false), Cv.raw (Value.slice none (nat_lit 0) (nat_lit 0))], Sv.cel (Cv.raw (Value.int IntKind.i64 c))])) (fits_of_trace (n := 300) (k0 := 0) hT Tryz.func85 (by kernel_rfl) (by kernel_rfl) (by kernel_rfl)) (norm_im0e)

set_option maxRecDepth 100000 in
theorem wholeBad_f {s d : ByteArray} {m : Bool} (h1 : Lib.trimPrefix s.data.toList [45] = d.data.toList) (h2 : Lib.hasPrefix s.data.toList [45] = m) (h : okText d.data.toList = false) : FitsP 77 [rawS (.string s)] [] (.tup [im 0, intS 2]) := by
  have hT : AllOk Tryz.prog Glob [
    Tr.call 156 [Sv.cel (Cv.raw (Value.string s)), Sv.cel (Cv.raw (Value.string { data := #[(45 : UInt8)] }))] [] (Av.tup [Sv.cel (Cv.raw (Value.string d)), Sv.cel (Cv.raw (Value.bool m))]),
    Tr.call 157 [Sv.cel (Cv.raw (Value.string d))] [] (Av.tup [Sv.cel (Cv.raw (Value.slice none (nat_lit 0) (nat_lit 0))), Sv.cel (Cv.raw (Value.int IntKind.i64 (Int.ofNat (nat_lit 2))))]),
    Tr.call 85 [Sv.cel (Cv.raw (Value.bool m)), Sv.cel (Cv.raw (Value.slice none (nat_lit 0) (nat_lit 0))), Sv.cel (Cv.raw (Value.int IntKind.i64 (Int.ofNat (nat_lit 2))))] [] (Av.tup [Sv.agg [Cv.raw (Value.bool (decide ((0 : Int) < (0 : Int)))), Cv.ent (nat (Int.natAbs (0 : Int)))], Sv.cel (Cv.raw (Value.int IntKind.i64 (Int.ofNat (nat_lit 2))))])] := ⟨
    cutPre_f h1 h2,
    dparseBad_f d h,
    answerBad_f (by decide), trivial⟩
  exact fits_of_trace (n := 300) (k0 := 0) hT Tryz.func77 (by kernel_rfl) (by kernel_rfl) (by kernel_rfl)

theorem pre_cases (l : List UInt8) : ∃ (m : Bool) (d : List UInt8), l = (if m then 45 :: d else d) ∧ Lib.trimPrefix l [45] = d ∧ Lib.hasPrefix l [45] = m := by
  by_cases h : Lib.hasPrefix l [45] = true
  · refine ⟨true, Lib.trimPrefix l [45], ?_, rfl, h⟩
    unfold Lib.trimPrefix
    rw [if_pos h]
    match l, h with
    | x :: l, h =>
      have : x = 45 := by
        simp [Lib.hasPrefix, List.isPrefixOf] at h
        exact h.symm
      subst this; rfl
  · refine ⟨false, l, rfl, ?_, by simpa using h⟩
    unfold Lib.trimPrefix
    rw [if_neg h]
theorem wholeAny (s : ByteArray) (hl : s.size ≤ 600) : (∃ z : Int, z.natAbs < 10 ^ s.size ∧ FitsP 77 [rawS (.string s)] [] (.tup [im z, ok0])) ∨ FitsP 77 [rawS (.string s)] [] (.tup [im 0, intS 2]) := by
  obtain ⟨m, d, e, h1, h2⟩ := pre_cases s.data.toList
  have hlen : d.length ≤ s.size := by
    rw [← size_list, e]; split <;> simp
  by_cases h : okText d = true
  · have hd := of_decide_eq_true h
    refine .inl ⟨sg m (decv d), ?_, fits_raw_I0 cal77 _ fun w _ => parseInt_c w s m d e hd.1 hd.2 (by omega)⟩
    rw [sg_natAbs]
    exact Nat.lt_of_lt_of_le hd.1.lt (Nat.pow_le_pow_right (by omega) hlen)
  · exact .inr (wholeBad_f (d := ⟨d.toArray⟩) (m := m) (by simpa using h1) h2 (by simpa using h))
theorem digitsAny (s : ByteArray) (hl : s.size ≤ 600) : (∃ n : Nat, n < 10 ^ s.size ∧ FitsP 157 [rawS (.string s)] [] (.tup [natS n, ok0])) ∨ FitsP 157 [rawS (.string s)] [] (.tup [nilS, intS 2]) := by
  by_cases h : okText s.data.toList = true
  · have hd := of_decide_eq_true h
    refine .inl ⟨decv s.data.toList, ?_, dparse_f s hd.1 hd.2 (by omega)⟩
    rw [← size_list]; exact hd.1.lt
  · exact .inr (dparseBad_f s (by simpa using h))
theorem ten_size {n k : Nat} (h : n < 10 ^ k) (hk : k ≤ 300) : n < 4294967296 ^ 32 := Nat.lt_of_lt_of_le (Nat.lt_of_lt_of_le h (Nat.pow_le_pow_right (by omega) hk)) (by decide +kernel)
/-- A text's ratio, or its error. -/
def Outs (f : FuncId) (args : List Sv) : Prop := (∃ q : Rat, BQ 32 q ∧ FitsP f args [] (.tup [rq q, ok0])) ∨ FitsP f args [] (.tup [rq 0, intS 2]) ∨ FitsP f args [] (.tup [rq 0, intS 10])

set_option maxRecDepth 100000 in
theorem pair1_f {a b : ByteArray} (h : FitsP 77 [rawS (.string a)] [] (.tup [im 0, intS 2])) : FitsP 108 [rawS (.string a), rawS (.string b)] [] (.tup [rq 0, intS 2]) := by
  have hT : AllOk Tryz.prog Glob [
    Tr.call 77 [Sv.cel (Cv.raw (Value.string a))] [] (Av.tup [Sv.agg [Cv.raw (Value.bool (decide ((0 : Int) < (0 : Int)))), Cv.ent (nat (Int.natAbs (0 : Int)))], Sv.cel (Cv.raw (Value.int IntKind.i64 (Int.ofNat (nat_lit 2))))]),
    Tr.call 98 [] [] (Av.one (Sv.agg [Cv.raw (Value.bool (decide (Rat.num (0 : Rat) < (0 : Int)))), Cv.ent (nat (Int.natAbs (Rat.num (0 : Rat)))), Cv.ent (nat (Rat.den (0 : Rat)))]))] := ⟨
    h,
    zeroQ0_f, trivial⟩
  exact fits_of_trace (n := 300) (k0 := 0) hT Tryz.func108 (by kernel_rfl) (by kernel_rfl) (by kernel_rfl)

set_option maxRecDepth 100000 in
theorem pair2_f {a b : ByteArray} {z : Int} (h : FitsP 77 [rawS (.string a)] [] (.tup [im z, ok0])) (h2 : FitsP 157 [rawS (.string b)] [] (.tup [nilS, intS 2])) : FitsP 108 [rawS (.string a), rawS (.string b)] [] (.tup [rq 0, intS 2]) := by
  have hT : AllOk Tryz.prog Glob [
    Tr.call 77 [Sv.cel (Cv.raw (Value.string a))] [] (Av.tup [Sv.agg [Cv.raw (Value.bool (decide (z < (0 : Int)))), Cv.ent (nat (Int.natAbs z))], Sv.cel (Cv.raw (Value.int IntKind.i64 (Int.ofNat (nat_lit 0))))]),
    Tr.call 157 [Sv.cel (Cv.raw (Value.string b))] [] (Av.tup [Sv.cel (Cv.raw (Value.slice none (nat_lit 0) (nat_lit 0))), Sv.cel (Cv.raw (Value.int IntKind.i64 (Int.ofNat (nat_lit 2))))]),
    Tr.call 98 [] [] (Av.one (Sv.agg [Cv.raw (Value.bool (decide (Rat.num (0 : Rat) < (0 : Int)))), Cv.ent (nat (Int.natAbs (Rat.num (0 : Rat)))), Cv.ent (nat (Rat.den (0 : Rat)))]))] := ⟨
    h,
    h2,
    zeroQ0_f, trivial⟩
  exact fits_of_trace (n := 300) (k0 := 0) hT Tryz.func108 (by kernel_rfl) (by kernel_rfl) (by kernel_rfl)

set_option maxRecDepth 100000 in
theorem pair3_f {a b : ByteArray} {z : Int} (h : FitsP 77 [rawS (.string a)] [] (.tup [im z, ok0])) (h2 : FitsP 157 [rawS (.string b)] [] (.tup [natS 0, ok0])) : FitsP 108 [rawS (.string a), rawS (.string b)] [] (.tup [rq 0, intS 10]) := by
  have hT : AllOk Tryz.prog Glob [
    Tr.call 77 [Sv.cel (Cv.raw (Value.string a))] [] (Av.tup [Sv.agg [Cv.raw (Value.bool (decide (z < (0 : Int)))), Cv.ent (nat (Int.natAbs z))], Sv.cel (Cv.raw (Value.int IntKind.i64 (Int.ofNat (nat_lit 0))))]),
    Tr.call 157 [Sv.cel (Cv.raw (Value.string b))] [] (Av.tup [Sv.cel (Cv.ent (nat (0 : Nat))), Sv.cel (Cv.raw (Value.int IntKind.i64 (Int.ofNat (nat_lit 0))))]),
    Tr.call 31 [Sv.cel (Cv.ent (nat (0 : Nat)))] [] (Av.one (Sv.agg [Cv.raw (Value.bool false), Cv.ent (nat (0 : Nat))])),
    Tr.call 30 [Sv.agg [Cv.raw (Value.bool (decide (z < (0 : Int)))), Cv.ent (nat (Int.natAbs z))], Sv.agg [Cv.raw (Value.bool false), Cv.ent (nat (0 : Nat))]] [] (Av.tup [Sv.agg [Cv.raw (Value.bool (decide (Rat.num (0 : Rat) < (0 : Int)))), Cv.ent (nat (Int.natAbs (Rat.num (0 : Rat)))), Cv.ent (nat (Rat.den (0 : Rat)))], Sv.cel (Cv.raw (Value.int IntKind.i64 (Int.ofNat (nat_lit 10))))])] := ⟨
    h,
    h2,
    nat_pn,
    make0_f, trivial⟩
  exact fits_of_trace (n := 300) (k0 := 0) hT Tryz.func108 (by kernel_rfl) (by kernel_rfl) (by kernel_rfl)

set_option maxRecDepth 100000 in
theorem pair4_f {a b : ByteArray} {z : Int} {d : Nat} (h : FitsP 77 [rawS (.string a)] [] (.tup [im z, ok0])) (h2 : FitsP 157 [rawS (.string b)] [] (.tup [natS d, ok0])) (h0 : d ≠ 0) (l1 : LimI z) (l2 : d < Lim) : FitsP 108 [rawS (.string a), rawS (.string b)] [] (.tup [rq (Rat.normalize z d h0), ok0]) := by
  have hT : AllOk Tryz.prog Glob [
    Tr.call 77 [Sv.cel (Cv.raw (Value.string a))] [] (Av.tup [Sv.agg [Cv.raw (Value.bool (decide (z < (0 : Int)))), Cv.ent (nat (Int.natAbs z))], Sv.cel (Cv.raw (Value.int IntKind.i64 (Int.ofNat (nat_lit 0))))]),
    Tr.call 157 [Sv.cel (Cv.raw (Value.string b))] [] (Av.tup [Sv.cel (Cv.ent (nat d)), Sv.cel (Cv.raw (Value.int IntKind.i64 (Int.ofNat (nat_lit 0))))]),
    Tr.call 31 [Sv.cel (Cv.ent (nat d))] [] (Av.one (Sv.agg [Cv.raw (Value.bool false), Cv.ent (nat d)])),
    Tr.call 30 [Sv.agg [Cv.raw (Value.bool (decide (z < (0 : Int)))), Cv.ent (nat (Int.natAbs z))], Sv.agg [Cv.raw (Value.bool false), Cv.ent (nat d)]] [] (Av.tup [Sv.agg [Cv.raw (Value.bool (decide (Rat.num (Rat.normalize z d h0) < (0 : Int)))), Cv.ent (nat (Int.natAbs (Rat.num (Rat.normalize z d h0)))), Cv.ent (nat (Rat.den (Rat.normalize z d h0)))], Sv.cel (Cv.raw (Value.int IntKind.i64 (Int.ofNat (nat_lit 0))))])] := ⟨
    h,
    h2,
    nat_pn,
    make1_f l1 l2 h0, trivial⟩
  exact fits_of_trace (n := 300) (k0 := 0) hT Tryz.func108 (by kernel_rfl) (by kernel_rfl) (by kernel_rfl)

set_option maxRecDepth 100000 in
theorem point1_f {a b : ByteArray} (hl : b.size ≤ 1000) (h : FitsP 77 [rawS (.string a)] [] (.tup [im 0, intS 2])) : FitsP 109 [rawS (.string a), rawS (.string b)] [] (.tup [rq 0, intS 2]) := by
  have hT : AllOk Tryz.prog Glob [
    Tr.norm (nat_lit 4) (Av.one (Sv.cel (Cv.raw (Value.bool (decide ((↑(ByteArray.size b) : Int) > (1000 : Int))))))) (Av.one (Sv.cel (Cv.raw (Value.bool false)))),
    Tr.call 77 [Sv.cel (Cv.raw (Value.string a))] [] (Av.tup [Sv.agg [Cv.raw (Value.bool (decide ((0 : Int) < (0 : Int)))), Cv.ent (nat (Int.natAbs (0 : Int)))], Sv.cel (Cv.raw (Value.int IntKind.i64 (Int.ofNat (nat_lit 2))))]),
    Tr.call 98 [] [] (Av.one (Sv.agg [Cv.raw (Value.bool (decide (Rat.num (0 : Rat) < (0 : Int)))), Cv.ent (nat (Int.natAbs (Rat.num (0 : Rat)))), Cv.ent (nat (Rat.den (0 : Rat)))]))] := ⟨
    norm_bool (gt_false hl),
    h,
    zeroQ0_f, trivial⟩
  exact fits_of_trace (n := 300) (k0 := 0) hT Tryz.func109 (by kernel_rfl) (by kernel_rfl) (by kernel_rfl)

set_option maxRecDepth 100000 in
theorem point2_f {a b : ByteArray} {z : Int} (hl : b.size ≤ 1000) (h : FitsP 77 [rawS (.string a)] [] (.tup [im z, ok0])) (h2 : FitsP 157 [rawS (.string b)] [] (.tup [nilS, intS 2])) : FitsP 109 [rawS (.string a), rawS (.string b)] [] (.tup [rq 0, intS 2]) := by
  have hT : AllOk Tryz.prog Glob [
    Tr.norm (nat_lit 4) (Av.one (Sv.cel (Cv.raw (Value.bool (decide ((↑(ByteArray.size b) : Int) > (1000 : Int))))))) (Av.one (Sv.cel (Cv.raw (Value.bool false)))),
    Tr.call 77 [Sv.cel (Cv.raw (Value.string a))] [] (Av.tup [Sv.agg [Cv.raw (Value.bool (decide (z < (0 : Int)))), Cv.ent (nat (Int.natAbs z))], Sv.cel (Cv.raw (Value.int IntKind.i64 (Int.ofNat (nat_lit 0))))]),
    Tr.call 157 [Sv.cel (Cv.raw (Value.string b))] [] (Av.tup [Sv.cel (Cv.raw (Value.slice none (nat_lit 0) (nat_lit 0))), Sv.cel (Cv.raw (Value.int IntKind.i64 (Int.ofNat (nat_lit 2))))]),
    Tr.call 98 [] [] (Av.one (Sv.agg [Cv.raw (Value.bool (decide (Rat.num (0 : Rat) < (0 : Int)))), Cv.ent (nat (Int.natAbs (Rat.num (0 : Rat)))), Cv.ent (nat (Rat.den (0 : Rat)))]))] := ⟨
    norm_bool (gt_false hl),
    h,
    h2,
    zeroQ0_f, trivial⟩
  exact fits_of_trace (n := 300) (k0 := 0) hT Tryz.func109 (by kernel_rfl) (by kernel_rfl) (by kernel_rfl)

set_option maxRecDepth 100000 in
theorem point3_f {a b : ByteArray} {z : Int} {n : Nat} (hl : b.size ≤ 1000) (hla : a.size ≤ 1000) (h : FitsP 77 [rawS (.string a)] [] (.tup [im z, ok0])) (h2 : FitsP 157 [rawS (.string b)] [] (.tup [natS n, ok0])) (h3 : FitsP 77 [rawS (.string (a ++ b))] [] (.tup [im 0, intS 2])) : FitsP 109 [rawS (.string a), rawS (.string b)] [] (.tup [rq 0, intS 2]) := by
  have hT : AllOk Tryz.prog Glob [
    Tr.norm (nat_lit 4) (Av.one (Sv.cel (Cv.raw (Value.bool (decide ((↑(ByteArray.size b) : Int) > (1000 : Int))))))) (Av.one (Sv.cel (Cv.raw (Value.bool false)))),
    Tr.call 77 [Sv.cel (Cv.raw (Value.string a))] [] (Av.tup [Sv.agg [Cv.raw (Value.bool (decide (z < (0 : Int)))), Cv.ent (nat (Int.natAbs z))], Sv.cel (Cv.raw (Value.int IntKind.i64 (Int.ofNat (nat_lit 0))))]),
    Tr.call 157 [Sv.cel (Cv.raw (Value.string b))] [] (Av.tup [Sv.cel (Cv.ent (nat n)), Sv.cel (Cv.raw (Value.int IntKind.i64 (Int.ofNat (nat_lit 0))))]),
    Tr.prim (nat_lit 26) (Op.binOp BinOp.add (9 : Nat) (Operand.tmp (37 : Nat)) (Operand.tmp (38 : Nat)) (9 : Nat)) (nat_lit 9) [Value.string a, Value.string b] (Value.string (a ++ b)),
    Tr.call 77 [Sv.cel (Cv.raw (Value.string (a ++ b)))] [] (Av.tup [Sv.agg [Cv.raw (Value.bool (decide ((0 : Int) < (0 : Int)))), Cv.ent (nat (Int.natAbs (0 : Int)))], Sv.cel (Cv.raw (Value.int IntKind.i64 (Int.ofNat (nat_lit 2))))]),
    Tr.call 98 [] [] (Av.one (Sv.agg [Cv.raw (Value.bool (decide (Rat.num (0 : Rat) < (0 : Int)))), Cv.ent (nat (Int.natAbs (Rat.num (0 : Rat)))), Cv.ent (nat (Rat.den (0 : Rat)))]))] := ⟨
    norm_bool (gt_false hl),
    h,
    h2,
    prim_concat (by omega),
    h3,
    zeroQ0_f, trivial⟩
  exact fits_of_trace (n := 300) (k0 := 0) hT Tryz.func109 (by kernel_rfl) (by kernel_rfl) (by kernel_rfl)

set_option maxRecDepth 100000 in
theorem point4_f {a b : ByteArray} {z y : Int} {n : Nat} (h0 : 10 ^ b.size ≠ 0) (hl : b.size ≤ 1000) (hla : a.size ≤ 1000) (h : FitsP 77 [rawS (.string a)] [] (.tup [im z, ok0])) (h2 : FitsP 157 [rawS (.string b)] [] (.tup [natS n, ok0])) (h3 : FitsP 77 [rawS (.string (a ++ b))] [] (.tup [im y, ok0])) (l1 : LimI y) (l2 : 10 ^ b.size < Lim) : FitsP 109 [rawS (.string a), rawS (.string b)] [] (.tup [rq (Rat.normalize y (10 ^ b.size) h0), ok0]) := by
  have hT : AllOk Tryz.prog Glob [
    Tr.norm (nat_lit 4) (Av.one (Sv.cel (Cv.raw (Value.bool (decide ((↑(ByteArray.size b) : Int) > (1000 : Int))))))) (Av.one (Sv.cel (Cv.raw (Value.bool false)))),
    Tr.call 77 [Sv.cel (Cv.raw (Value.string a))] [] (Av.tup [Sv.agg [Cv.raw (Value.bool (decide (z < (0 : Int)))), Cv.ent (nat (Int.natAbs z))], Sv.cel (Cv.raw (Value.int IntKind.i64 (Int.ofNat (nat_lit 0))))]),
    Tr.call 157 [Sv.cel (Cv.raw (Value.string b))] [] (Av.tup [Sv.cel (Cv.ent (nat n)), Sv.cel (Cv.raw (Value.int IntKind.i64 (Int.ofNat (nat_lit 0))))]),
    Tr.prim (nat_lit 26) (Op.binOp BinOp.add (9 : Nat) (Operand.tmp (37 : Nat)) (Operand.tmp (38 : Nat)) (9 : Nat)) (nat_lit 9) [Value.string a, Value.string b] (Value.string (a ++ b)),
    Tr.call 77 [Sv.cel (Cv.raw (Value.string (a ++ b)))] [] (Av.tup [Sv.agg [Cv.raw (Value.bool (decide (y < (0 : Int)))), Cv.ent (nat (Int.natAbs y))], Sv.cel (Cv.raw (Value.int IntKind.i64 (Int.ofNat (nat_lit 0))))]),
    Tr.call 29 [Sv.cel (Cv.raw (Value.int IntKind.i64 (↑(ByteArray.size b) : Int)))] [] (Av.tup [Sv.cel (Cv.ent (nat ((10 : Nat) ^ ByteArray.size b))), Sv.cel (Cv.raw (Value.int IntKind.i64 (Int.ofNat (nat_lit 0))))]),
    Tr.call 31 [Sv.cel (Cv.ent (nat ((10 : Nat) ^ ByteArray.size b)))] [] (Av.one (Sv.agg [Cv.raw (Value.bool false), Cv.ent (nat ((10 : Nat) ^ ByteArray.size b))])),
    Tr.call 30 [Sv.agg [Cv.raw (Value.bool (decide (y < (0 : Int)))), Cv.ent (nat (Int.natAbs y))], Sv.agg [Cv.raw (Value.bool false), Cv.ent (nat ((10 : Nat) ^ ByteArray.size b))]] [] (Av.tup [Sv.agg [Cv.raw (Value.bool (decide (Rat.num (Rat.normalize y ((10 : Nat) ^ ByteArray.size b) h0) < (0 : Int)))), Cv.ent (nat (Int.natAbs (Rat.num (Rat.normalize y ((10 : Nat) ^ ByteArray.size b) h0)))), Cv.ent (nat (Rat.den (Rat.normalize y ((10 : Nat) ^ ByteArray.size b) h0)))], Sv.cel (Cv.raw (Value.int IntKind.i64 (Int.ofNat (nat_lit 0))))])] := ⟨
    norm_bool (gt_false hl),
    h,
    h2,
    prim_concat (by omega),
    h3,
    ten_f (by omega),
    nat_pn,
    make1_f l1 l2 h0, trivial⟩
  exact fits_of_trace (n := 300) (k0 := 0) hT Tryz.func109 (by kernel_rfl) (by kernel_rfl) (by kernel_rfl)

theorem pairAny (a b : ByteArray) (hl : a.size + b.size ≤ 300) : Outs 108 [rawS (.string a), rawS (.string b)] := by
  rcases wholeAny a (by omega) with ⟨z, hz, h⟩ | h
  · rcases digitsAny b (by omega) with ⟨d, hd, h2⟩ | h2
    · by_cases h0 : d = 0
      · subst h0; exact .inr (.inr (pair3_f h h2))
      · have l1 := ten_size hz (by omega)
        have l2 := ten_size hd (by omega)
        exact .inl ⟨_, norm_BQ h0 l1 l2, pair4_f h h2 h0 (lim_of l1 (by omega)) (lim_of l2 (by omega))⟩
    · exact .inr (.inl (pair2_f h h2))
  · exact .inr (.inl (pair1_f h))
theorem pointAny (a b : ByteArray) (hl : a.size + b.size < 300) : Outs 109 [rawS (.string a), rawS (.string b)] := by
  have hab : (a ++ b).size ≤ 600 := by rw [ByteArray.size_append]; omega
  rcases wholeAny a (by omega) with ⟨z, hz, h⟩ | h
  · rcases digitsAny b (by omega) with ⟨d, hd, h2⟩ | h2
    · rcases wholeAny (a ++ b) hab with ⟨y, hy, h3⟩ | h3
      · have h0 : 10 ^ b.size ≠ 0 := Nat.ne_of_gt (Nat.pow_pos (by omega))
        have l1 := ten_size hy (by rw [ByteArray.size_append]; omega)
        have l2 : 10 ^ b.size < 4294967296 ^ 32 := ten_size (Nat.pow_lt_pow_right (by omega) (Nat.lt_succ_self _)) (by omega)
        exact .inl ⟨_, norm_BQ h0 l1 l2, point4_f h0 (by omega) (by omega) h h2 h3 (lim_of l1 (by omega)) (lim_of l2 (by omega))⟩
      · exact .inr (.inl (point3_f (by omega) (by omega) h h2 h3))
    · exact .inr (.inl (point2_f (by omega) h h2))
  · exact .inr (.inl (point1_f (by omega) h))
theorem split_at {l : List UInt8} {c : UInt8} (h : c ∈ l) : ∃ a b, l = a ++ c :: b ∧ c ∉ a := by
  induction l with
  | nil => cases h
  | cons x l ih =>
    by_cases e : x = c
    · subst e; exact ⟨[], l, rfl, by simp⟩
    · rcases List.mem_cons.1 h with h | h
      · exact absurd h.symm e
      · obtain ⟨a, b, rfl, ha⟩ := ih h
        exact ⟨x :: a, b, rfl, by simp only [List.mem_cons, not_or]; exact ⟨fun e' => e e'.symm, ha⟩⟩
theorem split_bytes {s : ByteArray} {c : UInt8} (h : c ∈ s.data.toList) : ∃ a b : ByteArray, s = a ++ ⟨#[c]⟩ ++ b ∧ c ∉ a.data.toList := by
  obtain ⟨a, b, e, ha⟩ := split_at h
  refine ⟨⟨a.toArray⟩, ⟨b.toArray⟩, ?_, by simpa using ha⟩
  apply ByteArray.ext
  apply Array.toList_inj.1
  rw [e]; simp

set_option maxRecDepth 100000 in
theorem slash_ok {q : Rat} {a b : ByteArray} (hs : (a ++ ⟨#[47]⟩ ++ b).size < 4294967281) (ha : (47 : UInt8) ∉ a.data.toList) (hp : FitsP 108 [rawS (.string a), rawS (.string b)] [] (.tup [rq q, ok0])) : FitsP 28 [rawS (.string (a ++ ⟨#[47]⟩ ++ b))] [] (.tup [rq q, ok0]) := by
  have hT : AllOk Tryz.prog Glob [
    Tr.call 107 [Sv.cel (Cv.raw (Value.string (a ++ { data := #[(47 : UInt8)] } ++ b))), Sv.cel (Cv.raw (Value.string { data := #[(47 : UInt8)] }))] [] (Av.tup [Sv.cel (Cv.raw (Value.string a)), Sv.cel (Cv.raw (Value.string b)), Sv.cel (Cv.raw (Value.bool true))]),
    Tr.call 108 [Sv.cel (Cv.raw (Value.string a)), Sv.cel (Cv.raw (Value.string b))] [] (Av.tup [Sv.agg [Cv.raw (Value.bool (decide (Rat.num q < (0 : Int)))), Cv.ent (nat (Int.natAbs (Rat.num q))), Cv.ent (nat (Rat.den q))], Sv.cel (Cv.raw (Value.int IntKind.i64 (Int.ofNat (nat_lit 0))))])] := ⟨
    cutAt_f hs ha,
    hp, trivial⟩
  exact fits_of_trace (n := 300) (k0 := 0) hT Tryz.func28 (by kernel_rfl) (by kernel_rfl) (by kernel_rfl)

set_option maxRecDepth 100000 in
theorem dot_ok {q : Rat} {a b : ByteArray} (hs : (a ++ ⟨#[46]⟩ ++ b).size < 4294967281) (hn : (47 : UInt8) ∉ (a ++ ⟨#[46]⟩ ++ b : ByteArray).data.toList) (ha : (46 : UInt8) ∉ a.data.toList) (hp : FitsP 109 [rawS (.string a), rawS (.string b)] [] (.tup [rq q, ok0])) : FitsP 28 [rawS (.string (a ++ ⟨#[46]⟩ ++ b))] [] (.tup [rq q, ok0]) := by
  have hT : AllOk Tryz.prog Glob [
    Tr.call 107 [Sv.cel (Cv.raw (Value.string (a ++ { data := #[(46 : UInt8)] } ++ b))), Sv.cel (Cv.raw (Value.string { data := #[(47 : UInt8)] }))] [] (Av.tup [Sv.cel (Cv.raw (Value.string (a ++ { data := #[(46 : UInt8)] } ++ b))), Sv.cel (Cv.raw (Value.string { data := #[] })), Sv.cel (Cv.raw (Value.bool false))]),
    Tr.call 107 [Sv.cel (Cv.raw (Value.string (a ++ { data := #[(46 : UInt8)] } ++ b))), Sv.cel (Cv.raw (Value.string { data := #[(46 : UInt8)] }))] [] (Av.tup [Sv.cel (Cv.raw (Value.string a)), Sv.cel (Cv.raw (Value.string b)), Sv.cel (Cv.raw (Value.bool true))]),
    Tr.call 109 [Sv.cel (Cv.raw (Value.string a)), Sv.cel (Cv.raw (Value.string b))] [] (Av.tup [Sv.agg [Cv.raw (Value.bool (decide (Rat.num q < (0 : Int)))), Cv.ent (nat (Int.natAbs (Rat.num q))), Cv.ent (nat (Rat.den q))], Sv.cel (Cv.raw (Value.int IntKind.i64 (Int.ofNat (nat_lit 0))))])] := ⟨
    cutNot_f hs hn,
    cutAt_f hs ha,
    hp, trivial⟩
  exact fits_of_trace (n := 300) (k0 := 0) hT Tryz.func28 (by kernel_rfl) (by kernel_rfl) (by kernel_rfl)

set_option maxRecDepth 100000 in
theorem slash_e2 {a b : ByteArray} (hs : (a ++ ⟨#[47]⟩ ++ b).size < 4294967281) (ha : (47 : UInt8) ∉ a.data.toList) (hp : FitsP 108 [rawS (.string a), rawS (.string b)] [] (.tup [rq 0, intS 2])) : FitsP 28 [rawS (.string (a ++ ⟨#[47]⟩ ++ b))] [] (.tup [rq 0, intS 2]) := by
  have hT : AllOk Tryz.prog Glob [
    Tr.call 107 [Sv.cel (Cv.raw (Value.string (a ++ { data := #[(47 : UInt8)] } ++ b))), Sv.cel (Cv.raw (Value.string { data := #[(47 : UInt8)] }))] [] (Av.tup [Sv.cel (Cv.raw (Value.string a)), Sv.cel (Cv.raw (Value.string b)), Sv.cel (Cv.raw (Value.bool true))]),
    Tr.call 108 [Sv.cel (Cv.raw (Value.string a)), Sv.cel (Cv.raw (Value.string b))] [] (Av.tup [Sv.agg [Cv.raw (Value.bool (decide (Rat.num (0 : Rat) < (0 : Int)))), Cv.ent (nat (Int.natAbs (Rat.num (0 : Rat)))), Cv.ent (nat (Rat.den (0 : Rat)))], Sv.cel (Cv.raw (Value.int IntKind.i64 (Int.ofNat (nat_lit 2))))])] := ⟨
    cutAt_f hs ha,
    hp, trivial⟩
  exact fits_of_trace (n := 300) (k0 := 0) hT Tryz.func28 (by kernel_rfl) (by kernel_rfl) (by kernel_rfl)

set_option maxRecDepth 100000 in
theorem dot_e2 {a b : ByteArray} (hs : (a ++ ⟨#[46]⟩ ++ b).size < 4294967281) (hn : (47 : UInt8) ∉ (a ++ ⟨#[46]⟩ ++ b : ByteArray).data.toList) (ha : (46 : UInt8) ∉ a.data.toList) (hp : FitsP 109 [rawS (.string a), rawS (.string b)] [] (.tup [rq 0, intS 2])) : FitsP 28 [rawS (.string (a ++ ⟨#[46]⟩ ++ b))] [] (.tup [rq 0, intS 2]) := by
  have hT : AllOk Tryz.prog Glob [
    Tr.call 107 [Sv.cel (Cv.raw (Value.string (a ++ { data := #[(46 : UInt8)] } ++ b))), Sv.cel (Cv.raw (Value.string { data := #[(47 : UInt8)] }))] [] (Av.tup [Sv.cel (Cv.raw (Value.string (a ++ { data := #[(46 : UInt8)] } ++ b))), Sv.cel (Cv.raw (Value.string { data := #[] })), Sv.cel (Cv.raw (Value.bool false))]),
    Tr.call 107 [Sv.cel (Cv.raw (Value.string (a ++ { data := #[(46 : UInt8)] } ++ b))), Sv.cel (Cv.raw (Value.string { data := #[(46 : UInt8)] }))] [] (Av.tup [Sv.cel (Cv.raw (Value.string a)), Sv.cel (Cv.raw (Value.string b)), Sv.cel (Cv.raw (Value.bool true))]),
    Tr.call 109 [Sv.cel (Cv.raw (Value.string a)), Sv.cel (Cv.raw (Value.string b))] [] (Av.tup [Sv.agg [Cv.raw (Value.bool (decide (Rat.num (0 : Rat) < (0 : Int)))), Cv.ent (nat (Int.natAbs (Rat.num (0 : Rat)))), Cv.ent (nat (Rat.den (0 : Rat)))], Sv.cel (Cv.raw (Value.int IntKind.i64 (Int.ofNat (nat_lit 2))))])] := ⟨
    cutNot_f hs hn,
    cutAt_f hs ha,
    hp, trivial⟩
  exact fits_of_trace (n := 300) (k0 := 0) hT Tryz.func28 (by kernel_rfl) (by kernel_rfl) (by kernel_rfl)

set_option maxRecDepth 100000 in
theorem slash_e10 {a b : ByteArray} (hs : (a ++ ⟨#[47]⟩ ++ b).size < 4294967281) (ha : (47 : UInt8) ∉ a.data.toList) (hp : FitsP 108 [rawS (.string a), rawS (.string b)] [] (.tup [rq 0, intS 10])) : FitsP 28 [rawS (.string (a ++ ⟨#[47]⟩ ++ b))] [] (.tup [rq 0, intS 10]) := by
  have hT : AllOk Tryz.prog Glob [
    Tr.call 107 [Sv.cel (Cv.raw (Value.string (a ++ { data := #[(47 : UInt8)] } ++ b))), Sv.cel (Cv.raw (Value.string { data := #[(47 : UInt8)] }))] [] (Av.tup [Sv.cel (Cv.raw (Value.string a)), Sv.cel (Cv.raw (Value.string b)), Sv.cel (Cv.raw (Value.bool true))]),
    Tr.call 108 [Sv.cel (Cv.raw (Value.string a)), Sv.cel (Cv.raw (Value.string b))] [] (Av.tup [Sv.agg [Cv.raw (Value.bool (decide (Rat.num (0 : Rat) < (0 : Int)))), Cv.ent (nat (Int.natAbs (Rat.num (0 : Rat)))), Cv.ent (nat (Rat.den (0 : Rat)))], Sv.cel (Cv.raw (Value.int IntKind.i64 (Int.ofNat (nat_lit 10))))])] := ⟨
    cutAt_f hs ha,
    hp, trivial⟩
  exact fits_of_trace (n := 300) (k0 := 0) hT Tryz.func28 (by kernel_rfl) (by kernel_rfl) (by kernel_rfl)

set_option maxRecDepth 100000 in
theorem dot_e10 {a b : ByteArray} (hs : (a ++ ⟨#[46]⟩ ++ b).size < 4294967281) (hn : (47 : UInt8) ∉ (a ++ ⟨#[46]⟩ ++ b : ByteArray).data.toList) (ha : (46 : UInt8) ∉ a.data.toList) (hp : FitsP 109 [rawS (.string a), rawS (.string b)] [] (.tup [rq 0, intS 10])) : FitsP 28 [rawS (.string (a ++ ⟨#[46]⟩ ++ b))] [] (.tup [rq 0, intS 10]) := by
  have hT : AllOk Tryz.prog Glob [
    Tr.call 107 [Sv.cel (Cv.raw (Value.string (a ++ { data := #[(46 : UInt8)] } ++ b))), Sv.cel (Cv.raw (Value.string { data := #[(47 : UInt8)] }))] [] (Av.tup [Sv.cel (Cv.raw (Value.string (a ++ { data := #[(46 : UInt8)] } ++ b))), Sv.cel (Cv.raw (Value.string { data := #[] })), Sv.cel (Cv.raw (Value.bool false))]),
    Tr.call 107 [Sv.cel (Cv.raw (Value.string (a ++ { data := #[(46 : UInt8)] } ++ b))), Sv.cel (Cv.raw (Value.string { data := #[(46 : UInt8)] }))] [] (Av.tup [Sv.cel (Cv.raw (Value.string a)), Sv.cel (Cv.raw (Value.string b)), Sv.cel (Cv.raw (Value.bool true))]),
    Tr.call 109 [Sv.cel (Cv.raw (Value.string a)), Sv.cel (Cv.raw (Value.string b))] [] (Av.tup [Sv.agg [Cv.raw (Value.bool (decide (Rat.num (0 : Rat) < (0 : Int)))), Cv.ent (nat (Int.natAbs (Rat.num (0 : Rat)))), Cv.ent (nat (Rat.den (0 : Rat)))], Sv.cel (Cv.raw (Value.int IntKind.i64 (Int.ofNat (nat_lit 10))))])] := ⟨
    cutNot_f hs hn,
    cutAt_f hs ha,
    hp, trivial⟩
  exact fits_of_trace (n := 300) (k0 := 0) hT Tryz.func28 (by kernel_rfl) (by kernel_rfl) (by kernel_rfl)

set_option maxRecDepth 100000 in
theorem plain_ok {s : ByteArray} (hs : s.size < 4294967281) (h1 : (47 : UInt8) ∉ s.data.toList) (h2 : (46 : UInt8) ∉ s.data.toList) {z : Int} (h : FitsP 77 [rawS (.string s)] [] (.tup [im z, ok0])) : FitsP 28 [rawS (.string s)] [] (.tup [rq (z : Rat), ok0]) := by
  have hT : AllOk Tryz.prog Glob [
    Tr.call 107 [Sv.cel (Cv.raw (Value.string s)), Sv.cel (Cv.raw (Value.string { data := #[(47 : UInt8)] }))] [] (Av.tup [Sv.cel (Cv.raw (Value.string s)), Sv.cel (Cv.raw (Value.string { data := #[] })), Sv.cel (Cv.raw (Value.bool false))]),
    Tr.call 107 [Sv.cel (Cv.raw (Value.string s)), Sv.cel (Cv.raw (Value.string { data := #[(46 : UInt8)] }))] [] (Av.tup [Sv.cel (Cv.raw (Value.string s)), Sv.cel (Cv.raw (Value.string { data := #[] })), Sv.cel (Cv.raw (Value.bool false))]),
    Tr.call 77 [Sv.cel (Cv.raw (Value.string s))] [] (Av.tup [Sv.agg [Cv.raw (Value.bool (decide (z < (0 : Int)))), Cv.ent (nat (Int.natAbs z))], Sv.cel (Cv.raw (Value.int IntKind.i64 (Int.ofNat (nat_lit 0))))]),
    Tr.call 40 [Sv.agg [Cv.raw (Value.bool (decide (z < (0 : Int)))), Cv.ent (nat (Int.natAbs z))]] [] (Av.one (Sv.agg [Cv.raw (Value.bool (decide (Rat.num (↑z : Rat) < (0 : Int)))), Cv.ent (nat (Int.natAbs (Rat.num (↑z : Rat)))), Cv.ent (nat (Rat.den (↑z : Rat)))]))] := ⟨
    cutNot_f hs h1,
    cutNot_f hs h2,
    h,
    wholeB_f, trivial⟩
  exact fits_of_trace (n := 300) (k0 := 0) hT Tryz.func28 (by kernel_rfl) (by kernel_rfl) (by kernel_rfl)

set_option maxRecDepth 100000 in
theorem plain_e2 {s : ByteArray} (hs : s.size < 4294967281) (h1 : (47 : UInt8) ∉ s.data.toList) (h2 : (46 : UInt8) ∉ s.data.toList) (h : FitsP 77 [rawS (.string s)] [] (.tup [im 0, intS 2])) : FitsP 28 [rawS (.string s)] [] (.tup [rq 0, intS 2]) := by
  have hT : AllOk Tryz.prog Glob [
    Tr.call 107 [Sv.cel (Cv.raw (Value.string s)), Sv.cel (Cv.raw (Value.string { data := #[(47 : UInt8)] }))] [] (Av.tup [Sv.cel (Cv.raw (Value.string s)), Sv.cel (Cv.raw (Value.string { data := #[] })), Sv.cel (Cv.raw (Value.bool false))]),
    Tr.call 107 [Sv.cel (Cv.raw (Value.string s)), Sv.cel (Cv.raw (Value.string { data := #[(46 : UInt8)] }))] [] (Av.tup [Sv.cel (Cv.raw (Value.string s)), Sv.cel (Cv.raw (Value.string { data := #[] })), Sv.cel (Cv.raw (Value.bool false))]),
    Tr.call 77 [Sv.cel (Cv.raw (Value.string s))] [] (Av.tup [Sv.agg [Cv.raw (Value.bool (decide ((0 : Int) < (0 : Int)))), Cv.ent (nat (Int.natAbs (0 : Int)))], Sv.cel (Cv.raw (Value.int IntKind.i64 (Int.ofNat (nat_lit 2))))]),
    Tr.call 98 [] [] (Av.one (Sv.agg [Cv.raw (Value.bool (decide (Rat.num (0 : Rat) < (0 : Int)))), Cv.ent (nat (Int.natAbs (Rat.num (0 : Rat)))), Cv.ent (nat (Rat.den (0 : Rat)))]))] := ⟨
    cutNot_f hs h1,
    cutNot_f hs h2,
    h,
    zeroQ0_f, trivial⟩
  exact fits_of_trace (n := 300) (k0 := 0) hT Tryz.func28 (by kernel_rfl) (by kernel_rfl) (by kernel_rfl)

theorem parseAny (s : ByteArray) (hl : s.size ≤ 300) : Outs 28 [rawS (.string s)] := by
  by_cases h1 : (47 : UInt8) ∈ s.data.toList
  · obtain ⟨a, b, rfl, ha⟩ := split_bytes h1
    rw [size3] at hl
    have hs : (a ++ ⟨#[47]⟩ ++ b : ByteArray).size < 4294967281 := by rw [size3]; omega
    rcases pairAny a b (by omega) with ⟨q, hq, h⟩ | h | h
    · exact .inl ⟨q, hq, slash_ok hs ha h⟩
    · exact .inr (.inl (slash_e2 hs ha h))
    · exact .inr (.inr (slash_e10 hs ha h))
  · by_cases h2 : (46 : UInt8) ∈ s.data.toList
    · obtain ⟨a, b, rfl, ha⟩ := split_bytes h2
      rw [size3] at hl
      have hs : (a ++ ⟨#[46]⟩ ++ b : ByteArray).size < 4294967281 := by rw [size3]; omega
      rcases pointAny a b (by omega) with ⟨q, hq, h⟩ | h | h
      · exact .inl ⟨q, hq, dot_ok hs h1 ha h⟩
      · exact .inr (.inl (dot_e2 hs h1 ha h))
      · exact .inr (.inr (dot_e10 hs h1 ha h))
    · rcases wholeAny s (by omega) with ⟨z, hz, h⟩ | h
      · refine .inl ⟨(z : Rat), ⟨?_, ?_⟩, plain_ok (by omega) h1 h2 h⟩
        · rw [Rat.num_intCast]; exact ten_size hz hl
        · rw [Rat.den_intCast]; decide +kernel
      · exact .inr (.inl (plain_e2 (by omega) h1 h2 h))
def txtQ (q : Rat) : ByteArray := if q.den = 1 then txtI q.num else txtI q.num ++ ⟨#[47]⟩ ++ ⟨(Lib.decDigits q.den).toArray⟩
theorem textAny {q : Rat} (hp : BQ 32 q) : FitsP 33 [rq q] [] (.one (rawS (.string (txtQ q)))) := by
  unfold txtQ
  split
  · rename_i h; rw [rq_lit (z := q.num) (d := 1) rfl h]; exact text1_f (txtI_dec _) (hp.num (by omega))
  · rename_i h; rw [rq_lit (q := q) rfl rfl]; exact text2_f h (txtI_dec _) (dec_decDigits _) (hp.num (by omega)) (hp.den (by omega))
theorem up44P {x : Nat} (h : x < 4294967296 ^ 32) : x < 4294967296 ^ 44 := Nat.lt_of_lt_of_le h (Nat.pow_le_pow_right (by omega) (by omega))
theorem backAny {q : Rat} (hp : BQ 32 q) : FitsP 28 [rawS (.string (txtQ q))] [] (.tup [rq q, ok0]) := by
  have a1 := decI_short (txtI_dec q.num) (up44P hp.1)
  have hd : Dec q.den (⟨(Lib.decDigits q.den).toArray⟩ : ByteArray).data.toList := dec_decDigits _
  have a2 := decS_short hd (up44P hp.2)
  unfold txtQ
  split
  · rename_i h
    have := parseWhole_f (txtI_dec q.num) (by omega)
    have e : ((q.num : Int) : Rat) = q := by
      apply Rat.ext
      · exact Rat.num_intCast _
      · rw [Rat.den_intCast, h]
    rw [e] at this; exact this
  · have := parseFrac_f (by rw [size3]; omega) (decI_not (txtI_dec q.num) (c := 47) (by decide) (by decide)) (parsePair_f (txtI_dec q.num) hd (by omega) (by omega) (hp.num (by omega)) (hp.den (by omega)) q.den_nz)
    rw [show Rat.normalize q.num q.den q.den_nz = q by rw [Rat.normalize_eq_mkRat, Rat.mkRat_self]] at this; exact this

end Go.Proofs.YtphpaejgcahgbaaGreatDoor
