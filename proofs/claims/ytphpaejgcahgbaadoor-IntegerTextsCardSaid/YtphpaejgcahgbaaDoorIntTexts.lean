/- IntegerTexts. -/
import Derived.Test.YtphpaejgcahgbaaDoorIntFit
namespace Go.Proofs.YtphpaejgcahgbaaDoor
open Go Go.RowKit Go.Shelf AM
theorem prim_index {P : Program} {t ty : TypeId} {x i : Operand} {s : ByteArray} {c : UInt8} (ht : pureSem P (underlying t) = some .string) (h : s[0]? = some c) : PrimOk P (.index t x i) ty [.string s, .int .i64 0] (.int .u8 (c.toNat : Int)) := by
  intro ρ w he
  have he : [ρ x, ρ i] = [Value.string s, Value.int .i64 0] := by simpa [Op.operands] using he
  injection he with h1 he
  injection he with h2 he
  simp [execOp, h1, h2, Instr.index, asIntOf, pureSem_run ht, h]
theorem ba_get {s : ByteArray} {l : List UInt8} {c : UInt8} (h : s.data.toList = c :: l) : s[0]? = some c := by
  obtain ⟨⟨a⟩⟩ := s
  simp only at h
  subst h
  rfl
theorem txt_head (z : Int) : ∃ c : UInt8, (txtI z)[0]? = some c ∧ (z < 0 → c = 45) ∧ (0 ≤ z → c ≠ 45) := by
  obtain ⟨d, hd, e⟩ := txtI_dec z
  by_cases h : z < 0
  · rw [if_pos h] at e
    exact ⟨45, ba_get e, fun _ => rfl, fun h' => absurd h (by omega)⟩
  · rw [if_neg h] at e
    match d, hd.2.2.1, hd.1, e with
    | c :: d, _, hD, e => exact ⟨c, ba_get e, fun h' => absurd h' h, fun _ h' => by have := (hD c (List.mem_cons_self ..)).1; rw [h'] at this; simp at this⟩
theorem sameT_f {z : Int} : FitsP 10 [im z, im z] [] (.one (boolS true)) := by
  have := sameI_f (z1 := z) (z2 := z)
  rw [decide_eq_true rfl] at this; exact this
theorem txt_len {z : Int} (h : z.natAbs < 4294967296 ^ 30) : (txtI z).size ≤ 4900 := by
  obtain ⟨d, hd, e⟩ := txtI_dec z
  have h1 : d.length ≤ 300 := hd.len_le (Nat.lt_of_lt_of_le h (by decide +kernel)) (by omega)
  rw [← size_list, e]
  split
  · simp; omega
  · omega
theorem bits_64 {z : Int} {k : Nat} (h : ¬ inI64 z) (hk : IsBits k z.natAbs) : decide ((k : Int) ≥ 64) = true := by
  rw [decide_eq_true_iff]
  rcases Nat.lt_or_ge k 64 with h1 | h1
  · exfalso
    have h2 : z.natAbs < 2 ^ 63 := Nat.lt_of_lt_of_le hk.1 (Nat.pow_le_pow_right (by omega) (by omega))
    exact h ⟨by omega, by omega⟩
  · omega
theorem bne_selfI (n : Int) : (n != n) = false := by simp
theorem neq45 {c : UInt8} (h : c ≠ 45) : ((c.toNat : Int) == 45) = false := by
  rw [beq_eq_false_iff_ne]
  intro e
  exact h (UInt8.toNat_inj.1 (by have h2 : (45 : UInt8).toNat = 45 := rfl; omega))
theorem minus_yes {z : Int} (h : z < 0) : (true != decide (z < 0)) = false := by rw [decide_eq_true h]; rfl
theorem minus_no {c : UInt8} {z : Int} (h : c ≠ 45) (hs : ¬ z < 0) : (((c.toNat : Int) == 45) != decide (z < 0)) = false := by rw [neq45 h, decide_eq_false hs]; rfl

set_option maxRecDepth 100000 in
theorem IntegerTexts_negS {z n : Int} (hn : inI64 n) (hz : z.natAbs < 4294967296 ^ 30) (hc : (txtI z)[0]? = some 45) (hs : z < 0) (hi : inI64 z) : FitsP 3 [im z, rawS (.int .i64 n)] [] (.one (boolS true)) := by
  have hT : AllOk Tryd.prog Glob [
    Tr.call 4 [] [] (Av.one (Sv.cel (Cv.raw (Value.bool true)))),
    Tr.call 6 [Sv.cel (Cv.raw (Value.int IntKind.i64 n))] [] (Av.one (Sv.agg [Cv.raw (Value.bool (decide (n < (0 : Int)))), Cv.ent (nat (Int.natAbs n))])),
    Tr.call 5 [Sv.agg [Cv.raw (Value.bool (decide (n < (0 : Int)))), Cv.ent (nat (Int.natAbs n))]] [] (Av.tup [Sv.cel (Cv.raw (Value.int IntKind.i64 n)), Sv.cel (Cv.raw (Value.int IntKind.i64 (Int.ofNat (nat_lit 0))))]),
    Tr.norm (nat_lit 18) (Av.one (Sv.cel (Cv.raw (Value.bool (n != n))))) (Av.one (Sv.cel (Cv.raw (Value.bool false)))),
    Tr.call 7 [Sv.cel (Cv.row (nat_lit 20) (nat_lit 0) (nat_lit 1) (nat_lit 1))] [(nat_lit 20, { t := 25, cs := [Cv.raw (Value.bool (decide (z < (0 : Int)))), Cv.ent (nat (Int.natAbs z))], own := true })] (Av.one (Sv.cel (Cv.raw (Value.bool true)))),
    Tr.call 8 [Sv.agg [Cv.raw (Value.bool (decide (z < (0 : Int)))), Cv.ent (nat (Int.natAbs z))]] [] (Av.one (Sv.cel (Cv.raw (Value.string (txtI z))))),
    Tr.call 9 [Sv.cel (Cv.raw (Value.string (txtI z)))] [] (Av.tup [Sv.agg [Cv.raw (Value.bool (decide (z < (0 : Int)))), Cv.ent (nat (Int.natAbs z))], Sv.cel (Cv.raw (Value.int IntKind.i64 (Int.ofNat (nat_lit 0))))]),
    Tr.call 10 [Sv.agg [Cv.raw (Value.bool (decide (z < (0 : Int)))), Cv.ent (nat (Int.natAbs z))], Sv.agg [Cv.raw (Value.bool (decide (z < (0 : Int)))), Cv.ent (nat (Int.natAbs z))]] [] (Av.one (Sv.cel (Cv.raw (Value.bool true)))),
    Tr.prim (nat_lit 44) (Op.index (9 : Nat) (Operand.tmp (47 : Nat)) (Operand.const (Value.int IntKind.i64 (0 : Int)))) (nat_lit 5) [Value.string (txtI z), Value.int IntKind.i64 (Int.ofNat (nat_lit 0))] (Value.int IntKind.u8 (Int.ofNat (nat_lit 45))),
    Tr.norm (nat_lit 49) (Av.one (Sv.cel (Cv.raw (Value.bool !((45 : Int) == (45 : Int)) == decide (z < (0 : Int)))))) (Av.one (Sv.cel (Cv.raw (Value.bool false)))),
    Tr.call 5 [Sv.agg [Cv.raw (Value.bool (decide (z < (0 : Int)))), Cv.ent (nat (Int.natAbs z))]] [] (Av.tup [Sv.cel (Cv.raw (Value.int IntKind.i64 z)), Sv.cel (Cv.raw (Value.int IntKind.i64 (Int.ofNat (nat_lit 0))))]),
    Tr.call 6 [Sv.cel (Cv.raw (Value.int IntKind.i64 z))] [] (Av.one (Sv.agg [Cv.raw (Value.bool (decide (z < (0 : Int)))), Cv.ent (nat (Int.natAbs z))])),
    Tr.call 10 [Sv.agg [Cv.raw (Value.bool (decide (z < (0 : Int)))), Cv.ent (nat (Int.natAbs z))], Sv.agg [Cv.raw (Value.bool (decide (z < (0 : Int)))), Cv.ent (nat (Int.natAbs z))]] [] (Av.one (Sv.cel (Cv.raw (Value.bool true))))] := ⟨
    counts_f,
    ofI_f hn,
    smallI_f hn,
    norm_bool (bne_selfI n),
    ifit_f hz _ _,
    textI_f _ (txtI_dec z) (limI30 hz),
    parseI_f _ (txtI_dec z) (txt_len hz),
    sameT_f,
    prim_index (c := 45) (by kernel_rfl) hc,
    norm_bool (minus_yes hs),
    smallI_f hi,
    ofI_f hi,
    sameT_f, trivial⟩
  exact fits_of_trace (n := 300) (k0 := 0) hT Tryd.func3 (by kernel_rfl) (by kernel_rfl) (by kernel_rfl)

set_option maxRecDepth 100000 in
theorem IntegerTexts_negB {z n : Int} (hn : inI64 n) (hz : z.natAbs < 4294967296 ^ 30) (hc : (txtI z)[0]? = some 45) (hs : z < 0) (hi : ¬ inI64 z) {k : Nat} (hk : IsBits k z.natAbs) : FitsP 3 [im z, rawS (.int .i64 n)] [] (.one (boolS true)) := by
  have hT : AllOk Tryd.prog Glob [
    Tr.call 4 [] [] (Av.one (Sv.cel (Cv.raw (Value.bool true)))),
    Tr.call 6 [Sv.cel (Cv.raw (Value.int IntKind.i64 n))] [] (Av.one (Sv.agg [Cv.raw (Value.bool (decide (n < (0 : Int)))), Cv.ent (nat (Int.natAbs n))])),
    Tr.call 5 [Sv.agg [Cv.raw (Value.bool (decide (n < (0 : Int)))), Cv.ent (nat (Int.natAbs n))]] [] (Av.tup [Sv.cel (Cv.raw (Value.int IntKind.i64 n)), Sv.cel (Cv.raw (Value.int IntKind.i64 (Int.ofNat (nat_lit 0))))]),
    Tr.norm (nat_lit 18) (Av.one (Sv.cel (Cv.raw (Value.bool (n != n))))) (Av.one (Sv.cel (Cv.raw (Value.bool false)))),
    Tr.call 7 [Sv.cel (Cv.row (nat_lit 20) (nat_lit 0) (nat_lit 1) (nat_lit 1))] [(nat_lit 20, { t := 25, cs := [Cv.raw (Value.bool (decide (z < (0 : Int)))), Cv.ent (nat (Int.natAbs z))], own := true })] (Av.one (Sv.cel (Cv.raw (Value.bool true)))),
    Tr.call 8 [Sv.agg [Cv.raw (Value.bool (decide (z < (0 : Int)))), Cv.ent (nat (Int.natAbs z))]] [] (Av.one (Sv.cel (Cv.raw (Value.string (txtI z))))),
    Tr.call 9 [Sv.cel (Cv.raw (Value.string (txtI z)))] [] (Av.tup [Sv.agg [Cv.raw (Value.bool (decide (z < (0 : Int)))), Cv.ent (nat (Int.natAbs z))], Sv.cel (Cv.raw (Value.int IntKind.i64 (Int.ofNat (nat_lit 0))))]),
    Tr.call 10 [Sv.agg [Cv.raw (Value.bool (decide (z < (0 : Int)))), Cv.ent (nat (Int.natAbs z))], Sv.agg [Cv.raw (Value.bool (decide (z < (0 : Int)))), Cv.ent (nat (Int.natAbs z))]] [] (Av.one (Sv.cel (Cv.raw (Value.bool true)))),
    Tr.prim (nat_lit 44) (Op.index (9 : Nat) (Operand.tmp (47 : Nat)) (Operand.const (Value.int IntKind.i64 (0 : Int)))) (nat_lit 5) [Value.string (txtI z), Value.int IntKind.i64 (Int.ofNat (nat_lit 0))] (Value.int IntKind.u8 (Int.ofNat (nat_lit 45))),
    Tr.norm (nat_lit 49) (Av.one (Sv.cel (Cv.raw (Value.bool !((45 : Int) == (45 : Int)) == decide (z < (0 : Int)))))) (Av.one (Sv.cel (Cv.raw (Value.bool false)))),
    Tr.call 5 [Sv.agg [Cv.raw (Value.bool (decide (z < (0 : Int)))), Cv.ent (nat (Int.natAbs z))]] [] (Av.tup [Sv.cel (Cv.raw (Value.int IntKind.i64 (Int.ofNat (nat_lit 0)))), Sv.cel (Cv.raw (Value.int IntKind.i64 (Int.ofNat (nat_lit 11))))]),
    Tr.call 11 [Sv.cel (Cv.ent (nat (Int.natAbs z)))] [] (Av.one (Sv.cel (Cv.raw (Value.int IntKind.i64 (↑k : Int)))))] := ⟨
    counts_f,
    ofI_f hn,
    smallI_f hn,
    norm_bool (bne_selfI n),
    ifit_f hz _ _,
    textI_f _ (txtI_dec z) (limI30 hz),
    parseI_f _ (txtI_dec z) (txt_len hz),
    sameT_f,
    prim_index (c := 45) (by kernel_rfl) hc,
    norm_bool (minus_yes hs),
    smallIBig_f hi,
    bits_f hk, trivial⟩
  exact Fits.res (r := (.one (Sv.cel (Cv.raw (Value.bool (decide ((↑k : Int) ≥ (64 : Int)))))))) (fits_of_trace (n := 300) (k0 := 0) hT Tryd.func3 (by kernel_rfl) (by kernel_rfl) (by kernel_rfl)) (norm_bool (bits_64 hi hk))

set_option maxRecDepth 100000 in
theorem IntegerTexts_posS {z n : Int} (hn : inI64 n) (hz : z.natAbs < 4294967296 ^ 30) {c : UInt8} (hc : (txtI z)[0]? = some c) (h45 : c ≠ 45) (hs : ¬ z < 0) (hi : inI64 z) : FitsP 3 [im z, rawS (.int .i64 n)] [] (.one (boolS true)) := by
  have hT : AllOk Tryd.prog Glob [
    Tr.call 4 [] [] (Av.one (Sv.cel (Cv.raw (Value.bool true)))),
    Tr.call 6 [Sv.cel (Cv.raw (Value.int IntKind.i64 n))] [] (Av.one (Sv.agg [Cv.raw (Value.bool (decide (n < (0 : Int)))), Cv.ent (nat (Int.natAbs n))])),
    Tr.call 5 [Sv.agg [Cv.raw (Value.bool (decide (n < (0 : Int)))), Cv.ent (nat (Int.natAbs n))]] [] (Av.tup [Sv.cel (Cv.raw (Value.int IntKind.i64 n)), Sv.cel (Cv.raw (Value.int IntKind.i64 (Int.ofNat (nat_lit 0))))]),
    Tr.norm (nat_lit 18) (Av.one (Sv.cel (Cv.raw (Value.bool (n != n))))) (Av.one (Sv.cel (Cv.raw (Value.bool false)))),
    Tr.call 7 [Sv.cel (Cv.row (nat_lit 20) (nat_lit 0) (nat_lit 1) (nat_lit 1))] [(nat_lit 20, { t := 25, cs := [Cv.raw (Value.bool (decide (z < (0 : Int)))), Cv.ent (nat (Int.natAbs z))], own := true })] (Av.one (Sv.cel (Cv.raw (Value.bool true)))),
    Tr.call 8 [Sv.agg [Cv.raw (Value.bool (decide (z < (0 : Int)))), Cv.ent (nat (Int.natAbs z))]] [] (Av.one (Sv.cel (Cv.raw (Value.string (txtI z))))),
    Tr.call 9 [Sv.cel (Cv.raw (Value.string (txtI z)))] [] (Av.tup [Sv.agg [Cv.raw (Value.bool (decide (z < (0 : Int)))), Cv.ent (nat (Int.natAbs z))], Sv.cel (Cv.raw (Value.int IntKind.i64 (Int.ofNat (nat_lit 0))))]),
    Tr.call 10 [Sv.agg [Cv.raw (Value.bool (decide (z < (0 : Int)))), Cv.ent (nat (Int.natAbs z))], Sv.agg [Cv.raw (Value.bool (decide (z < (0 : Int)))), Cv.ent (nat (Int.natAbs z))]] [] (Av.one (Sv.cel (Cv.raw (Value.bool true)))),
    Tr.prim (nat_lit 44) (Op.index (9 : Nat) (Operand.tmp (47 : Nat)) (Operand.const (Value.int IntKind.i64 (0 : Int)))) (nat_lit 5) [Value.string (txtI z), Value.int IntKind.i64 (Int.ofNat (nat_lit 0))] (Value.int IntKind.u8 (↑(UInt8.toNat c) : Int)),
    Tr.norm (nat_lit 49) (Av.one (Sv.cel (Cv.raw (Value.bool !((↑(UInt8.toNat c) : Int) == (45 : Int)) == decide (z < (0 : Int)))))) (Av.one (Sv.cel (Cv.raw (Value.bool false)))),
    Tr.call 5 [Sv.agg [Cv.raw (Value.bool (decide (z < (0 : Int)))), Cv.ent (nat (Int.natAbs z))]] [] (Av.tup [Sv.cel (Cv.raw (Value.int IntKind.i64 z)), Sv.cel (Cv.raw (Value.int IntKind.i64 (Int.ofNat (nat_lit 0))))]),
    Tr.call 6 [Sv.cel (Cv.raw (Value.int IntKind.i64 z))] [] (Av.one (Sv.agg [Cv.raw (Value.bool (decide (z < (0 : Int)))), Cv.ent (nat (Int.natAbs z))])),
    Tr.call 10 [Sv.agg [Cv.raw (Value.bool (decide (z < (0 : Int)))), Cv.ent (nat (Int.natAbs z))], Sv.agg [Cv.raw (Value.bool (decide (z < (0 : Int)))), Cv.ent (nat (Int.natAbs z))]] [] (Av.one (Sv.cel (Cv.raw (Value.bool true))))] := ⟨
    counts_f,
    ofI_f hn,
    smallI_f hn,
    norm_bool (bne_selfI n),
    ifit_f hz _ _,
    textI_f _ (txtI_dec z) (limI30 hz),
    parseI_f _ (txtI_dec z) (txt_len hz),
    sameT_f,
    prim_index (by kernel_rfl) hc,
    norm_bool (minus_no h45 hs),
    smallI_f hi,
    ofI_f hi,
    sameT_f, trivial⟩
  exact fits_of_trace (n := 300) (k0 := 0) hT Tryd.func3 (by kernel_rfl) (by kernel_rfl) (by kernel_rfl)

set_option maxRecDepth 100000 in
theorem IntegerTexts_posB {z n : Int} (hn : inI64 n) (hz : z.natAbs < 4294967296 ^ 30) {c : UInt8} (hc : (txtI z)[0]? = some c) (h45 : c ≠ 45) (hs : ¬ z < 0) (hi : ¬ inI64 z) {k : Nat} (hk : IsBits k z.natAbs) : FitsP 3 [im z, rawS (.int .i64 n)] [] (.one (boolS true)) := by
  have hT : AllOk Tryd.prog Glob [
    Tr.call 4 [] [] (Av.one (Sv.cel (Cv.raw (Value.bool true)))),
    Tr.call 6 [Sv.cel (Cv.raw (Value.int IntKind.i64 n))] [] (Av.one (Sv.agg [Cv.raw (Value.bool (decide (n < (0 : Int)))), Cv.ent (nat (Int.natAbs n))])),
    Tr.call 5 [Sv.agg [Cv.raw (Value.bool (decide (n < (0 : Int)))), Cv.ent (nat (Int.natAbs n))]] [] (Av.tup [Sv.cel (Cv.raw (Value.int IntKind.i64 n)), Sv.cel (Cv.raw (Value.int IntKind.i64 (Int.ofNat (nat_lit 0))))]),
    Tr.norm (nat_lit 18) (Av.one (Sv.cel (Cv.raw (Value.bool (n != n))))) (Av.one (Sv.cel (Cv.raw (Value.bool false)))),
    Tr.call 7 [Sv.cel (Cv.row (nat_lit 20) (nat_lit 0) (nat_lit 1) (nat_lit 1))] [(nat_lit 20, { t := 25, cs := [Cv.raw (Value.bool (decide (z < (0 : Int)))), Cv.ent (nat (Int.natAbs z))], own := true })] (Av.one (Sv.cel (Cv.raw (Value.bool true)))),
    Tr.call 8 [Sv.agg [Cv.raw (Value.bool (decide (z < (0 : Int)))), Cv.ent (nat (Int.natAbs z))]] [] (Av.one (Sv.cel (Cv.raw (Value.string (txtI z))))),
    Tr.call 9 [Sv.cel (Cv.raw (Value.string (txtI z)))] [] (Av.tup [Sv.agg [Cv.raw (Value.bool (decide (z < (0 : Int)))), Cv.ent (nat (Int.natAbs z))], Sv.cel (Cv.raw (Value.int IntKind.i64 (Int.ofNat (nat_lit 0))))]),
    Tr.call 10 [Sv.agg [Cv.raw (Value.bool (decide (z < (0 : Int)))), Cv.ent (nat (Int.natAbs z))], Sv.agg [Cv.raw (Value.bool (decide (z < (0 : Int)))), Cv.ent (nat (Int.natAbs z))]] [] (Av.one (Sv.cel (Cv.raw (Value.bool true)))),
    Tr.prim (nat_lit 44) (Op.index (9 : Nat) (Operand.tmp (47 : Nat)) (Operand.const (Value.int IntKind.i64 (0 : Int)))) (nat_lit 5) [Value.string (txtI z), Value.int IntKind.i64 (Int.ofNat (nat_lit 0))] (Value.int IntKind.u8 (↑(UInt8.toNat c) : Int)),
    Tr.norm (nat_lit 49) (Av.one (Sv.cel (Cv.raw (Value.bool !((↑(UInt8.toNat c) : Int) == (45 : Int)) == decide (z < (0 : Int)))))) (Av.one (Sv.cel (Cv.raw (Value.bool false)))),
    Tr.call 5 [Sv.agg [Cv.raw (Value.bool (decide (z < (0 : Int)))), Cv.ent (nat (Int.natAbs z))]] [] (Av.tup [Sv.cel (Cv.raw (Value.int IntKind.i64 (Int.ofNat (nat_lit 0)))), Sv.cel (Cv.raw (Value.int IntKind.i64 (Int.ofNat (nat_lit 11))))]),
    Tr.call 11 [Sv.cel (Cv.ent (nat (Int.natAbs z)))] [] (Av.one (Sv.cel (Cv.raw (Value.int IntKind.i64 (↑k : Int)))))] := ⟨
    counts_f,
    ofI_f hn,
    smallI_f hn,
    norm_bool (bne_selfI n),
    ifit_f hz _ _,
    textI_f _ (txtI_dec z) (limI30 hz),
    parseI_f _ (txtI_dec z) (txt_len hz),
    sameT_f,
    prim_index (by kernel_rfl) hc,
    norm_bool (minus_no h45 hs),
    smallIBig_f hi,
    bits_f hk, trivial⟩
  exact Fits.res (r := (.one (Sv.cel (Cv.raw (Value.bool (decide ((↑k : Int) ≥ (64 : Int)))))))) (fits_of_trace (n := 300) (k0 := 0) hT Tryd.func3 (by kernel_rfl) (by kernel_rfl) (by kernel_rfl)) (norm_bool (bits_64 hi hk))

set_option maxRecDepth 100000 in
theorem IntegerTexts_un {m : Bool} {xs : List Nat} {n : Int} (hn : inI64 n) (hu : UnfitI m xs) : FitsP 3 [aiS m xs, rawS (.int .i64 n)] [] (.one (boolS true)) := by
  have hT : AllOk Tryd.prog Glob [
    Tr.call 4 [] [] (Av.one (Sv.cel (Cv.raw (Value.bool true)))),
    Tr.call 6 [Sv.cel (Cv.raw (Value.int IntKind.i64 n))] [] (Av.one (Sv.agg [Cv.raw (Value.bool (decide (n < (0 : Int)))), Cv.ent (nat (Int.natAbs n))])),
    Tr.call 5 [Sv.agg [Cv.raw (Value.bool (decide (n < (0 : Int)))), Cv.ent (nat (Int.natAbs n))]] [] (Av.tup [Sv.cel (Cv.raw (Value.int IntKind.i64 n)), Sv.cel (Cv.raw (Value.int IntKind.i64 (Int.ofNat (nat_lit 0))))]),
    Tr.norm (nat_lit 18) (Av.one (Sv.cel (Cv.raw (Value.bool (n != n))))) (Av.one (Sv.cel (Cv.raw (Value.bool false)))),
    Tr.call 7 [Sv.cel (Cv.row (nat_lit 20) (nat_lit 0) (nat_lit 1) (nat_lit 1))] [(nat_lit 20, { t := 25, cs := [Cv.raw (Value.bool m), Cv.ent (argE xs)], own := true })] (Av.one (Sv.cel (Cv.raw (Value.bool false))))] := ⟨
    counts_f,
    ofI_f hn,
    smallI_f hn,
    norm_bool (bne_selfI n),
    iunfit hu _ _, trivial⟩
  exact fits_of_trace (n := 300) (k0 := 0) hT Tryd.func3 (by kernel_rfl) (by kernel_rfl) (by kernel_rfl)

theorem IntegerTexts_any {z n : Int} (hn : inI64 n) (hz : z.natAbs < 4294967296 ^ 30) : FitsP 3 [im z, rawS (.int .i64 n)] [] (.one (boolS true)) := by
  obtain ⟨c, hc, h1, h2⟩ := txt_head z
  obtain ⟨k, hk⟩ := bits_ex z.natAbs
  by_cases hs : z < 0
  · obtain rfl := h1 hs
    by_cases hi : inI64 z
    · exact IntegerTexts_negS hn hz hc hs hi
    · exact IntegerTexts_negB hn hz hc hs hi hk
  · by_cases hi : inI64 z
    · exact IntegerTexts_posS hn hz hc (h2 (by omega)) hs hi
    · exact IntegerTexts_posB hn hz hc (h2 (by omega)) hs hi hk
end Go.Proofs.YtphpaejgcahgbaaDoor
