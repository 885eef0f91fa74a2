/- Texts of ratios. -/
import Derived.Test.YtphpaejgcahgbaaGreatDoorRatL
namespace Go.Proofs.YtphpaejgcahgbaaGreatDoor
open Go Go.RowKit Go.Shelf AM
theorem allD_not {l : List UInt8} {c : UInt8} (h : AllD l) (hc : c.toNat < 48) : c ∉ l := fun hm => by have := (h c hm).1; omega
theorem decI_not {z : Int} {l : List UInt8} {c : UInt8} (h : DecI z l) (hc : c.toNat < 48) (hm : c ≠ 45) : c ∉ l := by
  obtain ⟨d, hd, e⟩ := h
  rw [e]
  split
  · intro hx
    rcases List.mem_cons.1 hx with rfl | hx
    · exact hm rfl
    · exact allD_not hd.1 hc hx
  · exact allD_not hd.1 hc
/-- A size of numbers: at most 44 of base 2^32; its texts have at most 430 digits. -/
theorem dec_short {n : Nat} {l : List UInt8} (h : Dec n l) (hn : n < 4294967296 ^ 44) : l.length ≤ 430 := h.len_le (Nat.lt_of_lt_of_le hn (by decide +kernel)) (by omega)
theorem decI_short {z : Int} {s : ByteArray} (h : DecI z s.data.toList) (hn : z.natAbs < 4294967296 ^ 44) : s.size ≤ 431 := by
  obtain ⟨d, hd, e⟩ := h
  have h1 := dec_short hd hn
  rw [← size_list, e]
  split
  · simp; omega
  · omega
theorem decS_short {n : Nat} {s : ByteArray} (h : Dec n s.data.toList) (hn : n < 4294967296 ^ 44) : s.size ≤ 430 := by rw [← size_list]; exact dec_short h hn
theorem size3 {a b : ByteArray} {c : UInt8} : (a ++ ⟨#[c]⟩ ++ b).size = a.size + 1 + b.size := by simp; rfl
theorem dparse_is {n : Nat} (s : ByteArray) (h : Dec n s.data.toList) (hl : s.size ≤ 4900) : FitsP 157 [rawS (.string s)] [] (.tup [natS n, ok0]) := by
  have := dparse_f s h.1 h.2.2.1 hl
  rw [h.2.1] at this; exact this

set_option maxRecDepth 100000 in
theorem parseWhole_f {z : Int} {s : ByteArray} (hs : DecI z s.data.toList) (hl : s.size ≤ 4900) : FitsP 28 [rawS (.string s)] [] (.tup [rq (z : Rat), ok0]) := by
  have hT : AllOk Tryz.prog Glob [
    Tr.call 107 [Sv.cel (Cv.raw (Value.string s)), Sv.cel (Cv.raw (Value.string { data := #[(47 : UInt8)] }))] [] (Av.tup [Sv.cel (Cv.raw (Value.string s)), Sv.cel (Cv.raw (Value.string { data := #[] })), Sv.cel (Cv.raw (Value.bool false))]),
    Tr.call 107 [Sv.cel (Cv.raw (Value.string s)), Sv.cel (Cv.raw (Value.string { data := #[(46 : UInt8)] }))] [] (Av.tup [Sv.cel (Cv.raw (Value.string s)), Sv.cel (Cv.raw (Value.string { data := #[] })), Sv.cel (Cv.raw (Value.bool false))]),
    Tr.call 77 [Sv.cel (Cv.raw (Value.string s))] [] (Av.tup [Sv.agg [Cv.raw (Value.bool (decide (z < (0 : Int)))), Cv.ent (nat (Int.natAbs z))], Sv.cel (Cv.raw (Value.int IntKind.i64 (Int.ofNat (nat_lit 0))))]),
    Tr.call 40 [Sv.agg [Cv.raw (Value.bool (decide (z < (0 : Int)))), Cv.ent (nat (Int.natAbs z))]] [] (Av.one (Sv.agg [Cv.raw (Value.bool (decide (Rat.num (↑z : Rat) < (0 : Int)))), Cv.ent (nat (Int.natAbs (Rat.num (↑z : Rat)))), Cv.ent (nat (Rat.den (↑z : Rat)))]))] := ⟨
    cutNot_f (by omega) (decI_not hs (by decide) (by decide)),
    cutNot_f (by omega) (decI_not hs (by decide) (by decide)),
    parseI_f s hs hl,
    wholeB_f, trivial⟩
  exact fits_of_trace (n := 300) (k0 := 0) hT Tryz.func28 (by kernel_rfl) (by kernel_rfl) (by kernel_rfl)

set_option maxRecDepth 100000 in
theorem parsePair_f {z : Int} {d : Nat} {a b : ByteArray} (ha : DecI z a.data.toList) (hb : Dec d b.data.toList) (hla : a.size ≤ 4900) (hlb : b.size ≤ 4900) (h1 : LimI z) (h2 : d < Lim) (h0 : d ≠ 0) : FitsP 108 [rawS (.string a), rawS (.string b)] [] (.tup [rq (Rat.normalize z d h0), ok0]) := by
  have hT : AllOk Tryz.prog Glob [
    Tr.call 77 [Sv.cel (Cv.raw (Value.string a))] [] (Av.tup [Sv.agg [Cv.raw (Value.bool (decide (z < (0 : Int)))), Cv.ent (nat (Int.natAbs z))], Sv.cel (Cv.raw (Value.int IntKind.i64 (Int.ofNat (nat_lit 0))))]),
    Tr.call 157 [Sv.cel (Cv.raw (Value.string b))] [] (Av.tup [Sv.cel (Cv.ent (nat d)), Sv.cel (Cv.raw (Value.int IntKind.i64 (Int.ofNat (nat_lit 0))))]),
    Tr.call 31 [Sv.cel (Cv.ent (nat d))] [] (Av.one (Sv.agg [Cv.raw (Value.bool false), Cv.ent (nat d)])),
    Tr.call 30 [Sv.agg [Cv.raw (Value.bool (decide (z < (0 : Int)))), Cv.ent (nat (Int.natAbs z))], Sv.agg [Cv.raw (Value.bool false), Cv.ent (nat d)]] [] (Av.tup [Sv.agg [Cv.raw (Value.bool (decide (Rat.num (Rat.normalize z d h0) < (0 : Int)))), Cv.ent (nat (Int.natAbs (Rat.num (Rat.normalize z d h0)))), Cv.ent (nat (Rat.den (Rat.normalize z d h0)))], Sv.cel (Cv.raw (Value.int IntKind.i64 (Int.ofNat (nat_lit 0))))])] := ⟨
    parseI_f a ha hla,
    dparse_is b hb hlb,
    nat_pn,
    make1_f h1 h2 h0, trivial⟩
  exact fits_of_trace (n := 300) (k0 := 0) hT Tryz.func108 (by kernel_rfl) (by kernel_rfl) (by kernel_rfl)

set_option maxRecDepth 100000 in
theorem parseFrac_f {q : Rat} {a b : ByteArray} (hs : (a ++ ⟨#[47]⟩ ++ b).size < 4294967281) (ha : (47 : UInt8) ∉ a.data.toList) (hp : FitsP 108 [rawS (.string a), rawS (.string b)] [] (.tup [rq q, ok0])) : FitsP 28 [rawS (.string (a ++ ⟨#[47]⟩ ++ b))] [] (.tup [rq q, ok0]) := by
  have hT : AllOk Tryz.prog Glob [
    Tr.call 107 [Sv.cel (Cv.raw (Value.string (a ++ { data := #[(47 : UInt8)] } ++ b))), Sv.cel (Cv.raw (Value.string { data := #[(47 : UInt8)] }))] [] (Av.tup [Sv.cel (Cv.raw (Value.string a)), Sv.cel (Cv.raw (Value.string b)), Sv.cel (Cv.raw (Value.bool true))]),
    Tr.call 108 [Sv.cel (Cv.raw (Value.string a)), Sv.cel (Cv.raw (Value.string b))] [] (Av.tup [Sv.agg [Cv.raw (Value.bool (decide (Rat.num q < (0 : Int)))), Cv.ent (nat (Int.natAbs (Rat.num q))), Cv.ent (nat (Rat.den q))], Sv.cel (Cv.raw (Value.int IntKind.i64 (Int.ofNat (nat_lit 0))))])] := ⟨
    cutAt_f hs ha,
    hp, trivial⟩
  exact fits_of_trace (n := 300) (k0 := 0) hT Tryz.func28 (by kernel_rfl) (by kernel_rfl) (by kernel_rfl)
end Go.Proofs.YtphpaejgcahgbaaGreatDoor
