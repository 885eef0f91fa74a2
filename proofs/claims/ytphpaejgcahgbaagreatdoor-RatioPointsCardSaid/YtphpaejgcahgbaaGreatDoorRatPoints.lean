/- RatioPoints. -/
import Derived.Test.YtphpaejgcahgbaaGreatDoorRatParses
namespace Go.Proofs.YtphpaejgcahgbaaGreatDoor
open Go Go.RowKit Go.Shelf AM
/-- A loop in a piece of code: the first. -/
def findLoop : Code → Option Code
  | .loop b => some b
  | .seq x y => (match findLoop x with | some b => some b | none => findLoop y)
  | .cond _ x y => (match findLoop x with | some b => some b | none => findLoop y)
  | .block _ b => findLoop b
  | .scope c => findLoop c
  | _ => none
noncomputable def ptLoop : Code := (findLoop (Go.Proofs.YtphpaejgcahgbaaGreatDoor.bodyOf Tryz.f5)).getD .skip
/-- What is said ahead of each round. -/
def ptT (n : Int) (s : ByteArray) : List Av := [anyA, rawA (.int .i64 n), .one (.cel (.ptr 0 0)), anyA, anyA, rawA (.string s)] ++ List.replicate 81 anyA
def ptV (z : Int) : List (Nat × VarSt) := [(0, ⟨25, [.raw (.bool (decide (z < 0))), .ent (nat z.natAbs)], true⟩)]
/-- Noughts ahead of a text. -/
def zer (d : ByteArray) : Nat → ByteArray
  | 0 => d
  | k + 1 => ⟨#[48]⟩ ++ zer d k

theorem zer_list (d : ByteArray) : ∀ k, (zer d k).data.toList = noughts k ++ d.data.toList
  | 0 => by simp [zer, noughts]
  | k + 1 => by
    have := zer_list d k
    unfold zer
    rw [show ((⟨#[48]⟩ ++ zer d k : ByteArray)).data.toList = 48 :: (zer d k).data.toList by simp, this]
    simp [noughts, List.replicate_succ]
theorem zer_size (d : ByteArray) (k : Nat) : (zer d k).size = k + d.size := by
  rw [← size_list, zer_list, List.length_append, size_list]; simp [noughts]
theorem pt_round {z n : Int} {s : ByteArray} (h : (s.size : Int) ≤ n) (hn : n ≤ 1000) : AM.Moves Tryz.prog Glob ptLoop (ptT n s) (ptV z) .normal (ptT n (⟨#[48]⟩ ++ s)) (ptV z) :=
  moves_of_run (n := 50) (k := 1) (keep := [1, 2, 5]) (ids := [0]) (tr := [Tr.norm 4 anyA (.one (boolS true)), Tr.prim 6 (Op.move (Operand.const undef)) 0 [] (.string ((⟨#[48]⟩ : ByteArray) ++ s))])
    (out := [Tr.prim 6 (Op.binOp BinOp.add 9 (Operand.const (Value.string ⟨#[48]⟩)) (Operand.tmp 39) 9) 9 [Value.string ⟨#[48]⟩, Value.string s] (Value.string ((⟨#[48]⟩ : ByteArray) ++ s)), Tr.norm 4 (.one (boolS (decide ((s.size : Int) ≤ n)))) (.one (boolS true))])
    Glob.below mix (by kernel_rfl) (AllOk.all ⟨prim_concat (by have : (⟨#[48]⟩ : ByteArray).size = 1 := rfl; omega), norm_bool (decide_eq_true h), trivial⟩)
theorem pt_exit {z n : Int} {s : ByteArray} (h : ¬ (s.size : Int) ≤ n) : AM.Moves Tryz.prog Glob ptLoop (ptT n s) (ptV z) (.exit 0) (ptT n s) (ptV z) :=
  moves_of_run (n := 50) (k := 1) (keep := [1, 2, 5]) (ids := [0]) (tr := [Tr.norm 4 anyA (.one (boolS false))])
    (out := [Tr.norm 4 (.one (boolS (decide ((s.size : Int) ≤ n)))) (.one (boolS false))])
    Glob.below mix (by kernel_rfl) (AllOk.all ⟨norm_bool (decide_eq_false h), trivial⟩)
theorem pt_loop {z n : Int} {d : ByteArray} {k : Nat} (hn : n ≤ 1000) (h1 : ∀ j, j < k → ((j + d.size : Nat) : Int) ≤ n) (h2 : ¬ ((k + d.size : Nat) : Int) ≤ n) : AM.Moves Tryz.prog Glob (.loop ptLoop) (ptT n d) (ptV z) (.exit 0) (ptT n (zer d k)) (ptV z) :=
  loop_moves (n := k) (tm := fun j => ptT n (zer d j)) (vr := fun _ => ptV z) (fun j hj => pt_round (by rw [zer_size]; exact h1 j hj) hn) (by simp) (pt_exit (by rw [zer_size]; exact h2))
/-- Both parts of a text. -/
theorem ba_split (s : ByteArray) (k : Nat) : s.extract 0 k ++ s.extract k s.size = s := by
  apply ByteArray.ext
  simp only [ByteArray.data_append, ByteArray.data_extract]
  rw [Array.extract_append_extract]
  simp
  exact .inr (by omega)
theorem ba_take (s : ByteArray) (k : Nat) (h : k ≤ s.size) : (s.extract 0 k).size = k := by simp; omega
theorem ba_drop (s : ByteArray) (k : Nat) : (s.extract k s.size).size = s.size - k := by simp
theorem prim_upto {P : Program} {t ty : TypeId} {x y : Operand} {s : ByteArray} {k : Int} {j : Nat} (ht : pureSem P (underlying t) = some .string) (hk : k = (j : Int)) (hj : j ≤ s.size) : PrimOk P (.slice t x none (some y) none) ty [.string s, .int .i64 k] (.string (s.extract 0 j)) := by
  subst hk
  intro ρ w he
  have he : [ρ x, ρ y] = [Value.string s, Value.int .i64 j] := by simpa [Op.operands] using he
  injection he with h1 he
  injection he with h2 he
  simp [execOp, h1, h2, Instr.sliceAt, Instr.slice, Instr.sliceBounds, Instr.sliceBound, asIntOf, pureSem_run ht, hj]
theorem prim_from {P : Program} {t ty : TypeId} {x y : Operand} {s : ByteArray} {k : Int} {j : Nat} (ht : pureSem P (underlying t) = some .string) (hk : k = (j : Int)) (hj : j ≤ s.size) : PrimOk P (.slice t x (some y) none none) ty [.string s, .int .i64 k] (.string (s.extract j s.size)) := by
  subst hk
  intro ρ w he
  have he : [ρ x, ρ y] = [Value.string s, Value.int .i64 j] := by simpa [Op.operands] using he
  injection he with h1 he
  injection he with h2 he
  simp [execOp, h1, h2, Instr.sliceAt, Instr.slice, Instr.sliceBounds, Instr.sliceBound, asIntOf, pureSem_run ht, hj]
theorem w64p {z : Int} (h1 : -1000000000 ≤ z) (h2 : z ≤ 1000000000) : IntKind.i64.wrap z = z := by rw [wrap_i64]; split <;> omega
theorem len20p {z : Int} (h : z.natAbs < 4294967296 ^ 20) : decide (((lenN z.natAbs : Nat) : Int) > 20) = false := gt_false (lenN_le.2 h)
theorem limI20 {z : Int} (h : z.natAbs < 4294967296 ^ 20) : LimI z := lim_of h (by omega)
theorem AllD.sub {l m : List UInt8} (h : AllD l) (hs : ∀ c ∈ m, c ∈ l) : AllD m := fun c hc => h c (hs c hc)
theorem AllD.not {l : List UInt8} {c : UInt8} (h : AllD l) (hc : c.toNat < 48) : c ∉ l := fun hm => by have := (h c hm).1; omega
theorem ten_limP {n : Nat} (h : n ≤ 900) : 10 ^ n < Lim := by
  refine lim_of (n := 94) ?_ (by omega)
  exact Nat.lt_of_le_of_lt (Nat.pow_le_pow_right (by omega) h) (by decide +kernel)
/-- What is read: digits with a point in them. -/
theorem point_read {z : Int} {m : Bool} {s : ByteArray} {n : Nat} {L : Nat} (hD : AllD s.data.toList) (hs : s.size = L) (hL : n < L) (hl : L ≤ 900) (hn : 0 < n) (hz : sg m (decv s.data.toList) = z) (hlim : LimI z) (h0 : 10 ^ n ≠ 0) (p : ByteArray) (hp : p.data.toList = if m then [45] else []) :
    FitsP 28 [rawS (.string (p ++ s.extract 0 (L - n) ++ ⟨#[46]⟩ ++ s.extract (L - n) s.size))] [] (.tup [rq (Rat.normalize z (10 ^ n) h0), ok0]) := by
  have ha : (s.extract 0 (L - n)).size = L - n := ba_take _ _ (by omega)
  have hb : (s.extract (L - n) s.size).size = n := by rw [ba_drop _ _]; omega
  have hab := ba_split s (L - n)
  have hal : ∀ c ∈ (s.extract 0 (L - n)).data.toList, c ∈ s.data.toList := fun c hc => by
    have := congrArg (fun x : ByteArray => x.data.toList) hab
    simp only [ByteArray.data_append, Array.toList_append] at this
    rw [← this]; exact List.mem_append_left _ hc
  have hbl : ∀ c ∈ (s.extract (L - n) s.size).data.toList, c ∈ s.data.toList := fun c hc => by
    have := congrArg (fun x : ByteArray => x.data.toList) hab
    simp only [ByteArray.data_append, Array.toList_append] at this
    rw [← this]; exact List.mem_append_right _ hc
  have hA := hD.sub hal
  have hB := hD.sub hbl
  have hpl : p.size ≤ 1 := by rw [← size_list, hp]; split <;> simp
  have e1 : (p ++ s.extract 0 (L - n)).data.toList = if m then 45 :: (s.extract 0 (L - n)).data.toList else (s.extract 0 (L - n)).data.toList := by
    simp only [ByteArray.data_append, Array.toList_append]
    rw [hp]; split <;> simp
  have e2 : (p ++ s.extract 0 (L - n) ++ s.extract (L - n) s.size).data.toList = if m then 45 :: s.data.toList else s.data.toList := by
    rw [ByteArray.append_assoc, hab]
    simp only [ByteArray.data_append, Array.toList_append]
    rw [hp]; split <;> simp
  have hne : ∀ x : ByteArray, 0 < x.size → x.data.toList ≠ [] := fun x hx h => by rw [← size_list, h] at hx; simp at hx
  generalize hx : s.extract 0 (L - n) = x at *
  generalize hy : s.extract (L - n) s.size = y at *
  have nm : ∀ c : UInt8, c.toNat < 48 → c ≠ 45 → c ∉ (p ++ x).data.toList := fun c h1 h2 hc => by
    rw [e1] at hc
    split at hc
    · rcases List.mem_cons.1 hc with h | h
      · exact h2 h
      · exact hA.not h1 h
    · exact hA.not h1 hc
  have sz : (p ++ x ++ ⟨#[46]⟩ ++ y : ByteArray).size ≤ 1000 := by
    rw [size3]
    simp only [ByteArray.size_append]; omega
  have hyn : 10 ^ y.size ≠ 0 := by rw [hb]; exact h0
  have key := point4_f (a := p ++ x) (b := y) (z := sg m (decv x.data.toList)) (y := z) (n := decv y.data.toList) hyn (by omega) (by simp only [ByteArray.size_append]; omega)
    (parseIG_f m x.data.toList e1 hA (hne x (by omega)) (by rw [size_list]; omega) rfl)
    (dparse_f y hB (hne y (by omega)) (by omega))
    (parseIG_f m s.data.toList e2 hD (hne s (by omega)) (by rw [size_list]; omega) hz) hlim (by rw [hb]; exact ten_limP (by omega))
  refine dot_ok (by omega) ?_ (nm 46 (by decide) (by decide)) ?_
  · intro hc
    have e3 : (p ++ x ++ ⟨#[46]⟩ ++ y : ByteArray).data.toList = (p ++ x).data.toList ++ 46 :: y.data.toList := by simp
    rw [e3] at hc
    rcases List.mem_append.1 hc with h | h
    · exact nm 47 (by decide) (by decide) h
    · rcases List.mem_cons.1 h with h | h
      · exact absurd h (by decide)
      · exact hB.not (by decide) h
  · have : Rat.normalize z (10 ^ y.size) hyn = Rat.normalize z (10 ^ n) h0 := by congr 1 <;> rw [hb]
    rw [this] at key; exact key
section
variable {z : Int} {n k : Nat} {d : ByteArray}
theorem zer_allD (hd : Dec z.natAbs d.data.toList) : AllD (zer d k).data.toList := by
  rw [zer_list]
  intro c hc
  rcases List.mem_append.1 hc with h | h
  · exact allD_noughts k c h
  · exact hd.1 c h
theorem zer_val (hd : Dec z.natAbs d.data.toList) : decv (zer d k).data.toList = z.natAbs := by rw [zer_list, decv_ahead, hd.2.1]
theorem pt_len (hk2 : ¬ ((k + d.size : Nat) : Int) ≤ (n : Int)) : n < k + d.size := by omega
theorem ptRead (hz : z.natAbs < 4294967296 ^ 20) (hn1 : 1 ≤ n) (hd : Dec z.natAbs d.data.toList) (hk2 : ¬ ((k + d.size : Nat) : Int) ≤ (n : Int)) (hL : k + d.size ≤ 900) (hs : ¬ z < 0) (h0 : 10 ^ n ≠ 0) :
    FitsP 28 [rawS (.string ((zer d k).extract 0 (k + d.size - n) ++ ⟨#[46]⟩ ++ (zer d k).extract (k + d.size - n) (zer d k).size))] [] (.tup [rq (Rat.normalize z (10 ^ n) h0), ok0]) := by
  have := point_read (m := false) (z := z) (zer_allD (k := k) hd) (zer_size d k) (pt_len hk2) hL (by omega) (by rw [zer_val hd]; unfold sg; simp; omega) (limI20 hz) h0 ⟨#[]⟩ rfl
  rw [show (⟨#[]⟩ : ByteArray) = ByteArray.empty from rfl, ByteArray.empty_append] at this
  exact this
theorem ptReadN (hz : z.natAbs < 4294967296 ^ 20) (hn1 : 1 ≤ n) (hd : Dec z.natAbs d.data.toList) (hk2 : ¬ ((k + d.size : Nat) : Int) ≤ (n : Int)) (hL : k + d.size ≤ 900) (hs : z < 0) (h0 : 10 ^ n ≠ 0) :
    FitsP 28 [rawS (.string (⟨#[45]⟩ ++ ((zer d k).extract 0 (k + d.size - n) ++ ⟨#[46]⟩ ++ (zer d k).extract (k + d.size - n) (zer d k).size)))] [] (.tup [rq (Rat.normalize z (10 ^ n) h0), ok0]) := by
  have := point_read (m := true) (z := z) (zer_allD (k := k) hd) (zer_size d k) (pt_len hk2) hL (by omega) (by rw [zer_val hd]; unfold sg; simp; omega) (limI20 hz) h0 ⟨#[45]⟩ rfl
  rw [ByteArray.append_assoc, ByteArray.append_assoc] at this
  rw [ByteArray.append_assoc]
  exact this
theorem cat1 {P : Program} {t ty yt : TypeId} {x y : Operand} {j : Nat} (hL : k + d.size ≤ 900) : PrimOk P (.binOp .add t x y yt) ty [.string ((zer d k).extract 0 j), .string ⟨#[46]⟩] (.string ((zer d k).extract 0 j ++ ⟨#[46]⟩)) :=
  prim_concat (by have : (⟨#[46]⟩ : ByteArray).size = 1 := rfl; simp only [ByteArray.size_extract, zer_size]; omega)
theorem cat2 {P : Program} {t ty yt : TypeId} {x y : Operand} {j : Nat} (hL : k + d.size ≤ 900) : PrimOk P (.binOp .add t x y yt) ty [.string ((zer d k).extract 0 j ++ ⟨#[46]⟩), .string ((zer d k).extract j (zer d k).size)] (.string ((zer d k).extract 0 j ++ ⟨#[46]⟩ ++ (zer d k).extract j (zer d k).size)) :=
  prim_concat (by have : (⟨#[46]⟩ : ByteArray).size = 1 := rfl; simp only [ByteArray.size_append, ByteArray.size_extract, zer_size]; omega)
theorem cat3 {P : Program} {t ty yt : TypeId} {x y : Operand} {j : Nat} (hL : k + d.size ≤ 900) : PrimOk P (.binOp .add t x y yt) ty [.string ⟨#[45]⟩, .string ((zer d k).extract 0 j ++ ⟨#[46]⟩ ++ (zer d k).extract j (zer d k).size)] (.string (⟨#[45]⟩ ++ ((zer d k).extract 0 j ++ ⟨#[46]⟩ ++ (zer d k).extract j (zer d k).size))) :=
  prim_concat (by have : (⟨#[46]⟩ : ByteArray).size = 1 := rfl; have : (⟨#[45]⟩ : ByteArray).size = 1 := rfl; simp only [ByteArray.size_append, ByteArray.size_extract, zer_size]; omega)
end
theorem sameEq {p q : Rat} (h : p = q) : FitsP 32 [rq p, rq q] [] (.one (boolS true)) := sameEq_f h

set_option maxRecDepth 100000 in
theorem RatioPoints_pos {z : Int} {n k : Nat} {d : ByteArray} (hz : z.natAbs < 4294967296 ^ 20) (hn1 : 1 ≤ n) (hn2 : n ≤ 300) (hd : Dec z.natAbs d.data.toList) (hk1 : ∀ j, j < k → ((j + d.size : Nat) : Int) ≤ (n : Int)) (hk2 : ¬ ((k + d.size : Nat) : Int) ≤ (n : Int)) (hL : k + d.size ≤ 900) (h0 : 10 ^ n ≠ 0) (hs : ¬ z < 0) : FitsP 5 [im z, rawS (.int .i64 (n : Int))] [] (.one (boolS true)) := by
  have hT : AllOk Tryz.prog Glob [
    Tr.call 25 [] [] (Av.one (Sv.cel (Cv.raw (Value.bool true)))),
    Tr.norm (nat_lit 8) (Av.one (Sv.cel (Cv.raw (Value.bool (decide ((↑(lenN (Int.natAbs z)) : Int) > (20 : Int))))))) (Av.one (Sv.cel (Cv.raw (Value.bool false)))),
    Tr.call 26 [Sv.agg [Cv.raw (Value.bool (decide (z < (0 : Int)))), Cv.ent (nat (Int.natAbs z))]] [] (Av.one (Sv.cel (Cv.raw (Value.int IntKind.i64 (Int.ofNat (nat_lit 0)))))),
    Tr.norm (nat_lit 17) (Av.one (Sv.cel (Cv.raw (Value.bool (decide ((↑n : Int) < (1 : Int))))))) (Av.one (Sv.cel (Cv.raw (Value.bool false)))),
    Tr.norm (nat_lit 20) (Av.one (Sv.cel (Cv.raw (Value.bool (decide ((↑n : Int) > (300 : Int))))))) (Av.one (Sv.cel (Cv.raw (Value.bool false)))),
    Tr.call 27 [Sv.cel (Cv.ent (nat (Int.natAbs z)))] [] (Av.one (Sv.cel (Cv.raw (Value.string d)))),
    Tr.loop (ptLoop) [nat_lit 1, nat_lit 2, nat_lit 5] [nat_lit 0] [Av.one (Sv.cel Cv.any), Av.one (Sv.cel (Cv.raw (Value.int IntKind.i64 (↑n : Int)))), Av.one (Sv.cel (Cv.ptr (nat_lit 0) (nat_lit 0))), Av.one (Sv.cel Cv.any), Av.one (Sv.cel Cv.any), Av.one (Sv.cel (Cv.raw (Value.string d))), Av.one (Sv.cel Cv.any), Av.one (Sv.cel Cv.any), Av.one (Sv.cel Cv.any), Av.one (Sv.cel Cv.any), Av.one (Sv.cel Cv.any), Av.one (Sv.cel Cv.any), Av.one (Sv.cel Cv.any), Av.one (Sv.cel Cv.any), Av.one (Sv.cel Cv.any), Av.one (Sv.cel Cv.any), Av.one (Sv.cel Cv.any), Av.one (Sv.cel Cv.any), Av.one (Sv.cel Cv.any), Av.one (Sv.cel Cv.any), Av.one (Sv.cel Cv.any), Av.one (Sv.cel Cv.any), Av.one (Sv.cel Cv.any), Av.one (Sv.cel Cv.any), Av.one (Sv.cel Cv.any), Av.one (Sv.cel Cv.any), Av.one (Sv.cel Cv.any), Av.one (Sv.cel Cv.any), Av.one (Sv.cel Cv.any), Av.one (Sv.cel Cv.any), Av.one (Sv.cel Cv.any), Av.one (Sv.cel Cv.any), Av.one (Sv.cel Cv.any), Av.one (Sv.cel Cv.any), Av.one (Sv.cel Cv.any), Av.one (Sv.cel Cv.any), Av.one (Sv.cel Cv.any), Av.one (Sv.cel Cv.any), Av.one (Sv.cel Cv.any), Av.one (Sv.cel Cv.any), Av.one (Sv.cel Cv.any), Av.one (Sv.cel Cv.any), Av.one (Sv.cel Cv.any), Av.one (Sv.cel Cv.any), Av.one (Sv.cel Cv.any), Av.one (Sv.cel Cv.any), Av.one (Sv.cel Cv.any), Av.one (Sv.cel Cv.any), Av.one (Sv.cel Cv.any), Av.one (Sv.cel Cv.any), Av.one (Sv.cel Cv.any), Av.one (Sv.cel Cv.any), Av.one (Sv.cel Cv.any), Av.one (Sv.cel Cv.any), Av.one (Sv.cel Cv.any), Av.one (Sv.cel Cv.any), Av.one (Sv.cel Cv.any), Av.one (Sv.cel Cv.any), Av.one (Sv.cel Cv.any), Av.one (Sv.cel Cv.any), Av.one (Sv.cel Cv.any), Av.one (Sv.cel Cv.any), Av.one (Sv.cel Cv.any), Av.one (Sv.cel Cv.any), Av.one (Sv.cel Cv.any), Av.one (Sv.cel Cv.any), Av.one (Sv.cel Cv.any), Av.one (Sv.cel Cv.any), Av.one (Sv.cel Cv.any), Av.one (Sv.cel Cv.any), Av.one (Sv.cel Cv.any), Av.one (Sv.cel Cv.any), Av.one (Sv.cel Cv.any), Av.one (Sv.cel Cv.any), Av.one (Sv.cel Cv.any), Av.one (Sv.cel Cv.any), Av.one (Sv.cel Cv.any), Av.one (Sv.cel Cv.any), Av.one (Sv.cel Cv.any), Av.one (Sv.cel Cv.any), Av.one (Sv.cel Cv.any), Av.one (Sv.cel Cv.any), Av.one (Sv.cel Cv.any), Av.one (Sv.cel Cv.any), Av.one (Sv.cel Cv.any), Av.one (Sv.cel Cv.any), Av.one (Sv.cel Cv.any)] [(nat_lit 0, { t := 25, cs := [Cv.raw (Value.bool (decide (z < (0 : Int)))), Cv.ent (nat (Int.natAbs z))], own := true })] (Exit.exit (nat_lit 0)) [Av.one (Sv.cel Cv.any), Av.one (Sv.cel (Cv.raw (Value.int IntKind.i64 (↑n : Int)))), Av.one (Sv.cel (Cv.ptr (nat_lit 0) (nat_lit 0))), Av.one (Sv.cel Cv.any), Av.one (Sv.cel Cv.any), Av.one (Sv.cel (Cv.raw (Value.string (zer d k)))), Av.one (Sv.cel Cv.any), Av.one (Sv.cel Cv.any), Av.one (Sv.cel Cv.any), Av.one (Sv.cel Cv.any), Av.one (Sv.cel Cv.any), Av.one (Sv.cel Cv.any), Av.one (Sv.cel Cv.any), Av.one (Sv.cel Cv.any), Av.one (Sv.cel Cv.any), Av.one (Sv.cel Cv.any), Av.one (Sv.cel Cv.any), Av.one (Sv.cel Cv.any), Av.one (Sv.cel Cv.any), Av.one (Sv.cel Cv.any), Av.one (Sv.cel Cv.any), Av.one (Sv.cel Cv.any), Av.one (Sv.cel Cv.any), Av.one (Sv.cel Cv.any), Av.one (Sv.cel Cv.any), Av.one (Sv.cel Cv.any), Av.one (Sv.cel Cv.any), Av.one (Sv.cel Cv.any), Av.one (Sv.cel Cv.any), Av.one (Sv.cel Cv.any), Av.one (Sv.cel Cv.any), Av.one (Sv.cel Cv.any), Av.one (Sv.cel Cv.any), Av.one (Sv.cel Cv.any), Av.one (Sv.cel Cv.any), Av.one (Sv.cel Cv.any), Av.one (Sv.cel Cv.any), Av.one (Sv.cel Cv.any), Av.one (Sv.cel Cv.any), Av.one (Sv.cel Cv.any), Av.one (Sv.cel Cv.any), Av.one (Sv.cel Cv.any), Av.one (Sv.cel Cv.any), Av.one (Sv.cel Cv.any), Av.one (Sv.cel Cv.any), Av.one (Sv.cel Cv.any), Av.one (Sv.cel Cv.any), Av.one (Sv.cel Cv.any), Av.one (Sv.cel Cv.any), Av.one (Sv.cel Cv.any), Av.one (Sv.cel Cv.any), Av.one (Sv.cel Cv.any), Av.one (Sv.cel Cv.any), Av.one (Sv.cel Cv.any), Av.one (Sv.cel Cv.any), Av.one (Sv.cel Cv.any), Av.one (Sv.cel Cv.any), Av.one (Sv.cel Cv.any), Av.one (Sv.cel Cv.any), Av.one (Sv.cel Cv.any), Av.one (Sv.cel Cv.any), Av.one (Sv.cel Cv.any), Av.one (Sv.cel Cv.any), Av.one (Sv.cel Cv.any), Av.one (Sv.cel Cv.any), Av.one (Sv.cel Cv.any), Av.one (Sv.cel Cv.any), Av.one (Sv.cel Cv.any), Av.one (Sv.cel Cv.any), Av.one (Sv.cel Cv.any), Av.one (Sv.cel Cv.any), Av.one (Sv.cel Cv.any), Av.one (Sv.cel Cv.any), Av.one (Sv.cel Cv.any), Av.one (Sv.cel Cv.any), Av.one (Sv.cel Cv.any), Av.one (Sv.cel Cv.any), Av.one (Sv.cel Cv.any), Av.one (Sv.cel Cv.any), Av.one (Sv.cel Cv.any), Av.one (Sv.cel Cv.any), Av.one (Sv.cel Cv.any), Av.one (Sv.cel Cv.any), Av.one (Sv.cel Cv.any), Av.one (Sv.cel Cv.any), Av.one (Sv.cel Cv.any), Av.one (Sv.cel Cv.any)] [(nat_lit 0, { t := 25, cs := [Cv.raw (Value.bool (decide (z < (0 : Int)))), Cv.ent (nat (Int.natAbs z))], own := true })] (nat_lit 60),
    Tr.prim (nat_lit 65) (Op.slice (9 : Nat) (Operand.tmp (41 : Nat)) none (some (Operand.tmp (45 : Nat))) none) (nat_lit 9) [Value.string (zer d k), Value.int IntKind.i64 (IntKind.wrap IntKind.i64 ((↑(ByteArray.size (zer d k)) : Int) - (↑n : Int)))] (Value.string (ByteArray.extract (zer d k) (0 : Nat) (k + ByteArray.size d - n))),
    Tr.prim (nat_lit 66) (Op.binOp BinOp.add (9 : Nat) (Operand.tmp (46 : Nat)) (Operand.const (Value.string { data := #[(46 : UInt8)] })) (9 : Nat)) (nat_lit 9) [Value.string (ByteArray.extract (zer d k) (0 : Nat) (k + ByteArray.size d - n)), Value.string { data := #[(46 : UInt8)] }] (Value.string (ByteArray.extract (zer d k) (0 : Nat) (k + ByteArray.size d - n) ++ { data := #[(46 : UInt8)] })),
    Tr.prim (nat_lit 72) (Op.slice (9 : Nat) (Operand.tmp (48 : Nat)) (some (Operand.tmp (52 : Nat))) none none) (nat_lit 9) [Value.string (zer d k), Value.int IntKind.i64 (IntKind.wrap IntKind.i64 ((↑(ByteArray.size (zer d k)) : Int) - (↑n : Int)))] (Value.string (ByteArray.extract (zer d k) (k + ByteArray.size d - n) (ByteArray.size (zer d k)))),
    Tr.prim (nat_lit 73) (Op.binOp BinOp.add (9 : Nat) (Operand.tmp (47 : Nat)) (Operand.tmp (53 : Nat)) (9 : Nat)) (nat_lit 9) [Value.string (ByteArray.extract (zer d k) (0 : Nat) (k + ByteArray.size d - n) ++ { data := #[(46 : UInt8)] }), Value.string (ByteArray.extract (zer d k) (k + ByteArray.size d - n) (ByteArray.size (zer d k)))] (Value.string (ByteArray.extract (zer d k) (0 : Nat) (k + ByteArray.size d - n) ++ { data := #[(46 : UInt8)] } ++ ByteArray.extract (zer d k) (k + ByteArray.size d - n) (ByteArray.size (zer d k)))),
    Tr.norm (nat_lit 76) (Av.one (Sv.cel (Cv.raw (Value.bool (decide (z < (0 : Int))))))) (Av.one (Sv.cel (Cv.raw (Value.bool false)))),
    Tr.call 28 [Sv.cel (Cv.raw (Value.string (ByteArray.extract (zer d k) (0 : Nat) (k + ByteArray.size d - n) ++ { data := #[(46 : UInt8)] } ++ ByteArray.extract (zer d k) (k + ByteArray.size d - n) (ByteArray.size (zer d k)))))] [] (Av.tup [Sv.agg [Cv.raw (Value.bool (decide (Rat.num (Rat.normalize z ((10 : Nat) ^ n) h0) < (0 : Int)))), Cv.ent (nat (Int.natAbs (Rat.num (Rat.normalize z ((10 : Nat) ^ n) h0)))), Cv.ent (nat (Rat.den (Rat.normalize z ((10 : Nat) ^ n) h0)))], Sv.cel (Cv.raw (Value.int IntKind.i64 (Int.ofNat (nat_lit 0))))]),
    Tr.call 29 [Sv.cel (Cv.raw (Value.int IntKind.i64 (↑n : Int)))] [] (Av.tup [Sv.cel (Cv.ent (nat ((10 : Nat) ^ n))), Sv.cel (Cv.raw (Value.int IntKind.i64 (Int.ofNat (nat_lit 0))))]),
    Tr.call 31 [Sv.cel (Cv.ent (nat ((10 : Nat) ^ n)))] [] (Av.one (Sv.agg [Cv.raw (Value.bool false), Cv.ent (nat ((10 : Nat) ^ n))])),
    Tr.call 30 [Sv.agg [Cv.raw (Value.bool (decide (z < (0 : Int)))), Cv.ent (nat (Int.natAbs z))], Sv.agg [Cv.raw (Value.bool false), Cv.ent (nat ((10 : Nat) ^ n))]] [] (Av.tup [Sv.agg [Cv.raw (Value.bool (decide (Rat.num (Rat.normalize z ((10 : Nat) ^ n) h0) < (0 : Int)))), Cv.ent (nat (Int.natAbs (Rat.num (Rat.normalize z ((10 : Nat) ^ n) h0)))), Cv.ent (nat (Rat.den (Rat.normalize z ((10 : Nat) ^ n) h0)))], Sv.cel (Cv.raw (Value.int IntKind.i64 (Int.ofNat (nat_lit 0))))]),
    Tr.call 32 [Sv.agg [Cv.raw (Value.bool (decide (Rat.num (Rat.normalize z ((10 : Nat) ^ n) h0) < (0 : Int)))), Cv.ent (nat (Int.natAbs (Rat.num (Rat.normalize z ((10 : Nat) ^ n) h0)))), Cv.ent (nat (Rat.den (Rat.normalize z ((10 : Nat) ^ n) h0)))], Sv.agg [Cv.raw (Value.bool (decide (Rat.num (Rat.normalize z ((10 : Nat) ^ n) h0) < (0 : Int)))), Cv.ent (nat (Int.natAbs (Rat.num (Rat.normalize z ((10 : Nat) ^ n) h0)))), Cv.ent (nat (Rat.den (Rat.normalize z ((10 : Nat) ^ n) h0)))]] [] (Av.one (Sv.cel (Cv.raw (Value.bool true))))] := ⟨
    parts_f,
    norm_bool (len20p hz),
    checkI_f (limI20 hz),
    norm_bool (decide_eq_false (show ¬ (n : Int) < 1 by omega)),
    norm_bool (decide_eq_false (show ¬ (n : Int) > 300 by omega)),
    dtext_f d hd (limI20 hz),
    pt_loop (by omega) hk1 hk2,
    prim_upto (by kernel_rfl) (by rw [w64p (by rw [zer_size]; omega) (by rw [zer_size]; omega), zer_size]; omega) (by rw [zer_size]; omega),
    cat1 hL,
    prim_from (by kernel_rfl) (by rw [w64p (by rw [zer_size]; omega) (by rw [zer_size]; omega), zer_size]; omega) (by rw [zer_size]; omega),
    cat2 hL,
    norm_bool (decide_eq_false hs),
    ptRead hz hn1 hd hk2 hL hs h0,
    ten_f (by omega),
    nat_pn,
    make1_f (limI20 hz) (ten_limP (by omega)) h0,
    sameEq rfl, trivial⟩
  exact fits_of_trace (n := 400) (k0 := 0) hT Tryz.func5 (by kernel_rfl) (by kernel_rfl) (by kernel_rfl)

set_option maxRecDepth 100000 in
theorem RatioPoints_neg {z : Int} {n k : Nat} {d : ByteArray} (hz : z.natAbs < 4294967296 ^ 20) (hn1 : 1 ≤ n) (hn2 : n ≤ 300) (hd : Dec z.natAbs d.data.toList) (hk1 : ∀ j, j < k → ((j + d.size : Nat) : Int) ≤ (n : Int)) (hk2 : ¬ ((k + d.size : Nat) : Int) ≤ (n : Int)) (hL : k + d.size ≤ 900) (h0 : 10 ^ n ≠ 0) (hs : z < 0) : FitsP 5 [im z, rawS (.int .i64 (n : Int))] [] (.one (boolS true)) := by
  have hT : AllOk Tryz.prog Glob [
    Tr.call 25 [] [] (Av.one (Sv.cel (Cv.raw (Value.bool true)))),
    Tr.norm (nat_lit 8) (Av.one (Sv.cel (Cv.raw (Value.bool (decide ((↑(lenN (Int.natAbs z)) : Int) > (20 : Int))))))) (Av.one (Sv.cel (Cv.raw (Value.bool false)))),
    Tr.call 26 [Sv.agg [Cv.raw (Value.bool (decide (z < (0 : Int)))), Cv.ent (nat (Int.natAbs z))]] [] (Av.one (Sv.cel (Cv.raw (Value.int IntKind.i64 (Int.ofNat (nat_lit 0)))))),
    Tr.norm (nat_lit 17) (Av.one (Sv.cel (Cv.raw (Value.bool (decide ((↑n : Int) < (1 : Int))))))) (Av.one (Sv.cel (Cv.raw (Value.bool false)))),
    Tr.norm (nat_lit 20) (Av.one (Sv.cel (Cv.raw (Value.bool (decide ((↑n : Int) > (300 : Int))))))) (Av.one (Sv.cel (Cv.raw (Value.bool false)))),
    Tr.call 27 [Sv.cel (Cv.ent (nat (Int.natAbs z)))] [] (Av.one (Sv.cel (Cv.raw (Value.string d)))),
    Tr.loop (ptLoop) [nat_lit 1, nat_lit 2, nat_lit 5] [nat_lit 0] [Av.one (Sv.cel Cv.any), Av.one (Sv.cel (Cv.raw (Value.int IntKind.i64 (↑n : Int)))), Av.one (Sv.cel (Cv.ptr (nat_lit 0) (nat_lit 0))), Av.one (Sv.cel Cv.any), Av.one (Sv.cel Cv.any), Av.one (Sv.cel (Cv.raw (Value.string d))), Av.one (Sv.cel Cv.any), Av.one (Sv.cel Cv.any), Av.one (Sv.cel Cv.any), Av.one (Sv.cel Cv.any), Av.one (Sv.cel Cv.any), Av.one (Sv.cel Cv.any), Av.one (Sv.cel Cv.any), Av.one (Sv.cel Cv.any), Av.one (Sv.cel Cv.any), Av.one (Sv.cel Cv.any), Av.one (Sv.cel Cv.any), Av.one (Sv.cel Cv.any), Av.one (Sv.cel Cv.any), Av.one (Sv.cel Cv.any), Av.one (Sv.cel Cv.any), Av.one (Sv.cel Cv.any), Av.one (Sv.cel Cv.any), Av.one (Sv.cel Cv.any), Av.one (Sv.cel Cv.any), Av.one (Sv.cel Cv.any), Av.one (Sv.cel Cv.any), Av.one (Sv.cel Cv.any), Av.one (Sv.cel Cv.any), Av.one (Sv.cel Cv.any), Av.one (Sv.cel Cv.any), Av.one (Sv.cel Cv.any), Av.one (Sv.cel Cv.any), Av.one (Sv.cel Cv.any), Av.one (Sv.cel Cv.any), Av.one (Sv.cel Cv.any), Av.one (Sv.cel Cv.any), Av.one (Sv.cel Cv.any), Av.one (Sv.cel Cv.any), Av.one (Sv.cel Cv.any), Av.one (Sv.cel Cv.any), Av.one (Sv.cel Cv.any), Av.one (Sv.cel Cv.any), Av.one (Sv.cel Cv.any), Av.one (Sv.cel Cv.any), Av.one (Sv.cel Cv.any), Av.one (Sv.cel Cv.any), Av.one (Sv.cel Cv.any), Av.one (Sv.cel Cv.any), Av.one (Sv.cel Cv.any), Av.one (Sv.cel Cv.any), Av.one (Sv.cel Cv.any), Av.one (Sv.cel Cv.any), Av.one (Sv.cel Cv.any), Av.one (Sv.cel Cv.any), Av.one (Sv.cel Cv.any), Av.one (Sv.cel Cv.any), Av.one (Sv.cel Cv.any), Av.one (Sv.cel Cv.any), Av.one (Sv.cel Cv.any), Av.one (Sv.cel Cv.any), Av.one (Sv.cel Cv.any), Av.one (Sv.cel Cv.any), Av.one (Sv.cel Cv.any), Av.one (Sv.cel Cv.any), Av.one (Sv.cel Cv.any), Av.one (Sv.cel Cv.any), Av.one (Sv.cel Cv.any), Av.one (Sv.cel Cv.any), Av.one (Sv.cel Cv.any), Av.one (Sv.cel Cv.any), Av.one (Sv.cel Cv.any), Av.one (Sv.cel Cv.any), Av.one (Sv.cel Cv.any), Av.one (Sv.cel Cv.any), Av.one (Sv.cel Cv.any), Av.one (Sv.cel Cv.any), Av.one (Sv.cel Cv.any), Av.one (Sv.cel Cv.any), Av.one (Sv.cel Cv.any), Av.one (Sv.cel Cv.any), Av.one (Sv.cel Cv.any), Av.one (Sv.cel Cv.any), Av.one (Sv.cel Cv.any), Av.one (Sv.cel Cv.any), Av.one (Sv.cel Cv.any), Av.one (Sv.cel Cv.any)] [(nat_lit 0, { t := 25, cs := [Cv.raw (Value.bool (decide (z < (0 : Int)))), Cv.ent (nat (Int.natAbs z))], own := true })] (Exit.exit (nat_lit 0)) [Av.one (Sv.cel Cv.any), Av.one (Sv.cel (Cv.raw (Value.int IntKind.i64 (↑n : Int)))), Av.one (Sv.cel (Cv.ptr (nat_lit 0) (nat_lit 0))), Av.one (Sv.cel Cv.any), Av.one (Sv.cel Cv.any), Av.one (Sv.cel (Cv.raw (Value.string (zer d k)))), Av.one (Sv.cel Cv.any), Av.one (Sv.cel Cv.any), Av.one (Sv.cel Cv.any), Av.one (Sv.cel Cv.any), Av.one (Sv.cel Cv.any), Av.one (Sv.cel Cv.any), Av.one (Sv.cel Cv.any), Av.one (Sv.cel Cv.any), Av.one (Sv.cel Cv.any), Av.one (Sv.cel Cv.any), Av.one (Sv.cel Cv.any), Av.one (Sv.cel Cv.any), Av.one (Sv.cel Cv.any), Av.one (Sv.cel Cv.any), Av.one (Sv.cel Cv.any), Av.one (Sv.cel Cv.any), Av.one (Sv.cel Cv.any), Av.one (Sv.cel Cv.any), Av.one (Sv.cel Cv.any), Av.one (Sv.cel Cv.any), Av.one (Sv.cel Cv.any), Av.one (Sv.cel Cv.any), Av.one (Sv.cel Cv.any), Av.one (Sv.cel Cv.any), Av.one (Sv.cel Cv.any), Av.one (Sv.cel Cv.any), Av.one (Sv.cel Cv.any), Av.one (Sv.cel Cv.any), Av.one (Sv.cel Cv.any), Av.one (Sv.cel Cv.any), Av.one (Sv.cel Cv.any), Av.one (Sv.cel Cv.any), Av.one (Sv.cel Cv.any), Av.one (Sv.cel Cv.any), Av.one (Sv.cel Cv.any), Av.one (Sv.cel Cv.any), Av.one (Sv.cel Cv.any), Av.one (Sv.cel Cv.any), Av.one (Sv.cel Cv.any), Av.one (Sv.cel Cv.any), Av.one (Sv.cel Cv.any), Av.one (Sv.cel Cv.any), Av.one (Sv.cel Cv.any), Av.one (Sv.cel Cv.any), Av.one (Sv.cel Cv.any), Av.one (Sv.cel Cv.any), Av.one (Sv.cel Cv.any), Av.one (Sv.cel Cv.any), Av.one (Sv.cel Cv.any), Av.one (Sv.cel Cv.any), Av.one (Sv.cel Cv.any), Av.one (Sv.cel Cv.any), Av.one (Sv.cel Cv.any), Av.one (Sv.cel Cv.any), Av.one (Sv.cel Cv.any), Av.one (Sv.cel Cv.any), Av.one (Sv.cel Cv.any), Av.one (Sv.cel Cv.any), Av.one (Sv.cel Cv.any), Av.one (Sv.cel Cv.any), Av.one (Sv.cel Cv.any), Av.one (Sv.cel Cv.any), Av.one (Sv.cel Cv.any), Av.one (Sv.cel Cv.any), Av.one (Sv.cel Cv.any), Av.one (Sv.cel Cv.any), Av.one (Sv.cel Cv.any), Av.one (Sv.cel Cv.any), Av.one (Sv.cel Cv.any), Av.one (Sv.cel Cv.any), Av.one (Sv.cel Cv.any), Av.one (Sv.cel Cv.any), Av.one (Sv.cel Cv.any), Av.one (Sv.cel Cv.any), Av.one (Sv.cel Cv.any), Av.one (Sv.cel Cv.any), Av.one (Sv.cel Cv.any), Av.one (Sv.cel Cv.any), Av.one (Sv.cel Cv.any), Av.one (Sv.cel Cv.any), Av.one (Sv.cel Cv.any)] [(nat_lit 0, { t := 25, cs := [Cv.raw (Value.bool (decide (z < (0 : Int)))), Cv.ent (nat (Int.natAbs z))], own := true })] (nat_lit 60),
    Tr.prim (nat_lit 65) (Op.slice (9 : Nat) (Operand.tmp (41 : Nat)) none (some (Operand.tmp (45 : Nat))) none) (nat_lit 9) [Value.string (zer d k), Value.int IntKind.i64 (IntKind.wrap IntKind.i64 ((↑(ByteArray.size (zer d k)) : Int) - (↑n : Int)))] (Value.string (ByteArray.extract (zer d k) (0 : Nat) (k + ByteArray.size d - n))),
    Tr.prim (nat_lit 66) (Op.binOp BinOp.add (9 : Nat) (Operand.tmp (46 : Nat)) (Operand.const (Value.string { data := #[(46 : UInt8)] })) (9 : Nat)) (nat_lit 9) [Value.string (ByteArray.extract (zer d k) (0 : Nat) (k + ByteArray.size d - n)), Value.string { data := #[(46 : UInt8)] }] (Value.string (ByteArray.extract (zer d k) (0 : Nat) (k + ByteArray.size d - n) ++ { data := #[(46 : UInt8)] })),
    Tr.prim (nat_lit 72) (Op.slice (9 : Nat) (Operand.tmp (48 : Nat)) (some (Operand.tmp (52 : Nat))) none none) (nat_lit 9) [Value.string (zer d k), Value.int IntKind.i64 (IntKind.wrap IntKind.i64 ((↑(ByteArray.size (zer d k)) : Int) - (↑n : Int)))] (Value.string (ByteArray.extract (zer d k) (k + ByteArray.size d - n) (ByteArray.size (zer d k)))),
    Tr.prim (nat_lit 73) (Op.binOp BinOp.add (9 : Nat) (Operand.tmp (47 : Nat)) (Operand.tmp (53 : Nat)) (9 : Nat)) (nat_lit 9) [Value.string (ByteArray.extract (zer d k) (0 : Nat) (k + ByteArray.size d - n) ++ { data := #[(46 : UInt8)] }), Value.string (ByteArray.extract (zer d k) (k + ByteArray.size d - n) (ByteArray.size (zer d k)))] (Value.string (ByteArray.extract (zer d k) (0 : Nat) (k + ByteArray.size d - n) ++ { data := #[(46 : UInt8)] } ++ ByteArray.extract (zer d k) (k + ByteArray.size d - n) (ByteArray.size (zer d k)))),
    Tr.norm (nat_lit 76) (Av.one (Sv.cel (Cv.raw (Value.bool (decide (z < (0 : Int))))))) (Av.one (Sv.cel (Cv.raw (Value.bool true)))),
    Tr.prim (nat_lit 78) (Op.binOp BinOp.add (9 : Nat) (Operand.const (Value.string { data := #[(45 : UInt8)] })) (Operand.tmp (57 : Nat)) (9 : Nat)) (nat_lit 9) [Value.string { data := #[(45 : UInt8)] }, Value.string (ByteArray.extract (zer d k) (0 : Nat) (k + ByteArray.size d - n) ++ { data := #[(46 : UInt8)] } ++ ByteArray.extract (zer d k) (k + ByteArray.size d - n) (ByteArray.size (zer d k)))] (Value.string ({ data := #[(45 : UInt8)] } ++ (ByteArray.extract (zer d k) (0 : Nat) (k + ByteArray.size d - n) ++ { data := #[(46 : UInt8)] } ++ ByteArray.extract (zer d k) (k + ByteArray.size d - n) (ByteArray.size (zer d k))))),
    Tr.call 28 [Sv.cel (Cv.raw (Value.string ({ data := #[(45 : UInt8)] } ++ (ByteArray.extract (zer d k) (0 : Nat) (k + ByteArray.size d - n) ++ { data := #[(46 : UInt8)] } ++ ByteArray.extract (zer d k) (k + ByteArray.size d - n) (ByteArray.size (zer d k))))))] [] (Av.tup [Sv.agg [Cv.raw (Value.bool (decide (Rat.num (Rat.normalize z ((10 : Nat) ^ n) h0) < (0 : Int)))), Cv.ent (nat (Int.natAbs (Rat.num (Rat.normalize z ((10 : Nat) ^ n) h0)))), Cv.ent (nat (Rat.den (Rat.normalize z ((10 : Nat) ^ n) h0)))], Sv.cel (Cv.raw (Value.int IntKind.i64 (Int.ofNat (nat_lit 0))))]),
    Tr.call 29 [Sv.cel (Cv.raw (Value.int IntKind.i64 (↑n : Int)))] [] (Av.tup [Sv.cel (Cv.ent (nat ((10 : Nat) ^ n))), Sv.cel (Cv.raw (Value.int IntKind.i64 (Int.ofNat (nat_lit 0))))]),
    Tr.call 31 [Sv.cel (Cv.ent (nat ((10 : Nat) ^ n)))] [] (Av.one (Sv.agg [Cv.raw (Value.bool false), Cv.ent (nat ((10 : Nat) ^ n))])),
    Tr.call 30 [Sv.agg [Cv.raw (Value.bool (decide (z < (0 : Int)))), Cv.ent (nat (Int.natAbs z))], Sv.agg [Cv.raw (Value.bool false), Cv.ent (nat ((10 : Nat) ^ n))]] [] (Av.tup [Sv.agg [Cv.raw (Value.bool (decide (Rat.num (Rat.normalize z ((10 : Nat) ^ n) h0) < (0 : Int)))), Cv.ent (nat (Int.natAbs (Rat.num (Rat.normalize z ((10 : Nat) ^ n) h0)))), Cv.ent (nat (Rat.den (Rat.normalize z ((10 : Nat) ^ n) h0)))], Sv.cel (Cv.raw (Value.int IntKind.i64 (Int.ofNat (nat_lit 0))))]),
    Tr.call 32 [Sv.agg [Cv.raw (Value.bool (decide (Rat.num (Rat.normalize z ((10 : Nat) ^ n) h0) < (0 : Int)))), Cv.ent (nat (Int.natAbs (Rat.num (Rat.normalize z ((10 : Nat) ^ n) h0)))), Cv.ent (nat (Rat.den (Rat.normalize z ((10 : Nat) ^ n) h0)))], Sv.agg [Cv.raw (Value.bool (decide (Rat.num (Rat.normalize z ((10 : Nat) ^ n) h0) < (0 : Int)))), Cv.ent (nat (Int.natAbs (Rat.num (Rat.normalize z ((10 : Nat) ^ n) h0)))), Cv.ent (nat (Rat.den (Rat.normalize z ((10 : Nat) ^ n) h0)))]] [] (Av.one (Sv.cel (Cv.raw (Value.bool true))))] := ⟨
    parts_f,
    norm_bool (len20p hz),
    checkI_f (limI20 hz),
    norm_bool (decide_eq_false (show ¬ (n : Int) < 1 by omega)),
    norm_bool (decide_eq_false (show ¬ (n : Int) > 300 by omega)),
    dtext_f d hd (limI20 hz),
    pt_loop (by omega) hk1 hk2,
    prim_upto (by kernel_rfl) (by rw [w64p (by rw [zer_size]; omega) (by rw [zer_size]; omega), zer_size]; omega) (by rw [zer_size]; omega),
    cat1 hL,
    prim_from (by kernel_rfl) (by rw [w64p (by rw [zer_size]; omega) (by rw [zer_size]; omega), zer_size]; omega) (by rw [zer_size]; omega),
    cat2 hL,
    norm_bool (decide_eq_true hs),
    cat3 hL,
    ptReadN hz hn1 hd hk2 hL hs h0,
    ten_f (by omega),
    nat_pn,
    make1_f (limI20 hz) (ten_limP (by omega)) h0,
    sameEq rfl, trivial⟩
  exact fits_of_trace (n := 400) (k0 := 0) hT Tryz.func5 (by kernel_rfl) (by kernel_rfl) (by kernel_rfl)

set_option maxRecDepth 100000 in
theorem RatioPoints_lo {z n : Int} (hz : z.natAbs < 4294967296 ^ 20) (h : n < 1) : FitsP 5 [im z, rawS (.int .i64 n)] [] (.one (boolS true)) := by
  have hT : AllOk Tryz.prog Glob [
    Tr.call 25 [] [] (Av.one (Sv.cel (Cv.raw (Value.bool true)))),
    Tr.norm (nat_lit 8) (Av.one (Sv.cel (Cv.raw (Value.bool (decide ((↑(lenN (Int.natAbs z)) : Int) > (20 : Int))))))) (Av.one (Sv.cel (Cv.raw (Value.bool false)))),
    Tr.call 26 [Sv.agg [Cv.raw (Value.bool (decide (z < (0 : Int)))), Cv.ent (nat (Int.natAbs z))]] [] (Av.one (Sv.cel (Cv.raw (Value.int IntKind.i64 (Int.ofNat (nat_lit 0)))))),
    Tr.norm (nat_lit 17) (Av.one (Sv.cel (Cv.raw (Value.bool (decide (n < (1 : Int))))))) (Av.one (Sv.cel (Cv.raw (Value.bool true))))] := ⟨
    parts_f,
    norm_bool (len20p hz),
    checkI_f (limI20 hz),
    norm_bool (decide_eq_true h), trivial⟩
  exact fits_of_trace (n := 300) (k0 := 0) hT Tryz.func5 (by kernel_rfl) (by kernel_rfl) (by kernel_rfl)

set_option maxRecDepth 100000 in
theorem RatioPoints_hi {z n : Int} (hz : z.natAbs < 4294967296 ^ 20) (h0 : ¬ n < 1) (h : n > 300) : FitsP 5 [im z, rawS (.int .i64 n)] [] (.one (boolS true)) := by
  have hT : AllOk Tryz.prog Glob [
    Tr.call 25 [] [] (Av.one (Sv.cel (Cv.raw (Value.bool true)))),
    Tr.norm (nat_lit 8) (Av.one (Sv.cel (Cv.raw (Value.bool (decide ((↑(lenN (Int.natAbs z)) : Int) > (20 : Int))))))) (Av.one (Sv.cel (Cv.raw (Value.bool false)))),
    Tr.call 26 [Sv.agg [Cv.raw (Value.bool (decide (z < (0 : Int)))), Cv.ent (nat (Int.natAbs z))]] [] (Av.one (Sv.cel (Cv.raw (Value.int IntKind.i64 (Int.ofNat (nat_lit 0)))))),
    Tr.norm (nat_lit 17) (Av.one (Sv.cel (Cv.raw (Value.bool (decide (n < (1 : Int))))))) (Av.one (Sv.cel (Cv.raw (Value.bool false)))),
    Tr.norm (nat_lit 20) (Av.one (Sv.cel (Cv.raw (Value.bool (decide (n > (300 : Int))))))) (Av.one (Sv.cel (Cv.raw (Value.bool true))))] := ⟨
    parts_f,
    norm_bool (len20p hz),
    checkI_f (limI20 hz),
    norm_bool (decide_eq_false h0),
    norm_bool (decide_eq_true h), trivial⟩
  exact fits_of_trace (n := 300) (k0 := 0) hT Tryz.func5 (by kernel_rfl) (by kernel_rfl) (by kernel_rfl)

set_option maxRecDepth 100000 in
theorem RatioPoints_un1 {m : Bool} {xs : List Nat} {n : Int} (h : 20 < xs.length) : FitsP 5 [aiS m xs, rawS (.int .i64 n)] [] (.one (boolS true)) := by
  have hT : AllOk Tryz.prog Glob [
    Tr.call 25 [] [] (Av.one (Sv.cel (Cv.raw (Value.bool true)))),
    Tr.norm (nat_lit 8) (Av.one (Sv.cel (Cv.raw (Value.bool (decide ((↑(List.length xs) : Int) > (20 : Int))))))) (Av.one (Sv.cel (Cv.raw (Value.bool true))))] := ⟨
    parts_f,
    norm_bool (gt_true h), trivial⟩
  exact fits_of_trace (n := 300) (k0 := 0) hT Tryz.func5 (by kernel_rfl) (by kernel_rfl) (by kernel_rfl)

set_option maxRecDepth 100000 in
theorem RatioPoints_un2 {m : Bool} {xs : List Nat} {n c : Int} (hx : xs.length ≤ 20) (hc : checkI m xs = c) (h : c ≠ 0) : FitsP 5 [aiS m xs, rawS (.int .i64 n)] [] (.one (boolS true)) := by
  have hT : AllOk Tryz.prog Glob [
    Tr.call 25 [] [] (Av.one (Sv.cel (Cv.raw (Value.bool true)))),
    Tr.norm (nat_lit 8) (Av.one (Sv.cel (Cv.raw (Value.bool (decide ((↑(List.length xs) : Int) > (20 : Int))))))) (Av.one (Sv.cel (Cv.raw (Value.bool false)))),
    Tr.call 26 [Sv.agg [Cv.raw (Value.bool m), Cv.ent (argE xs)]] [] (Av.one (Sv.cel (Cv.raw (Value.int IntKind.i64 c)))),
    Tr.norm (nat_lit 13) (Av.one (Sv.cel (Cv.raw (Value.bool (c != (0 : Int)))))) (Av.one (Sv.cel (Cv.raw (Value.bool true))))] := ⟨
    parts_f,
    norm_bool (gt_false hx),
    checkA_is (by omega) hc,
    norm_bool (ne_true h), trivial⟩
  exact fits_of_trace (n := 300) (k0 := 0) hT Tryz.func5 (by kernel_rfl) (by kernel_rfl) (by kernel_rfl)

theorem RatioPoints_fit {z n : Int} (hz : z.natAbs < 4294967296 ^ 20) : FitsP 5 [im z, rawS (.int .i64 n)] [] (.one (boolS true)) := by
  by_cases h1 : n < 1
  · exact RatioPoints_lo hz h1
  by_cases h2 : n > 300
  · exact RatioPoints_hi hz h1 h2
  obtain ⟨m, rfl⟩ : ∃ m : Nat, n = m := ⟨n.toNat, by omega⟩
  have hd : Dec z.natAbs (⟨(Lib.decDigits z.natAbs).toArray⟩ : ByteArray).data.toList := dec_decDigits _
  have hl := hd.len_le (k := 200) (Nat.lt_of_lt_of_le hz (by decide +kernel)) (by omega)
  rw [size_list] at hl
  generalize (⟨(Lib.decDigits z.natAbs).toArray⟩ : ByteArray) = d at *
  have h0 : 10 ^ m ≠ 0 := Nat.ne_of_gt (Nat.pow_pos (by omega))
  by_cases hs : z < 0
  · exact RatioPoints_neg (k := m + 1 - d.size) hz (by omega) (by omega) hd (fun j hj => by omega) (by omega) (by omega) h0 hs
  · exact RatioPoints_pos (k := m + 1 - d.size) hz (by omega) (by omega) hd (fun j hj => by omega) (by omega) (by omega) h0 hs
end Go.Proofs.YtphpaejgcahgbaaGreatDoor
