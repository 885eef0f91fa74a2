/- Ratios. -/
import Derived.Test.YtlgfjgkcgimdoaaDoorFitsW
namespace Go.Proofs.YtlgfjgkcgimdoaaDoor
open Go Go.RowKit Go.Shelf AM

theorem Norm.of_eq {a b : Av} (h : a = b) : Norm a b := by subst h; exact fun _ _ _ h => h
theorem Fits.res {P : Program} {G : World → Prop} {f : FuncId} {args : List Sv} {mem : List (Nat × VarSt)} {r r' : Av} (h : Fits P G f args mem r) (hn : Norm r r') : Fits P G f args mem r' :=
  ⟨h.1, fun β W w vals h1 h2 h3 h4 h5 h6 => (h.2 β W w vals h1 h2 h3 h4 h5 h6).mono fun _ _ ⟨v, he, hr, hb⟩ => ⟨v, he, hn _ _ _ hr, hb⟩⟩
theorem mix : Tryd.prog.follows .mixedOrders = true := by kernel_rfl
def bodyOf (f : Func) : Code := f.body.getD .skip
theorem fits_of_trace {f : FuncId} {fn : Func} {n k0 : Nat} {args : List Sv} {mem : List (Nat × VarSt)} {res : Av} {T : List Tr} (hT : AllOk Tryd.prog Glob T) (hf : Tryd.prog.funcs[f]? = some fn) (hn : (fn.name == "runtime.NumGoroutine") = false) (hb : fn.body = some (bodyOf fn))
    (h : runFn Tryd.prog n fn (bodyOf fn) args mem k0 T = some (res, T.reverse)) : FitsP f args mem res := fits_of_run Glob.below mix hf hn hb h hT.back

theorem imNat (d : Nat) : im (d : Int) = .agg [.raw (.bool false), .ent (nat d)] := by
  have h : ¬ (d : Int) < 0 := by omega
  simp [im, h]
/-- A ratio. -/
def rq (q : Rat) : Sv := .agg [.raw (.bool (decide (q.num < 0))), .ent (nat q.num.natAbs), .ent (nat q.den)]
/-- What stands above and below, lowest or not. -/
def rz (z : Int) (d : Nat) : Sv := .agg [.raw (.bool (decide (z < 0))), .ent (nat z.natAbs), .ent (nat d)]

/-- Nothing, without digits, is nothing. -/
theorem norm_nil {β : Nat → Option Nat} {W : World} {v : Value} (h : RelC β W v (.raw (.slice none 0 0))) : RelC β W v (.ent (nat 0)) := by
  rw [show v = .slice none 0 0 from h]; exact Nm.nil W
theorem norm_zero : Norm (.one (.agg [.raw (.bool false), .raw (.slice none 0 0), .ent (nat 1)])) (.one (rz 0 1)) := fun β W v h => by
  obtain ⟨vs, rfl, hh⟩ := h
  match vs, hh with
  | [a, b, c], ⟨h1, h2, h3, _⟩ => exact ⟨[a, b, c], rfl, h1, norm_nil h2, h3, trivial⟩
theorem norm_im0 : Norm (.one (.agg [.raw (.bool false), .raw (.slice none 0 0)])) (.one (im 0)) := fun β W v h => by
  obtain ⟨vs, rfl, hh⟩ := h
  match vs, hh with
  | [a, b], ⟨h1, h2, _⟩ => exact ⟨[a, b], rfl, h1, norm_nil h2, trivial⟩

end Go.Proofs.YtlgfjgkcgimdoaaDoor

/- Ratios: what is reckoned of them. -/
namespace Go.Proofs.YtlgfjgkcgimdoaaDoor
open Go Go.RowKit Go.Shelf AM

theorem gcd_pos {z : Int} {d : Nat} (h : 0 < d) : 0 < Nat.gcd z.natAbs d := Nat.gcd_pos_of_pos_right _ h
theorem gcd_ne {z : Int} {d : Nat} (h : 0 < d) : ((Nat.gcd z.natAbs d : Nat) : Int) ≠ 0 := by have := gcd_pos (z := z) h; omega
theorem gcd_lim {z : Int} {d : Nat} (h : 0 < d) (hl : d < Lim) : LimI ((Nat.gcd z.natAbs d : Nat) : Int) := by
  unfold LimI
  rw [Int.natAbs_natCast]
  exact Nat.lt_of_le_of_lt (Nat.le_of_dvd h (Nat.gcd_dvd_right _ _)) hl
theorem sign_lit {z k : Int} (h : sign3 z = k) : FitsP 23 [im z] [] (.one (intS k)) := by subst h; exact sign_f
theorem sign3_pos {z : Int} (h : 0 < z) : sign3 z = 1 := by unfold sign3; rw [if_neg (by omega), if_neg (by omega)]
theorem sign3_neg {z : Int} (h : z < 0) : sign3 z = -1 := by unfold sign3; rw [if_pos h]
theorem sign3_zero : sign3 0 = 0 := rfl

theorem rq_lit {q : Rat} {z : Int} {d : Nat} (h1 : q.num = z) (h2 : q.den = d) : rq q = rz z d := by subst h1; subst h2; rfl
theorem rz_norm1 {z : Int} {d : Nat} (h0 : d ≠ 0) (hg : Nat.gcd z.natAbs d = 1) : rz z d = rq (Rat.normalize z d h0) := by
  rw [rq_lit (z := z) (d := d)]
  · rw [Rat.normalize_eq]; simp [hg]
  · rw [Rat.normalize_eq]; simp [hg]
theorem rz_norm2 {z : Int} {d : Nat} (h0 : d ≠ 0) : rz (z / ((Nat.gcd z.natAbs d : Nat) : Int)) (d / Nat.gcd z.natAbs d) = rq (Rat.normalize z d h0) := by
  rw [rq_lit] <;> rw [Rat.normalize_eq]

/-- A ratio of no more digits than that. -/
def BQ (n : Nat) (q : Rat) : Prop := q.num.natAbs < 4294967296 ^ n ∧ q.den < 4294967296 ^ n
theorem BQ.mono {m n : Nat} {q : Rat} (h : BQ m q) (hm : m ≤ n) : BQ n q :=
  ⟨Nat.lt_of_lt_of_le h.1 (Nat.pow_le_pow_right (by omega) hm), Nat.lt_of_lt_of_le h.2 (Nat.pow_le_pow_right (by omega) hm)⟩
theorem BQ.num {n : Nat} {q : Rat} (h : BQ n q) (hn : n ≤ 512) : LimI q.num := lim_of h.1 hn
theorem BQ.den {n : Nat} {q : Rat} (h : BQ n q) (hn : n ≤ 512) : q.den < Lim := lim_of h.2 hn
theorem norm_BQ {z : Int} {d n : Nat} (h0 : d ≠ 0) (h1 : z.natAbs < 4294967296 ^ n) (h2 : d < 4294967296 ^ n) : BQ n (Rat.normalize z d h0) := by
  rw [Rat.normalize_eq]
  exact ⟨Nat.lt_of_le_of_lt (Int.natAbs_ediv_le_natAbs _ _) h1, Nat.lt_of_le_of_lt (Nat.div_le_self _ _) h2⟩
theorem mul_abs {a : Int} {b m n : Nat} (h1 : a.natAbs < 4294967296 ^ m) (h2 : b < 4294967296 ^ n) : (a * (b : Int)).natAbs < 4294967296 ^ (m + n) := by
  rw [Int.natAbs_mul, Int.natAbs_natCast]; exact mul_pow_lt h1 h2
theorem mul_abs2 {a b : Int} {m n : Nat} (h1 : a.natAbs < 4294967296 ^ m) (h2 : b.natAbs < 4294967296 ^ n) : (a * b).natAbs < 4294967296 ^ (m + n) := by
  rw [Int.natAbs_mul]; exact mul_pow_lt h1 h2
theorem add_abs {a b : Int} {n : Nat} (h1 : a.natAbs < 4294967296 ^ n) (h2 : b.natAbs < 4294967296 ^ n) : (a + b).natAbs < 4294967296 ^ (n + 1) :=
  Nat.lt_of_le_of_lt (Int.natAbs_add_le a b) (add_pow_lt (by omega) h1 h2)
theorem sub_abs {a b : Int} {n : Nat} (h1 : a.natAbs < 4294967296 ^ n) (h2 : b.natAbs < 4294967296 ^ n) : (a - b).natAbs < 4294967296 ^ (n + 1) := by
  rw [Int.sub_eq_add_neg]; exact add_abs h1 (by rw [Int.natAbs_neg]; exact h2)
section
variable {p q : Rat} {m n : Nat} (hp : BQ m p) (hq : BQ n q)
include hp hq
theorem cross1 : (p.num * (q.den : Int)).natAbs < 4294967296 ^ (m + n) := mul_abs hp.1 hq.2
theorem cross2 : (q.num * (p.den : Int)).natAbs < 4294967296 ^ (m + n) := by rw [Nat.add_comm]; exact mul_abs hq.1 hp.2
theorem dens : p.den * q.den < 4294967296 ^ (m + n) := mul_pow_lt hp.2 hq.2
theorem BQ.add : BQ (m + n + 1) (p + q) := by
  rw [Rat.add_def]
  exact norm_BQ _ (add_abs (cross1 hp hq) (cross2 hp hq)) (Nat.lt_of_lt_of_le (dens hp hq) (Nat.pow_le_pow_right (by omega) (by omega)))
theorem BQ.sub : BQ (m + n + 1) (p - q) := by
  rw [Rat.sub_def]
  exact norm_BQ _ (sub_abs (cross1 hp hq) (cross2 hp hq)) (Nat.lt_of_lt_of_le (dens hp hq) (Nat.pow_le_pow_right (by omega) (by omega)))
theorem BQ.mul : BQ (m + n) (p * q) := by
  rw [Rat.mul_def]
  exact norm_BQ _ (mul_abs2 hp.1 hq.1) (dens hp hq)
end
theorem den_pos (q : Rat) : 0 < q.den := Nat.pos_of_ne_zero q.den_nz
theorem dens_ne (p q : Rat) : p.den * q.den ≠ 0 := Nat.mul_ne_zero p.den_nz q.den_nz
/-- The order of ratios. -/
def ordQ (p q : Rat) : Int := if p < q then -1 else if p = q then 0 else 1
theorem ordQ_cross (p q : Rat) : ordI (p.num * (q.den : Int)) (q.num * (p.den : Int)) = ordQ p q := by
  unfold ordI ordQ
  by_cases h : p < q
  · rw [if_pos h, if_pos (Rat.lt_iff _ _ |>.1 h)]
  · rw [if_neg h, if_neg (fun h' => h (Rat.lt_iff _ _ |>.2 h'))]
    by_cases e : p = q
    · subst e; simp
    · have : p.num * (q.den : Int) ≠ q.num * (p.den : Int) := fun h' => e (by
        rw [← Rat.mkRat_self p, ← Rat.mkRat_self q]; exact (Rat.mkRat_eq_iff p.den_nz q.den_nz).2 h')
      have h2 : ¬ p.num * (q.den : Int) < q.num * (p.den : Int) := fun h' => h (Rat.lt_iff _ _ |>.2 h')
      rw [if_neg e, if_pos (by omega)]
theorem sign3_ord (z : Int) : sign3 z = ordI z 0 := by
  unfold sign3 ordI
  split <;> (try split) <;> (try split) <;> omega
theorem sign3_num (q : Rat) : sign3 q.num = ordQ q 0 := by
  rw [sign3_ord, ← ordQ_cross q 0]
  congr 1
  · simp
  · simp
theorem inI_lim {n : Int} (h : inI64 n) : LimI n := lim_of (n := 2) (by rw [pow2]; have h1 := h.1; have h2 := h.2; omega) (by omega)
theorem inI_limN {d : Nat} (h : inI64 (d : Int)) : d < Lim := by have := inI_lim h; unfold LimI at this; simpa using this
/-- A number of a told sign. -/
def pn (d : Nat) : Sv := .agg [.raw (.bool false), .ent (nat d)]
def mn (d : Nat) : Sv := .agg [.raw (.bool true), .ent (nat d)]
theorem im_pn (d : Nat) : im (d : Int) = pn d := imNat d
theorem im_mn {d : Nat} (h : 0 < d) : im (-(d : Int)) = mn d := by
  have h1 : -(d : Int) < 0 := by omega
  simp [im, mn, h]
theorem im_neg {z : Int} (h : z < 0) : im z = mn z.natAbs := by simp [im, mn, h]
theorem im_pos {z : Int} (h : 0 ≤ z) : im z = pn z.natAbs := by
  have h1 : ¬ z < 0 := by omega
  simp [im, pn, h1]
theorem signQ_lit {q : Rat} {k : Int} (h : ordQ q 0 = k) : FitsP 23 [im q.num] [] (.one (intS k)) := by subst h; exact sign_lit (sign3_num q)
theorem divInt_norm {z : Int} {d : Nat} (hd : d ≠ 0) : Rat.divInt z (d : Int) = Rat.normalize z d hd := by rw [Rat.normalize_eq_mkRat]; rfl
theorem ofI_pn {d : Nat} (h : inI64 (d : Int)) : FitsP 16 [intS (d : Int)] [] (.one (pn d)) := by rw [← im_pn]; exact ofI_f h
theorem concat1 {s : ByteArray} (h : s.size ≤ 5121) : s.size + (⟨#[47]⟩ : ByteArray).size ≤ 9223372036854775807 := by
  have : (⟨#[47]⟩ : ByteArray).size = 1 := rfl
  omega
theorem concat2 {s t : ByteArray} (h : s.size ≤ 5121) (k : t.size ≤ 5120) : (s ++ ⟨#[47]⟩).size + t.size ≤ 9223372036854775807 := by
  have : (⟨#[47]⟩ : ByteArray).size = 1 := rfl
  rw [ByteArray.size_append]
  omega
theorem norm_bool {b c : Bool} (h : b = c) : Norm (.one (.cel (.raw (.bool b)))) (.one (.cel (.raw (.bool c)))) := Norm.of_eq (by rw [h])
theorem prim_concat {P : Program} {t yt ty : TypeId} {x y : Operand} {a b : ByteArray} (h : a.size + b.size ≤ 9223372036854775807) : PrimOk P (.binOp .add t x y yt) ty [.string a, .string b] (.string (a ++ b)) := by
  intro ρ w he
  simp only [Op.operands, List.map_cons, List.map_nil, List.cons.injEq, and_true] at he
  obtain ⟨h1, h2⟩ := he
  unfold execOp
  dsimp only
  rw [h1, h2]
  simp [eqGuard, binOp, run_string_add_sum w a b h]
theorem dec_size {n : Nat} {l : List UInt8} (h : Dec n l) (hn : n < Lim) : l.length ≤ 5120 := by
  rcases Nat.lt_or_ge 5120 l.length with a | a
  · exfalso
    exact Nat.lt_irrefl _ (Nat.lt_of_lt_of_le hn (Nat.le_trans lim_ten (Nat.le_trans (Nat.pow_le_pow_right (by omega) (show p5120 ≤ l.length - 1 by unfold p5120; omega)) (h.ge (by omega)))))
  · exact a
theorem decI_size {z : Int} {s : ByteArray} (h : DecI z s.data.toList) (hn : LimI z) : s.size ≤ 5121 := by
  obtain ⟨d, hd, e⟩ := h
  have h1 := dec_size hd hn
  rw [← size_list, e]
  split
  · simp; omega
  · omega
theorem decS_size {n : Nat} {s : ByteArray} (h : Dec n s.data.toList) (hn : n < Lim) : s.size ≤ 5120 := by
  rw [← size_list]; exact dec_size h hn
end Go.Proofs.YtlgfjgkcgimdoaaDoor
