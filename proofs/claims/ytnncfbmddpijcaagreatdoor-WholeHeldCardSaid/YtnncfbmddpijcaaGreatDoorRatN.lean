
/- Ratios out of their texts: what stands ahead of a sign, and behind it. -/
import Derived.Test.YtnncfbmddpijcaaGreatDoorRatF
import Derived.Test.YtnncfbmddpijcaaGreatDoorShelf
import Derived.Lib.IndexLaws
import Derived.Lib.IndexBytes
namespace Go.Proofs.YtnncfbmddpijcaaGreatDoor
open Go Go.RowKit Go.Shelf AM

theorem indexByte_not {l : List UInt8} {c : UInt8} (h : c ∉ l) : Lib.indexByte l c = -1 := by
  rcases Int.lt_or_le (Lib.indexByte l c) 0 with h1 | h1
  · have := Lib.indexByte_ge l c; omega
  · obtain ⟨o, ho⟩ := Int.eq_ofNat_of_zero_le h1
    exact absurd (List.mem_of_getElem? (Lib.indexByte_some ho).1) h
theorem indexByte_at : ∀ {a b : List UInt8} {c : UInt8}, c ∉ a → Lib.indexByte (a ++ c :: b) c = a.length := by
  intro a b c h
  rcases Int.lt_or_le (Lib.indexByte (a ++ c :: b) c) 0 with h1 | h1
  · have h2 : Lib.indexByte (a ++ c :: b) c = -1 := by have := Lib.indexByte_ge (a ++ c :: b) c; omega
    exact absurd (show (a ++ c :: b)[a.length]? = some c by simp) (Lib.indexByte_none h2 a.length)
  · obtain ⟨o, ho⟩ := Int.eq_ofNat_of_zero_le h1
    obtain ⟨g1, g2⟩ := Lib.indexByte_some ho
    rw [ho]
    rcases Nat.lt_trichotomy o a.length with h3 | h3 | h3
    · rw [List.getElem?_append_left h3] at g1
      exact absurd (List.mem_of_getElem? g1) h
    · rw [h3]
    · exact absurd (show (a ++ c :: b)[a.length]? = some c by simp) (g2 a.length h3)
end Go.Proofs.YtnncfbmddpijcaaGreatDoor

/- Ratios: their functions' contracts, by sizes. -/
namespace Go.Proofs.YtnncfbmddpijcaaGreatDoor
open Go Go.RowKit Go.Shelf AM

theorem Fits.args {P : Program} {G : World → Prop} {f : FuncId} {args args' : List Sv} {mem : List (Nat × VarSt)} {r : Av} (h : Fits P G f args mem r) (ha : ∀ (β : Nat → Option Nat) (W : World) (vals : List Value), All2 (RelS β W) vals args' → All2 (RelS β W) vals args) : Fits P G f args' mem r :=
  ⟨h.1, fun β W w vals h1 h2 h3 h4 h5 h6 => h.2 β W w vals h1 h2 h3 h4 (ha β W vals h5) h6⟩
/-- A row handed in, whatever its number. -/
theorem Fits.row {P : Program} {G : World → Prop} {f : FuncId} {pre : List Sv} {n c : Nat} {t : TypeId} {cs : List Cv} {o : Bool} {r : Av} (h : Fits P G f (pre ++ [.cel (.row 0 0 n c)]) [(0, ⟨t, cs, o, .no⟩)] r) (hp : pre.flatMap varsS = []) (hs : cs.flatMap varsC = []) (hr : varsA r = []) (x : Nat) (o' : Bool) :
    Fits P G f (pre ++ [.cel (.row x 0 n c)]) [(x, ⟨t, cs, o', .no⟩)] r := by
  refine ⟨h.1, fun β W w vals h1 h2 h3 h4 h5 h6 => ?_⟩
  have hbx : (fun y => if y = 0 then β x else none) 0 = β x := if_pos rfl
  have key : ∀ (pre : List Sv) (vals : List Value), pre.flatMap varsS = [] → All2 (RelS β W) vals (pre ++ [.cel (.row x 0 n c)]) → All2 (RelS (fun y => if y = 0 then β x else none) W) vals (pre ++ [.cel (.row 0 0 n c)]) := by
    intro pre
    induction pre with
    | nil =>
      intro vals _ hv
      match vals, hv with
      | [v], ⟨hv, _⟩ => exact ⟨hv, trivial⟩
    | cons s pre ih =>
      intro vals hp hv
      rw [List.flatMap_cons, List.append_eq_nil_iff] at hp
      match vals, hv with
      | v :: vals, ⟨hv, hr⟩ => exact ⟨relS_restrict (fun y hy => by rw [hp.1] at hy; cases hy) (fun _ _ h => h) (fun _ _ _ _ _ _ h => h) hv, ih vals hp.2 hr⟩
  refine (h.2 (fun y => if y = 0 then β x else none) W w vals h1 h2 h3 h4 (key pre vals hp h5) (fun m hm => ?_)).mono fun _ _ ⟨v, he, hrel, hb⟩ => ⟨v, he, relA_restrict (fun y hy => by rw [hr] at hy; cases hy) (fun _ _ h => h) (fun _ _ _ _ _ _ h => h) hrel, hb⟩
  obtain rfl : m = (0, ⟨t, cs, o, .no⟩) := by simpa using hm
  obtain ⟨g, cs', b1, b2, b3, b4⟩ := h6 (x, ⟨t, cs, o', .no⟩) (by simp)
  exact ⟨g, cs', b1, b2, b3, all2_restrict (fun y hy => by rw [hs] at hy; cases hy) (fun _ _ h => h) (fun _ _ _ _ _ _ h => h) b4⟩

section
variable {p q : Rat} {m n : Nat}
theorem addQ_f (hp : BQ m p) (hq : BQ n q) (h : m + n + 1 ≤ 512) : FitsP 14 [rq p, rq q] [] (.tup [rq (p + q), ok0]) :=
  addQ0_f (lim_of (cross1 hp hq) (by omega)) (lim_of (cross2 hp hq) (by omega)) (lim_of (add_abs (cross1 hp hq) (cross2 hp hq)) h) (lim_of (dens hp hq) (by omega))
theorem subQ_f (hp : BQ m p) (hq : BQ n q) (h : m + n + 1 ≤ 512) : FitsP 19 [rq p, rq q] [] (.tup [rq (p - q), ok0]) :=
  subQ0_f (lim_of (cross1 hp hq) (by omega)) (lim_of (cross2 hp hq) (by omega)) (lim_of (sub_abs (cross1 hp hq) (cross2 hp hq)) h) (lim_of (dens hp hq) (by omega))
theorem mulQ_f (hp : BQ m p) (hq : BQ n q) (h : m + n ≤ 512) : FitsP 13 [rq p, rq q] [] (.tup [rq (p * q), ok0]) :=
  mulQ0_f (lim_of (mul_abs2 hp.1 hq.1) h) (lim_of (dens hp hq) h)
theorem cmpB_f (hp : BQ m p) (hq : BQ n q) (h : m + n ≤ 512) : FitsP 49 [rq p, rq q] [] (.tup [intS (ordQ p q), ok0]) :=
  cmpQ_f (lim_of (cross1 hp hq) h) (lim_of (cross2 hp hq) h)
theorem div_divInt (p q : Rat) : p / q = Rat.divInt (p.num * (q.den : Int)) (q.num * (p.den : Int)) := by
  rw [Rat.div_def, Rat.inv_def]
  conv => lhs; rw [← Rat.num_divInt_den p]
  rw [Rat.divInt_mul_divInt]
  congr 1
  exact Int.mul_comm _ _
theorem ordQ_cases (q : Rat) : ordQ q 0 = -1 ∨ ordQ q 0 = 0 ∨ ordQ q 0 = 1 := by
  unfold ordQ; split
  · exact .inl rfl
  · split
    · exact .inr (.inl rfl)
    · exact .inr (.inr rfl)
theorem ordQ_zero : ordQ q 0 = 0 ↔ q = 0 := by
  unfold ordQ
  constructor
  · intro h; split at h
    · cases h
    · split at h
      · assumption
      · cases h
  · rintro rfl; decide
theorem negQ_f : FitsP 55 [rq p] [] (.one (rq (-p))) := by
  rw [show rq (-p) = rz (-p.num) p.den from rq_lit (Rat.neg_num p) (Rat.neg_den p)]; exact negZ_f
def absQ (q : Rat) : Rat := if q < 0 then -q else q
theorem num_neg {q : Rat} : q < 0 ↔ q.num < 0 := by
  rw [Rat.lt_iff]; simp
theorem absQ_rz (q : Rat) : rq (absQ q) = rz (q.num.natAbs : Int) q.den := by
  unfold absQ
  by_cases h : q < 0
  · rw [if_pos h]
    have := num_neg.1 h
    exact rq_lit (by rw [Rat.neg_num]; omega) (Rat.neg_den q)
  · rw [if_neg h]
    have : ¬ q.num < 0 := fun h' => h (num_neg.2 h')
    exact rq_lit (by omega) rfl
theorem absQ_f : FitsP 21 [rq p] [] (.one (rq (absQ p))) := by rw [absQ_rz]; exact absZ_f
theorem checkB_f (hp : BQ m p) (h : m ≤ 512) : FitsP 9 [rq p] [] (.one ok0) := checkQ_f (hp.num h) (hp.den h)
theorem zeroQ0_f : FitsP 10 [] [] (.one (rq 0)) := zeroQ_f
theorem ofQ_lit {a : Int} {d : Nat} (q : Rat) (h1 : inI64 a) (h2 : inI64 (d : Int)) (h0 : d ≠ 0) (h : Rat.normalize a d h0 = q) : FitsP 5 [intS a, intS (d : Int)] [] (.one (rq q)) := by subst h; exact ofQ_f h1 h2 h0
theorem cmp_lit {k : Int} (hp : BQ m p) (hq : BQ n q) (h : m + n ≤ 512) (hk : ordQ p q = k) : FitsP 49 [rq p, rq q] [] (.tup [intS k, ok0]) := by subst hk; exact cmpB_f hp hq h
theorem wholeB_f {z : Int} : FitsP 45 [im z] [] (.one (rq (z : Rat))) := wholeQ_f
end
theorem bq_zero : BQ 1 0 := ⟨by decide, by decide⟩
theorem inI_small {n : Int} (h1 : -1000000 ≤ n) (h2 : n ≤ 1000000) : inI64 n := ⟨by omega, by omega⟩
end Go.Proofs.YtnncfbmddpijcaaGreatDoor
