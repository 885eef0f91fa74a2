
/- Rows of ratios that come in, however long, and are told first whether they may be. -/
import Derived.Test.YtnncfbmddpijcaaGreatDoorCardRs
import Derived.Test.YtnncfbmddpijcaaGreatDoorCardL
namespace Go.Proofs.YtnncfbmddpijcaaGreatDoor
open Go Go.RowKit Go.WideShapes Go.ChangeShapes Go.ChangeAt Go.Shelf AM

def alC (a : Ag) : List Cv := [.raw (.bool a.m), .ent (argL a.xs), .ent (argL a.ds)]
def lagS (a : Ag) : Sv := .agg (alC a)
theorem alC_len (a : Ag) : (alC a).length = 3 := rfl
theorem alC_shut (a : Ag) : ∀ c ∈ alC a, varsC c = [] := by
  intro c hc
  simp only [alC, List.mem_cons, List.not_mem_nil, or_false] at hc
  rcases hc with rfl | rfl | rfl <;> rfl
/-- It is a ratio, of no more than so many digits. -/
structure Ag.GoodL (L : Nat) (a : Ag) (q : Rat) : Prop where
  bq : BQ L q
  len1 : a.xs.length ≤ L
  len2 : a.ds.length ≤ L
  conv : Conv (alC a) (rqC q)
def Ag.ChkBad (a : Ag) : Prop := ∃ c : Int, c ≠ 0 ∧ FitsP 9 [lagS a] [] (.one (intS c))
def Ag.ChkOk (a : Ag) : Prop := FitsP 9 [lagS a] [] (.one ok0)
/-- It is none, or longer. -/
def Ag.BadL (L : Nat) (a : Ag) : Prop := a.ChkBad ∨ (a.ChkOk ∧ L < a.xs.length) ∨ (a.ChkOk ∧ a.xs.length ≤ L ∧ L < a.ds.length)
theorem Ag.GoodL.rel {L : Nat} {a : Ag} {q : Rat} (h : a.GoodL L q) {β : Nat → Option Nat} {W : World} {v : Value} (hv : RelS β W v (lagS a)) : RelS β W v (rq q) := by
  obtain ⟨vs, rfl, h1⟩ := hv
  match vs, h1 with
  | [x, y, z], ⟨k1, k2, k3, _⟩ =>
    have := h.conv W [x, y, z] ⟨k1, k2, k3, trivial⟩
    exact ⟨_, rfl, this.mono fun _ _ k => k.rel⟩
theorem Ag.GoodL.check {L : Nat} {a : Ag} {q : Rat} (h : a.GoodL L q) (hL : L ≤ 512) : a.ChkOk :=
  Fits.args (checkB_f h.bq hL) fun β W vals hv => by
    obtain ⟨v, rfl, h'⟩ := all2_1 hv
    exact ⟨h.rel h', trivial⟩
/-- What may be is a ratio, however long. -/
theorem agL_casesB {m : Bool} {xs ds : List Nat} (hb : ∀ x ∈ xs, x < 4294967296) (hd : ∀ x ∈ ds, x < 4294967296) : (∃ q : Rat, LQ q ∧ (∀ L, xs.length ≤ L → ds.length ≤ L → BQ L q) ∧ ∀ (β : Nat → Option Nat) (W : World) (v : Value), RelS β W v (agL m xs ds) → RelS β W v (rq q)) ∨ UnfitL m xs ds := by
  rcases agL_cases (m := m) hb hd with _ | hu
  · by_cases h1 : checkI m xs = 0
    · by_cases h2 : checkOf ds = 0
      · have hk := agL_rz hb hd h1 h2
        have l1 : val 4294967296 xs < Lim := Nat.lt_of_lt_of_le (val_lt hb) (Nat.pow_le_pow_right (by omega) (canL (checkI_of h1) hb).1)
        have l2 : val 4294967296 ds < Lim := Nat.lt_of_lt_of_le (val_lt hd) (Nat.pow_le_pow_right (by omega) (canL h2 hd).1)
        have la : LimI (sg m (val 4294967296 xs)) := by unfold LimI; rw [sg_natAbs]; exact l1
        by_cases hg : Nat.gcd (sg m (val 4294967296 xs)).natAbs (val 4294967296 ds) = 1
        · by_cases h0 : val 4294967296 ds = 0
          · rw [h0] at hg
            refine .inr ⟨2, by decide, Fits.args (checkBad4_f la (by rw [← Nat.gcd_zero_right (Int.natAbs _)]; exact hg)) fun β W vals h => ?_⟩
            obtain ⟨v, rfl, h'⟩ := all2_1 h
            have := hk β W v h'
            rw [h0] at this
            exact ⟨this, trivial⟩
          · refine .inl ⟨Rat.normalize (sg m (val 4294967296 xs)) (val 4294967296 ds) h0, norm_BQ (n := maxL) h0 la l2, fun L e1 e2 => norm_BQ h0 (by rw [sg_natAbs]; exact Nat.lt_of_lt_of_le (val_lt hb) (Nat.pow_le_pow_right (by omega) e1)) (Nat.lt_of_lt_of_le (val_lt hd) (Nat.pow_le_pow_right (by omega) e2)), fun β W v h => ?_⟩
            rw [← rz_norm1 h0 hg]
            exact hk β W v h
        · refine .inr ⟨2, by decide, Fits.args (checkBad3_f la l2 hg) fun β W vals h => ?_⟩
          obtain ⟨v, rfl, h'⟩ := all2_1 h
          exact ⟨hk β W v h', trivial⟩
      · exact .inr ⟨_, h2, checkL2_f h1 rfl h2⟩
    · exact .inr ⟨_, h1, checkL1_f rfl h1⟩
  · exact .inr hu
theorem Ag.casesL {L : Nat} {a : Ag} (h : a.In) : (∃ q, a.GoodL L q) ∨ a.BadL L := by
  obtain ⟨m, xs, ds⟩ := a
  rcases agL_casesB (m := m) h.1 h.2 with ⟨q, h1, h2, h3⟩ | ⟨c, h1, h2⟩
  · have hok : Ag.ChkOk ⟨m, xs, ds⟩ := Fits.args (checkQ_f h1.1 h1.2) fun β W vals hv => by
      obtain ⟨v, rfl, h'⟩ := all2_1 hv
      exact ⟨h3 β W v h', trivial⟩
    by_cases e1 : L < xs.length
    · exact .inr (.inr (.inl ⟨hok, e1⟩))
    · by_cases e2 : L < ds.length
      · exact .inr (.inr (.inr ⟨hok, Nat.le_of_not_lt e1, e2⟩))
      · exact .inl ⟨q, h2 L (Nat.le_of_not_lt e1) (Nat.le_of_not_lt e2), Nat.le_of_not_lt e1, Nat.le_of_not_lt e2, conv_of fun β W v hv => h3 β W v hv⟩
  · exact .inr (.inl ⟨c, h1, h2⟩)
section
variable {H : Type} {enc : TypeId × Value → H} {W : World} {r : Reach} {b0 : Nat} {v : Value} {d : DataW H} {ps : List MemPlace}
set_option maxRecDepth 100000 in
theorem trod_al {n : Nat} {cs : List Value} {y : DataW H × List MemPlace} (hl : cs.length = 3) (hf : DataW.trod enc Tryz.prog W 0 (fun _ => true) true n 27 cs = some y) : ∃ a : Ag, a.In ∧ All2 (HoldsC W) cs (alC a) := by
  match cs, hl with
  | [c0, c1, c2], _ =>
    obtain ⟨y0, y1, n, _, _, h0, h1⟩ := trod_struct2 under_ratR hf
    rw [ratR0_type, ratR0_off, cells_intR] at h0
    rw [ratR1_type, ratR1_off, cells_natR] at h1
    obtain ⟨m, xs, hb, rfl, hx⟩ := trod_intL (c0 := c0) (c1 := c1) h0
    obtain ⟨ds, hd, hb'⟩ := read_natL (v := c2) h1
    exact ⟨⟨m, xs, ds⟩, ⟨hb, hb'⟩, rfl, hx, hd, trivial⟩
/-- A row of ratios, as it comes, however long each is. -/
def RatsInL (W : World) (v : Value) : Prop := ∃ l : List Ag, (∀ x ∈ l, x.In) ∧ (rowOf l.length (l.flatMap alC)).holds W v
def RatIn1L (W : World) (v : Value) : Prop := ∃ a : Ag, a.In ∧ RelS (fun _ => none) W v (lagS a)
set_option maxRecDepth 100000 in
theorem trod_ratsL {n : Nat} {y : DataW H × List MemPlace} (hf : DataW.trod enc Tryz.prog W 0 (fun _ => true) true n 28 [v] = some y) : RatsInL W v := by
  obtain ⟨xs, h1, _, h2⟩ := read_row alC Ag.In under_rats cells_ratR (by omega) alC_len (fun _ _ _ hl h => trod_al hl h) hf
  exact ⟨xs, h1, h2⟩
set_option maxRecDepth 100000 in
theorem read_ratsL (hval : Value.okWide Tryz.prog W r b0 28 v) (h : DataW.Trod enc Tryz.prog W 0 (fun _ => true) true 28 v d ps) : RatsInL W v := by
  obtain ⟨a, len, cap, rfl⟩ := okWide_slice under_rats hval
  obtain ⟨fuel, hf⟩ := h
  exact trod_ratsL hf
set_option maxRecDepth 100000 in
theorem read_rat1L (hval : Value.okWide Tryz.prog W r b0 27 v) (h : DataW.Trod enc Tryz.prog W 0 (fun _ => true) true 27 v d ps) : RatIn1L W v := by
  obtain ⟨m, xs, ds, h1, h2, h3⟩ := read_ratL hval h
  exact ⟨⟨m, xs, ds⟩, ⟨h1, h2⟩, h3 _⟩
end
end Go.Proofs.YtnncfbmddpijcaaGreatDoor
