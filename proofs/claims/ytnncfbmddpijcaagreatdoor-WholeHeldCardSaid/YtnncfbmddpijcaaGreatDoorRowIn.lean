
/- Rows of ratios that come in, whatever they are; rows that are what other words say of them. -/
import Derived.Test.YtnncfbmddpijcaaGreatDoorRowF
import Derived.Test.YtnncfbmddpijcaaGreatDoorCardR
import Derived.Test.YtnncfbmddpijcaaGreatDoorRatN
import Derived.Deep.Slices
namespace Go.Proofs.YtnncfbmddpijcaaGreatDoor
open Go Go.RowKit Go.WideShapes Go.ChangeShapes Go.ChangeAt Go.Shelf AM

/-- What one word says of cells, another one says, too. -/
def Conv (cs ds : List Cv) : Prop := ∀ (W : World) (us : List Value), All2 (HoldsC W) us cs → All2 (HoldsC W) us ds
theorem Conv.refl (cs : List Cv) : Conv cs cs := fun _ _ h => h
section
variable {α γ : Type} {E : α → List Cv} {F : γ → List Cv} {s n : Nat}
theorem flat_dec (hE : ∀ y, (E y).length = s) (hs : 0 < s) : ∀ {xs : List α} {i : Nat} {c : Cv}, (xs.flatMap E)[i]? = some c → ∃ j r x, i = j * s + r ∧ r < s ∧ xs[j]? = some x ∧ (E x)[r]? = some c
  | [], i, c, h => by simp at h
  | x :: xs, i, c, h => by
    rw [List.flatMap_cons] at h
    rcases Nat.lt_or_ge i s with hi | hi
    · rw [List.getElem?_append_left (by rw [hE]; exact hi)] at h
      exact ⟨0, i, x, by omega, hi, rfl, h⟩
    · rw [List.getElem?_append_right (by rw [hE]; exact hi), hE] at h
      obtain ⟨j, r, y, h1, h2, h3, h4⟩ := flat_dec hE hs h
      exact ⟨j + 1, r, y, by rw [Nat.succ_mul]; omega, h2, h3, h4⟩
theorem cells_part {W : World} {g o : Nat} {cs : List Cv} : ∀ {ds : List Cv} {m : Nat}, CellsAt W g o cs → (∀ i c, ds[i]? = some c → cs[m + i]? = some c) → ∃ us, All2 (HoldsC W) us ds ∧ ∀ i u, us[i]? = some u → W.cell? ⟨g, o + (m + i), none⟩ = some u
  | [], _, _, _ => ⟨[], trivial, by simp⟩
  | d :: ds, m, h, hc => by
    obtain ⟨u, h1, h2⟩ := h m d (by simpa using hc 0 d rfl)
    obtain ⟨us, h3, h4⟩ := cells_part (ds := ds) (m := m + 1) h (fun i c hi => by
      have := hc (i + 1) c (by simpa using hi)
      rw [show m + 1 + i = m + (i + 1) by omega]; exact this)
    refine ⟨u :: us, ⟨h2, h3⟩, fun i v hi => ?_⟩
    cases i with
    | zero => simp at hi; subst hi; exact h1
    | succ i =>
      have := h4 i v (by simpa using hi)
      rw [show o + (m + (i + 1)) = o + (m + 1 + i) by omega]; exact this
/-- A row in other words, place by place. -/
theorem row_conv (hE : ∀ y, (E y).length = s) (hF : ∀ y, (F y).length = s) (hs : 0 < s) {xs : List α} {ys : List γ} (hl : xs.length = ys.length) (hc : ∀ (j : Nat) (x : α) (y : γ), xs[j]? = some x → ys[j]? = some y → Conv (E x) (F y))
    {W : World} {v : Value} (h : (rowOf n (xs.flatMap E)).holds W v) : (rowOf n (ys.flatMap F)).holds W v := by
  obtain ⟨A, c, rfl, h⟩ := h
  refine ⟨A, c, rfl, ?_⟩
  rcases h with h | ⟨g, o, rfl, h⟩
  · left
    have h1 := flat_len hE xs
    rw [h] at h1
    have h2 : xs.length = 0 := by
      rcases Nat.eq_zero_or_pos xs.length with h | h
      · exact h
      · have := Nat.mul_pos h hs; simp at h1; omega
    rw [show ys = [] from List.eq_nil_of_length_eq_zero (by omega)]; rfl
  · right
    refine ⟨g, o, rfl, fun i c hi => ?_⟩
    obtain ⟨j, r, y, h1, h2, h3, h4⟩ := flat_dec hF hs hi
    have hj := (List.getElem?_eq_some_iff.1 h3).1
    obtain ⟨x, hx⟩ : ∃ x, xs[j]? = some x := ⟨_, List.getElem?_eq_getElem (by omega)⟩
    obtain ⟨us, h5, h6⟩ := cells_part (m := j * s) h (fun i c hi => flat_get hE hx i c hi)
    have h7 := hc j x y hx h3 W us h5
    obtain ⟨u, hu, hr⟩ := h7.get h4
    exact ⟨u, by rw [h1]; exact h6 r u hu, hr⟩
end
/-- A row of ratios that comes in: each as it is. -/
structure Ag where
  m : Bool
  xs : List Nat
  ds : List Nat
def agC (a : Ag) : List Cv := [.raw (.bool a.m), .ent (argE a.xs), .ent (argE a.ds)]
theorem agC_len (a : Ag) : (agC a).length = 3 := rfl
def Ag.In (a : Ag) : Prop := In32 a.xs ∧ In32 a.ds
/-- It is a ratio of no more than so many digits. -/
structure Ag.Good (L : Nat) (a : Ag) (q : Rat) : Prop where
  bq : BQ L q
  len1 : a.xs.length ≤ L
  len2 : a.ds.length ≤ L
  conv : Conv (agC a) (rqC q)
/-- It is none, or too long. -/
def Ag.Bad (L : Nat) (a : Ag) : Prop := L < a.xs.length ∨ (a.xs.length ≤ L ∧ L < a.ds.length) ∨ (a.xs.length ≤ L ∧ a.ds.length ≤ L ∧ ∃ c : Int, c ≠ 0 ∧ FitsP 9 [.agg (agC a)] [] (.one (intS c)))
theorem conv_of {cs ds : List Cv} (h : ∀ (β : Nat → Option Nat) (W : World) (v : Value), RelS β W v (.agg cs) → RelS β W v (.agg ds)) : Conv cs ds := fun W us hu => by
  obtain ⟨vs, h1, h2⟩ := h (fun _ => none) W (.agg us.toArray) ⟨us, rfl, hu⟩
  injection h1 with h1
  obtain rfl : us = vs := by simpa using h1
  exact h2
theorem Ag.cases {L : Nat} (hL : L ≤ 20) {a : Ag} (h : a.In) : (∃ q, a.Good L q) ∨ a.Bad L := by
  obtain ⟨m, xs, ds⟩ := a
  obtain ⟨hb, hd⟩ := h
  by_cases hx : L < xs.length
  · exact .inr (.inl hx)
  have hx : xs.length ≤ L := by omega
  by_cases hy : L < ds.length
  · exact .inr (.inr (.inl ⟨hx, hy⟩))
  have hy : ds.length ≤ L := by omega
  have hx' : xs.length ≤ 20 := by omega
  have hy' : ds.length ≤ 20 := by omega
  have hx4 : xs.length ≤ 40 := by omega
  have hy4 : ds.length ≤ 40 := by omega
  by_cases h1 : checkI m xs = 0
  · by_cases h2 : checkOf ds = 0
    · have hk := ag_rz (m := m) hb hd hx' hy' h1 h2
      have l1 : val 4294967296 xs < 4294967296 ^ L := Nat.lt_of_lt_of_le (val_lt hb) (Nat.pow_le_pow_right (by omega) hx)
      have l2 : val 4294967296 ds < 4294967296 ^ L := Nat.lt_of_lt_of_le (val_lt hd) (Nat.pow_le_pow_right (by omega) hy)
      have la : LimI (sg m (val 4294967296 xs)) := by unfold LimI; rw [sg_natAbs]; exact lim_of l1 (by omega)
      by_cases hg : Nat.gcd (sg m (val 4294967296 xs)).natAbs (val 4294967296 ds) = 1
      · by_cases h0 : val 4294967296 ds = 0
        · rw [h0] at hg
          refine .inr (.inr (.inr ⟨hx, hy, 2, by decide, Fits.args (checkBad4_f la (by rw [← Nat.gcd_zero_right (Int.natAbs _)]; exact hg)) fun β W vals h => ?_⟩))
          obtain ⟨v, rfl, h'⟩ := all2_1 h
          have := hk β W v h'
          rw [h0] at this
          exact ⟨this, trivial⟩
        · refine .inl ⟨Rat.normalize (sg m (val 4294967296 xs)) (val 4294967296 ds) h0, norm_BQ h0 (by rw [sg_natAbs]; exact l1) l2, hx, hy, conv_of fun β W v h => ?_⟩
          show RelS β W v (rq _)
          rw [← rz_norm1 h0 hg]
          exact hk β W v h
      · refine .inr (.inr (.inr ⟨hx, hy, 2, by decide, Fits.args (checkBad3_f la (lim_of l2 (by omega)) hg) fun β W vals h => ?_⟩))
        obtain ⟨v, rfl, h'⟩ := all2_1 h
        exact ⟨hk β W v h', trivial⟩
    · exact .inr (.inr (.inr ⟨hx, hy, _, h2, checkBad2_f hx4 hy4 h1 rfl h2⟩))
  · exact .inr (.inr (.inr ⟨hx, hy, _, h1, checkBad1_f hx4 rfl h1⟩))
def agS (a : Ag) : Sv := .agg (agC a)
def ratsC (l : List Rat) : List Cv := [.ent (rowOf l.length (l.flatMap rqC))]
def agsC (l : List Ag) : List Cv := [.ent (rowOf l.length (l.flatMap agC))]
def ratsS (l : List Rat) : Sv := .cel (.ent (rowOf l.length (l.flatMap rqC)))
def agsS (l : List Ag) : Sv := .cel (.ent (rowOf l.length (l.flatMap agC)))
theorem ratsC_len (l : List Rat) : (ratsC l).length = 1 := rfl
theorem agsC_len (l : List Ag) : (agsC l).length = 1 := rfl
theorem Ag.Good.rel {L : Nat} {a : Ag} {q : Rat} (h : a.Good L q) {β : Nat → Option Nat} {W : World} {v : Value} (hv : RelS β W v (agS a)) : RelS β W v (rq q) := by
  obtain ⟨vs, rfl, h1⟩ := hv
  match vs, h1 with
  | [x, y, z], ⟨k1, k2, k3, _⟩ =>
    have := h.conv W [x, y, z] ⟨k1, k2, k3, trivial⟩
    exact ⟨_, rfl, this.mono fun _ _ k => k.rel⟩
theorem Ag.Good.check {L : Nat} {a : Ag} {q : Rat} (h : a.Good L q) (hL : L ≤ 500) : FitsP 9 [agS a] [] (.one ok0) :=
  Fits.args (checkB_f h.bq (by omega)) fun β W vals hv => by
    obtain ⟨v, rfl, h'⟩ := all2_1 hv
    exact ⟨h.rel h', trivial⟩
/-- All places may be, or there is a first one that may not. -/
theorem first_or {α β : Type} {G : α → β → Prop} {B : α → Prop} : ∀ (xs : List α), (∀ x ∈ xs, (∃ y, G x y) ∨ B x) →
    (∃ ys : List β, ys.length = xs.length ∧ ∀ (j : Nat) (x : α) (y : β), xs[j]? = some x → ys[j]? = some y → G x y) ∨ ∃ (j : Nat) (x : α), xs[j]? = some x ∧ B x ∧ ∀ (i : Nat) (x : α), i < j → xs[i]? = some x → ∃ y, G x y
  | [], _ => .inl ⟨[], rfl, fun j x y h => by simp at h⟩
  | x :: xs, h => by
    rcases h x (List.mem_cons_self ..) with ⟨y, hy⟩ | hb
    · rcases first_or (G := G) (B := B) xs (fun z hz => h z (List.mem_cons_of_mem _ hz)) with ⟨ys, h1, h2⟩ | ⟨j, z, h1, h2, h3⟩
      · refine .inl ⟨y :: ys, by simp [h1], fun j a b ha hb => ?_⟩
        cases j with
        | zero => simp at ha hb; subst ha; subst hb; exact hy
        | succ j => exact h2 j a b (by simpa using ha) (by simpa using hb)
      · refine .inr ⟨j + 1, z, by simpa using h1, h2, fun i a hi ha => ?_⟩
        cases i with
        | zero => simp at ha; subst ha; exact ⟨y, hy⟩
        | succ i => exact h3 i a (by omega) (by simpa using ha)
    · exact .inr ⟨0, x, rfl, hb, fun i a hi => by omega⟩
section
variable {H : Type} {enc : TypeId × Value → H} {W : World} {v : Value} {fuel : Nat} {y : DataW H × List MemPlace}
/-- A row read, place by place. -/
theorem read_row {α : Type} (E : α → List Cv) (Ok : α → Prop) {t e : TypeId} {s : Nat} (ht : Tryz.prog.underlying t = some (.slice e)) (hs : Tryz.prog.cellsOf e = s) (hp : 0 < s) (hE : ∀ a, (E a).length = s)
    (helem : ∀ (fuel : Nat) (cs : List Value) (y : DataW H × List MemPlace), cs.length = s → DataW.trod enc Tryz.prog W 0 (fun _ => true) true fuel e cs = some y → ∃ a, Ok a ∧ All2 (HoldsC W) cs (E a))
    (hf : DataW.trod enc Tryz.prog W 0 (fun _ => true) true fuel t [v] = some y) : ∃ xs : List α, (∀ x ∈ xs, Ok x) ∧ xs.length ≤ maxLen ∧ (rowOf xs.length (xs.flatMap E)).holds W v := by
  rcases Go.Deep.open_slice ht hf with ⟨h0, _⟩ | ⟨A, len, cap, m, n, D, Pl, h0, _, hl, hm, hmm, hyy, hc⟩
  · simp at h0; subst h0
    exact ⟨[], by simp, by simp, ⟨none, 0, rfl, .inl rfl⟩⟩
  · simp at h0; subst h0
    have hmlen : len ≤ m := by rw [hmm]; simpa using hl
    have hcell : ∀ i, i < len → ∃ cs, cs.length = s ∧ (∀ j u, cs[j]? = some u → W.cell? (A.add (i * s + j)) = some u) ∧ ∃ y, DataW.trod enc Tryz.prog W 0 (fun _ => true) true n e cs = some y := fun i hi => by
      obtain ⟨cs, h1, h2⟩ := hc i (by omega)
      rw [hs] at h1
      unfold World.cells? at h1
      rw [if_pos (Nat.zero_le _)] at h1
      have h3 := mapM_range_some h1
      exact ⟨cs, h3.1, fun j u hj => by rw [← Go.Deep.add_add]; exact h3.2 j u hj, _, h2⟩
    obtain ⟨xs, hx1, hx2, hx3⟩ : ∃ xs : List α, xs.length = len ∧ (∀ x ∈ xs, Ok x) ∧ ∀ i x, xs[i]? = some x → ∃ cs : List Value, (∀ j u, cs[j]? = some u → W.cell? (A.add (i * s + j)) = some u) ∧ All2 (HoldsC W) cs (E x) := by
      clear hl hmlen hmm hf hc hyy
      induction len with
      | zero => exact ⟨[], rfl, by simp, by simp⟩
      | succ l ih =>
        obtain ⟨xs, h1, h2, h3⟩ := ih (fun i hi => hcell i (by omega))
        obtain ⟨cs, h4, h5, y, h6⟩ := hcell l (by omega)
        obtain ⟨a, h7, h8⟩ := helem n cs y h4 h6
        refine ⟨xs ++ [a], by simp [h1], fun x hx => ?_, fun i x hi => ?_⟩
        · rcases List.mem_append.1 hx with hx | hx
          · exact h2 x hx
          · simp at hx; subst hx; exact h7
        · rcases Nat.lt_or_ge i xs.length with hlt | hge
          · rw [List.getElem?_append_left hlt] at hi; exact h3 i x hi
          · rw [List.getElem?_append_right hge] at hi
            have : i = l := by
              have := (List.getElem?_eq_some_iff.1 hi).1
              simp at this; omega
            subst this
            rw [h1, Nat.sub_self] at hi
            simp at hi; subst hi
            exact ⟨cs, h5, h8⟩
    refine ⟨xs, hx2, by omega, A, cap, by rw [hx1], ?_⟩
    rcases Nat.eq_zero_or_pos xs.length with h0 | h0
    · left; rw [List.eq_nil_of_length_eq_zero h0]; rfl
    · right
      have hspot : A.spot = none := by
        obtain ⟨cs, h1, h2, _⟩ := hcell 0 (by omega)
        obtain ⟨u, hu⟩ : ∃ u, cs[0]? = some u := ⟨_, List.getElem?_eq_getElem (by omega)⟩
        have := h2 0 u hu
        rw [show A.add (0 * s + 0) = A by rw [Nat.zero_mul]; rfl] at this
        unfold World.cell? at this
        split at this
        · split at this
          · cases this
          · rename_i h; cases e : A.spot with
            | none => rfl
            | some _ => rw [e] at h; simp at h
        · cases this
      have hA : A = ⟨A.block, A.off, none⟩ := by cases A; simp at hspot; simp [hspot]
      have hadd : ∀ j, A.add j = ⟨A.block, A.off + j, none⟩ := fun j => by
        unfold Addr.add
        split
        · rename_i e; subst e; exact hA
        · rfl
      refine ⟨A.block, A.off, by rw [← hA], fun i c hi => ?_⟩
      obtain ⟨j, r, x, h1, h2, h3, h4⟩ := flat_dec hE hp hi
      obtain ⟨cs, h5, h6⟩ := hx3 j x h3
      obtain ⟨u, hu, hr⟩ := h6.get h4
      have := h5 r u hu
      rw [hadd] at this
      exact ⟨u, by rw [h1]; exact this, hr⟩
where
  mapM_range_some {n : Nat} {f : Nat → Option Value} {l : List Value} (h : (List.range n).mapM f = some l) : l.length = n ∧ ∀ j u, l[j]? = some u → f j = some u := by
    induction n generalizing l with
    | zero => simp at h; subst h; simp
    | succ n ih =>
      rw [List.range_succ, List.mapM_append] at h
      obtain ⟨a, h1, h2⟩ := Option.bind_eq_some_iff.1 h
      obtain ⟨b, h3, h4⟩ := Option.bind_eq_some_iff.1 h2
      injection h4 with h4; subst h4
      obtain ⟨i1, i2⟩ := ih h1
      have hb : ∃ u, f n = some u ∧ b = [u] := by
        simp only [List.mapM_cons, List.mapM_nil] at h3
        obtain ⟨u, h5, h6⟩ := Option.bind_eq_some_iff.1 h3
        simp at h6
        exact ⟨u, h5, h6.symm⟩
      obtain ⟨u, hu, rfl⟩ := hb
      refine ⟨by simp [i1], fun j v hj => ?_⟩
      rcases Nat.lt_or_ge j a.length with h | h
      · rw [List.getElem?_append_left h] at hj; exact i2 j v hj
      · rw [List.getElem?_append_right h] at hj
        have : j = n := by have := (List.getElem?_eq_some_iff.1 hj).1; simp at this; omega
        subst this
        rw [i1, Nat.sub_self] at hj; simp at hj; subst hj; exact hu
end
end Go.Proofs.YtnncfbmddpijcaaGreatDoor
