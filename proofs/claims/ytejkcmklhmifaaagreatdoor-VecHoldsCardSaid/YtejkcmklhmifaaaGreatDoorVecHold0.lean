/- Rows of spans: nothing is lost. -/
import Derived.Test.YtejkcmklhmifaaaGreatDoorVecScal
import Derived.Test.YtejkcmklhmifaaaGreatDoorSpM
import Derived.Test.YtejkcmklhmifaaaGreatDoorSpS
namespace Go.Proofs.YtejkcmklhmifaaaGreatDoor
open Go Go.RowKit Go.Shelf AM
/-- A ratio's span; what spans come to. -/
def nearP (b : Nat) (q : Rat) : Dy × Dy := (nrD b q, nuD b q)
def plusP (b : Nat) (s t : Dy × Dy) : Dy × Dy := (rdD b (addD s.1 t.1), ruD b (addD s.2 t.2))
def mulP (b : Nat) (s t : Dy × Dy) : Dy × Dy := (rdD b (loM s.1 s.2 t.1 t.2), ruD b (hiM s.1 s.2 t.1 t.2))
def roundP (b : Nat) (s : Dy × Dy) : Dy × Dy := (rdD b s.1, ruD b s.2)
/-- A span holds a number. -/
def Hld (s : Dy × Dy) (q : Rat) : Prop := dv s.1 ≤ q ∧ q ≤ dv s.2
def BDp (n k : Nat) (s : Dy × Dy) : Prop := BD n k s.1 ∧ BD n k s.2
section
variable {b n k m j : Nat} {s t : Dy × Dy} {p q : Rat}
theorem BDp.mono (h : BDp n k s) (hn : n ≤ m) (hk : k ≤ j) : BDp m j s := ⟨h.1.mono hn hk, h.2.mono hn hk⟩
theorem near_hld : Hld (nearP b q) q := ⟨nr_le, nu_ge⟩
theorem near_bd (hq : BQ n q) (hb : 1 ≤ b) (hb2 : b ≤ 4096) : BDp (n + 2) (n + 129) (nearP b q) := ⟨BD.nr hq hb hb2, BD.nu hq hb hb2⟩
theorem plus_hld (h1 : Hld s p) (h2 : Hld t q) : Hld (plusP b s t) (p + q) := by
  refine ⟨Rat.le_trans (rd_le b _) ?_, Rat.le_trans ?_ (ru_ge b _)⟩
  · rw [addD_dv]; have := h1.1; have := h2.1; grind
  · rw [addD_dv]; have := h1.2; have := h2.2; grind
theorem plus_bd (hb : 1 ≤ b) (h1 : BDp n k s) (h2 : BDp n k t) : BDp (n + 2) k (plusP b s t) := ⟨(BD.add h1.1 h2.1).rd hb, (BD.add h1.2 h2.2).ru hb⟩
theorem mul_hld (h1 : Hld s p) (h2 : Hld t q) : Hld (mulP b s t) (p * q) := ⟨Rat.le_trans (rd_le b _) (loM_le h1.1 h1.2 h2.1 h2.2), Rat.le_trans (hiM_ge h1.1 h1.2 h2.1 h2.2) (ru_ge b _)⟩
theorem mul_bd (hb : 1 ≤ b) (h1 : BDp n k s) (h2 : BDp m j t) : BDp (n + m + 1) (k + j) (mulP b s t) := ⟨(loM_bd h1.1 h1.2 h2.1 h2.2).rd hb, (hiM_bd h1.1 h1.2 h2.1 h2.2).ru hb⟩
theorem round_hld (h1 : Hld s p) : Hld (roundP b s) p := ⟨Rat.le_trans (rd_le b _) h1.1, Rat.le_trans h1.2 (ru_ge b _)⟩
theorem round_bd (hb : 1 ≤ b) (h1 : BDp n k s) : BDp (n + 1) k (roundP b s) := ⟨h1.1.rd hb, h1.2.ru hb⟩
theorem hldQ_f (hs : BDp n k s) (hq : BQ m q) (hk : n + k + 1 + m ≤ 512) (h : Hld s q) : FitsP 25 [spQ s, rq q] [] (.tup [boolS true, ok0]) := hasQ_f hs.1 hs.2 hq hk rfl rfl h.1 h.2
end
/-- All together of a row of spans, up to a place. -/
def accP (b : Nat) (zs : List (Dy × Dy)) : Nat → Dy × Dy
  | 0 => (⟨0, 0⟩, ⟨0, 0⟩)
  | 1 => roundP b (zs.getD 0 (⟨0, 0⟩, ⟨0, 0⟩))
  | k + 2 => plusP b (accP b zs (k + 1)) (zs.getD (k + 1) (⟨0, 0⟩, ⟨0, 0⟩))
theorem bdp_zero {n k : Nat} : BDp n k (⟨0, 0⟩, ⟨0, 0⟩) := ⟨BD.zero, BD.zero⟩
theorem getD_at {α : Type} {xs : List α} {k : Nat} {x d : α} (h : xs[k]? = some x) : xs.getD k d = x := by rw [List.getD_eq_getElem?_getD, h]; rfl
theorem getD_bd {n k j : Nat} {zs : List (Dy × Dy)} (h : ∀ z ∈ zs, BDp n k z) : BDp n k (zs.getD j (⟨0, 0⟩, ⟨0, 0⟩)) := by
  rw [List.getD_eq_getElem?_getD]
  cases e : zs[j]? with
  | none => exact bdp_zero
  | some z => exact h z (List.mem_of_getElem? e)
theorem acc_bd {b n k : Nat} {zs : List (Dy × Dy)} (hb : 1 ≤ b) (h : ∀ z ∈ zs, BDp n k z) : ∀ j, BDp (n + 2 * j) k (accP b zs j)
  | 0 => bdp_zero
  | 1 => (round_bd hb (getD_bd h)).mono (by omega) (Nat.le_refl _)
  | j + 2 => (plus_bd hb (acc_bd hb h (j + 1)) ((getD_bd h).mono (by omega) (Nat.le_refl _))).mono (by omega) (Nat.le_refl _)
theorem acc_hld {b : Nat} {zs : List (Dy × Dy)} {ps : List Rat} (h : ∀ (k : Nat) (z : Dy × Dy) (p : Rat), zs[k]? = some z → ps[k]? = some p → Hld z p) (hl : zs.length = ps.length) : ∀ j, j ≤ ps.length → Hld (accP b zs j) (sumTo ps j)
  | 0, _ => by
    have e : dv ⟨0, 0⟩ = 0 := by decide +kernel
    exact ⟨by show dv ⟨0, 0⟩ ≤ 0; rw [e]; exact Rat.le_refl, by show 0 ≤ dv ⟨0, 0⟩; rw [e]; exact Rat.le_refl⟩
  | 1, hj => by
    obtain ⟨z, hz⟩ : ∃ z, zs[0]? = some z := ⟨_, List.getElem?_eq_getElem (by omega)⟩
    obtain ⟨p, hp⟩ : ∃ p, ps[0]? = some p := ⟨_, List.getElem?_eq_getElem (by omega)⟩
    rw [sumTo_succ hp]
    show Hld (roundP b (zs.getD 0 _)) (0 + p)
    rw [getD_at hz, show (0 : Rat) + p = p by grind]
    exact round_hld (h 0 z p hz hp)
  | j + 2, hj => by
    have ih := acc_hld (b := b) h hl (j + 1) (by omega)
    obtain ⟨z, hz⟩ : ∃ z, zs[j + 1]? = some z := ⟨_, List.getElem?_eq_getElem (by omega)⟩
    obtain ⟨p, hp⟩ : ∃ p, ps[j + 1]? = some p := ⟨_, List.getElem?_eq_getElem (by omega)⟩
    rw [sumTo_succ hp]
    show Hld (plusP b (accP b zs (j + 1)) (zs.getD (j + 1) _)) _
    rw [getD_at hz]
    exact plus_hld ih (h (j + 1) z p hz hp)
section
variable {n b : Nat} {xs ys : List Rat} {ss ts : List (Dy × Dy)}
theorem nearR_f {m : Nat} (hn : n ≤ 16) (hl : xs.length = n) (hx : ∀ x ∈ xs, BQ m x) (hm : m ≤ 64) (hb : 2 ≤ b) (hb2 : b ≤ 4096) : FitsP 41 [ratsN n xs, intS (b : Int)] [] (.tup [spansN n (xs.map (nearP b)), ok0]) :=
  nearV_f (by omega) hl (map_len hl) fun k x y h1 h2 => by rw [map_get h1 h2]; exact nearS_f (mem_get hx h1) hm hb hb2
theorem plusR_f {m k : Nat} (hn : n ≤ 16) (hl : ss.length = n) (hm : ts.length = n) (hs : ∀ s ∈ ss, BDp m k s) (ht : ∀ s ∈ ts, BDp m k s) (hk : m + k + 2 ≤ 512) (hb : 2 ≤ b) (hb2 : b ≤ 4096) : FitsP 42 [spansN n ss, spansN n ts, intS (b : Int)] [] (.tup [spansN n (List.zipWith (plusP b) ss ts), ok0]) :=
  plusV_f (by omega) hl hm (zip_len hl hm) fun i x y z h1 h2 h3 => by
    rw [zip_get h1 h2 h3]
    exact addS_f (mem_get hs h1).1 (mem_get hs h1).2 (mem_get ht h2).1 (mem_get ht h2).2 hk hb hb2
theorem timesR_f {m k i j : Nat} {t : Dy × Dy} (hn : n ≤ 16) (hl : ss.length = n) (hs : ∀ s ∈ ss, BDp m k s) (ht : BDp i j t) (hk : m + k + (i + j) + 1 ≤ 512) (hb : 2 ≤ b) (hb2 : b ≤ 4096) : FitsP 46 [spansN n ss, spQ t, intS (b : Int)] [] (.tup [spansN n (ss.map fun s => mulP b s t), ok0]) :=
  timesV_f (by omega) hl (map_len hl) fun l x z h1 h2 => by
    rw [map_get h1 h2]
    exact mulS_f (mem_get hs h1).1 (mem_get hs h1).2 ht.1 ht.2 hk hb hb2
theorem innerR_f {m k i j : Nat} (hn : n ≤ 16) (hl : ss.length = n) (hm : ts.length = n) (hs : ∀ s ∈ ss, BDp m k s) (ht : ∀ s ∈ ts, BDp i j s) (hk : m + i + 1 + 2 * n + (k + j) + 4 ≤ 512) (hb : 2 ≤ b) (hb2 : b ≤ 4096) :
    FitsP 43 [spansN n ss, spansN n ts, intS (b : Int)] [] (.tup [spQ (accP b (List.zipWith (mulP b) ss ts) n), ok0]) := by
  have hz := zip_all (f := mulP b) (R := fun z => BDp (m + i + 1) (k + j) z) hs ht fun x y p q => mul_bd (by omega) p q
  match n, hn, hl, hm, hk with
  | 0, _, hl, hm, _ =>
    obtain rfl := List.eq_nil_of_length_eq_zero hl
    obtain rfl := List.eq_nil_of_length_eq_zero hm
    exact innerV_0
  | q + 1, hn, hl, hm, hk =>
    refine innerV_f (zs := List.zipWith (mulP b) ss ts) (by omega) hl hm (zip_len (f := mulP b) hl hm) (accP b (List.zipWith (mulP b) ss ts)) (fun l x y z h1 h2 h3 => ?_) (fun x hx => ?_) (fun l x hx => ?_)
    · rw [zip_get h1 h2 h3]
      exact mulS_f (mem_get hs h1).1 (mem_get hs h1).2 (mem_get ht h2).1 (mem_get ht h2).2 (by omega) hb hb2
    · show FitsP _ _ _ (.tup [spQ (roundP b ((List.zipWith (mulP b) ss ts).getD 0 _)), ok0])
      rw [getD_at hx]
      exact roundS_f (mem_get hz hx).1 (mem_get hz hx).2 (by omega) hb hb2
    · show FitsP _ _ _ (.tup [spQ (plusP b (accP b _ (l + 1)) ((List.zipWith (mulP b) ss ts).getD (l + 1) _)), ok0])
      rw [getD_at hx]
      have hlq : l + 1 < q + 1 := by
        have := (List.getElem?_eq_some_iff.1 hx).1
        rw [zip_len hl hm] at this; exact this
      have ha := acc_bd (b := b) (by omega) hz (l + 1)
      have hx' := (mem_get hz hx).mono (show m + i + 1 ≤ m + i + 1 + 2 * (l + 1) by omega) (Nat.le_refl (k + j))
      exact addS_f ha.1 ha.2 hx'.1 hx'.2 (by omega) hb hb2
theorem holdsR_f {m k i : Nat} (hn : n ≤ 16) (hl : ss.length = n) (hm : ys.length = n) (hs : ∀ s ∈ ss, BDp m k s) (hy : ∀ y ∈ ys, BQ i y) (hk : m + k + 1 + i ≤ 512) (h : ∀ (j : Nat) (s : Dy × Dy) (y : Rat), ss[j]? = some s → ys[j]? = some y → Hld s y) :
    FitsP 44 [spansN n ss, ratsN n ys] [] (.tup [boolS true, ok0]) := holdsV_f (by omega) hl hm fun j x y h1 h2 => hldQ_f (mem_get hs h1) (mem_get hy h2) hk (h j x y h1 h2)
end
/-- The greatest size of a row of spans, up to a place. -/
def sizeP (s : Dy × Dy) : Dy := maxD (absD s.1) (absD s.2)
def normP (ss : List (Dy × Dy)) : Nat → Dy
  | 0 => ⟨0, 0⟩
  | k + 1 => maxD (normP ss k) (sizeP (ss.getD k (⟨0, 0⟩, ⟨0, 0⟩)))
theorem abs_bd {n k : Nat} {d : Dy} (h : BD n k d) : BD n k (absD d) := by
  by_cases hd : d.m < 0
  · rw [show absD d = negD d by unfold absD negD; rw [show (d.m.natAbs : Int) = -d.m by omega]]; exact h.neg
  · rw [show absD d = d by unfold absD; rw [show (d.m.natAbs : Int) = d.m by omega]]; exact h
theorem size_bd {n k : Nat} {s : Dy × Dy} (h : BDp n k s) : BD n k (sizeP s) := (abs_bd h.1).maxS (abs_bd h.2)
theorem norm_bd {n k : Nat} {ss : List (Dy × Dy)} (h : ∀ s ∈ ss, BDp n k s) : ∀ j, BD n k (normP ss j)
  | 0 => BD.zero
  | j + 1 => (norm_bd h j).maxS (size_bd (getD_bd h))
theorem normR_f {n m k : Nat} {ss : List (Dy × Dy)} (hn : n ≤ 16) (hl : ss.length = n) (hs : ∀ s ∈ ss, BDp m k s) (hk : m + k ≤ 512) : FitsP 45 [spansN n ss] [] (.one (dS (normP ss n))) :=
  nrm_f (normP ss) rfl (by omega) hl fun j x hx => ⟨sizeP x, sizeS_f (abs_bd (mem_get hs hx).1) (abs_bd (mem_get hs hx).2) hk, by
    show FitsP _ _ _ (.one (dS (maxD (normP ss j) (sizeP (ss.getD j _)))))
    rw [getD_at hx]
    exact maxD_f (norm_bd hs j) (size_bd (mem_get hs hx)) hk⟩
theorem av_ge0 (d : Dy) : 0 ≤ av d := by
  unfold av
  exact Rat.mul_nonneg (by exact_mod_cast Nat.zero_le _) (Rat.le_of_lt (p2_pos _))
theorem abs_dv (d : Dy) : dv (absD d) = absQ (dv d) := by
  have h0 : dv (absD d) = av d := by
    rcases Nat.eq_zero_or_pos d.m.natAbs with h | h
    · have e1 : dv (absD d) = 0 := dv_zero.2 (by unfold absD; simp [h])
      rw [e1]; unfold av; rw [h]; simp
    · rw [dv_pos (by unfold absD; dsimp only; omega)]; rfl
  have h1 := av_ge0 d
  rw [h0]
  rcases Int.lt_trichotomy d.m 0 with h | h | h
  · rw [dv_neg h]; unfold absQ; split <;> grind
  · have e1 : dv d = 0 := dv_zero.2 h
    rw [e1]; unfold av absQ; rw [h]; simp
  · rw [dv_pos h]; unfold absQ; split <;> grind
theorem max_ge (a b : Dy) : dv a ≤ dv (maxD a b) ∧ dv b ≤ dv (maxD a b) := by
  unfold maxD
  split
  · rename_i h; exact ⟨by grind, Rat.le_refl⟩
  · rename_i h; exact ⟨Rat.le_refl, by grind⟩
theorem size_hld {s : Dy × Dy} {q : Rat} (h : Hld s q) : absQ q ≤ dv (sizeP s) := by
  have h1 := (max_ge (absD s.1) (absD s.2)).1
  have h2 := (max_ge (absD s.1) (absD s.2)).2
  rw [abs_dv] at h1 h2
  unfold sizeP
  have h3 := h.1
  have h4 := h.2
  unfold absQ at *
  grind
theorem norm_hld {ss : List (Dy × Dy)} {k : Nat} {s : Dy × Dy} {q : Rat} (hs : ss[k]? = some s) (h : Hld s q) : ∀ j, k < j → absQ q ≤ dv (normP ss j)
  | j + 1, hj => by
    show absQ q ≤ dv (maxD (normP ss j) (sizeP (ss.getD j _)))
    have hm := max_ge (normP ss j) (sizeP (ss.getD j (⟨0, 0⟩, ⟨0, 0⟩)))
    rcases Nat.lt_or_ge k j with h1 | h1
    · exact Rat.le_trans (norm_hld hs h j h1) hm.1
    · obtain rfl : k = j := by omega
      refine Rat.le_trans (size_hld h) ?_
      have := hm.2
      rw [getD_at hs] at this ⊢
      exact this
end Go.Proofs.YtejkcmklhmifaaaGreatDoor
