/- Rows of ratios in: fit or not. -/
import Derived.Test.YtejkcmklhmifaaaGreatDoorVecFit
import Derived.Test.YtejkcmklhmifaaaGreatDoorCardRs
namespace Go.Proofs.YtejkcmklhmifaaaGreatDoor
open Go Go.RowKit Go.Shelf AM
/-- A row of ratios in, fit or not. -/
structure RowGood (L M n0 : Nat) (l : List Ag) (qs : List Rat) : Prop where
  len : l.length = n0
  most : n0 ≤ M
  same : qs.length = n0
  bq : ∀ q ∈ qs, BQ L q
  good : ∀ (i : Nat) (x : Ag), l[i]? = some x → ∃ q, x.Good L q
  conv : ∀ {W : World} {v : Value}, (rowOf l.length (l.flatMap agC)).holds W v → (rowOf n0 (qs.flatMap rqC)).holds W v
def RowBad (L M n0 : Nat) (l : List Ag) : Prop := l.length ≠ n0 ∨ M < n0 ∨ ∃ (j : Nat) (x : Ag), l[j]? = some x ∧ x.Bad L ∧ ∀ (i : Nat) (x : Ag), i < j → l[i]? = some x → ∃ q, x.Good L q
theorem row_cases {L M n0 : Nat} (hL : L ≤ 20) {l : List Ag} (h : ∀ x ∈ l, x.In) : (∃ qs, RowGood L M n0 l qs) ∨ RowBad L M n0 l := by
  by_cases h1 : l.length = n0
  · by_cases h2 : M < n0
    · exact .inr (.inr (.inl h2))
    · rcases first_or (G := fun x q => Ag.Good L x q) (B := Ag.Bad L) l (fun x hx => Ag.cases hL (h x hx)) with ⟨qs, e1, e2⟩ | ⟨j, x, e1, e2, e3⟩
      · have hg : ∀ (i : Nat) (x : Ag), l[i]? = some x → ∃ q, qs[i]? = some q ∧ x.Good L q := fun i x hx => by
          have hi := (List.getElem?_eq_some_iff.1 hx).1
          obtain ⟨q, hq⟩ : ∃ q, qs[i]? = some q := ⟨_, List.getElem?_eq_getElem (by omega)⟩
          exact ⟨q, hq, e2 i x q hx hq⟩
        refine .inl ⟨qs, h1, by omega, by omega, fun q hq => ?_, fun i x hx => ?_, fun {W v} hr => ?_⟩
        · obtain ⟨i, hi⟩ := List.getElem?_of_mem hq
          have := (List.getElem?_eq_some_iff.1 hi).1
          obtain ⟨x, hx⟩ : ∃ x, l[i]? = some x := ⟨_, List.getElem?_eq_getElem (by omega)⟩
          exact (e2 i x q hx hi).bq
        · obtain ⟨q, _, hq⟩ := hg i x hx; exact ⟨q, hq⟩
        · rw [h1] at hr
          exact row_conv agC_len rqC_len (by omega) (by omega) (fun j x y hx hy => (e2 j x y hx hy).conv) hr
      · exact .inr (.inr (.inr ⟨j, x, e1, e2, e3⟩))
  · exact .inr (.inl h1)
theorem fit7_bad {m : Nat} {l0 : List Ag} {ls : List (List Ag)} (hm : ls.length = m) (hm2 : m ≤ 1000) (h0 : ls[0]? = some l0) {j : Nat} {l : List Ag} (hx : ls[j]? = some l) (hb : RowBad 5 16 l0.length l) (hg : ∀ (i : Nat) (l : List Ag), i < j → ls[i]? = some l → ∃ qs, RowGood 5 16 l0.length l qs) :
    FitsP 33 [.cel (.ent (rowOf m (ls.flatMap agsC)))] [] (.one (boolS false)) :=
  foA_false (by omega) hm h0 hx hb fun k l hk hl => by
    obtain ⟨qs, h⟩ := hg k l hk hl
    exact ⟨h.len, h.most, h.good⟩
/-- Three rows in. -/
theorem fit7_3 {A B C : List Ag} (hA : ∀ x ∈ A, x.In) (hB : ∀ x ∈ B, x.In) (hC : ∀ x ∈ C, x.In) : (∃ a b c, RowGood 5 16 A.length A a ∧ RowGood 5 16 A.length B b ∧ RowGood 5 16 A.length C c) ∨
    FitsP 33 [.cel (.ent (rowOf 3 [.ent (rowOf A.length (A.flatMap agC)), .ent (rowOf B.length (B.flatMap agC)), .ent (rowOf C.length (C.flatMap agC))]))] [] (.one (boolS false)) := by
  rcases first_or (G := fun l qs => RowGood 5 16 A.length l qs) (B := RowBad 5 16 A.length) [A, B, C] (fun l hl => row_cases (by omega) (by
    simp only [List.mem_cons, List.not_mem_nil, or_false] at hl
    rcases hl with rfl | rfl | rfl <;> assumption)) with ⟨qss, h1, h2⟩ | ⟨j, l, h1, h2, h3⟩
  · match qss, h1 with
    | [a, b, c], _ => exact .inl ⟨a, b, c, h2 0 A a rfl rfl, h2 1 B b rfl rfl, h2 2 C c rfl rfl⟩
  · exact .inr (fit7_bad (ls := [A, B, C]) rfl (by omega) rfl h1 h2 h3)
/-- Two rows in. -/
theorem fit7_2 {A B : List Ag} (hA : ∀ x ∈ A, x.In) (hB : ∀ x ∈ B, x.In) : (∃ a b, RowGood 5 16 A.length A a ∧ RowGood 5 16 A.length B b) ∨
    FitsP 33 [.cel (.ent (rowOf 2 [.ent (rowOf A.length (A.flatMap agC)), .ent (rowOf B.length (B.flatMap agC))]))] [] (.one (boolS false)) := by
  rcases first_or (G := fun l qs => RowGood 5 16 A.length l qs) (B := RowBad 5 16 A.length) [A, B] (fun l hl => row_cases (by omega) (by
    simp only [List.mem_cons, List.not_mem_nil, or_false] at hl
    rcases hl with rfl | rfl <;> assumption)) with ⟨qss, h1, h2⟩ | ⟨j, l, h1, h2, h3⟩
  · match qss, h1 with
    | [a, b], _ => exact .inl ⟨a, b, h2 0 A a rfl rfl, h2 1 B b rfl rfl⟩
  · exact .inr (fit7_bad (ls := [A, B]) rfl (by omega) rfl h1 h2 h3)
/-- One row in. -/
theorem fit7_1 {A : List Ag} (hA : ∀ x ∈ A, x.In) : (∃ a, RowGood 5 16 A.length A a) ∨ FitsP 33 [.cel (.ent (rowOf 1 [.ent (rowOf A.length (A.flatMap agC))]))] [] (.one (boolS false)) := by
  rcases first_or (G := fun l qs => RowGood 5 16 A.length l qs) (B := RowBad 5 16 A.length) [A] (fun l hl => row_cases (by omega) (by
    simp only [List.mem_cons, List.not_mem_nil, or_false] at hl
    rcases hl with rfl <;> assumption)) with ⟨qss, h1, h2⟩ | ⟨j, l, h1, h2, h3⟩
  · match qss, h1 with
    | [a], _ => exact .inl ⟨a, h2 0 A a rfl rfl⟩
  · exact .inr (fit7_bad (ls := [A]) rfl (by omega) rfl h1 h2 h3)
end Go.Proofs.YtejkcmklhmifaaaGreatDoor
