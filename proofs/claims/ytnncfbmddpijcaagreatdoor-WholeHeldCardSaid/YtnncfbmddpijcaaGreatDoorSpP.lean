
/- Spans as pairs: what they hold, how long they are. -/
import Derived.Test.YtnncfbmddpijcaaGreatDoorRowF
import Derived.Test.YtnncfbmddpijcaaGreatDoorSpS
import Derived.Test.YtnncfbmddpijcaaGreatDoorSpL
import Derived.Test.YtnncfbmddpijcaaGreatDoorSpM
namespace Go.Proofs.YtnncfbmddpijcaaGreatDoor
open Go Go.RowKit Go.Shelf AM
/-- A span: its two ends. -/
def spQ (s : Dy × Dy) : Sv := spS s.1 s.2
def spC (s : Dy × Dy) : List Cv := [.raw (.bool (decide (s.1.m < 0))), .ent (nat s.1.m.natAbs), .raw (.int .i64 s.1.e), .raw (.bool (decide (s.2.m < 0))), .ent (nat s.2.m.natAbs), .raw (.int .i64 s.2.e)]
def spZ : List Cv := [.raw (.bool false), .raw (.slice none 0 0), .raw (.int .i64 0), .raw (.bool false), .raw (.slice none 0 0), .raw (.int .i64 0)]
theorem spC_len (s : Dy × Dy) : (spC s).length = 6 := rfl
theorem spC_shut (s : Dy × Dy) : ∀ c ∈ spC s, varsC c = [] := by
  intro c hc
  simp only [spC, List.mem_cons, List.not_mem_nil, or_false] at hc
  rcases hc with rfl | rfl | rfl | rfl | rfl | rfl <;> rfl
theorem spZ_shut : ∀ c ∈ spZ, varsC c = [] := by
  intro c hc
  simp only [spZ, List.mem_cons, List.not_mem_nil, or_false] at hc
  rcases hc with rfl | rfl | rfl | rfl | rfl | rfl <;> rfl
abbrev spansN (n : Nat) (xs : List (Dy × Dy)) : Sv := .cel (.ent (rowOf n (xs.flatMap spC)))
abbrev bits1 (b : Int) : Cv := .ent (ptrTo [.raw (.int .i64 b)])
theorem nearX {b : Nat} {w : Int} (hw : w = (b : Int)) (c : Dy) {r : Rat} (hq : BQ 4 r) (hb : 2 ≤ b) (hb2 : b ≤ 4096) (hc : c.Ok) (hf : Few b c) (h : dv c = r) : FitsP 4 [rq r, intS w] [] (.tup [spQ (c, c), ok0]) :=
  nearSL hw c c hq hb hb2 (by rw [← h]; exact nr_of hc hf) (by rw [← h, ← negD_dv]; exact nr_of hc.neg (by unfold Few at hf ⊢; unfold negD; simpa using hf))
theorem mem_get {α : Type} {P : α → Prop} {xs : List α} (h : ∀ x ∈ xs, P x) {k : Nat} {x : α} (hx : xs[k]? = some x) : P x := h x (List.mem_of_getElem? hx)
/-- A ratio's span; what spans come to. -/
def nearP (b : Nat) (q : Rat) : Dy × Dy := (nrD b q, nuD b q)
def plusP (b : Nat) (s t : Dy × Dy) : Dy × Dy := (rdD b (addD s.1 t.1), ruD b (addD s.2 t.2))
def mulP (b : Nat) (s t : Dy × Dy) : Dy × Dy := (rdD b (loM s.1 s.2 t.1 t.2), ruD b (hiM s.1 s.2 t.1 t.2))
def roundP (b : Nat) (s : Dy × Dy) : Dy × Dy := (rdD b s.1, ruD b s.2)
/-- A span holds a number. -/
def Hld (s : Dy × Dy) (q : Rat) : Prop := dv s.1 ≤ q ∧ q ≤ dv s.2
def BDp (n k : Nat) (s : Dy × Dy) : Prop := BD n k s.1 ∧ BD n k s.2
section
variable {b n k m j : Nat} {s t : Dy × Dy} {p q : Rat}
theorem BDp.mono (h : BDp n k s) (hn : n ≤ m) (hk : k ≤ j) : BDp m j s := ⟨h.1.mono hn hk, h.2.mono hn hk⟩
theorem near_hld : Hld (nearP b q) q := ⟨nr_le, nu_ge⟩
theorem near_bd (hq : BQ n q) (hb : 1 ≤ b) (hb2 : b ≤ 4096) : BDp (n + 2) (n + 129) (nearP b q) := ⟨BD.nr hq hb hb2, BD.nu hq hb hb2⟩
theorem plus_hld (h1 : Hld s p) (h2 : Hld t q) : Hld (plusP b s t) (p + q) := by
  refine ⟨Rat.le_trans (rd_le b _) ?_, Rat.le_trans ?_ (ru_ge b _)⟩
  · rw [addD_dv]; have := h1.1; have := h2.1; grind
  · rw [addD_dv]; have := h1.2; have := h2.2; grind
theorem plus_bd (hb : 1 ≤ b) (h1 : BDp n k s) (h2 : BDp n k t) : BDp (n + 2) k (plusP b s t) := ⟨(BD.add h1.1 h2.1).rd hb, (BD.add h1.2 h2.2).ru hb⟩
theorem mul_hld (h1 : Hld s p) (h2 : Hld t q) : Hld (mulP b s t) (p * q) := ⟨Rat.le_trans (rd_le b _) (loM_le h1.1 h1.2 h2.1 h2.2), Rat.le_trans (hiM_ge h1.1 h1.2 h2.1 h2.2) (ru_ge b _)⟩
theorem mul_bd (hb : 1 ≤ b) (h1 : BDp n k s) (h2 : BDp m j t) : BDp (n + m + 1) (k + j) (mulP b s t) := ⟨(loM_bd h1.1 h1.2 h2.1 h2.2).rd hb, (hiM_bd h1.1 h1.2 h2.1 h2.2).ru hb⟩
theorem round_hld (h1 : Hld s p) : Hld (roundP b s) p := ⟨Rat.le_trans (rd_le b _) h1.1, Rat.le_trans h1.2 (ru_ge b _)⟩
theorem round_bd (hb : 1 ≤ b) (h1 : BDp n k s) : BDp (n + 1) k (roundP b s) := ⟨h1.1.rd hb, h1.2.ru hb⟩
theorem hldQ_f (hs : BDp n k s) (hq : BQ m q) (hk : n + k + 1 + m ≤ 512) (h : Hld s q) : FitsP 15 [spQ s, rq q] [] (.tup [boolS true, ok0]) := hasQ_f hs.1 hs.2 hq hk rfl rfl h.1 h.2
end
theorem bdp_zero {n k : Nat} : BDp n k (⟨0, 0⟩, ⟨0, 0⟩) := ⟨BD.zero, BD.zero⟩
theorem getD_at {α : Type} {xs : List α} {k : Nat} {x d : α} (h : xs[k]? = some x) : xs.getD k d = x := by rw [List.getD_eq_getElem?_getD, h]; rfl
end Go.Proofs.YtnncfbmddpijcaaGreatDoor
