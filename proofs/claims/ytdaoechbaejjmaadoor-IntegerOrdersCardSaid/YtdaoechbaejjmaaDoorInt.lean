/- Whole numbers as values: their sign and their size. -/
import Derived.Test.YtdaoechbaejjmaaDoorNm
import Derived.Deep.RegionHeld3
import Derived.Deep.DrawnRows
namespace Go.Proofs.YtdaoechbaejjmaaDoor
open Go Go.RowKit Go.Shelf

/-- The number of a sign and a size. -/
def sg (m : Bool) (x : Nat) : Int := if m then -(x : Int) else (x : Int)
/-- v is the whole number z in w: 0 is not below 0. -/
def Im (w : World) (v : Value) (z : Int) : Prop := ∃ A c n, v = .agg #[.bool (decide (z < 0)), .slice A n c] ∧ Nm w (.slice A n c) z.natAbs
theorem Im.below {w w' : World} {v : Value} {z : Int} (h : Im w v z) (hb : Below w.heap.size w w') : Im w' v z := by
  obtain ⟨A, c, n, rfl, h1⟩ := h
  exact ⟨A, c, n, rfl, h1.below hb⟩
theorem sg_natAbs (m : Bool) (x : Nat) : (sg m x).natAbs = x := by cases m <;> simp [sg]
theorem sg_neg (m : Bool) (x : Nat) : decide (sg m x < 0) = (m && decide (0 < x)) := by
  cases m
  · simp [sg]
  · simp only [sg, if_true, Bool.true_and, decide_eq_decide]; omega
theorem sg_of (z : Int) : sg (decide (z < 0)) z.natAbs = z := by
  by_cases h : z < 0
  · rw [decide_eq_true h]; simp only [sg, if_true]; omega
  · rw [decide_eq_false h]; simp only [sg, Bool.false_eq_true, if_false]; omega
theorem Im.zero (w : World) : Im w (.agg #[.bool false, .slice none 0 0]) 0 := ⟨none, 0, 0, rfl, Nm.nil w⟩
/-- What is returned is the whole number z. -/
def RetI (w : World) (z : Int) (e : Ending) (w' : World) : Prop := ∃ v, e = .returned v ∧ Im w' v z ∧ Below w.heap.size w w'
def RetI0 (w : World) (z : Int) (e : Ending) (w' : World) : Prop := ∃ v, e = .returned (.tuple #[v, .int .i64 0]) ∧ Im w' v z ∧ Below w.heap.size w w'
def RetIE (w : World) (c : Int) (e : Ending) (w' : World) : Prop := e = .returned (.tuple #[.agg #[.bool false, .slice none 0 0], .int .i64 c]) ∧ Below w.heap.size w w'
theorem Nm.slice {w : World} {v : Value} {x : Nat} (h : Nm w v x) : ∃ A c n, v = .slice A n c ∧ decide ((n : Int) > 0) = decide (0 < x) ∧ ((n : Int) == 0) = decide (x = 0) := by
  obtain ⟨A, c, zs, rfl, ho, rfl⟩ := h
  have e : zs.length = 0 ↔ val 4294967296 zs = 0 := by
    refine ⟨fun h => ?_, fun h => ?_⟩
    · have : zs = [] := List.eq_nil_of_length_eq_zero h
      rw [this]; rfl
    · rw [ho.2.1.nil_of (by omega) h]; rfl
  refine ⟨A, c, zs.length, rfl, ?_, ?_⟩
  · rw [decide_eq_decide]; omega
  · rw [Bool.eq_iff_iff, beq_iff_eq, decide_eq_true_iff]; omega

set_option maxRecDepth 100000 in
theorem signed_c (w : World) (m : Bool) (va : Value) (x : Nat) (ha : Nm w va x) : Calls Tryd.prog 81 #[.bool m, va] w (RetI w (sg m x)) := by
  obtain ⟨A, c, n, rfl, h0, _⟩ := ha.slice
  have HA := Lib.hid (And.intro ha h0)
  clear ha h0
  have hres : ∀ b : Bool, b = (m && decide (0 < x)) → RetI w (sg m x) (.returned (.agg #[.bool b, .slice A n c])) (w.alloc (.cells #[.bool b, .slice A n c] 59)) := fun b hb => by
    have hw := (Below.refl w.heap.size w).alloc (Nat.le_refl _) (.cells #[.bool b, .slice A n c] 59)
    refine ⟨_, rfl, ⟨A, c, n, by rw [sg_neg, hb], ?_⟩, hw⟩
    rw [sg_natAbs]; exact HA.out.1.below hw
  have HRes := Lib.hid hres
  clear hres
  cases m with
  | false =>
    go_enter Tryd.func81, Tryd.ntmps81
    go_wp2_with fail
    exact bodyPost_ret (v := .agg #[.bool false, .slice A n c]) (by simp [results, Tryd.results81, go_sem]) rfl (HRes.out false rfl)
  | true =>
    have HB := Lib.hid (show decide (0 < n) = (true && decide (0 < x)) by
      rw [Bool.true_and, ← HA.out.2, decide_eq_decide]; omega)
    go_enter Tryd.func81, Tryd.ntmps81
    go_wp2_with fail
    exact bodyPost_ret (v := .agg #[.bool (decide (0 < n)), .slice A n c]) (by simp [results, Tryd.results81, go_sem]) rfl (HRes.out _ HB.out)

/-- A variable of that type, in a block of its own. -/
def BoxI (w : World) (g : Nat) (a b : Value) : Prop := w.heap[g]? = some (.cells #[a, b] 59 (0, 0))
theorem BoxI.new (w : World) (a b : Value) : BoxI (w.alloc (.cells #[a, b] 59)) w.heap.size a b := World.alloc_heap_new w _
theorem BoxI.lt {w : World} {g : Nat} {a b : Value} (h : BoxI w g a b) : g < w.heap.size := (Array.getElem?_eq_some_iff.1 h).1
theorem BoxI.below {w w' : World} {g : Nat} {a b : Value} (h : BoxI w g a b) (hb : Below w.heap.size w w') : BoxI w' g a b := (hb.block g h.lt).trans h
theorem BoxI.cells {w : World} {g : Nat} {a b : Value} (h : BoxI w g a b) : w.cell? ⟨g, 0, none⟩ = some a ∧ w.cell? ⟨g, 1, none⟩ = some b ∧ w.frozen? ⟨g, 0, none⟩ = false ∧ w.frozen? ⟨g, 1, none⟩ = false :=
  ⟨by rw [Lib.cell_of_heap h]; rfl, by rw [Lib.cell_of_heap h]; rfl, Lib.frozen_of_heap h 0, Lib.frozen_of_heap h 1⟩
theorem below_put {w : World} {B g : Nat} {a b : Value} (hB : B ≤ g) : Below B w ((w.setCell ⟨g, 0, none⟩ a).setCell ⟨g, 1, none⟩ b) := ((Below.refl B w).setCell (p := ⟨g, 0, none⟩) hB a).setCell (p := ⟨g, 1, none⟩) hB b

theorem Rd.far {k : IntKind} {w : World} {v : Value} {zs : List Nat} (h : Rd k w v zs) {p : Addr} (hp : ∀ (j : Nat) (z : Int), w.cell? ⟨p.block, j, none⟩ ≠ some (.int k z)) (u : Value) : Rd k (w.setCell p u) v zs := by
  obtain ⟨A, cap, rfl, h1, h2, h3⟩ := h
  refine ⟨A, cap, rfl, h1, h2, fun h0 => ?_⟩
  obtain ⟨b, off, rfl, hlt, hc⟩ := h3 h0
  have hne : b ≠ p.block := by
    rintro rfl
    exact hp _ _ (hc 0 _ (List.getElem?_eq_getElem h0))
  exact ⟨b, off, rfl, by simpa [World.setCell] using hlt, fun j x hx => (World.cell?_of_block (w := w) (Below.heap_setCell w p u b hne)).trans (hc j x hx)⟩
def notNum : Value → Bool
  | .int _ _ => false
  | _ => true
theorem BoxI.no_num {w : World} {g : Nat} {a b : Value} (h : BoxI w g a b) (ha : notNum a = true) (hb : notNum b = true) (k : IntKind) (j : Nat) (z : Int) : w.cell? ⟨g, j, none⟩ ≠ some (.int k z) := by
  rw [Lib.cell_of_heap h]
  match j with
  | 0 => intro e; simp at e; rw [e] at ha; cases ha
  | 1 => intro e; simp at e; rw [e] at hb; cases hb
  | j + 2 => intro e; simp at e
theorem BoxI.set0 {w : World} {g : Nat} {a b : Value} (h : BoxI w g a b) (u : Value) : BoxI (w.setCell ⟨g, 0, none⟩ u) g u b := by
  unfold BoxI at h ⊢
  simp [World.setCell, Array.getElem?_modify, h]
theorem BoxI.set1 {w : World} {g : Nat} {a b : Value} (h : BoxI w g a b) (u : Value) : BoxI (w.setCell ⟨g, 1, none⟩ u) g a u := by
  unfold BoxI at h ⊢
  simp [World.setCell, Array.getElem?_modify, h]
/-- A variable turned: a number that lies elsewhere stays. -/
theorem Nm.put {w : World} {v : Value} {x g : Nat} {a b a' b' : Value} (h : Nm w v x) (hB : BoxI w g a b) (ha : notNum a = true) (hb : notNum b = true) (ha' : notNum a' = true) : Nm ((w.setCell ⟨g, 0, none⟩ a').setCell ⟨g, 1, none⟩ b') v x := by
  obtain ⟨A, cap, zs, rfl, ⟨hr, hc⟩, hv⟩ := h
  exact ⟨A, cap, zs, rfl, ⟨(hr.far (p := ⟨g, 0, none⟩) (hB.no_num ha hb _) a').far (p := ⟨g, 1, none⟩) ((hB.set0 a').no_num ha' hb _) b', hc⟩, hv⟩
/-- What is had of a result's variable. -/
theorem retI0_put {w w2 : World} {A : Option Addr} {c n g : Nat} {z : Int} {m : Bool} {a b : Value} (hm : decide (z < 0) = m) (hB : BoxI w2 g a b) (ha : notNum a = true) (hb : notNum b = true) (hg : w.heap.size ≤ g) (h1 : Nm w2 (.slice A n c) z.natAbs) (hw : Below w.heap.size w w2) :
    RetI0 w z (.returned (.tuple #[.agg #[.bool m, .slice A n c], .int .i64 0])) ((w2.setCell ⟨g, 0, none⟩ (.bool m)).setCell ⟨g, 1, none⟩ (.slice A n c)) := by
  subst hm
  exact ⟨_, rfl, ⟨A, c, n, rfl, h1.put hB ha hb rfl⟩, hw.trans (below_put hg)⟩
theorem retI_put {w w2 : World} {A : Option Addr} {c n g : Nat} {z : Int} {m : Bool} {a b : Value} (hm : decide (z < 0) = m) (hB : BoxI w2 g a b) (ha : notNum a = true) (hb : notNum b = true) (hg : w.heap.size ≤ g) (h1 : Nm w2 (.slice A n c) z.natAbs) (hw : Below w.heap.size w w2) :
    RetI w z (.returned (.agg #[.bool m, .slice A n c])) ((w2.setCell ⟨g, 0, none⟩ (.bool m)).setCell ⟨g, 1, none⟩ (.slice A n c)) := by
  subst hm
  exact ⟨_, rfl, ⟨A, c, n, rfl, h1.put hB ha hb rfl⟩, hw.trans (below_put hg)⟩
theorem Im.cases {w : World} {v : Value} {z : Int} (h : Im w v z) : ∃ (m : Bool) (A : Option Addr) (c n : Nat), v = .agg #[.bool m, .slice A n c] ∧ decide (z < 0) = m ∧ Nm w (.slice A n c) z.natAbs := by
  obtain ⟨A, c, n, rfl, h1⟩ := h
  exact ⟨_, A, c, n, rfl, rfl, h1⟩

set_option maxRecDepth 100000 in
/-- A number by its sign and its size, beside no error. -/
theorem answer_ok (w : World) (m : Bool) (va : Value) (x : Nat) (ha : Nm w va x) : Calls Tryd.prog 82 #[.bool m, va, .int .i64 0] w (RetI0 w (sg m x)) := by
  have HA := Lib.hid ha
  clear ha
  go_enter Tryd.func82, Tryd.ntmps82
  go_wp2_with fail
  have HW := Lib.hid ((Below.refl w.heap.size w).alloc (Nat.le_refl _) (.cells #[.bool false, .slice none 0 0] 59))
  refine (signed_c _ m va x (HA.out.below HW.out)).mono ?_
  rintro e w2 ⟨v, rfl, hv, hb⟩
  obtain ⟨m2, A, c, n, rfl, hm2, h1⟩ := hv.cases
  have HB := Lib.hid ((BoxI.new w (.bool false) (.slice none 0 0)).below hb)
  obtain ⟨c0, c1, f0, f1⟩ := HB.out.cells
  have H2 := Lib.hid (And.intro h1 (And.intro (below_trans HW.out hb) hm2))
  clear h1 hb hv hm2
  go_wp2_with fail
  exact bodyPost_ret (v := .tuple #[.agg #[.bool m2, .slice A n c], .int .i64 0]) (by simp [results, Tryd.results82, go_sem, c0, c1]) rfl (retI0_put H2.out.2.2 HB.out rfl rfl (Nat.le_refl _) H2.out.1 H2.out.2.1)

set_option maxRecDepth 100000 in
/-- An error, and none beside it. -/
theorem answer_err (w : World) (m : Bool) (va : Value) (c : Int) (hc : c ≠ 0) : Calls Tryd.prog 82 #[.bool m, va, .int .i64 c] w (RetIE w c) := by
  have hb : (c != 0) = true := by rw [bne_iff_ne]; exact hc
  have hb2 : (c == 0) = false := by rw [beq_eq_false_iff_ne]; exact hc
  clear hc
  go_enter Tryd.func82, Tryd.ntmps82
  go_wp2_with fail
  exact bodyPost_ret (v := .tuple #[.agg #[.bool false, .slice none 0 0], .int .i64 c]) (by simp [results, Tryd.results82, go_sem]) rfl ⟨rfl, (Below.refl _ w).alloc (Nat.le_refl _) _⟩
end Go.Proofs.YtdaoechbaejjmaaDoor