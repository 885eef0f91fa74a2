/- Whole numbers as values: their sign and their size. -/
import Derived.Test.YtlgfjgkcgimdoaaDoorNm
import Derived.Deep.RegionHeld3
import Derived.Deep.DrawnRows
namespace Go.Proofs.YtlgfjgkcgimdoaaDoor
open Go Go.RowKit Go.Shelf

/-- The number of a sign and a size. -/
def sg (m : Bool) (x : Nat) : Int := if m then -(x : Int) else (x : Int)
/-- v is the whole number z in w: 0 is not below 0. -/
def Im (w : World) (v : Value) (z : Int) : Prop := ∃ A c n, v = .agg #[.bool (decide (z < 0)), .slice A n c] ∧ Nm w (.slice A n c) z.natAbs
theorem Im.below {w w' : World} {v : Value} {z : Int} (h : Im w v z) (hb : Below w.heap.size w w') : Im w' v z := by
  obtain ⟨A, c, n, rfl, h1⟩ := h
  exact ⟨A, c, n, rfl, h1.below hb⟩
theorem sg_natAbs (m : Bool) (x : Nat) : (sg m x).natAbs = x := by cases m <;> simp [sg]
theorem sg_neg (m : Bool) (x : Nat) : decide (sg m x < 0) = (m && decide (0 < x)) := by
  cases m
  · simp [sg]
  · simp only [sg, if_true, Bool.true_and, decide_eq_decide]; omega
theorem sg_of (z : Int) : sg (decide (z < 0)) z.natAbs = z := by
  by_cases h : z < 0
  · rw [decide_eq_true h]; simp only [sg, if_true]; omega
  · rw [decide_eq_false h]; simp only [sg, Bool.false_eq_true, if_false]; omega
theorem Im.zero (w : World) : Im w (.agg #[.bool false, .slice none 0 0]) 0 := ⟨none, 0, 0, rfl, Nm.nil w⟩
/-- What is returned is the whole number z. -/
def RetI (w : World) (z : Int) (e : Ending) (w' : World) : Prop := ∃ v, e = .returned v ∧ Im w' v z ∧ Below w.heap.size w w'
def RetI0 (w : World) (z : Int) (e : Ending) (w' : World) : Prop := ∃ v, e = .returned (.tuple #[v, .int .i64 0]) ∧ Im w' v z ∧ Below w.heap.size w w'
def RetIE (w : World) (c : Int) (e : Ending) (w' : World) : Prop := e = .returned (.tuple #[.agg #[.bool false, .slice none 0 0], .int .i64 c]) ∧ Below w.heap.size w w'
theorem Nm.slice {w : World} {v : Value} {x : Nat} (h : Nm w v x) : ∃ A c n, v = .slice A n c ∧ decide ((n : Int) > 0) = decide (0 < x) ∧ ((n : Int) == 0) = decide (x = 0) := by
  obtain ⟨A, c, zs, rfl, ho, rfl⟩ := h
  have e : zs.length = 0 ↔ val 4294967296 zs = 0 := by
    refine ⟨fun h => ?_, fun h => ?_⟩
    · have : zs = [] := List.eq_nil_of_length_eq_zero h
      rw [this]; rfl
    · rw [ho.2.1.nil_of (by omega) h]; rfl
  refine ⟨A, c, zs.length, rfl, ?_, ?_⟩
  · rw [decide_eq_decide]; omega
  · rw [Bool.eq_iff_iff, beq_iff_eq, decide_eq_true_iff]; omega

set_option maxRecDepth 100000 in
theorem signed_c (w : World) (m : Bool) (va : Value) (x : Nat) (ha : Nm w va x) : Calls Tryd.prog 36 #[.bool m, va] w (RetI w (sg m x)) := by
  obtain ⟨A, c, n, rfl, h0, _⟩ := ha.slice
  have HA := Lib.hid (And.intro ha h0)
  clear ha h0
  have hres : ∀ b : Bool, b = (m && decide (0 < x)) → RetI w (sg m x) (.returned (.agg #[.bool b, .slice A n c])) (w.alloc (.cells #[.bool b, .slice A n c] 25)) := fun b hb => by
    have hw := (Below.refl w.heap.size w).alloc (Nat.le_refl _) (.cells #[.bool b, .slice A n c] 25)
    refine ⟨_, rfl, ⟨A, c, n, by rw [sg_neg, hb], ?_⟩, hw⟩
    rw [sg_natAbs]; exact HA.out.1.below hw
  have HRes := Lib.hid hres
  clear hres
  cases m with
  | false =>
    go_enter Tryd.func36, Tryd.ntmps36
    go_wp2_with fail
    exact bodyPost_ret (v := .agg #[.bool false, .slice A n c]) (by simp [results, Tryd.results36, go_sem]) rfl (HRes.out false rfl)
  | true =>
    have HB := Lib.hid (show decide (0 < n) = (true && decide (0 < x)) by
      rw [Bool.true_and, ← HA.out.2, decide_eq_decide]; omega)
    go_enter Tryd.func36, Tryd.ntmps36
    go_wp2_with fail
    exact bodyPost_ret (v := .agg #[.bool (decide (0 < n)), .slice A n c]) (by simp [results, Tryd.results36, go_sem]) rfl (HRes.out _ HB.out)

/-- A variable of that type, in a block of its own. -/
def BoxI (w : World) (g : Nat) (a b : Value) : Prop := w.heap[g]? = some (.cells #[a, b] 25 (0, 0))
theorem BoxI.new (w : World) (a b : Value) : BoxI (w.alloc (.cells #[a, b] 25)) w.heap.size a b := World.alloc_heap_new w _
theorem BoxI.lt {w : World} {g : Nat} {a b : Value} (h : BoxI w g a b) : g < w.heap.size := (Array.getElem?_eq_some_iff.1 h).1
theorem BoxI.below {w w' : World} {g : Nat} {a b : Value} (h : BoxI w g a b) (hb : Below w.heap.size w w') : BoxI w' g a b := (hb.block g h.lt).trans h
theorem BoxI.cells {w : World} {g : Nat} {a b : Value} (h : BoxI w g a b) : w.cell? ⟨g, 0, none⟩ = some a ∧ w.cell? ⟨g, 1, none⟩ = some b ∧ w.frozen? ⟨g, 0, none⟩ = false ∧ w.frozen? ⟨g, 1, none⟩ = false :=
  ⟨by rw [Lib.cell_of_heap h]; rfl, by rw [Lib.cell_of_heap h]; rfl, Lib.frozen_of_heap h 0, Lib.frozen_of_heap h 1⟩
theorem below_put {w : World} {B g : Nat} {a b : Value} (hB : B ≤ g) : Below B w ((w.setCell ⟨g, 0, none⟩ a).setCell ⟨g, 1, none⟩ b) := ((Below.refl B w).setCell (p := ⟨g, 0, none⟩) hB a).setCell (p := ⟨g, 1, none⟩) hB b

theorem Rd.far {k : IntKind} {w : World} {v : Value} {zs : List Nat} (h : Rd k w v zs) {p : Addr} (hp : ∀ (j : Nat) (z : Int), w.cell? ⟨p.block, j, none⟩ ≠ some (.int k z)) (u : Value) : Rd k (w.setCell p u) v zs := by
  obtain ⟨A, cap, rfl, h1, h2, h3⟩ := h
  refine ⟨A, cap, rfl, h1, h2, fun h0 => ?_⟩
  obtain ⟨b, off, rfl, hlt, hc⟩ := h3 h0
  have hne : b ≠ p.block := by
    rintro rfl
    exact hp _ _ (hc 0 _ (List.getElem?_eq_getElem h0))
  exact ⟨b, off, rfl, by simpa [World.setCell] using hlt, fun j x hx => (World.cell?_of_block (w := w) (Below.heap_setCell w p u b hne)).trans (hc j x hx)⟩
def notNum : Value → Bool
  | .int _ _ => false
  | _ => true
theorem BoxI.no_num {w : World} {g : Nat} {a b : Value} (h : BoxI w g a b) (ha : notNum a = true) (hb : notNum b = true) (k : IntKind) (j : Nat) (z : Int) : w.cell? ⟨g, j, none⟩ ≠ some (.int k z) := by
  rw [Lib.cell_of_heap h]
  match j with
  | 0 => intro e; simp at e; rw [e] at ha; cases ha
  | 1 => intro e; simp at e; rw [e] at hb; cases hb
  | j + 2 => intro e; simp at e
theorem BoxI.set0 {w : World} {g : Nat} {a b : Value} (h : BoxI w g a b) (u : Value) : BoxI (w.setCell ⟨g, 0, none⟩ u) g u b := by
  unfold BoxI at h ⊢
  simp [World.setCell, Array.getElem?_modify, h]
theorem BoxI.set1 {w : World} {g : Nat} {a b : Value} (h : BoxI w g a b) (u : Value) : BoxI (w.setCell ⟨g, 1, none⟩ u) g a u := by
  unfold BoxI at h ⊢
  simp [World.setCell, Array.getElem?_modify, h]
/-- A variable turned: a number that lies elsewhere stays. -/
theorem Nm.put {w : World} {v : Value} {x g : Nat} {a b a' b' : Value} (h : Nm w v x) (hB : BoxI w g a b) (ha : notNum a = true) (hb : notNum b = true) (ha' : notNum a' = true) : Nm ((w.setCell ⟨g, 0, none⟩ a').setCell ⟨g, 1, none⟩ b') v x := by
  obtain ⟨A, cap, zs, rfl, ⟨hr, hc⟩, hv⟩ := h
  exact ⟨A, cap, zs, rfl, ⟨(hr.far (p := ⟨g, 0, none⟩) (hB.no_num ha hb _) a').far (p := ⟨g, 1, none⟩) ((hB.set0 a').no_num ha' hb _) b', hc⟩, hv⟩
/-- What is had of a result's variable. -/
theorem retI0_put {w w2 : World} {A : Option Addr} {c n g : Nat} {z : Int} {m : Bool} {a b : Value} (hm : decide (z < 0) = m) (hB : BoxI w2 g a b) (ha : notNum a = true) (hb : notNum b = true) (hg : w.heap.size ≤ g) (h1 : Nm w2 (.slice A n c) z.natAbs) (hw : Below w.heap.size w w2) :
    RetI0 w z (.returned (.tuple #[.agg #[.bool m, .slice A n c], .int .i64 0])) ((w2.setCell ⟨g, 0, none⟩ (.bool m)).setCell ⟨g, 1, none⟩ (.slice A n c)) := by
  subst hm
  exact ⟨_, rfl, ⟨A, c, n, rfl, h1.put hB ha hb rfl⟩, hw.trans (below_put hg)⟩
theorem retI_put {w w2 : World} {A : Option Addr} {c n g : Nat} {z : Int} {m : Bool} {a b : Value} (hm : decide (z < 0) = m) (hB : BoxI w2 g a b) (ha : notNum a = true) (hb : notNum b = true) (hg : w.heap.size ≤ g) (h1 : Nm w2 (.slice A n c) z.natAbs) (hw : Below w.heap.size w w2) :
    RetI w z (.returned (.agg #[.bool m, .slice A n c])) ((w2.setCell ⟨g, 0, none⟩ (.bool m)).setCell ⟨g, 1, none⟩ (.slice A n c)) := by
  subst hm
  exact ⟨_, rfl, ⟨A, c, n, rfl, h1.put hB ha hb rfl⟩, hw.trans (below_put hg)⟩
theorem Im.cases {w : World} {v : Value} {z : Int} (h : Im w v z) : ∃ (m : Bool) (A : Option Addr) (c n : Nat), v = .agg #[.bool m, .slice A n c] ∧ decide (z < 0) = m ∧ Nm w (.slice A n c) z.natAbs := by
  obtain ⟨A, c, n, rfl, h1⟩ := h
  exact ⟨_, A, c, n, rfl, rfl, h1⟩

set_option maxRecDepth 100000 in
/-- A number by its sign and its size, beside no error. -/
theorem answer_ok (w : World) (m : Bool) (va : Value) (x : Nat) (ha : Nm w va x) : Calls Tryd.prog 31 #[.bool m, va, .int .i64 0] w (RetI0 w (sg m x)) := by
  have HA := Lib.hid ha
  clear ha
  go_enter Tryd.func31, Tryd.ntmps31
  go_wp2_with fail
  have HW := Lib.hid ((Below.refl w.heap.size w).alloc (Nat.le_refl _) (.cells #[.bool false, .slice none 0 0] 25))
  refine (signed_c _ m va x (HA.out.below HW.out)).mono ?_
  rintro e w2 ⟨v, rfl, hv, hb⟩
  obtain ⟨m2, A, c, n, rfl, hm2, h1⟩ := hv.cases
  have HB := Lib.hid ((BoxI.new w (.bool false) (.slice none 0 0)).below hb)
  obtain ⟨c0, c1, f0, f1⟩ := HB.out.cells
  have H2 := Lib.hid (And.intro h1 (And.intro (below_trans HW.out hb) hm2))
  clear h1 hb hv hm2
  go_wp2_with fail
  exact bodyPost_ret (v := .tuple #[.agg #[.bool m2, .slice A n c], .int .i64 0]) (by simp [results, Tryd.results31, go_sem, c0, c1]) rfl (retI0_put H2.out.2.2 HB.out rfl rfl (Nat.le_refl _) H2.out.1 H2.out.2.1)

set_option maxRecDepth 100000 in
/-- An error, and none beside it. -/
theorem answer_err (w : World) (m : Bool) (va : Value) (c : Int) (hc : c ≠ 0) : Calls Tryd.prog 31 #[.bool m, va, .int .i64 c] w (RetIE w c) := by
  have hb : (c != 0) = true := by rw [bne_iff_ne]; exact hc
  have hb2 : (c == 0) = false := by rw [beq_eq_false_iff_ne]; exact hc
  clear hc
  go_enter Tryd.func31, Tryd.ntmps31
  go_wp2_with fail
  exact bodyPost_ret (v := .tuple #[.agg #[.bool false, .slice none 0 0], .int .i64 c]) (by simp [results, Tryd.results31, go_sem]) rfl ⟨rfl, (Below.refl _ w).alloc (Nat.le_refl _) _⟩
end Go.Proofs.YtlgfjgkcgimdoaaDoor

/- Whole numbers: made, told, turned, compared. -/
namespace Go.Proofs.YtlgfjgkcgimdoaaDoor
open Go Go.RowKit Go.Shelf
attribute [local go_sem ↓] Go.wp_at_zero Go.wp_at_succ

def sign3 (z : Int) : Int := if z < 0 then -1 else if z = 0 then 0 else 1
/-- The world with a boxed argument. -/
theorem box_below (w : World) (a b : Value) : Below w.heap.size w (w.alloc (.cells #[a, b] 25)) := (Below.refl _ w).alloc (Nat.le_refl _) _

set_option maxRecDepth 100000 in
theorem sign_c (w : World) (v : Value) (z : Int) (hv : Im w v z) : Calls Tryd.prog 23 #[v] w fun e w' => e = .returned (.int .i64 (sign3 z)) ∧ Below w.heap.size w w' := by
  obtain ⟨m, A, c, n, rfl, hm, h1⟩ := hv.cases
  have H1 := Lib.hid (And.intro h1 hm)
  clear hv h1 hm
  go_enter Tryd.func23, Tryd.ntmps23
  have HW := Lib.hid (box_below w (.bool m) (.slice A n c))
  have HN := Lib.hid (BoxI.new w (.bool m) (.slice A n c))
  go_wp2_with fail
  refine (bits_n (H1.out.1.below HW.out)).mono ?_
  rintro e w2 ⟨nb, rfl, hnb, hb⟩
  obtain ⟨c0, c1, f0, f1⟩ := (HN.out.below hb).cells
  have H2 := Lib.hid (And.intro hnb (below_trans HW.out hb))
  clear hnb hb f0 f1 c1
  rcases Nat.eq_zero_or_pos z.natAbs with hz | hz
  · have h0 : nb = 0 := isBits_none (by have := H2.out.1; rwa [hz] at this)
    subst h0
    have hs : sign3 z = 0 := by unfold sign3; rw [if_neg (by omega), if_pos (by omega)]
    have HS := Lib.hid hs
    clear hz hs
    go_wp2_with fail
    go_ret
    exact ⟨by rw [HS.out]; rfl, H2.out.2⟩
  · have h0 : 0 < nb := isBits_some H2.out.1 hz
    have hb0 : ((nb : Int) == 0) = false := by rw [beq_eq_false_iff_ne]; omega
    cases m with
    | false =>
      have hs : sign3 z = 1 := by
        have := H1.out.2; rw [decide_eq_false_iff_not] at this
        unfold sign3; rw [if_neg this, if_neg (by omega)]
      have HS := Lib.hid hs
      clear hz hs
      go_wp2_with fail
      go_ret
      exact ⟨by rw [HS.out]; rfl, H2.out.2⟩
    | true =>
      have hs : sign3 z = -1 := by
        have := H1.out.2; rw [decide_eq_true_iff] at this
        unfold sign3; rw [if_pos this]
      have HS := Lib.hid hs
      clear hz hs
      go_wp2_with fail
      go_ret
      exact ⟨by rw [HS.out]; rfl, H2.out.2⟩

set_option maxRecDepth 100000 in
theorem natInt_c (w : World) (va : Value) (x : Nat) (ha : Nm w va x) : Calls Tryd.prog 12 #[va] w (RetI w (x : Int)) := by
  have HA := Lib.hid ha
  clear ha
  go_enter Tryd.func12, Tryd.ntmps12
  have HW := Lib.hid (box_below w (.bool false) (.slice none 0 0))
  have HN := Lib.hid (BoxI.new w (.bool false) (.slice none 0 0))
  go_wp2_with fail
  refine (clone_n (HA.out.below HW.out)).mono ?_
  rintro e w2 ⟨v2, rfl, hv2, hb2⟩
  have H2 := Lib.hid (And.intro hv2 (And.intro (HN.out.below hb2) (below_trans HW.out hb2)))
  clear hv2 hb2
  go_wp2_with fail
  refine (signed_c w2 false v2 x H2.out.1).mono ?_
  rintro e w3 ⟨v3, rfl, hv3, hb3⟩
  obtain ⟨m3, A, c, n, rfl, hm3, h1⟩ := hv3.cases
  have HB := Lib.hid (H2.out.2.1.below hb3)
  obtain ⟨c0, c1, f0, f1⟩ := HB.out.cells
  have H3 := Lib.hid (And.intro h1 (And.intro (below_trans H2.out.2.2 hb3) hm3))
  clear h1 hb3 hv3 hm3
  go_wp2_with fail
  exact bodyPost_ret (v := .agg #[.bool m3, .slice A n c]) (by simp [results, Tryd.results12, go_sem, c0, c1]) rfl (retI_put H3.out.2.2 HB.out rfl rfl (Nat.le_refl _) H3.out.1 H3.out.2.1)

set_option maxRecDepth 100000 in
theorem absInt_c (w : World) (v : Value) (z : Int) (hv : Im w v z) : Calls Tryd.prog 26 #[v] w (RetI w (z.natAbs : Int)) := by
  obtain ⟨m, A, c, n, rfl, hm, h1⟩ := hv.cases
  have H1 := Lib.hid (And.intro h1 hm)
  clear hv h1 hm
  go_enter Tryd.func26, Tryd.ntmps26
  have HW := Lib.hid (box_below w (.bool m) (.slice A n c))
  have HW2 := Lib.hid (box_below (w.alloc (.cells #[.bool m, .slice A n c] 25)) (.bool false) (.slice none 0 0))
  have HN := Lib.hid (BoxI.new (w.alloc (.cells #[.bool m, .slice A n c] 25)) (.bool false) (.slice none 0 0))
  have hsz : (w.alloc (.cells #[.bool m, .slice A n c] 25)).heap.size = w.heap.size + 1 := by simp
  rw [hsz] at HN
  clear hsz
  go_wp2_with fail
  refine (natInt_c _ _ _ ((H1.out.1.below HW.out).below HW2.out)).mono ?_
  rintro e w3 ⟨v3, rfl, hv3, hb3⟩
  obtain ⟨m3, A', c', n', rfl, hm3, h1⟩ := hv3.cases
  have HB := Lib.hid (HN.out.below hb3)
  obtain ⟨c0, c1, f0, f1⟩ := HB.out.cells
  have H3 := Lib.hid (And.intro h1 (And.intro (below_trans HW.out (below_trans HW2.out hb3)) hm3))
  clear h1 hb3 hv3 hm3
  go_wp2_with fail
  exact bodyPost_ret (v := .agg #[.bool m3, .slice A' n' c']) (by simp [results, Tryd.results26, go_sem, c0, c1]) rfl (retI_put H3.out.2.2 HB.out rfl rfl (by omega) H3.out.1 H3.out.2.1)

theorem sg_not (z : Int) : sg (!decide (z < 0)) z.natAbs = -z := by
  by_cases h : z < 0
  · rw [decide_eq_true h]; simp only [sg, Bool.not_true, Bool.false_eq_true, if_false]; omega
  · rw [decide_eq_false h]; simp only [sg, Bool.not_false, if_true]; omega
theorem alloc_size (w : World) (o : Obj) : (w.alloc o).heap.size = w.heap.size + 1 := by simp

set_option maxRecDepth 100000 in
set_option maxHeartbeats 2000000 in
theorem turned_c (w : World) (v : Value) (z : Int) (hv : Im w v z) : Calls Tryd.prog 48 #[v] w (RetI w (-z)) := by
  obtain ⟨m, A, c, n, rfl, hm, h1⟩ := hv.cases
  have H1 := Lib.hid (And.intro h1 hm)
  clear hv h1 hm
  have HW := Lib.hid (box_below w (.bool m) (.slice A n c))
  have HW2 := Lib.hid (box_below (w.alloc (.cells #[.bool m, .slice A n c] 25)) (.bool false) (.slice none 0 0))
  have HN := Lib.hid (BoxI.new (w.alloc (.cells #[.bool m, .slice A n c] 25)) (.bool false) (.slice none 0 0))
  have hsz := alloc_size w (.cells #[.bool m, .slice A n c] 25)
  rw [hsz] at HN
  clear hsz
  go_enter Tryd.func48, Tryd.ntmps48
  go_wp2_with fail
  refine (signed_c _ (!m) _ _ ((H1.out.1.below HW.out).below HW2.out)).mono ?_
  rintro e w3 ⟨v3, rfl, h3, hb3⟩
  rw [← H1.out.2, sg_not] at h3
  obtain ⟨m3, A', c', n', rfl, hm3, h1⟩ := h3.cases
  have HB := Lib.hid (HN.out.below hb3)
  obtain ⟨c0, c1, f0, f1⟩ := HB.out.cells
  have H3 := Lib.hid (And.intro h1 (And.intro (below_trans HW.out (below_trans HW2.out hb3)) hm3))
  clear h1 hb3 h3 hm3
  go_wp2_with fail
  exact bodyPost_ret (v := .agg #[.bool m3, .slice A' n' c']) (by simp [results, Tryd.results48, go_sem, c0, c1]) rfl (retI_put H3.out.2.2 HB.out rfl rfl (by omega) H3.out.1 H3.out.2.1)

set_option maxRecDepth 100000 in
set_option maxHeartbeats 4000000 in
theorem negInt_c (w : World) (v : Value) (z : Int) (hv : Im w v z) : Calls Tryd.prog 25 #[v] w (RetI w (-z)) := by
  obtain ⟨m, A, c, n, rfl, hm, h1⟩ := hv.cases
  have H1 := Lib.hid (And.intro h1 hm)
  clear hv h1 hm
  have HW := Lib.hid (box_below w (.bool m) (.slice A n c))
  have HW2 := Lib.hid (box_below (w.alloc (.cells #[.bool m, .slice A n c] 25)) (.bool false) (.slice none 0 0))
  have HN := Lib.hid (BoxI.new (w.alloc (.cells #[.bool m, .slice A n c] 25)) (.bool false) (.slice none 0 0))
  have hsz := alloc_size w (.cells #[.bool m, .slice A n c] 25)
  rw [hsz] at HN
  clear hsz
  obtain ⟨c0, c1, _, _⟩ := ((BoxI.new w (.bool m) (.slice A n c)).below HW2.out).cells
  go_enter Tryd.func25, Tryd.ntmps25
  go_wp2_with fail
  have HD := Lib.hid (Below.drew HW2.out)
  have HC := Lib.hid (clone_n ((H1.out.1.below HW.out).below HD.out))
  have HK := Lib.hid ((BoxI.new w (.bool m) (.slice A n c)).below HD.out)
  have HN2 := Lib.hid (show BoxI ((w.alloc (.cells #[.bool m, .slice A n c] 25)).alloc (.cells #[.bool false, .slice none 0 0] 25)).drew (w.heap.size + 1) (.bool false) (.slice none 0 0) from HN.out)
  have HW3 := Lib.hid (below_trans HW.out HD.out)
  clear HN
  go_region_held3 (fun w' => w'.cell? ⟨w.heap.size, 0, none⟩ = some (.bool m) ∧ w'.cell? ⟨w.heap.size, 1, none⟩ = some (.slice A n c)) (first | go_keep | (exact ⟨by assumption, by assumption⟩))
    (first
      | (refine HC.out.mono ?_; rintro e w3 ⟨v3, rfl, hv3, hb3⟩; obtain ⟨k0, k1, _, _⟩ := (HK.out.below hb3).cells; have H3 := Lib.hid (And.intro hv3 (And.intro (HK.out.below hb3) (And.intro (HN2.out.below hb3) (below_trans HW3.out hb3)))); clear hv3 hb3 c0 c1)
      | (refine (signed_c _ (!m) _ _ H3.out.1).mono ?_; rintro e w4 ⟨v4, rfl, hv4, hb4⟩; rw [← H1.out.2, sg_not] at hv4; obtain ⟨m4, A4, c4, n4, rfl, hm4, h4⟩ := hv4.cases; obtain ⟨k0', k1', _, _⟩ := (H3.out.2.1.below hb4).cells; have HB := Lib.hid (H3.out.2.2.1.below hb4); obtain ⟨r0, r1, g0, g1⟩ := HB.out.cells; have H4 := Lib.hid (And.intro h4 (And.intro (below_trans H3.out.2.2.2 hb4) hm4)); clear hv4 hb4 h4 hm4 k0 k1))
  all_goals
    go_wp2_with fail
    exact bodyPost_ret (v := .agg #[.bool m4, .slice A4 n4 c4]) (by simp [results, Tryd.results25, go_sem, r0, r1]) rfl (retI_put H4.out.2.2 HB.out rfl rfl (by omega) H4.out.1 H4.out.2.1)
end Go.Proofs.YtlgfjgkcgimdoaaDoor
