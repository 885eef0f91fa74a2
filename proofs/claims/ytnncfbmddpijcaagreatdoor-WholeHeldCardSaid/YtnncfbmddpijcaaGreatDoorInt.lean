
/- Whole numbers as values: their sign and their size. -/
import Derived.Test.YtnncfbmddpijcaaGreatDoorNm
import Derived.Deep.RegionHeld3
import Derived.Deep.DrawnRows
import Derived.Test.YtnncfbmddpijcaaGreatDoorHeld
namespace Go.Proofs.YtnncfbmddpijcaaGreatDoor
open Go Go.RowKit Go.Shelf

/-- The number of a sign and a size. -/
def sg (m : Bool) (x : Nat) : Int := if m then -(x : Int) else (x : Int)
/-- v is the whole number z in w: 0 is not below 0. -/
def Im (w : World) (v : Value) (z : Int) : Prop := ∃ A c n, v = .agg #[.bool (decide (z < 0)), .slice A n c] ∧ Nm w (.slice A n c) z.natAbs
theorem Im.below {w w' : World} {v : Value} {z : Int} (h : Im w v z) (hb : Below w.heap.size w w') : Im w' v z := by
  obtain ⟨A, c, n, rfl, h1⟩ := h
  exact ⟨A, c, n, rfl, h1.below hb⟩
theorem sg_natAbs (m : Bool) (x : Nat) : (sg m x).natAbs = x := by cases m <;> simp [sg]
theorem sg_neg (m : Bool) (x : Nat) : decide (sg m x < 0) = (m && decide (0 < x)) := by
  cases m
  · simp [sg]
  · simp only [sg, if_true, Bool.true_and, decide_eq_decide]; omega
theorem sg_of (z : Int) : sg (decide (z < 0)) z.natAbs = z := by
  by_cases h : z < 0
  · rw [decide_eq_true h]; simp only [sg, if_true]; omega
  · rw [decide_eq_false h]; simp only [sg, Bool.false_eq_true, if_false]; omega
theorem Im.zero (w : World) : Im w (.agg #[.bool false, .slice none 0 0]) 0 := ⟨none, 0, 0, rfl, Nm.nil w⟩
/-- What is returned is the whole number z. -/
def RetI (w : World) (z : Int) (e : Ending) (w' : World) : Prop := ∃ v, e = .returned v ∧ Im w' v z ∧ Below w.heap.size w w'
def RetI0 (w : World) (z : Int) (e : Ending) (w' : World) : Prop := ∃ v, e = .returned (.tuple #[v, .int .i64 0]) ∧ Im w' v z ∧ Below w.heap.size w w'
def RetIE (w : World) (c : Int) (e : Ending) (w' : World) : Prop := e = .returned (.tuple #[.agg #[.bool false, .slice none 0 0], .int .i64 c]) ∧ Below w.heap.size w w'
theorem Nm.slice {w : World} {v : Value} {x : Nat} (h : Nm w v x) : ∃ A c n, v = .slice A n c ∧ decide ((n : Int) > 0) = decide (0 < x) ∧ ((n : Int) == 0) = decide (x = 0) := by
  obtain ⟨A, c, zs, rfl, ho, rfl⟩ := h
  have e : zs.length = 0 ↔ val 4294967296 zs = 0 := by
    refine ⟨fun h => ?_, fun h => ?_⟩
    · have : zs = [] := List.eq_nil_of_length_eq_zero h
      rw [this]; rfl
    · rw [ho.2.1.nil_of (by omega) h]; rfl
  refine ⟨A, c, zs.length, rfl, ?_, ?_⟩
  · rw [decide_eq_decide]; omega
  · rw [Bool.eq_iff_iff, beq_iff_eq, decide_eq_true_iff]; omega

set_option maxRecDepth 100000 in
theorem signed_c (w : World) (m : Bool) (va : Value) (x : Nat) (ha : Nm w va x) : Calls Tryz.prog 60 #[.bool m, va] w (RetI w (sg m x)) := by
  obtain ⟨A, c, n, rfl, h0, _⟩ := ha.slice
  have HA := Lib.hid (And.intro ha h0)
  clear ha h0
  have hres : ∀ b : Bool, b = (m && decide (0 < x)) → RetI w (sg m x) (.returned (.agg #[.bool b, .slice A n c])) (w.alloc (.cells #[.bool b, .slice A n c] 25)) := fun b hb => by
    have hw := (Below.refl w.heap.size w).alloc (Nat.le_refl _) (.cells #[.bool b, .slice A n c] 25)
    refine ⟨_, rfl, ⟨A, c, n, by rw [sg_neg, hb], ?_⟩, hw⟩
    rw [sg_natAbs]; exact HA.out.1.below hw
  have HRes := Lib.hid hres
  clear hres
  cases m with
  | false =>
    go_enter Tryz.func60, Tryz.ntmps60
    go_wp2_with fail
    exact bodyPost_ret (v := .agg #[.bool false, .slice A n c]) (by simp [results, Tryz.results60, go_sem]) rfl (HRes.out false rfl)
  | true =>
    have HB := Lib.hid (show decide (0 < n) = (true && decide (0 < x)) by
      rw [Bool.true_and, ← HA.out.2, decide_eq_decide]; omega)
    go_enter Tryz.func60, Tryz.ntmps60
    go_wp2_with fail
    exact bodyPost_ret (v := .agg #[.bool (decide (0 < n)), .slice A n c]) (by simp [results, Tryz.results60, go_sem]) rfl (HRes.out _ HB.out)

/-- A variable of that type, in a block of its own. -/
def BoxI (w : World) (g : Nat) (a b : Value) : Prop := w.heap[g]? = some (.cells #[a, b] 25 (0, 0))
theorem BoxI.new (w : World) (a b : Value) : BoxI (w.alloc (.cells #[a, b] 25)) w.heap.size a b := World.alloc_heap_new w _
theorem BoxI.lt {w : World} {g : Nat} {a b : Value} (h : BoxI w g a b) : g < w.heap.size := (Array.getElem?_eq_some_iff.1 h).1
theorem BoxI.below {w w' : World} {g : Nat} {a b : Value} (h : BoxI w g a b) (hb : Below w.heap.size w w') : BoxI w' g a b := (hb.block g h.lt).trans h
theorem BoxI.cells {w : World} {g : Nat} {a b : Value} (h : BoxI w g a b) : w.cell? ⟨g, 0, none⟩ = some a ∧ w.cell? ⟨g, 1, none⟩ = some b ∧ w.frozen? ⟨g, 0, none⟩ = false ∧ w.frozen? ⟨g, 1, none⟩ = false :=
  ⟨by rw [Lib.cell_of_heap h]; rfl, by rw [Lib.cell_of_heap h]; rfl, Lib.frozen_of_heap h 0, Lib.frozen_of_heap h 1⟩
theorem below_put {w : World} {B g : Nat} {a b : Value} (hB : B ≤ g) : Below B w ((w.setCell ⟨g, 0, none⟩ a).setCell ⟨g, 1, none⟩ b) := ((Below.refl B w).setCell (p := ⟨g, 0, none⟩) hB a).setCell (p := ⟨g, 1, none⟩) hB b

theorem Rd.far {k : IntKind} {w : World} {v : Value} {zs : List Nat} (h : Rd k w v zs) {p : Addr} (hp : ∀ (j : Nat) (z : Int), w.cell? ⟨p.block, j, none⟩ ≠ some (.int k z)) (u : Value) : Rd k (w.setCell p u) v zs := by
  obtain ⟨A, cap, rfl, h1, h2, h3⟩ := h
  refine ⟨A, cap, rfl, h1, h2, fun h0 => ?_⟩
  obtain ⟨b, off, rfl, hlt, hc⟩ := h3 h0
  have hne : b ≠ p.block := by
    rintro rfl
    exact hp _ _ (hc 0 _ (List.getElem?_eq_getElem h0))
  exact ⟨b, off, rfl, by simpa [World.setCell] using hlt, fun j x hx => (World.cell?_of_block (w := w) (Below.heap_setCell w p u b hne)).trans (hc j x hx)⟩
def notNum : Value → Bool
  | .int _ _ => false
  | _ => true
theorem BoxI.no_num {w : World} {g : Nat} {a b : Value} (h : BoxI w g a b) (ha : notNum a = true) (hb : notNum b = true) (k : IntKind) (j : Nat) (z : Int) : w.cell? ⟨g, j, none⟩ ≠ some (.int k z) := by
  rw [Lib.cell_of_heap h]
  match j with
  | 0 => intro e; simp at e; rw [e] at ha; cases ha
  | 1 => intro e; simp at e; rw [e] at hb; cases hb
  | j + 2 => intro e; simp at e
theorem BoxI.set0 {w : World} {g : Nat} {a b : Value} (h : BoxI w g a b) (u : Value) : BoxI (w.setCell ⟨g, 0, none⟩ u) g u b := by
  unfold BoxI at h ⊢
  simp [World.setCell, Array.getElem?_modify, h]
theorem BoxI.set1 {w : World} {g : Nat} {a b : Value} (h : BoxI w g a b) (u : Value) : BoxI (w.setCell ⟨g, 1, none⟩ u) g a u := by
  unfold BoxI at h ⊢
  simp [World.setCell, Array.getElem?_modify, h]
/-- A variable turned: a number that lies elsewhere stays. -/
theorem Nm.put {w : World} {v : Value} {x g : Nat} {a b a' b' : Value} (h : Nm w v x) (hB : BoxI w g a b) (ha : notNum a = true) (hb : notNum b = true) (ha' : notNum a' = true) : Nm ((w.setCell ⟨g, 0, none⟩ a').setCell ⟨g, 1, none⟩ b') v x := by
  obtain ⟨A, cap, zs, rfl, ⟨hr, hc⟩, hv⟩ := h
  exact ⟨A, cap, zs, rfl, ⟨(hr.far (p := ⟨g, 0, none⟩) (hB.no_num ha hb _) a').far (p := ⟨g, 1, none⟩) ((hB.set0 a').no_num ha' hb _) b', hc⟩, hv⟩
/-- What is had of a result's variable. -/
theorem retI0_put {w w2 : World} {A : Option Addr} {c n g : Nat} {z : Int} {m : Bool} {a b : Value} (hm : decide (z < 0) = m) (hB : BoxI w2 g a b) (ha : notNum a = true) (hb : notNum b = true) (hg : w.heap.size ≤ g) (h1 : Nm w2 (.slice A n c) z.natAbs) (hw : Below w.heap.size w w2) :
    RetI0 w z (.returned (.tuple #[.agg #[.bool m, .slice A n c], .int .i64 0])) ((w2.setCell ⟨g, 0, none⟩ (.bool m)).setCell ⟨g, 1, none⟩ (.slice A n c)) := by
  subst hm
  exact ⟨_, rfl, ⟨A, c, n, rfl, h1.put hB ha hb rfl⟩, hw.trans (below_put hg)⟩
theorem retI_put {w w2 : World} {A : Option Addr} {c n g : Nat} {z : Int} {m : Bool} {a b : Value} (hm : decide (z < 0) = m) (hB : BoxI w2 g a b) (ha : notNum a = true) (hb : notNum b = true) (hg : w.heap.size ≤ g) (h1 : Nm w2 (.slice A n c) z.natAbs) (hw : Below w.heap.size w w2) :
    RetI w z (.returned (.agg #[.bool m, .slice A n c])) ((w2.setCell ⟨g, 0, none⟩ (.bool m)).setCell ⟨g, 1, none⟩ (.slice A n c)) := by
  subst hm
  exact ⟨_, rfl, ⟨A, c, n, rfl, h1.put hB ha hb rfl⟩, hw.trans (below_put hg)⟩
theorem Im.cases {w : World} {v : Value} {z : Int} (h : Im w v z) : ∃ (m : Bool) (A : Option Addr) (c n : Nat), v = .agg #[.bool m, .slice A n c] ∧ decide (z < 0) = m ∧ Nm w (.slice A n c) z.natAbs := by
  obtain ⟨A, c, n, rfl, h1⟩ := h
  exact ⟨_, A, c, n, rfl, rfl, h1⟩

set_option maxRecDepth 100000 in
/-- A number by its sign and its size, beside no error. -/
theorem answer_ok (w : World) (m : Bool) (va : Value) (x : Nat) (ha : Nm w va x) : Calls Tryz.prog 71 #[.bool m, va, .int .i64 0] w (RetI0 w (sg m x)) := by
  have HA := Lib.hid ha
  clear ha
  go_enter Tryz.func71, Tryz.ntmps71
  go_wp2_with fail
  have HW := Lib.hid ((Below.refl w.heap.size w).alloc (Nat.le_refl _) (.cells #[.bool false, .slice none 0 0] 25))
  refine (signed_c _ m va x (HA.out.below HW.out)).mono ?_
  rintro e w2 ⟨v, rfl, hv, hb⟩
  obtain ⟨m2, A, c, n, rfl, hm2, h1⟩ := hv.cases
  have HB := Lib.hid ((BoxI.new w (.bool false) (.slice none 0 0)).below hb)
  obtain ⟨c0, c1, f0, f1⟩ := HB.out.cells
  have H2 := Lib.hid (And.intro h1 (And.intro (below_trans HW.out hb) hm2))
  clear h1 hb hv hm2
  go_wp2_with fail
  exact bodyPost_ret (v := .tuple #[.agg #[.bool m2, .slice A n c], .int .i64 0]) (by simp [results, Tryz.results71, go_sem, c0, c1]) rfl (retI0_put H2.out.2.2 HB.out rfl rfl (Nat.le_refl _) H2.out.1 H2.out.2.1)

set_option maxRecDepth 100000 in
/-- An error, and none beside it. -/
theorem answer_err (w : World) (m : Bool) (va : Value) (c : Int) (hc : c ≠ 0) : Calls Tryz.prog 71 #[.bool m, va, .int .i64 c] w (RetIE w c) := by
  have hb : (c != 0) = true := by rw [bne_iff_ne]; exact hc
  have hb2 : (c == 0) = false := by rw [beq_eq_false_iff_ne]; exact hc
  clear hc
  go_enter Tryz.func71, Tryz.ntmps71
  go_wp2_with fail
  exact bodyPost_ret (v := .tuple #[.agg #[.bool false, .slice none 0 0], .int .i64 c]) (by simp [results, Tryz.results71, go_sem]) rfl ⟨rfl, (Below.refl _ w).alloc (Nat.le_refl _) _⟩
end Go.Proofs.YtnncfbmddpijcaaGreatDoor

/- Whole numbers: made, told, turned, compared. -/
namespace Go.Proofs.YtnncfbmddpijcaaGreatDoor
open Go Go.RowKit Go.Shelf
attribute [local go_sem ↓] Go.wp_at_zero Go.wp_at_succ

def sign3 (z : Int) : Int := if z < 0 then -1 else if z = 0 then 0 else 1
/-- The world with a boxed argument. -/
theorem box_below (w : World) (a b : Value) : Below w.heap.size w (w.alloc (.cells #[a, b] 25)) := (Below.refl _ w).alloc (Nat.le_refl _) _

set_option maxRecDepth 100000 in
theorem sign_c (w : World) (v : Value) (z : Int) (hv : Im w v z) : Calls Tryz.prog 27 #[v] w fun e w' => e = .returned (.int .i64 (sign3 z)) ∧ Below w.heap.size w w' := by
  obtain ⟨m, A, c, n, rfl, hm, h1⟩ := hv.cases
  have H1 := Lib.hid (And.intro h1 hm)
  clear hv h1 hm
  go_enter Tryz.func27, Tryz.ntmps27
  have HW := Lib.hid (box_below w (.bool m) (.slice A n c))
  have HN := Lib.hid (BoxI.new w (.bool m) (.slice A n c))
  go_wp2_with fail
  refine (bits_n (H1.out.1.below HW.out)).mono ?_
  rintro e w2 ⟨nb, rfl, hnb, hb⟩
  obtain ⟨c0, c1, f0, f1⟩ := (HN.out.below hb).cells
  have H2 := Lib.hid (And.intro hnb (below_trans HW.out hb))
  clear hnb hb f0 f1 c1
  rcases Nat.eq_zero_or_pos z.natAbs with hz | hz
  · have h0 : nb = 0 := isBits_none (by have := H2.out.1; rwa [hz] at this)
    subst h0
    have hs : sign3 z = 0 := by unfold sign3; rw [if_neg (by omega), if_pos (by omega)]
    have HS := Lib.hid hs
    clear hz hs
    go_wp2_with fail
    go_ret
    exact ⟨by rw [HS.out]; rfl, H2.out.2⟩
  · have h0 : 0 < nb := isBits_some H2.out.1 hz
    have hb0 : ((nb : Int) == 0) = false := by rw [beq_eq_false_iff_ne]; omega
    cases m with
    | false =>
      have hs : sign3 z = 1 := by
        have := H1.out.2; rw [decide_eq_false_iff_not] at this
        unfold sign3; rw [if_neg this, if_neg (by omega)]
      have HS := Lib.hid hs
      clear hz hs
      go_wp2_with fail
      go_ret
      exact ⟨by rw [HS.out]; rfl, H2.out.2⟩
    | true =>
      have hs : sign3 z = -1 := by
        have := H1.out.2; rw [decide_eq_true_iff] at this
        unfold sign3; rw [if_pos this]
      have HS := Lib.hid hs
      clear hz hs
      go_wp2_with fail
      go_ret
      exact ⟨by rw [HS.out]; rfl, H2.out.2⟩

set_option maxRecDepth 100000 in
theorem natInt_c (w : World) (va : Value) (x : Nat) (ha : Nm w va x) : Calls Tryz.prog 82 #[va] w (RetI w (x : Int)) := by
  have HA := Lib.hid ha
  clear ha
  go_enter Tryz.func82, Tryz.ntmps82
  have HW := Lib.hid (box_below w (.bool false) (.slice none 0 0))
  have HN := Lib.hid (BoxI.new w (.bool false) (.slice none 0 0))
  go_wp2_with fail
  refine (clone_n (HA.out.below HW.out)).mono ?_
  rintro e w2 ⟨v2, rfl, hv2, hb2⟩
  have H2 := Lib.hid (And.intro hv2 (And.intro (HN.out.below hb2) (below_trans HW.out hb2)))
  clear hv2 hb2
  go_wp2_with fail
  refine (signed_c w2 false v2 x H2.out.1).mono ?_
  rintro e w3 ⟨v3, rfl, hv3, hb3⟩
  obtain ⟨m3, A, c, n, rfl, hm3, h1⟩ := hv3.cases
  have HB := Lib.hid (H2.out.2.1.below hb3)
  obtain ⟨c0, c1, f0, f1⟩ := HB.out.cells
  have H3 := Lib.hid (And.intro h1 (And.intro (below_trans H2.out.2.2 hb3) hm3))
  clear h1 hb3 hv3 hm3
  go_wp2_with fail
  exact bodyPost_ret (v := .agg #[.bool m3, .slice A n c]) (by simp [results, Tryz.results82, go_sem, c0, c1]) rfl (retI_put H3.out.2.2 HB.out rfl rfl (Nat.le_refl _) H3.out.1 H3.out.2.1)

set_option maxRecDepth 100000 in
theorem absInt_c (w : World) (v : Value) (z : Int) (hv : Im w v z) : Calls Tryz.prog 50 #[v] w (RetI w (z.natAbs : Int)) := by
  obtain ⟨m, A, c, n, rfl, hm, h1⟩ := hv.cases
  have H1 := Lib.hid (And.intro h1 hm)
  clear hv h1 hm
  go_enter Tryz.func50, Tryz.ntmps50
  have HW := Lib.hid (box_below w (.bool m) (.slice A n c))
  have HW2 := Lib.hid (box_below (w.alloc (.cells #[.bool m, .slice A n c] 25)) (.bool false) (.slice none 0 0))
  have HN := Lib.hid (BoxI.new (w.alloc (.cells #[.bool m, .slice A n c] 25)) (.bool false) (.slice none 0 0))
  have hsz : (w.alloc (.cells #[.bool m, .slice A n c] 25)).heap.size = w.heap.size + 1 := by simp
  rw [hsz] at HN
  clear hsz
  go_wp2_with fail
  refine (natInt_c _ _ _ ((H1.out.1.below HW.out).below HW2.out)).mono ?_
  rintro e w3 ⟨v3, rfl, hv3, hb3⟩
  obtain ⟨m3, A', c', n', rfl, hm3, h1⟩ := hv3.cases
  have HB := Lib.hid (HN.out.below hb3)
  obtain ⟨c0, c1, f0, f1⟩ := HB.out.cells
  have H3 := Lib.hid (And.intro h1 (And.intro (below_trans HW.out (below_trans HW2.out hb3)) hm3))
  clear h1 hb3 hv3 hm3
  go_wp2_with fail
  exact bodyPost_ret (v := .agg #[.bool m3, .slice A' n' c']) (by simp [results, Tryz.results50, go_sem, c0, c1]) rfl (retI_put H3.out.2.2 HB.out rfl rfl (by omega) H3.out.1 H3.out.2.1)

theorem sg_not (z : Int) : sg (!decide (z < 0)) z.natAbs = -z := by
  by_cases h : z < 0
  · rw [decide_eq_true h]; simp only [sg, Bool.not_true, Bool.false_eq_true, if_false]; omega
  · rw [decide_eq_false h]; simp only [sg, Bool.not_false, if_true]; omega
theorem alloc_size (w : World) (o : Obj) : (w.alloc o).heap.size = w.heap.size + 1 := by simp

set_option maxRecDepth 100000 in
set_option maxHeartbeats 2000000 in
theorem turned_c (w : World) (v : Value) (z : Int) (hv : Im w v z) : Calls Tryz.prog 80 #[v] w (RetI w (-z)) := by
  obtain ⟨m, A, c, n, rfl, hm, h1⟩ := hv.cases
  have H1 := Lib.hid (And.intro h1 hm)
  clear hv h1 hm
  have HW := Lib.hid (box_below w (.bool m) (.slice A n c))
  have HW2 := Lib.hid (box_below (w.alloc (.cells #[.bool m, .slice A n c] 25)) (.bool false) (.slice none 0 0))
  have HN := Lib.hid (BoxI.new (w.alloc (.cells #[.bool m, .slice A n c] 25)) (.bool false) (.slice none 0 0))
  have hsz := alloc_size w (.cells #[.bool m, .slice A n c] 25)
  rw [hsz] at HN
  clear hsz
  go_enter Tryz.func80, Tryz.ntmps80
  go_wp2_with fail
  refine (signed_c _ (!m) _ _ ((H1.out.1.below HW.out).below HW2.out)).mono ?_
  rintro e w3 ⟨v3, rfl, h3, hb3⟩
  rw [← H1.out.2, sg_not] at h3
  obtain ⟨m3, A', c', n', rfl, hm3, h1⟩ := h3.cases
  have HB := Lib.hid (HN.out.below hb3)
  obtain ⟨c0, c1, f0, f1⟩ := HB.out.cells
  have H3 := Lib.hid (And.intro h1 (And.intro (below_trans HW.out (below_trans HW2.out hb3)) hm3))
  clear h1 hb3 h3 hm3
  go_wp2_with fail
  exact bodyPost_ret (v := .agg #[.bool m3, .slice A' n' c']) (by simp [results, Tryz.results80, go_sem, c0, c1]) rfl (retI_put H3.out.2.2 HB.out rfl rfl (by omega) H3.out.1 H3.out.2.1)

set_option maxRecDepth 100000 in
set_option maxHeartbeats 4000000 in
theorem negInt_c (w : World) (v : Value) (z : Int) (hv : Im w v z) : Calls Tryz.prog 58 #[v] w (RetI w (-z)) := by
  obtain ⟨m, A, c, n, rfl, hm, h1⟩ := hv.cases
  have H1 := Lib.hid (And.intro h1 hm)
  clear hv h1 hm
  have HW := Lib.hid (box_below w (.bool m) (.slice A n c))
  have HW2 := Lib.hid (box_below (w.alloc (.cells #[.bool m, .slice A n c] 25)) (.bool false) (.slice none 0 0))
  have HN := Lib.hid (BoxI.new (w.alloc (.cells #[.bool m, .slice A n c] 25)) (.bool false) (.slice none 0 0))
  have hsz := alloc_size w (.cells #[.bool m, .slice A n c] 25)
  rw [hsz] at HN
  clear hsz
  obtain ⟨c0, c1, _, _⟩ := ((BoxI.new w (.bool m) (.slice A n c)).below HW2.out).cells
  go_enter Tryz.func58, Tryz.ntmps58
  go_wp2_with fail
  have HD := Lib.hid (Below.drew HW2.out)
  have HC := Lib.hid (clone_n ((H1.out.1.below HW.out).below HD.out))
  have HK := Lib.hid ((BoxI.new w (.bool m) (.slice A n c)).below HD.out)
  have HN2 := Lib.hid (show BoxI ((w.alloc (.cells #[.bool m, .slice A n c] 25)).alloc (.cells #[.bool false, .slice none 0 0] 25)).drew (w.heap.size + 1) (.bool false) (.slice none 0 0) from HN.out)
  have HW3 := Lib.hid (below_trans HW.out HD.out)
  clear HN
  go_region_held3 (fun w' => w'.cell? ⟨w.heap.size, 0, none⟩ = some (.bool m) ∧ w'.cell? ⟨w.heap.size, 1, none⟩ = some (.slice A n c)) (first | go_keep | (exact ⟨by assumption, by assumption⟩))
    (first
      | (refine HC.out.mono ?_; rintro e w3 ⟨v3, rfl, hv3, hb3⟩; obtain ⟨k0, k1, _, _⟩ := (HK.out.below hb3).cells; have H3 := Lib.hid (And.intro hv3 (And.intro (HK.out.below hb3) (And.intro (HN2.out.below hb3) (below_trans HW3.out hb3)))); clear hv3 hb3 c0 c1)
      | (refine (signed_c _ (!m) _ _ H3.out.1).mono ?_; rintro e w4 ⟨v4, rfl, hv4, hb4⟩; rw [← H1.out.2, sg_not] at hv4; obtain ⟨m4, A4, c4, n4, rfl, hm4, h4⟩ := hv4.cases; obtain ⟨k0', k1', _, _⟩ := (H3.out.2.1.below hb4).cells; have HB := Lib.hid (H3.out.2.2.1.below hb4); obtain ⟨r0, r1, g0, g1⟩ := HB.out.cells; have H4 := Lib.hid (And.intro h4 (And.intro (below_trans H3.out.2.2.2 hb4) hm4)); clear hv4 hb4 h4 hm4 k0 k1))
  all_goals
    go_wp2_with fail
    exact bodyPost_ret (v := .agg #[.bool m4, .slice A4 n4 c4]) (by simp [results, Tryz.results58, go_sem, r0, r1]) rfl (retI_put H4.out.2.2 HB.out rfl rfl (by omega) H4.out.1 H4.out.2.1)
end Go.Proofs.YtnncfbmddpijcaaGreatDoor

/- Whole numbers: the order of two, and what may be. -/
namespace Go.Proofs.YtnncfbmddpijcaaGreatDoor
open Go Go.RowKit Go.Shelf
attribute [local go_sem ↓] Go.wp_at_zero Go.wp_at_succ

/-- The order of two whole numbers. -/
def ordI (x y : Int) : Int := if x < y then -1 else if y < x then 1 else 0
theorem ordI_less {x y : Int} (h : sign3 x < sign3 y) : ordI x y = -1 := by
  unfold sign3 at h; unfold ordI; rw [if_pos]
  split at h
  · split at h
    · omega
    · split at h <;> omega
  · split at h
    · split at h
      · omega
      · split at h <;> omega
    · split at h
      · omega
      · split at h <;> omega
theorem ordI_more {x y : Int} (h : sign3 y < sign3 x) : ordI x y = 1 := by
  have := ordI_less h
  unfold ordI at this ⊢
  split at this
  · rw [if_neg (by omega), if_pos (by assumption)]
  · split at this <;> omega
theorem ordI_neg {x y : Int} (h1 : ¬ sign3 x < sign3 y) (h2 : ¬ sign3 y < sign3 x) (h : sign3 x < 0) : ordI x y = ord3 y.natAbs x.natAbs := by
  have hx : x < 0 := by
    unfold sign3 at h
    split at h
    · assumption
    · split at h <;> omega
  have hy : y < 0 := by
    have e : sign3 y < 0 := by omega
    unfold sign3 at e
    split at e
    · assumption
    · split at e <;> omega
  unfold ordI ord3
  by_cases a : x < y
  · rw [if_pos a, if_pos (by omega)]
  · rw [if_neg a]
    by_cases b : y < x
    · rw [if_pos b, if_neg (by omega), if_pos (by omega)]
    · rw [if_neg b, if_neg (by omega), if_neg (by omega)]
theorem ordI_pos {x y : Int} (h1 : ¬ sign3 x < sign3 y) (h2 : ¬ sign3 y < sign3 x) (h : ¬ sign3 x < 0) : ordI x y = ord3 x.natAbs y.natAbs := by
  have hx : 0 ≤ x := by
    unfold sign3 at h
    split at h
    · omega
    · omega
  have hy : 0 ≤ y := by
    have e : ¬ sign3 y < 0 := by omega
    unfold sign3 at e
    split at e
    · omega
    · omega
  unfold ordI ord3
  by_cases a : x < y
  · rw [if_pos a, if_pos (by omega)]
  · rw [if_neg a]
    by_cases b : y < x
    · rw [if_pos b, if_neg (by omega), if_pos (by omega)]
    · rw [if_neg b, if_neg (by omega), if_neg (by omega)]

/-- Two boxed arguments, whatever is made behind them. -/
def Two (w : World) (g : Nat) (a1 b1 a2 b2 : Value) (wr : World) : Prop := BoxI wr g a1 b1 ∧ BoxI wr (g + 1) a2 b2 ∧ Below w.heap.size w wr
theorem Two.new (w : World) (a1 b1 a2 b2 : Value) : Two w w.heap.size a1 b1 a2 b2 ((w.alloc (.cells #[a1, b1] 25)).alloc (.cells #[a2, b2] 25)) := by
  have h := BoxI.new (w.alloc (.cells #[a1, b1] 25)) a2 b2
  rw [alloc_size] at h
  exact ⟨(BoxI.new w a1 b1).below (box_below _ a2 b2), h, below_trans (box_below w a1 b1) (box_below _ a2 b2)⟩
theorem Two.below {w wr w' : World} {g : Nat} {a1 b1 a2 b2 : Value} (h : Two w g a1 b1 a2 b2 wr) (hb : Below wr.heap.size wr w') : Two w g a1 b1 a2 b2 w' := ⟨h.1.below hb, h.2.1.below hb, below_trans h.2.2 hb⟩

set_option maxRecDepth 100000 in
set_option maxHeartbeats 4000000 in
theorem cmpInt_c (w : World) (v1 v2 : Value) (z1 z2 : Int) (hv1 : Im w v1 z1) (hv2 : Im w v2 z2) : Calls Tryz.prog 81 #[v1, v2] w fun e w' => e = .returned (.int .i64 (ordI z1 z2)) ∧ Below w.heap.size w w' := by
  obtain ⟨m1, A1, c1, n1, rfl, hm1, h1⟩ := hv1.cases
  obtain ⟨m2, A2, c2, n2, rfl, hm2, h2⟩ := hv2.cases
  have HT := Lib.hid ((Two.new w (.bool m1) (.slice A1 n1 c1) (.bool m2) (.slice A2 n2 c2)).below (Below.drew (Below.refl _ _)))
  have HI := Lib.hid (And.intro (And.intro (hv1.below HT.out.2.2) (hv2.below HT.out.2.2)) HT.out)
  have HV := Lib.hid (And.intro h1 h2)
  obtain ⟨a0, a1, _, _⟩ := (show BoxI ((w.alloc (.cells #[.bool m1, .slice A1 n1 c1] 25)).alloc (.cells #[.bool m2, .slice A2 n2 c2] 25)) _ _ _ from HT.out.1).cells
  obtain ⟨b0, b1, _, _⟩ := (show BoxI ((w.alloc (.cells #[.bool m1, .slice A1 n1 c1] 25)).alloc (.cells #[.bool m2, .slice A2 n2 c2] 25)) _ _ _ from HT.out.2.1).cells
  clear hv1 hv2 h1 h2 hm1 hm2 HT
  go_enter Tryz.func81, Tryz.ntmps81
  go_wp2_with fail
  go_region_held3 (fun w' => w'.cell? ⟨w.heap.size, 0, none⟩ = some (.bool m1) ∧ w'.cell? ⟨w.heap.size, 1, none⟩ = some (.slice A1 n1 c1) ∧ w'.cell? ⟨w.heap.size + 1, 0, none⟩ = some (.bool m2) ∧ w'.cell? ⟨w.heap.size + 1, 1, none⟩ = some (.slice A2 n2 c2)) (first | go_keep | (exact ⟨by assumption, by assumption, by assumption, by assumption⟩))
    (first
      | ((with_reducible refine (sign_c _ (.agg #[.bool m1, .slice A1 n1 c1]) z1 HI.out.1.1).mono ?_); rintro e w3 ⟨rfl, hb⟩; have HJ := Lib.hid (And.intro (And.intro (HI.out.1.1.below hb) (HI.out.1.2.below hb)) (HI.out.2.below hb)); clear HI hb a0 a1 b0 b1; have HI := HJ; clear HJ; obtain ⟨a0, a1, _, _⟩ := HI.out.2.1.cells; obtain ⟨b0, b1, _, _⟩ := HI.out.2.2.1.cells)
      | ((with_reducible refine (sign_c _ (.agg #[.bool m2, .slice A2 n2 c2]) z2 HI.out.1.2).mono ?_); rintro e w3 ⟨rfl, hb⟩; have HJ := Lib.hid (And.intro (And.intro (HI.out.1.1.below hb) (HI.out.1.2.below hb)) (HI.out.2.below hb)); clear HI hb a0 a1 b0 b1; have HI := HJ; clear HJ; obtain ⟨a0, a1, _, _⟩ := HI.out.2.1.cells; obtain ⟨b0, b1, _, _⟩ := HI.out.2.2.1.cells))
  all_goals
    by_cases k1 : sign3 z1 < sign3 z2
    · have HO := Lib.hid (ordI_less k1)
      have d1 : decide (sign3 z1 < sign3 z2) = true := decide_eq_true k1
      clear k1
      go_wp2_with fail
      go_ret
      exact ⟨by rw [HO.out]; rfl, HI.out.2.2.2⟩
    have d1 : decide (sign3 z1 < sign3 z2) = false := decide_eq_false k1
    by_cases k2 : sign3 z2 < sign3 z1
    · have HO := Lib.hid (ordI_more k2)
      have d2 : decide (sign3 z1 > sign3 z2) = true := decide_eq_true k2
      clear k1
      go_wp2_with fail
      go_ret
      exact ⟨by rw [HO.out]; rfl, HI.out.2.2.2⟩
    have d2 : decide (sign3 z1 > sign3 z2) = false := decide_eq_false k2
    by_cases k3 : sign3 z1 < 0
    · have HO := Lib.hid (ordI_neg k1 k2 k3)
      have d3 : decide (sign3 z1 < 0) = true := decide_eq_true k3
      clear k1 k2
      go_wp2_with fail
      refine (cmp_n (HV.out.2.below HI.out.2.2.2) (HV.out.1.below HI.out.2.2.2)).mono ?_
      rintro e w5 ⟨rfl, hb⟩
      have H5 := Lib.hid (below_trans HI.out.2.2.2 hb)
      clear hb
      go_wp2_with fail
      go_ret
      exact ⟨by rw [HO.out]; rfl, H5.out⟩
    · have HO := Lib.hid (ordI_pos k1 k2 k3)
      have d3 : decide (sign3 z1 < 0) = false := decide_eq_false k3
      clear k1 k2
      go_wp2_with fail
      refine (cmp_n (HV.out.1.below HI.out.2.2.2) (HV.out.2.below HI.out.2.2.2)).mono ?_
      rintro e w5 ⟨rfl, hb⟩
      have H5 := Lib.hid (below_trans HI.out.2.2.2 hb)
      clear hb
      go_wp2_with fail
      go_ret
      exact ⟨by rw [HO.out]; rfl, H5.out⟩

theorem ordI_zero (x y : Int) : (ordI x y == 0) = decide (x = y) := by
  unfold ordI
  by_cases a : x < y
  · rw [if_pos a, decide_eq_false (by omega)]; rfl
  · rw [if_neg a]
    by_cases b : y < x
    · rw [if_pos b, decide_eq_false (by omega)]; rfl
    · rw [if_neg b, decide_eq_true (by omega)]; rfl
end Go.Proofs.YtnncfbmddpijcaaGreatDoor

/- Whole numbers: together, less, times. -/
namespace Go.Proofs.YtnncfbmddpijcaaGreatDoor
open Go Go.RowKit Go.Shelf
attribute [local go_sem ↓] Go.wp_at_zero Go.wp_at_succ

/-- Two boxed arguments, and the result's variable. -/
def Three (w : World) (g : Nat) (a1 b1 a2 b2 : Value) (wr : World) : Prop := BoxI wr g a1 b1 ∧ BoxI wr (g + 1) a2 b2 ∧ BoxI wr (g + 2) (.bool false) (.slice none 0 0) ∧ Below w.heap.size w wr
theorem Three.new (w : World) (a1 b1 a2 b2 : Value) : Three w w.heap.size a1 b1 a2 b2 (((w.alloc (.cells #[a1, b1] 25)).alloc (.cells #[a2, b2] 25)).alloc (.cells #[.bool false, .slice none 0 0] 25)) := by
  have h := Two.new w a1 b1 a2 b2
  have h3 := BoxI.new ((w.alloc (.cells #[a1, b1] 25)).alloc (.cells #[a2, b2] 25)) (.bool false) (.slice none 0 0)
  rw [alloc_size, alloc_size] at h3
  have hb := box_below ((w.alloc (.cells #[a1, b1] 25)).alloc (.cells #[a2, b2] 25)) (.bool false) (.slice none 0 0)
  exact ⟨h.1.below hb, h.2.1.below hb, h3, below_trans h.2.2 hb⟩
theorem Three.below {w wr w' : World} {g : Nat} {a1 b1 a2 b2 : Value} (h : Three w g a1 b1 a2 b2 wr) (hb : Below wr.heap.size wr w') : Three w g a1 b1 a2 b2 w' :=
  ⟨h.1.below hb, h.2.1.below hb, h.2.2.1.below hb, below_trans h.2.2.2 hb⟩
theorem BoxI.far {w : World} {g : Nat} {a b : Value} (h : BoxI w g a b) {p : Addr} (hp : g ≠ p.block) (u : Value) : BoxI (w.setCell p u) g a b := (Below.heap_setCell w p u g hp).trans h
/-- The two exchanged. -/
theorem Three.swap {w wr : World} {a1 b1 a2 b2 : Value} (h : Three w w.heap.size a1 b1 a2 b2 wr) :
    Three w w.heap.size a2 b2 a1 b1 ((((wr.setCell ⟨w.heap.size, 0, none⟩ a2).setCell ⟨w.heap.size, 1, none⟩ b2).setCell ⟨w.heap.size + 1, 0, none⟩ a1).setCell ⟨w.heap.size + 1, 1, none⟩ b1) := by
  refine ⟨?_, ?_, ?_, ?_⟩
  · exact (((h.1.set0 a2).set1 b2).far (p := ⟨w.heap.size + 1, 0, none⟩) (by simp) a1).far (p := ⟨w.heap.size + 1, 1, none⟩) (by simp) b1
  · exact (((h.2.1.far (p := ⟨w.heap.size, 0, none⟩) (by simp) a2).far (p := ⟨w.heap.size, 1, none⟩) (by simp) b2).set0 a1).set1 b1
  · exact (((h.2.2.1.far (p := ⟨w.heap.size, 0, none⟩) (by simp) a2).far (p := ⟨w.heap.size, 1, none⟩) (by simp) b2).far (p := ⟨w.heap.size + 1, 0, none⟩) (by simp) a1).far (p := ⟨w.heap.size + 1, 1, none⟩) (by simp) b1
  · exact (((h.2.2.2.setCell (p := ⟨w.heap.size, 0, none⟩) (Nat.le_refl _) a2).setCell (p := ⟨w.heap.size, 1, none⟩) (Nat.le_refl _) b2).setCell (p := ⟨w.heap.size + 1, 0, none⟩) (Nat.le_succ _) a1).setCell (p := ⟨w.heap.size + 1, 1, none⟩) (Nat.le_succ _) b1
theorem Three.nm_swap {w wr : World} {a1 b1 a2 b2 v : Value} {x : Nat} (h : Three w w.heap.size a1 b1 a2 b2 wr) (ha1 : notNum a1 = true) (hb1 : notNum b1 = true) (ha2 : notNum a2 = true) (hb2 : notNum b2 = true) (hn : Nm wr v x) :
    Nm ((((wr.setCell ⟨w.heap.size, 0, none⟩ a2).setCell ⟨w.heap.size, 1, none⟩ b2).setCell ⟨w.heap.size + 1, 0, none⟩ a1).setCell ⟨w.heap.size + 1, 1, none⟩ b1) v x :=
  (hn.put h.1 ha1 hb1 ha2).put ((h.2.1.far (p := ⟨w.heap.size, 0, none⟩) (by simp) a2).far (p := ⟨w.heap.size, 1, none⟩) (by simp) b2) ha2 hb2 ha1

theorem sg_same {z1 z2 : Int} (h : decide (z1 < 0) = decide (z2 < 0)) : sg (decide (z1 < 0)) (z1.natAbs + z2.natAbs) = z1 + z2 := by
  rw [decide_eq_decide] at h
  by_cases a : z1 < 0
  · rw [decide_eq_true a]; have := h.1 a; simp only [sg, if_true]; omega
  · rw [decide_eq_false a]; have : ¬ z2 < 0 := fun b => a (h.2 b); simp only [sg, Bool.false_eq_true, if_false]; omega
theorem sg_diff {z1 z2 : Int} (h : decide (z1 < 0) ≠ decide (z2 < 0)) (hle : z2.natAbs ≤ z1.natAbs) : sg (decide (z1 < 0)) (z1.natAbs - z2.natAbs) = z1 + z2 := by
  by_cases a : z1 < 0
  · rw [decide_eq_true a] at h ⊢
    have : ¬ z2 < 0 := fun b => h (decide_eq_true b).symm
    simp only [sg, if_true]; omega
  · rw [decide_eq_false a] at h ⊢
    have : z2 < 0 := by
      rcases Int.lt_or_le z2 0 with b | b
      · exact b
      · exact absurd (decide_eq_false (by omega : ¬ z2 < 0)).symm h
    simp only [sg, Bool.false_eq_true, if_false]; omega
theorem sg_mul (z1 z2 : Int) : sg (decide (z1 < 0) != decide (z2 < 0)) (z1.natAbs * z2.natAbs) = z1 * z2 := by
  rcases Int.lt_or_le z1 0 with a | a
  · obtain ⟨x, rfl⟩ : ∃ x : Nat, z1 = -(x : Int) := ⟨z1.natAbs, by omega⟩
    rcases Int.lt_or_le z2 0 with b | b
    · obtain ⟨y, rfl⟩ : ∃ y : Nat, z2 = -(y : Int) := ⟨z2.natAbs, by omega⟩
      rw [decide_eq_true a, decide_eq_true b, Int.neg_mul_neg]; simp [sg]
    · obtain ⟨y, rfl⟩ : ∃ y : Nat, z2 = (y : Int) := ⟨z2.natAbs, by omega⟩
      rw [decide_eq_true a, decide_eq_false (by omega)]; simp [sg, Int.neg_mul]
  · obtain ⟨x, rfl⟩ : ∃ x : Nat, z1 = (x : Int) := ⟨z1.natAbs, by omega⟩
    rcases Int.lt_or_le z2 0 with b | b
    · obtain ⟨y, rfl⟩ : ∃ y : Nat, z2 = -(y : Int) := ⟨z2.natAbs, by omega⟩
      rw [decide_eq_false (by omega), decide_eq_true b]; simp [sg, Int.mul_neg]
    · obtain ⟨y, rfl⟩ : ∃ y : Nat, z2 = (y : Int) := ⟨z2.natAbs, by omega⟩
      rw [decide_eq_false (by omega), decide_eq_false (by omega)]; simp [sg]

/-- A number of no more digits than may be. -/
def LimI (z : Int) : Prop := z.natAbs < Lim

set_option maxRecDepth 100000 in
set_option maxHeartbeats 4000000 in
theorem addInt_c (w : World) (v1 v2 : Value) (z1 z2 : Int) (hv1 : Im w v1 z1) (hv2 : Im w v2 z2) (h1 : LimI z1) (h2 : LimI z2) (hs : LimI (z1 + z2)) : Calls Tryz.prog 41 #[v1, v2] w (RetI0 w (z1 + z2)) := by
  obtain ⟨m1, A1, c1, n1, rfl, hm1, k1⟩ := hv1.cases
  obtain ⟨m2, A2, c2, n2, rfl, hm2, k2⟩ := hv2.cases
  have HT := Lib.hid (Three.new w (.bool m1) (.slice A1 n1 c1) (.bool m2) (.slice A2 n2 c2))
  have HI := Lib.hid (And.intro (k1.below HT.out.2.2.2) (k2.below HT.out.2.2.2))
  have HL := Lib.hid (And.intro h1 (And.intro h2 hs))
  have HM := Lib.hid (And.intro hm1 hm2)
  obtain ⟨a0, a1, _, _⟩ := HT.out.1.cells
  obtain ⟨b0, b1, _, _⟩ := HT.out.2.1.cells
  obtain ⟨r0, r1, _, _⟩ := HT.out.2.2.1.cells
  clear hv1 hv2 h1 h2 hs hm1 hm2 k1 k2
  by_cases hmm : m1 = m2
  · subst hmm
    have hadd : z1.natAbs + z2.natAbs = (z1 + z2).natAbs := by
      have := sg_same (z1 := z1) (z2 := z2) (HM.out.1.trans HM.out.2.symm)
      rw [← this, sg_natAbs]
    have hsg := sg_same (z1 := z1) (z2 := z2) (HM.out.1.trans HM.out.2.symm)
    rw [HM.out.1] at hsg
    have HA := Lib.hid (And.intro hadd hsg)
    clear hadd hsg
    go_enter Tryz.func41, Tryz.ntmps41
    go_wp2_with fail
    refine (add_n HI.out.1 HI.out.2 (by rw [HA.out.1]; exact HL.out.2.2)).mono ?_
    rintro e w3 ⟨v3, rfl, hv3, hb⟩
    have H3 := Lib.hid (And.intro hv3 (HT.out.below hb))
    clear hv3 hb a0 a1 b0 b1 r0 r1
    obtain ⟨a0, a1, _, _⟩ := H3.out.2.1.cells
    go_wp2_with fail
    refine (answer_ok w3 m1 v3 _ H3.out.1).mono ?_
    rintro e w4 ⟨v4, rfl, hv4, hb⟩
    rw [HA.out.2] at hv4
    obtain ⟨m4, A4, c4, n4, rfl, hm4, h4⟩ := hv4.cases
    have H4 := Lib.hid (And.intro h4 (And.intro (H3.out.2.below hb) hm4))
    clear hv4 hb h4 hm4 a0 a1
    obtain ⟨r0, r1, g0, g1⟩ := H4.out.2.1.2.2.1.cells
    go_wp2_with fail
    exact bodyPost_ret (v := .tuple #[.agg #[.bool m4, .slice A4 n4 c4], .int .i64 0]) (by simp [results, Tryz.results41, go_sem, r0, r1]) rfl (retI0_put H4.out.2.2 H4.out.2.1.2.2.1 rfl rfl (by omega) H4.out.1 H4.out.2.1.2.2.2)
  · have hbm : (m1 == m2) = false := by rw [beq_eq_false_iff_ne]; exact hmm
    have Hmm := Lib.hid (show decide (z1 < 0) ≠ decide (z2 < 0) by rw [HM.out.1, HM.out.2]; exact hmm)
    clear hmm
    go_enter Tryz.func41, Tryz.ntmps41
    go_wp2_with fail
    refine (cmp_n HI.out.1 HI.out.2).mono ?_
    rintro e w3 ⟨rfl, hb⟩
    have H3 := Lib.hid (And.intro (And.intro (HI.out.1.below hb) (HI.out.2.below hb)) (HT.out.below hb))
    clear hb a0 a1 b0 b1 r0 r1
    obtain ⟨a0, a1, _, _⟩ := H3.out.2.1.cells
    obtain ⟨b0, b1, _, _⟩ := H3.out.2.2.1.cells
    by_cases hlt : z1.natAbs < z2.natAbs
    · have ho : ord3 z1.natAbs z2.natAbs = -1 := ord3_lt hlt
      rw [ho]
      obtain ⟨_, _, f0, f1⟩ := H3.out.2.1.cells
      obtain ⟨_, _, g0, g1⟩ := H3.out.2.2.1.cells
      have hsg := sg_diff (z1 := z2) (z2 := z1) (fun e => Hmm.out e.symm) (by omega)
      rw [HM.out.2, Int.add_comm] at hsg
      have HA := Lib.hid (And.intro hsg (Nat.le_of_lt hlt))
      have HS := Lib.hid (And.intro (And.intro (H3.out.2.nm_swap rfl rfl rfl rfl H3.out.1.1) (H3.out.2.nm_swap rfl rfl rfl rfl H3.out.1.2)) H3.out.2.swap)
      clear ho hsg hlt
      go_wp2_with fail
      refine (sub_n HS.out.1.2 HS.out.1.1 HA.out.2 HL.out.2.1).mono ?_
      rintro e w5 ⟨v5, rfl, hv5, hb⟩
      clear f0 f1 g0 g1
      have H5 := Lib.hid (And.intro hv5 (HS.out.2.below hb))
      clear hv5 hb a0 a1 b0 b1
      obtain ⟨a0, a1, _, _⟩ := H5.out.2.1.cells
      go_wp2_with fail
      refine (answer_ok w5 m2 v5 _ H5.out.1).mono ?_
      rintro e w6 ⟨v6, rfl, hv6, hb⟩
      rw [HA.out.1] at hv6
      obtain ⟨m4, A4, c4, n4, rfl, hm4, h4⟩ := hv6.cases
      have H6 := Lib.hid (And.intro h4 (And.intro (H5.out.2.below hb) hm4))
      clear hv6 hb h4 hm4 a0 a1
      obtain ⟨r0, r1, g0, g1⟩ := H6.out.2.1.2.2.1.cells
      go_wp2_with fail
      exact bodyPost_ret (v := .tuple #[.agg #[.bool m4, .slice A4 n4 c4], .int .i64 0]) (by simp [results, Tryz.results41, go_sem, r0, r1]) rfl (retI0_put H6.out.2.2 H6.out.2.1.2.2.1 rfl rfl (by omega) H6.out.1 H6.out.2.1.2.2.2)
    · have ho : decide (ord3 z1.natAbs z2.natAbs < 0) = false := by
        rw [decide_eq_false_iff_not]; unfold ord3; rw [if_neg hlt]; split <;> omega
      generalize ord3 z1.natAbs z2.natAbs = oo at ho ⊢
      have ho2 : ¬ oo < 0 := of_decide_eq_false ho
      have hsg := sg_diff (z1 := z1) (z2 := z2) Hmm.out (by omega)
      rw [HM.out.1] at hsg
      have HA := Lib.hid (And.intro hsg (Nat.le_of_not_lt hlt))
      have HS := Lib.hid H3.out
      clear hsg hlt
      go_wp2_with fail
      refine (sub_n HS.out.1.1 HS.out.1.2 HA.out.2 HL.out.1).mono ?_
      rintro e w5 ⟨v5, rfl, hv5, hb⟩
      have H5 := Lib.hid (And.intro hv5 (HS.out.2.below hb))
      clear hv5 hb a0 a1 b0 b1
      obtain ⟨a0, a1, _, _⟩ := H5.out.2.1.cells
      go_wp2_with fail
      refine (answer_ok w5 m1 v5 _ H5.out.1).mono ?_
      rintro e w6 ⟨v6, rfl, hv6, hb⟩
      rw [HA.out.1] at hv6
      obtain ⟨m4, A4, c4, n4, rfl, hm4, h4⟩ := hv6.cases
      have H6 := Lib.hid (And.intro h4 (And.intro (H5.out.2.below hb) hm4))
      clear hv6 hb h4 hm4 a0 a1
      obtain ⟨r0, r1, g0, g1⟩ := H6.out.2.1.2.2.1.cells
      go_wp2_with fail
      exact bodyPost_ret (v := .tuple #[.agg #[.bool m4, .slice A4 n4 c4], .int .i64 0]) (by simp [results, Tryz.results41, go_sem, r0, r1]) rfl (retI0_put H6.out.2.2 H6.out.2.1.2.2.1 rfl rfl (by omega) H6.out.1 H6.out.2.1.2.2.2)

set_option maxRecDepth 100000 in
set_option maxHeartbeats 4000000 in
theorem mulInt_c (w : World) (v1 v2 : Value) (z1 z2 : Int) (hv1 : Im w v1 z1) (hv2 : Im w v2 z2) (hs : LimI (z1 * z2)) : Calls Tryz.prog 38 #[v1, v2] w (RetI0 w (z1 * z2)) := by
  obtain ⟨m1, A1, c1, n1, rfl, hm1, k1⟩ := hv1.cases
  obtain ⟨m2, A2, c2, n2, rfl, hm2, k2⟩ := hv2.cases
  have HT := Lib.hid (Three.new w (.bool m1) (.slice A1 n1 c1) (.bool m2) (.slice A2 n2 c2))
  have HI := Lib.hid (And.intro (k1.below HT.out.2.2.2) (k2.below HT.out.2.2.2))
  have hsg := sg_mul z1 z2
  rw [hm1, hm2] at hsg
  have HA := Lib.hid (And.intro hsg (show z1.natAbs * z2.natAbs < Lim by rw [← Int.natAbs_mul]; exact hs))
  obtain ⟨a0, a1, _, _⟩ := HT.out.1.cells
  obtain ⟨b0, b1, _, _⟩ := HT.out.2.1.cells
  obtain ⟨r0, r1, _, _⟩ := HT.out.2.2.1.cells
  clear hv1 hv2 hs hm1 hm2 k1 k2 hsg
  go_enter Tryz.func38, Tryz.ntmps38
  go_wp2_with fail
  refine (mul_n HI.out.1 HI.out.2 HA.out.2).mono ?_
  rintro e w3 ⟨v3, rfl, hv3, hb⟩
  have H3 := Lib.hid (And.intro hv3 (HT.out.below hb))
  clear hv3 hb a0 a1 b0 b1 r0 r1
  obtain ⟨a0, a1, _, _⟩ := H3.out.2.1.cells
  obtain ⟨b0, b1, _, _⟩ := H3.out.2.2.1.cells
  go_wp2_with fail
  refine (answer_ok w3 (m1 != m2) v3 _ H3.out.1).mono ?_
  rintro e w4 ⟨v4, rfl, hv4, hb⟩
  rw [HA.out.1] at hv4
  obtain ⟨m4, A4, c4, n4, rfl, hm4, h4⟩ := hv4.cases
  have H4 := Lib.hid (And.intro h4 (And.intro (H3.out.2.below hb) hm4))
  clear hv4 hb h4 hm4 a0 a1 b0 b1
  obtain ⟨r0, r1, g0, g1⟩ := H4.out.2.1.2.2.1.cells
  go_wp2_with fail
  exact bodyPost_ret (v := .tuple #[.agg #[.bool m4, .slice A4 n4 c4], .int .i64 0]) (by simp [results, Tryz.results38, go_sem, r0, r1]) rfl (retI0_put H4.out.2.2 H4.out.2.1.2.2.1 rfl rfl (by omega) H4.out.1 H4.out.2.1.2.2.2)
end Go.Proofs.YtnncfbmddpijcaaGreatDoor

/- Whole numbers: less, shifted, divided, of small ones. -/
namespace Go.Proofs.YtnncfbmddpijcaaGreatDoor
open Go Go.RowKit Go.Shelf
attribute [local go_sem ↓] Go.wp_at_zero Go.wp_at_succ

set_option maxRecDepth 100000 in
set_option maxHeartbeats 4000000 in
theorem subInt_c (w : World) (v1 v2 : Value) (z1 z2 : Int) (hv1 : Im w v1 z1) (hv2 : Im w v2 z2) (h1 : LimI z1) (h2 : LimI z2) (hs : LimI (z1 - z2)) : Calls Tryz.prog 48 #[v1, v2] w (RetI0 w (z1 - z2)) := by
  obtain ⟨m1, A1, c1, n1, rfl, _, _⟩ := hv1.cases
  obtain ⟨m2, A2, c2, n2, rfl, _, _⟩ := hv2.cases
  have HT := Lib.hid (Three.new w (.bool m1) (.slice A1 n1 c1) (.bool m2) (.slice A2 n2 c2))
  have HT2 := Lib.hid (HT.out.below (Below.drew (Below.refl _ _)))
  have HI := Lib.hid (And.intro (And.intro (hv1.below HT2.out.2.2.2) (hv2.below HT2.out.2.2.2)) HT2.out)
  have HL := Lib.hid (And.intro h1 (And.intro (show LimI (-z2) by unfold LimI at h2 ⊢; rw [Int.natAbs_neg]; exact h2) (show LimI (z1 + -z2) from hs)))
  obtain ⟨a0, a1, _, _⟩ := HT.out.1.cells
  obtain ⟨b0, b1, _, _⟩ := HT.out.2.1.cells
  clear hv1 hv2 h1 h2 hs HT2
  have hne1 : ¬ (w.heap.size = w.heap.size + 1 + 1) := by omega
  go_enter Tryz.func48, Tryz.ntmps48
  go_wp2_with fail
  go_region_held3 (fun w' => w'.cell? ⟨w.heap.size, 0, none⟩ = some (.bool m1) ∧ w'.cell? ⟨w.heap.size, 1, none⟩ = some (.slice A1 n1 c1) ∧ w'.cell? ⟨w.heap.size + 1, 0, none⟩ = some (.bool m2) ∧ w'.cell? ⟨w.heap.size + 1, 1, none⟩ = some (.slice A2 n2 c2)) (first | (exact ⟨by assumption, by assumption, by assumption, by assumption⟩) | ((try dsimp only); refine ⟨?_, ?_, ?_, ?_⟩ <;> (rw [World.cell?_setCell_far, World.cell?_setCell_far] <;> first | assumption | (dsimp only; omega))) | go_keep)
    (first
      | ((with_reducible refine (turned_c _ (.agg #[.bool m2, .slice A2 n2 c2]) z2 HI.out.1.2).mono ?_); rintro e w3 ⟨v3, rfl, hv3, hb⟩; have H3 := Lib.hid (And.intro (And.intro (HI.out.1.1.below hb) hv3) (HI.out.2.below hb)); clear hb hv3 a0 a1 b0 b1; obtain ⟨a0, a1, _, _⟩ := H3.out.2.1.cells; obtain ⟨b0, b1, _, _⟩ := H3.out.2.2.1.cells)
      | ((with_reducible refine (addInt_c _ (.agg #[.bool m1, .slice A1 n1 c1]) _ z1 (-z2) H3.out.1.1 H3.out.1.2 HL.out.1 HL.out.2.1 HL.out.2.2).mono ?_); rintro e w4 ⟨v4, rfl, hv4, hb⟩; obtain ⟨m4, A4, c4, n4, rfl, hm4, h4⟩ := hv4.cases; have H4 := Lib.hid (And.intro h4 (And.intro (H3.out.2.below hb) hm4)); clear hv4 hb h4 hm4 a0 a1 b0 b1; obtain ⟨a0, a1, _, _⟩ := H4.out.2.1.1.cells; obtain ⟨b0, b1, _, _⟩ := H4.out.2.1.2.1.cells; obtain ⟨r0, r1, g0, g1⟩ := H4.out.2.1.2.2.1.cells))
  all_goals
    go_wp2_with fail
    exact bodyPost_ret (v := .tuple #[.agg #[.bool m4, .slice A4 n4 c4], .int .i64 0]) (by simp [results, Tryz.results48, go_sem, r0, r1]) rfl (retI0_put (z := z1 - z2) H4.out.2.2 H4.out.2.1.2.2.1 rfl rfl (by omega) H4.out.1 H4.out.2.1.2.2.2)

/-- One boxed argument, and the result's variable. -/
def OneR (w : World) (g : Nat) (a1 b1 : Value) (wr : World) : Prop := BoxI wr g a1 b1 ∧ BoxI wr (g + 1) (.bool false) (.slice none 0 0) ∧ Below w.heap.size w wr
theorem OneR.new (w : World) (a1 b1 : Value) : OneR w w.heap.size a1 b1 ((w.alloc (.cells #[a1, b1] 25)).alloc (.cells #[.bool false, .slice none 0 0] 25)) := by
  have h := Two.new w a1 b1 (.bool false) (.slice none 0 0)
  exact h
theorem OneR.below {w wr w' : World} {g : Nat} {a1 b1 : Value} (h : OneR w g a1 b1 wr) (hb : Below wr.heap.size wr w') : OneR w g a1 b1 w' := ⟨h.1.below hb, h.2.1.below hb, below_trans h.2.2 hb⟩
theorem left_nm {w : World} {va : Value} {x : Nat} (n : Nat) (ha : Nm w va x) (hn : n ≤ 9223372036854775807) (hx : x * 2 ^ n < Lim) : Calls Tryz.prog 46 #[va, .int .i64 n] w (RetN0 w (x * 2 ^ n)) := by
  obtain ⟨A, c, xs, rfl, h1, rfl⟩ := ha
  refine (left_c w _ xs n h1.1 h1.2.1.1 h1.2.2 (by omega) (by omega)).mono fun _ _ h => ?_
  rcases h with ⟨h, _⟩ | ⟨_, hb, (⟨h, _⟩ | ⟨_, v, rfl, hN⟩)⟩
  · omega
  · simp only [Int.toNat_natCast] at h; omega
  · simp only [Int.toNat_natCast] at hN; exact ⟨v, rfl, Nm.of_numV hx hN, hb⟩
theorem right_nm {w : World} {va : Value} {x : Nat} (n : Nat) (ha : Nm w va x) (hn : n ≤ 9223372036854775807) (hx : x < Lim) : Calls Tryz.prog 90 #[va, .int .i64 n] w (RetN0 w (x / 2 ^ n)) := by
  obtain ⟨A, c, xs, rfl, h1, rfl⟩ := ha
  have hq : val 4294967296 xs / 2 ^ n < Lim := Nat.lt_of_le_of_lt (Nat.div_le_self _ _) hx
  refine (right_c w _ xs n h1.1 h1.2.1.1 h1.2.2 (by omega) (by omega) (by rw [Hid, Int.toNat_natCast]; exact hq)).mono fun _ _ h => ?_
  rcases h with ⟨h, _⟩ | ⟨_, hb, v, rfl, hN⟩
  · omega
  · simp only [Int.toNat_natCast] at hN; exact ⟨v, rfl, Nm.of_numV hq hN, hb⟩
theorem tail_nm {w : World} {va : Value} {x : Nat} (hT : Tab w) (ha : Nm w va x) : Calls Tryz.prog 62 #[va] w fun e w' => ∃ n : Nat, e = .returned (.int .i64 (n : Int)) ∧ IsTail n x ∧ w = w' := by
  obtain ⟨A, c, xs, rfl, h1, rfl⟩ := ha
  exact (tail_c w hT _ xs h1.1 h1.2.1.1 h1.2.2).mono fun _ _ ⟨hw, n, he, hn⟩ => ⟨n, he, hn, hw⟩
theorem sg_left (z : Int) (n : Nat) : sg (decide (z < 0)) (z.natAbs * 2 ^ n) = z * 2 ^ n := by
  have hp : (2 : Int) ^ n = ((2 ^ n : Nat) : Int) := by simp
  rcases Int.lt_or_le z 0 with a | a
  · obtain ⟨x, rfl⟩ : ∃ x : Nat, z = -(x : Int) := ⟨z.natAbs, by omega⟩
    rw [decide_eq_true a, hp]; simp [sg, Int.neg_mul]
  · obtain ⟨x, rfl⟩ : ∃ x : Nat, z = (x : Int) := ⟨z.natAbs, by omega⟩
    rw [decide_eq_false (by omega), hp]; simp [sg]

set_option maxRecDepth 100000 in
set_option maxHeartbeats 4000000 in
theorem leftInt_c (w : World) (v : Value) (z : Int) (n : Nat) (hv : Im w v z) (hn : n ≤ 9223372036854775807) (hs : LimI (z * 2 ^ n)) : Calls Tryz.prog 44 #[v, .int .i64 n] w (RetI0 w (z * 2 ^ n)) := by
  obtain ⟨m, A, c, k, rfl, hm, h1⟩ := hv.cases
  have HT := Lib.hid (OneR.new w (.bool m) (.slice A k c))
  have hsg := sg_left z n
  have hlim : z.natAbs * 2 ^ n < Lim := by have := hs; unfold LimI at this; rwa [← hsg, sg_natAbs] at this
  rw [hm] at hsg
  have HA := Lib.hid (And.intro hsg (And.intro hlim (h1.below HT.out.2.2)))
  obtain ⟨a0, a1, _, _⟩ := HT.out.1.cells
  obtain ⟨r0, r1, _, _⟩ := HT.out.2.1.cells
  clear hv hs hm h1 hsg hlim
  go_enter Tryz.func44, Tryz.ntmps44
  go_wp2_with fail
  refine (left_nm n HA.out.2.2 hn HA.out.2.1).mono ?_
  rintro e w3 ⟨v3, rfl, hv3, hb⟩
  have H3 := Lib.hid (And.intro hv3 (HT.out.below hb))
  clear hv3 hb a0 a1 r0 r1
  obtain ⟨a0, a1, _, _⟩ := H3.out.2.1.cells
  go_wp2_with fail
  refine (answer_ok w3 m v3 _ H3.out.1).mono ?_
  rintro e w4 ⟨v4, rfl, hv4, hb⟩
  rw [HA.out.1] at hv4
  obtain ⟨m4, A4, c4, n4, rfl, hm4, h4⟩ := hv4.cases
  have H4 := Lib.hid (And.intro h4 (And.intro (H3.out.2.below hb) hm4))
  clear hv4 hb h4 hm4 a0 a1
  obtain ⟨r0, r1, g0, g1⟩ := H4.out.2.1.2.1.cells
  go_wp2_with fail
  exact bodyPost_ret (v := .tuple #[.agg #[.bool m4, .slice A4 n4 c4], .int .i64 0]) (by simp [results, Tryz.results44, go_sem, r0, r1]) rfl (retI0_put H4.out.2.2 H4.out.2.1.2.1 rfl rfl (by omega) H4.out.1 H4.out.2.1.2.2)
end Go.Proofs.YtnncfbmddpijcaaGreatDoor
