/- Layer 3's arguments: which may be. -/
import Derived.Test.YtphpaejgcahgbaaGreatDoorCounts3
namespace Go.Proofs.YtphpaejgcahgbaaGreatDoor
open Go Go.RowKit Go.Shelf
attribute [local go_sem ↓] Go.wp_at_zero Go.wp_at_succ

def ArgI (w : World) (v : Value) (m : Bool) (zs : List Nat) : Prop := ∃ s, v = .agg #[.bool m, s] ∧ Arg w s zs
/-- A row of whole numbers that may be none. -/
def RowA (w : World) (g : Nat) (l : List (Bool × List Nat)) : Prop := g < w.heap.size ∧ ∀ (k : Nat) (m : Bool) (zs : List Nat), l[k]? = some (m, zs) → ∃ A c n, zs.length = n ∧ w.cell? ⟨g, k * 2, none⟩ = some (.bool m) ∧ w.cell? ⟨g, k * 2 + 1, none⟩ = some (.slice A n c) ∧ Arg w (.slice A n c) zs
theorem RowA.below {w w' : World} {g : Nat} {l : List (Bool × List Nat)} (h : RowA w g l) (hb : Below w.heap.size w w') : RowA w' g l :=
  ⟨Nat.lt_of_lt_of_le h.1 (Below.size hb), fun k m zs hk => by
    obtain ⟨A, c, n, h0, h1, h2, h3⟩ := h.2 k m zs hk
    exact ⟨A, c, n, h0, (World.cell?_of_block (hb.block g h.1)).trans h1, (World.cell?_of_block (hb.block g h.1)).trans h2, h3.below hb (Nat.le_refl _)⟩⟩
def FitI (m : Bool) (zs : List Nat) : Prop := zs.length ≤ 30 ∧ checkI m zs = 0
instance (m : Bool) (zs : List Nat) : Decidable (FitI m zs) := by unfold FitI; exact inferInstance
def fitA (l : List (Bool × List Nat)) : Bool := l.all fun x => decide (FitI x.1 x.2)
theorem fitA_false {l : List (Bool × List Nat)} {k : Nat} {m : Bool} {zs : List Nat} (h : l[k]? = some (m, zs)) (hf : ¬ FitI m zs) : fitA l = false := by
  unfold fitA
  rw [List.all_eq_false]
  exact ⟨(m, zs), List.mem_of_getElem? h, by simpa using hf⟩
theorem fitA_true {l : List (Bool × List Nat)} (h : ∀ (j : Nat) (m : Bool) (zs : List Nat), l[j]? = some (m, zs) → FitI m zs) : fitA l = true := by
  unfold fitA
  rw [List.all_eq_true]
  intro x hx
  obtain ⟨j, hj⟩ := List.mem_iff_getElem?.1 hx
  exact decide_eq_true (h j x.1 x.2 hj)

set_option maxRecDepth 100000 in
set_option maxHeartbeats 8000000 in
theorem fit3_c (w : World) (g cap : Nat) (l : List (Bool × List Nat)) (hR : RowA w g l) (hl : l.length ≤ 1000) : Calls Tryz.prog 15 #[.slice (some ⟨g, 0, none⟩) l.length cap] w fun e w' => e = .returned (.bool (fitA l)) ∧ Below w.heap.size w w' := by
  have HR := Lib.hid (And.intro hR hl)
  obtain ⟨n, hn⟩ : ∃ n, l.length = n := ⟨_, rfl⟩
  have HN := Lib.hid hn
  rw [hn] at HR ⊢
  clear hR hl hn
  go_enter Tryz.func15, Tryz.ntmps15
  go_wp2_with fail
  go_loopw [7] (fun i wr => ∃ (k : Nat), k ≤ n ∧ i = .int .i64 k ∧ Hid (Below w.heap.size w wr ∧ ∀ (j : Nat) (m : Bool) (zs : List Nat), j < k → l[j]? = some (m, zs) → FitI m zs)) (fun i _ => n - (intOf i).toNat)
  case atStart => exact ⟨0, Nat.zero_le _, rfl, Below.refl _ _, fun j m zs h => absurd h (by omega)⟩
  case round =>
    obtain ⟨k, hk, rfl, HV⟩ := hrel
    by_cases hlt : k < n
    · have hki : (k : Int) < n := by omega
      obtain ⟨⟨m, zs⟩, hx⟩ : ∃ x, l[k]? = some x := ⟨_, List.getElem?_eq_getElem (by have := HN.out; omega)⟩
      obtain ⟨A, c, q, hq, e0, e1, ha⟩ := (HR.out.1.below HV.out.1).2 k m zs hx
      have HW := Lib.hid (box_below wr (.bool m) (.slice A q c))
      have HX := Lib.hid (And.intro hx (And.intro hq (ha.below HW.out (Nat.le_refl _))))
      have HB := Lib.hid (BoxI.new wr (.bool m) (.slice A q c))
      obtain ⟨a0, a1, _, _⟩ := HB.out.cells
      clear hx hq ha
      by_cases h30 : 30 < q
      · have hd : decide ((q : Int) > 30) = true := by rw [decide_eq_true_iff]; omega
        have hfa : fitA l = false := fitA_false HX.out.1 (fun h => by have := h.1; have := HX.out.2.1; omega)
        have HFA := Lib.hid hfa
        clear hfa
        go_wp2_with fail
        go_ret
        exact ⟨by rw [HFA.out]; rfl, below_trans HV.out.1 HW.out⟩
      · have hd : decide ((q : Int) > 30) = false := by rw [decide_eq_false_iff_not]; omega
        go_wp2_with fail
        refine (checkInt_c _ m A c q zs (HX.out.2.2.2 (by have := HX.out.2.1; omega))).mono ?_
        rintro e w3 ⟨rfl, hb⟩
        have H3 := Lib.hid (below_trans HV.out.1 (below_trans HW.out hb))
        clear hb a0 a1
        by_cases hok : checkI m zs = 0
        · have hf : FitI m zs := ⟨by have := HX.out.2.1; omega, hok⟩
          have HF := Lib.hid hf
          rw [hok]
          clear hok hf
          go_wp2_with fail
          go_roundw
          case rel =>
            have hkc : k < 1000 := by have := HR.out.2; omega
            have hw : wrap64 ((k : Int) + 1) = ((k + 1 : Nat) : Int) := by unfold wrap64; omega
            refine ⟨k + 1, by omega, by rw [hw], H3.out, fun j m' zs' hj hy => ?_⟩
            by_cases e : j = k
            · subst e
              rw [HX.out.1] at hy
              injection hy with hy
              injection hy with hy1 hy2
              subst hy1; subst hy2
              exact HF.out
            · exact HV.out.2 j m' zs' (by omega) hy
          case measure => have hkc : k < 1000 := by have := HR.out.2; omega
                          have hw : wrap64 ((k : Int) + 1) = ((k + 1 : Nat) : Int) := by unfold wrap64; omega
                          rw [hw]; simp [intOf]; omega
        · have hfa : fitA l = false := fitA_false HX.out.1 (fun h => hok h.2)
          have HFA := Lib.hid hfa
          obtain ⟨u, hu⟩ : ∃ u, checkI m zs = u := ⟨_, rfl⟩
          rw [hu] at hok ⊢
          have hb1 : (u != 0) = true := by rw [bne_iff_ne]; exact hok
          have hb2 : (u == 0) = false := by rw [beq_eq_false_iff_ne]; exact hok
          clear hfa hu
          go_wp2_with fail
          go_ret
          exact ⟨by rw [HFA.out]; rfl, H3.out⟩
    · obtain rfl : k = n := by omega
      have hfa : fitA l = true := fitA_true fun j m zs hj => HV.out.2 j m zs (by
        have h1 := (List.getElem?_eq_some_iff.1 hj).1
        have := HN.out; omega) hj
      have HFA := Lib.hid hfa
      clear hfa
      go_wp2_with fail
      go_ret
      exact ⟨by rw [HFA.out]; rfl, HV.out.1⟩

theorem im_arg {w : World} {m : Bool} {A : Option Addr} {c n : Nat} {zs : List Nat} (hR : Arg w (.slice A n c) zs) (hn : zs.length = n) (hb : ∀ x ∈ zs, x < 4294967296) (hf : FitI m zs) :
    Im w (.agg #[.bool m, .slice A n c]) (sg m (val 4294967296 zs)) ∧ val 4294967296 zs < 4294967296 ^ 30 ∧ (n = 0 ↔ val 4294967296 zs = 0) := by
  have hk : checkOf zs = 0 := by
    have := hf.2; unfold checkI at this
    by_cases h : checkOf zs = 0
    · exact h
    · rw [if_neg h] at this; exact this
  have hC := FitOne.can ⟨Nat.le_trans hf.1 (by omega), hk⟩ hb
  have hz : val 4294967296 zs = 0 → zs.length = 0 := fun h => by rw [hC.nil_of (by omega) h]; rfl
  have hm : m = true → zs.length ≠ 0 := fun e h => by
    have := hf.2; unfold checkI at this
    rw [if_pos hk, if_pos ⟨e, h⟩] at this
    omega
  have hN : Nm w (.slice A n c) (val 4294967296 zs) := Nm.of_ok ⟨hR.2 (by have := hf.1; omega), hC, by have := hf.1; omega⟩
  refine ⟨⟨A, c, n, ?_, by rw [sg_natAbs]; exact hN⟩, Nat.lt_of_lt_of_le (val_lt hb) (Nat.pow_le_pow_right (by omega) hf.1), ?_⟩
  · rw [sg_neg]
    cases m with
    | false => simp
    | true =>
      have h0 : 0 < val 4294967296 zs := by
        rcases Nat.eq_zero_or_pos (val 4294967296 zs) with e | e
        · exact absurd (hz e) (hm rfl)
        · exact e
      rw [decide_eq_true h0]; rfl
  · constructor
    · intro h
      have : zs = [] := List.eq_nil_of_length_eq_zero (by omega)
      rw [this]; rfl
    · intro h; have := hz h; omega

/-- Two arguments laid into a row. -/
theorem RowA.new2 {w : World} {m1 m2 : Bool} {A1 A2 : Option Addr} {n1 c1 n2 c2 g : Nat} {xs ys : List Nat} (hg : w.heap.size = g) (e1 : xs.length = n1) (e2 : ys.length = n2) (h1 : Arg w (.slice A1 n1 c1) xs) (h2 : Arg w (.slice A2 n2 c2) ys) :
    RowA (w.alloc (.cells #[.bool m1, .slice A1 n1 c1, .bool m2, .slice A2 n2 c2] 25)) g [(m1, xs), (m2, ys)] ∧ Below w.heap.size w (w.alloc (.cells #[.bool m1, .slice A1 n1 c1, .bool m2, .slice A2 n2 c2] 25)) := by
  subst hg
  have hb : Below w.heap.size w (w.alloc (.cells #[.bool m1, .slice A1 n1 c1, .bool m2, .slice A2 n2 c2] 25)) := (Below.refl _ w).alloc (Nat.le_refl _) _
  have hh := World.alloc_heap_new w (.cells #[.bool m1, .slice A1 n1 c1, .bool m2, .slice A2 n2 c2] 25)
  refine ⟨⟨by simp, fun k m zs hk => ?_⟩, hb⟩
  match k, hk with
  | 0, hk => injection hk with hk; injection hk with hk1 hk2; subst hk1; subst hk2; exact ⟨A1, c1, n1, e1, by rw [Lib.cell_of_heap hh]; rfl, by rw [Lib.cell_of_heap hh]; rfl, h1.below hb (Nat.le_refl _)⟩
  | 1, hk => injection hk with hk; injection hk with hk1 hk2; subst hk1; subst hk2; exact ⟨A2, c2, n2, e2, by rw [Lib.cell_of_heap hh]; rfl, by rw [Lib.cell_of_heap hh]; rfl, h2.below hb (Nat.le_refl _)⟩
end Go.Proofs.YtphpaejgcahgbaaGreatDoor
