/- Whole numbers: variables, rows, sums. -/
import Derived.Test.YtdaoechbaejjmaaDoorInt8
namespace Go.Proofs.YtdaoechbaejjmaaDoor
open Go Go.RowKit Go.Shelf
attribute [local go_sem ↓] Go.wp_at_zero Go.wp_at_succ

/-- A variable that holds a whole number. -/
def VarI (w : World) (g : Nat) (a b : Value) (z : Int) : Prop := BoxI w g a b ∧ Im w (.agg #[a, b]) z
theorem VarI.below {w w' : World} {g : Nat} {a b : Value} {z : Int} (h : VarI w g a b z) (hb : Below w.heap.size w w') : VarI w' g a b z := ⟨h.1.below hb, h.2.below hb⟩
theorem VarI.new {w : World} {m : Bool} {A : Option Addr} {n c : Nat} {z : Int} (h : Im w (.agg #[.bool m, .slice A n c]) z) : VarI (w.alloc (.cells #[.bool m, .slice A n c] 59)) w.heap.size (.bool m) (.slice A n c) z ∧ Below w.heap.size w (w.alloc (.cells #[.bool m, .slice A n c] 59)) :=
  ⟨⟨BoxI.new w _ _, h.below (box_below w _ _)⟩, box_below w _ _⟩

/-- A row of whole numbers. -/
def RowI (w : World) (g : Nat) (zs : List Int) : Prop := g < w.heap.size ∧ ∀ (k : Nat) (z : Int), zs[k]? = some z → ∃ m A n c, w.cell? ⟨g, k * 2, none⟩ = some (.bool m) ∧ w.cell? ⟨g, k * 2 + 1, none⟩ = some (.slice A n c) ∧ Im w (.agg #[.bool m, .slice A n c]) z
theorem RowI.below {w w' : World} {g : Nat} {zs : List Int} (h : RowI w g zs) (hb : Below w.heap.size w w') : RowI w' g zs :=
  ⟨Nat.lt_of_lt_of_le h.1 (Below.size hb), fun k z hk => by
    obtain ⟨m, A, n, c, h1, h2, h3⟩ := h.2 k z hk
    exact ⟨m, A, n, c, (World.cell?_of_block (hb.block g h.1)).trans h1, (World.cell?_of_block (hb.block g h.1)).trans h2, h3.below hb⟩⟩
theorem sum_take {zs : List Int} {k : Nat} {z : Int} (h : zs[k]? = some z) : (zs.take (k + 1)).sum = (zs.take k).sum + z := by
  rw [List.take_add_one, h]; simp
theorem below_zero (w : World) : ((w.alloc (.cells #[.bool false, .slice none 0 0] 59)).alloc (.cells #[.bool false, .slice none 0 0] 59)).heap.size = w.heap.size + 1 + 1 := by simp

set_option maxRecDepth 100000 in
set_option maxHeartbeats 8000000 in
theorem sumInt_c (w : World) (g cap : Nat) (zs : List Int) (hR : RowI w g zs) (hz : ∀ z ∈ zs, LimI z) (hs : ∀ k, k ≤ zs.length → LimI (zs.take k).sum) (hl : zs.length ≤ 1000) : Calls Tryd.prog 77 #[.slice (some ⟨g, 0, none⟩) zs.length cap] w (RetI0 w zs.sum) := by
  have HT := Lib.hid (Two.new w (.bool false) (.slice none 0 0) (.bool false) (.slice none 0 0))
  have HR := Lib.hid (And.intro hR (And.intro hz (And.intro hs hl)))
  obtain ⟨n, hn⟩ : ∃ n, zs.length = n := ⟨_, rfl⟩
  have HN := Lib.hid hn
  rw [hn] at HR ⊢
  clear hR hz hs hl hn
  go_enter Tryd.func77, Tryd.ntmps77
  go_wp2_with fail
  go_loopw [10] (fun i wr => ∃ (k : Nat), k ≤ n ∧ i = .int .i64 k ∧ Hid (∃ m A l c, VarI wr (w.heap.size + 1) (.bool m) (.slice A l c) (zs.take k).sum ∧ BoxI wr w.heap.size (.bool false) (.slice none 0 0) ∧ Below w.heap.size w wr)) (fun i _ => n - (intOf i).toNat)
  case atStart => exact ⟨0, Nat.zero_le _, rfl, false, none, 0, 0, ⟨HT.out.2.1, Im.zero _⟩, HT.out.1, HT.out.2.2⟩
  case round =>
    obtain ⟨k, hk, rfl, HV⟩ := hrel
    by_cases hlt : k < n
    · have hki : (k : Int) < n := by omega
      have hx : zs[k]? = some (zs[k]'(by have := HN.out; omega)) := List.getElem?_eq_getElem _
      obtain ⟨z, hzz⟩ : ∃ z, (zs[k]'(by have := HN.out; omega)) = z := ⟨_, rfl⟩
      rw [hzz] at hx
      have hb0 : Below w.heap.size w wr := by obtain ⟨_, _, _, _, _, _, h⟩ := HV.out; exact h
      obtain ⟨m2, A2, l2, c2, e0, e1, him⟩ := (HR.out.1.below hb0).2 k z hx
      have HX := Lib.hid (And.intro hx (And.intro (HR.out.2.1 z (List.mem_of_getElem? hx)) (And.intro him hb0)))
      obtain ⟨m, A, l, c, hv, hbx, hb1⟩ := HV.out
      have HY := Lib.hid (And.intro hv (And.intro hbx hb1))
      clear hx hzz hb0 him hv hbx hb1 HV
      have HA := Lib.hid (VarI.new HX.out.2.2.1)
      have HA2 := Lib.hid (HY.out.1.below HA.out.2)
      obtain ⟨a0, a1, _, _⟩ := HA.out.1.1.cells
      obtain ⟨s0, s1, _, _⟩ := HA2.out.1.cells
      have hne : ¬ (w.heap.size + 1 = wr.heap.size) := by have := HY.out.1.1.lt; omega
      go_wp2_with fail
      refine (addInt_c _ (.agg #[.bool m, .slice A l c]) (.agg #[.bool m2, .slice A2 l2 c2]) (zs.take k).sum z HA2.out.2 HA.out.1.2 (HR.out.2.2.1 k hk) HX.out.2.1 (by rw [← sum_take HX.out.1]; exact HR.out.2.2.1 (k + 1) (by omega))).mono ?_
      rintro e w3 ⟨v3, rfl, hv3, hb⟩
      rw [← sum_take HX.out.1] at hv3
      obtain ⟨m4, A4, c4, n4, rfl, hm4, h4⟩ := hv3.cases
      have H3 := Lib.hid (And.intro (And.intro hm4 h4) (And.intro (HA2.out.1.below hb) (And.intro ((HY.out.2.1.below HA.out.2).below hb) (below_trans HY.out.2.2 (below_trans HA.out.2 hb)))))
      clear hv3 hb hm4 h4 a0 a1 s0 s1
      obtain ⟨s0, s1, f0, f1⟩ := H3.out.2.1.cells
      go_wp2_with fail
      go_roundw
      case rel =>
        have hkc : k < 1000 := by have := HR.out.2.2.2; omega
        have hw : wrap64 ((k : Int) + 1) = ((k + 1 : Nat) : Int) := by unfold wrap64; omega
        refine ⟨k + 1, by omega, by rw [hw], m4, A4, n4, c4, ⟨H3.out.2.1.put, ?_⟩, H3.out.2.2.1.apart (by omega), H3.out.2.2.2.trans (below_put (by omega))⟩
        have := H3.out.1.2.put H3.out.2.1 rfl rfl (a' := .bool m4) (b' := .slice A4 n4 c4) rfl
        have hm := H3.out.1.1
        subst hm
        exact ⟨_, _, _, rfl, this⟩
      case measure => have hkc : k < 1000 := by have := HR.out.2.2.2; omega
                      have hw : wrap64 ((k : Int) + 1) = ((k + 1 : Nat) : Int) := by unfold wrap64; omega
                      rw [hw]; simp [intOf]; omega
    · obtain rfl : k = n := by omega
      obtain ⟨m, A, l, c, hv, hbx, hb1⟩ := HV.out
      have HY := Lib.hid (And.intro hv (And.intro hbx hb1))
      clear hv hbx hb1 HV
      obtain ⟨s0, s1, _, _⟩ := HY.out.1.1.cells
      obtain ⟨r0, r1, f0, f1⟩ := HY.out.2.1.cells
      have hfull : (zs.take k).sum = zs.sum := by rw [List.take_of_length_le (by have := HN.out; omega)]
      have him := HY.out.1.2
      rw [hfull] at him
      obtain ⟨m4, A4, c4, n4, e4, hm4, h4⟩ := him.cases
      injection e4 with e4
      injection e4 with e4
      injection e4 with e5 e6
      injection e5 with e5
      injection e6 with e6
      injection e6 with e6 e7 e8
      subst e5; subst e6; subst e7; subst e8
      have H4 := Lib.hid (And.intro hm4 h4)
      clear him hm4 h4 hfull
      go_wp2_with fail
      exact bodyPost_ret (v := .tuple #[.agg #[.bool m, .slice A l c], .int .i64 0]) (by simp [results, Tryd.results77, go_sem, r0, r1]) rfl (retI0_put H4.out.1 HY.out.2.1 rfl rfl (by omega) H4.out.2 HY.out.2.2)
end Go.Proofs.YtdaoechbaejjmaaDoor
