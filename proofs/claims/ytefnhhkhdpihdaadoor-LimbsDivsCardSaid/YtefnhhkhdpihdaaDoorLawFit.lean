/- The laws' own 'fit'. -/
import Derived.Test.YtefnhhkhdpihdaaDoorCheck
namespace Go.Proofs.YtefnhhkhdpihdaaDoor
open Go Go.RowKit Go.Shelf

/-- May a number be tried? -/
def FitOne (zs : List Nat) : Prop := zs.length ≤ 40 ∧ checkOf zs = 0
instance (zs : List Nat) : Decidable (FitOne zs) := by unfold FitOne; exact inferInstance
/-- A number that comes in, however long. -/
def Arg (w : World) (v : Value) (zs : List Nat) : Prop := (∃ A cap, v = .slice A zs.length cap) ∧ (zs.length ≤ 40 → Rd .u32 w v zs)
theorem Arg.below {w w' : World} {v : Value} {zs : List Nat} (h : Arg w v zs) {B : Nat} (hb : Below B w w') (hB : w.heap.size ≤ B) : Arg w' v zs := ⟨h.1, fun hl => (h.2 hl).below (hb.mono hB)⟩
def fitAll (Zs : List (List Nat)) : Bool := Zs.all fun zs => decide (FitOne zs)

theorem FitOne.can {k : IntKind} {zs : List Nat} (h : FitOne zs) (hb : ∀ x ∈ zs, x < 4294967296) : Can 4294967296 zs := by
  refine ⟨hb, fun e => ?_⟩
  have := h.2
  have hl := h.1
  rw [checkOf_form (by omega) e] at this
  exact absurd this (by decide)

theorem all_take_succ {zs : List Nat} {Zs : List (List Nat)} {k : Nat} (h : Zs[k]? = some zs) (hp : FitOne zs) (ht : ∀ (j : Nat) (ys : List Nat), j < k → Zs[j]? = some ys → FitOne ys) : ∀ (j : Nat) (ys : List Nat), j < k + 1 → Zs[j]? = some ys → FitOne ys := by
  intro j ys hj hy
  by_cases e : j = k
  · subst e; rw [h] at hy; injection hy with hy; subst hy; exact hp
  · exact ht j ys (by omega) hy
theorem fitAll_true {Zs : List (List Nat)} (h : ∀ (j : Nat) (ys : List Nat), j < Zs.length → Zs[j]? = some ys → FitOne ys) : fitAll Zs = true := by
  unfold fitAll
  rw [List.all_eq_true]
  intro ys hy
  obtain ⟨j, hj⟩ := List.mem_iff_getElem?.1 hy
  exact decide_eq_true (h j ys (List.getElem?_eq_some_iff.1 hj).1 hj)
theorem fitAll_false {Zs : List (List Nat)} {zs : List Nat} {k : Nat} (h : Zs[k]? = some zs) (hp : ¬ FitOne zs) : fitAll Zs = false := by
  cases e : fitAll Zs with
  | false => rfl
  | true => exact absurd (of_decide_eq_true (List.all_eq_true.1 e zs (List.mem_of_getElem? h))) hp

set_option maxRecDepth 100000 in
set_option maxHeartbeats 1000000 in
theorem fit_law (w : World) (g cap : Nat) (vs : List Value) (Zs : List (List Nat)) (hl : vs.length = Zs.length) (hsm : Zs.length ≤ 10)
    (hcell : ∀ (i : Nat) (v : Value), vs[i]? = some v → w.cell? ⟨g, i, none⟩ = some v) (hR : ∀ (i : Nat) (v : Value) (zs : List Nat), vs[i]? = some v → Zs[i]? = some zs → Arg w v zs) :
    Calls Tryd.prog 14 #[.slice (some ⟨g, 0, none⟩) Zs.length cap] w fun e w' => e = .returned (.bool (fitAll Zs)) ∧ w = w' := by
  have HC := Lib.hid hcell
  have HR := Lib.hid hR
  have Hl := Lib.hid hl
  clear hcell hR hl
  go_enter Tryd.func14, Tryd.ntmps14
  go_wp2_with fail
  go_loop [7] (fun i => ∃ k : Nat, k ≤ Zs.length ∧ i = .int .i64 k ∧ Hid (∀ (j : Nat) (ys : List Nat), j < k → Zs[j]? = some ys → FitOne ys)) (fun i => Zs.length - (intOf i).toNat)
  case atStart => exact ⟨0, Nat.zero_le _, rfl, fun j y h _ => absurd h (by omega)⟩
  case round =>
    obtain ⟨k, hk, rfl, hz⟩ := hrel
    by_cases hlt : k < Zs.length
    · have hx : Zs[k]? = some Zs[k] := List.getElem?_eq_getElem hlt
      obtain ⟨zs, hzs⟩ : ∃ x, Zs[k] = x := ⟨_, rfl⟩
      rw [hzs] at hx
      clear hzs
      have hv : vs[k]? = some (vs[k]'(by have := Hl.out; omega)) := List.getElem?_eq_getElem (by have := Hl.out; omega)
      obtain ⟨v, hvv⟩ : ∃ x, (vs[k]'(by have := Hl.out; omega)) = x := ⟨_, rfl⟩
      rw [hvv] at hv
      clear hvv
      have hr := HR.out k v zs hv hx
      have hc := HC.out k v hv
      obtain ⟨⟨A, d, rfl⟩, hr⟩ := hr
      have hki : (k : Int) < (Zs.length : Int) := by omega
      have Hx := Lib.hid hx
      clear hx hv
      by_cases h40 : 40 < zs.length
      · have hg : decide ((zs.length : Int) > 40) = true := by rw [decide_eq_true_iff]; omega
        have hbad : ¬ FitOne zs := fun h => by have := h.1; omega
        have hres := fitAll_false Hx.out hbad
        clear hr hbad
        go_wp2_with fail
        go_ret
        exact ⟨by first | rfl | (rw [hres]; rfl), rfl⟩
      · have hg : decide ((zs.length : Int) > 40) = false := by rw [decide_eq_false_iff_not]; omega
        have hck := check_c w _ zs (hr (by omega))
        clear hr
        by_cases hok : checkOf zs = 0
        · have hfit : FitOne zs := ⟨by omega, hok⟩
          rw [hok] at hck
          have Hf := Lib.hid hfit
          clear hfit hok
          go_wp2_with (go_at_call 33; refine hck.mono ?_; rintro e w' ⟨rfl, rfl⟩)
          go_round
          case rel => exact ⟨k + 1, by omega, by go_num, all_take_succ Hx.out Hf.out hz.out⟩
          case measure => simp [intOf]; omega
        · have hres := fitAll_false Hx.out (fun h => hok h.2)
          obtain ⟨c, hc0⟩ : ∃ c, checkOf zs = c := ⟨_, rfl⟩
          rw [hc0] at hck hok
          have hb1 : (c != 0) = true := by rw [bne_iff_ne]; exact hok
          have hb2 : (c == 0) = false := by rw [beq_eq_false_iff_ne]; exact hok
          clear hc0 hok
          go_wp2_with (go_at_call 33; refine hck.mono ?_; rintro e w' ⟨rfl, rfl⟩)
          go_ret
          exact ⟨by first | rfl | (rw [hres]; rfl), rfl⟩
    · obtain rfl : k = Zs.length := by omega
      have hres := fitAll_true hz.out
      go_wp2_with fail
      go_ret
      exact ⟨by first | rfl | (rw [hres]; rfl), rfl⟩
end Go.Proofs.YtefnhhkhdpihdaaDoor
