/- One order; the same digits. -/
import Derived.Test.YtlgfjgkcgimdoaaDoorFit
import Derived.Deep.QuietTactic
import Derived.BigQuiet
import Derived.Test.YtlgfjgkcgimdoaaDoorTrim
namespace Go.Proofs.YtlgfjgkcgimdoaaDoor
open Go Go.RowKit

/-- -1, 0, 1: less, the same, more. -/
def ord3 (x y : Nat) : Int := if x < y then -1 else if y < x then 1 else 0
theorem ord3_lt {x y : Nat} (h : x < y) : ord3 x y = -1 := by unfold ord3; rw [if_pos h]
theorem ord3_gt {x y : Nat} (h : y < x) : ord3 x y = 1 := by unfold ord3; rw [if_neg (by omega), if_pos h]
theorem ord3_eq (x : Nat) : ord3 x x = 0 := by unfold ord3; rw [if_neg (by omega), if_neg (by omega)]

theorem Rd.len_le {k : IntKind} {w : World} {v : Value} {zs : List Nat} (h : Rd k w v zs) : zs.length ≤ 70368744177664 := by
  obtain ⟨A, cap, _, h1, h2, _⟩ := h
  omega

def eqL (xs ys : List Nat) : Bool := decide (xs = ys)
def EqPost (w : World) (xs ys : List Nat) (e : Ending) (w' : World) : Prop := e = .returned (.bool (eqL xs ys)) ∧ ∃ nq, w' = w.drewN nq
theorem eqL_true {xs ys : List Nat} (h : xs = ys) : eqL xs ys = true := by simp [eqL, h]
theorem eqL_false {xs ys : List Nat} (h : xs ≠ ys) : eqL xs ys = false := by simp [eqL, h]
theorem EqPost.below {w w' : World} {xs ys : List Nat} {e : Ending} (h : EqPost w xs ys e w') : e = .returned (.bool (eqL xs ys)) ∧ Below w.heap.size w w' := by
  obtain ⟨rfl, nq, rfl⟩ := h
  exact ⟨rfl, below_drewN' _ _⟩

set_option maxHeartbeats 400000 in
theorem cmp_int (w : World) (x y : Nat) : Calls Tryd.prog 66 #[.int .i64 x, .int .i64 y] w fun e w' => e = .returned (.int .i64 (ord3 x y)) ∧ w = w' := by
  rcases Nat.lt_trichotomy x y with h | h | h
  · rw [ord3_lt h]
    go_enter Tryd.func66, Tryd.ntmps66
    go_wp2
    go_ret
    exact ⟨rfl, rfl⟩
  · subst h
    rw [ord3_eq]
    go_enter Tryd.func66, Tryd.ntmps66
    go_wp2
    go_ret
    exact ⟨rfl, rfl⟩
  · rw [ord3_gt h]
    go_enter Tryd.func66, Tryd.ntmps66
    go_wp2
    go_ret
    exact ⟨rfl, rfl⟩

set_option maxHeartbeats 400000 in
theorem cmp_u32 (w : World) (x y : Nat) : Calls Tryd.prog 67 #[.int .u32 x, .int .u32 y] w fun e w' => e = .returned (.int .i64 (ord3 x y)) ∧ w = w' := by
  rcases Nat.lt_trichotomy x y with h | h | h
  · rw [ord3_lt h]
    go_enter Tryd.func67, Tryd.ntmps67
    go_wp2
    go_ret
    exact ⟨rfl, rfl⟩
  · subst h
    rw [ord3_eq]
    go_enter Tryd.func67, Tryd.ntmps67
    go_wp2
    go_ret
    exact ⟨rfl, rfl⟩
  · rw [ord3_gt h]
    go_enter Tryd.func67, Tryd.ntmps67
    go_wp2
    go_ret
    exact ⟨rfl, rfl⟩


end Go.Proofs.YtlgfjgkcgimdoaaDoor

/- Which of two numbers is less. -/
namespace Go.Proofs.YtlgfjgkcgimdoaaDoor
open Go Go.RowKit Go.Shelf
attribute [local go_sem] Oper.semAt_some

def CmpPost (w : World) (x y : Nat) (e : Ending) (w' : World) : Prop := e = .returned (.int .i64 (ord3 x y)) ∧ Below w.heap.size w w'

theorem Rd.box {k : IntKind} {w : World} {B : Nat} {t : TypeId} {x u v : Value} {zs : List Nat} (hb : Boxed w B t x) (hx : ∀ k' z, x ≠ .int k' z) (h : Rd k w v zs) : Rd k (w.setCell ⟨B, 0, none⟩ u) v zs := by
  obtain ⟨A, cap, rfl, h1, h2, h3⟩ := h
  refine ⟨A, cap, rfl, h1, h2, fun h0 => ?_⟩
  obtain ⟨b, off, rfl, hlt, hc⟩ := h3 h0
  have hne : b ≠ B := by
    rintro rfl
    have h4 := hc 0 _ (List.getElem?_eq_getElem h0)
    have h5 : w.heap[b]? = some (.cells #[x] t (0, 0)) := hb
    rcases off with _ | o
    · simp [World.cell?, h5] at h4; exact hx _ _ h4
    · simp [World.cell?, h5] at h4
  exact ⟨b, off, rfl, by simpa [World.setCell] using hlt, fun j y hy => (World.cell?_of_block (w := w) (Below.heap_setCell w ⟨B, 0, none⟩ u b hne)).trans (hc j y hy)⟩

theorem ord3_len {us vs : List Nat} (hu : Can 4294967296 us) (hv : Can 4294967296 vs) (h : us.length ≠ vs.length) : ord3 us.length vs.length = ord3 (val 4294967296 us) (val 4294967296 vs) := by
  have key : ∀ {ps qs : List Nat}, Can 4294967296 ps → Can 4294967296 qs → ps.length < qs.length → val 4294967296 ps < val 4294967296 qs := by
    intro ps qs ha hb hl
    have h1 := val_lt ha.1
    have h2 := hb.ge (by intro e; rw [e] at hl; simp at hl)
    exact Nat.lt_of_lt_of_le h1 (Nat.le_trans (Nat.pow_le_pow_right (by omega) (by omega)) h2)
  rcases Nat.lt_trichotomy us.length vs.length with h' | h' | h'
  · rw [ord3_lt h', ord3_lt (key hu hv h')]
  · exact absurd h' h
  · rw [ord3_gt h', ord3_gt (key hv hu h')]

theorem drop_eq_of_get {us vs : List Nat} {i : Nat} (h : ∀ j, i ≤ j → us[j]? = vs[j]?) : us.drop i = vs.drop i := by
  apply List.ext_getElem?
  intro j
  rw [List.getElem?_drop, List.getElem?_drop]
  exact h _ (by omega)

theorem ord3_digit {us vs : List Nat} {i x y : Nat} (hu : ∀ z ∈ us, z < 4294967296) (hv : ∀ z ∈ vs, z < 4294967296) (hx : us[i]? = some x) (hy : vs[i]? = some y) (hne : x ≠ y) (h : ∀ j, i + 1 ≤ j → us[j]? = vs[j]?) :
    ord3 x y = ord3 (val 4294967296 us) (val 4294967296 vs) := by
  have key : ∀ {ps qs : List Nat} {a b : Nat}, (∀ z ∈ ps, z < 4294967296) → ps[i]? = some a → qs[i]? = some b → (∀ j, i + 1 ≤ j → ps[j]? = qs[j]?) → a < b → val 4294967296 ps < val 4294967296 qs := by
    intro ps qs a b ha h1 h2 h3 hlt
    have l1 := (List.getElem?_eq_some_iff.1 h1).1
    have l2 := (List.getElem?_eq_some_iff.1 h2).1
    rw [val_split _ ps i (by omega), val_split _ qs i (by omega), drop_of_get h1, drop_of_get h2, drop_eq_of_get h3]
    have hlow : val 4294967296 (ps.take i) < 4294967296 ^ i := by
      have := val_lt (B := 4294967296) (xs := ps.take i) (fun z hz => ha z (List.mem_of_mem_take hz))
      rwa [List.length_take, Nat.min_eq_left (by omega)] at this
    simp only [val_cons, Nat.mul_add]
    have hm := Nat.mul_le_mul_left (4294967296 ^ i) (show a + 1 ≤ b from hlt)
    rw [Nat.mul_add, Nat.mul_one] at hm
    omega
  rcases Nat.lt_trichotomy x y with h' | h' | h'
  · rw [ord3_lt h', ord3_lt (key hu hx hy h h')]
  · exact absurd h' hne
  · rw [ord3_gt h', ord3_gt (key hv hy hx (fun j hj => (h j hj).symm) h')]

/-- Between two rounds: the k last digits are the same. -/
def CmpI (n : Nat) (w3 : World) (us vs : List Nat) (vb vu : Value) (k : Nat) (W : World) : Prop :=
  (∀ j, us.length ≤ j + k → us[j]? = vs[j]?) ∧ Boxed W n 23 vb ∧ Boxed W (n + 1) 3 (.int .i64 0) ∧ Boxed W w3.heap.size 23 vu ∧ Below w3.heap.size w3 W
def CmpX (w : World) (us vs : List Nat) (k : Nat) (W : World) : Prop :=
  (∀ j, us.length ≤ j + k → us[j]? = vs[j]?) ∧ (∀ i, k + i + 1 = us.length → ∃ x y : Nat, us[i]? = some x ∧ vs[i]? = some y ∧ x ≠ y ∧ Boxed W (w.heap.size + 1) 3 (.int .i64 (ord3 x y))) ∧ Below w.heap.size w W

/-- The one way out that a region has here. -/
def onlyNormal (K : Act → World → Prop) : Exit → Act → World → Prop
  | .normal, a, w => K a w
  | _, _, _ => False
theorem onlyNormal_then {K : Act → World → Prop} {Q : Exit → Act → World → Prop} (e : Exit) (a : Act) (w : World) (h : onlyNormal K e a w) : Exit.then K Q e a w := by
  cases e with
  | normal => exact h
  | _ => exact h.elim

set_option maxRecDepth 100000 in
set_option maxHeartbeats 2000000 in
theorem compare_c (w : World) (va vb : Value) (xs ys : List Nat) (ha : Rd .u32 w va xs) (hb : Rd .u32 w vb ys) (hxs : ∀ x ∈ xs, x < 4294967296) (hys : ∀ x ∈ ys, x < 4294967296)
    (hla : xs.length ≤ 1000000) (hlb : ys.length ≤ 1000000) :
    Calls Tryd.prog 46 #[va, vb] w (CmpPost w (val 4294967296 xs) (val 4294967296 ys)) := by
  refine (callsIn_wide (n := 6)).1 ?_
  refine callsIn_of_wp_marks Tryd.func46 rfl trivial ?_ rfl
  simp only [Tryd.ntmps46, List.size_toArray, List.length_cons, List.length_nil, Nat.reduceAdd, Nat.reduceSub, Array.replicate_succ, Array.replicate_zero, List.push_toArray, List.append_toArray, List.nil_append, List.cons_append]
  obtain ⟨A2, c2, rfl, _⟩ := hb.form
  gi_wp2_with fail
  have b0 := (Boxed.new w 23 (.slice A2 ys.length c2)).alloc (.cells #[.int .i64 0] 3)
  have b1 := Boxed.new (w.alloc (.cells #[.slice A2 ys.length c2] 23)) 3 (.int .i64 0)
  simp only [World.size_alloc] at b1
  have hB0 : Below w.heap.size w ((w.alloc (.cells #[.slice A2 ys.length c2] 23)).alloc (.cells #[.int .i64 0] 3)) :=
    ((Below.refl _ w).alloc (Nat.le_refl _) _).alloc (by simp) _
  have hs0 : w.heap.size + 2 = ((w.alloc (.cells #[.slice A2 ys.length c2] 23)).alloc (.cells #[.int .i64 0] 3)).heap.size := by simp
  generalize (w.alloc (.cells #[.slice A2 ys.length c2] 23)).alloc (.cells #[.int .i64 0] 3) = W0 at *
  have hmix : Tryd.prog.follows .mixedOrders = true := by kernel_rfl
  have hc0 := b0.cell
  have hf0 := b0.frozen
  have C1 : Hid (CallsIn Fence.wide 5 Tryd.prog 30 #[va] W0.drew fun e w1 => ∃ B1 d1 us, e = .returned (.slice B1 us.length d1) ∧ w1.cell? ⟨w.heap.size, 0, none⟩ = some (.slice A2 ys.length c2) ∧ w1.frozen? ⟨w.heap.size, 0, none⟩ = false ∧
      Hid (Rd .u32 w1 (.slice B1 us.length d1) us ∧ Can 4294967296 us ∧ val 4294967296 us = val 4294967296 xs ∧ us.length ≤ xs.length ∧ Below w.heap.size w w1) ∧
      Hid (CallsIn Fence.wide 5 Tryd.prog 30 #[.slice A2 ys.length c2] w1 fun e w2 => ∃ B2 d2 vs, e = .returned (.slice B2 vs.length d2) ∧ w2.cell? ⟨w.heap.size, 0, none⟩ = some (.slice A2 ys.length c2) ∧ w2.frozen? ⟨w.heap.size, 0, none⟩ = false ∧
        Hid (Rd .u32 w2 (.slice B1 us.length d1) us ∧ Rd .u32 w2 (.slice B2 vs.length d2) vs ∧ Can 4294967296 vs ∧ val 4294967296 vs = val 4294967296 ys ∧ vs.length ≤ ys.length ∧ Below w.heap.size w w2 ∧ Boxed w2 w.heap.size 23 (.slice A2 ys.length c2) ∧ Boxed w2 (w.heap.size + 1) 3 (.int .i64 0)))) := by
    refine callsIn_wide.2 ((trim_num W0.drew va xs (ha.below hB0.drew) hxs).mono ?_)
    rintro e w1 ⟨v1, us, rfl, hR1, hC1, hv1, hl1, hB1⟩
    have hs1 : W0.drew.heap.size = w.heap.size + 2 := hs0.symm
    have hBw1 : Below w.heap.size w w1 := (hB0.drew (w := W0)).trans (hB1.mono (by omega))
    have b01 : Boxed w1 w.heap.size 23 (.slice A2 ys.length c2) := (hB1.block _ (by omega)).trans b0
    have b11 : Boxed w1 (w.heap.size + 1) 3 (.int .i64 0) := (hB1.block _ (by omega)).trans b1
    obtain ⟨B1, d1, rfl, _⟩ := hR1.form
    refine ⟨B1, d1, us, rfl, b01.cell, b01.frozen, ⟨hR1, hC1, hv1, hl1, hBw1⟩, callsIn_wide.2 ((trim_num w1 _ ys (hb.below hBw1) hys).mono ?_)⟩
    rintro e w2 ⟨v2, vs, rfl, hR2, hC2, hv2, hl2, hB2⟩
    have hs2 := hB1.size
    have b02 : Boxed w2 w.heap.size 23 (.slice A2 ys.length c2) := (hB2.block _ (by omega)).trans b01
    have b12 : Boxed w2 (w.heap.size + 1) 3 (.int .i64 0) := (hB2.block _ (by omega)).trans b11
    obtain ⟨B2, d2, rfl, _⟩ := hR2.form
    exact ⟨B2, d2, vs, rfl, b02.cell, b02.frozen, hR1.below hB2, hR2, hC2, hv2, hl2, hBw1.trans (hB2.mono (by omega)), b02, b12⟩
  clear b0 b1 hB0 hs0 ha hb hxs hys
  refine wpIn_mono ?_ onlyNormal_then
  gi_region_with_o (first | (refine ⟨trivial, ?_⟩; gi_at_call 30; refine C1.out.mono ?_; clear C1; rintro e w1 ⟨B1, d1, us, rfl, hc1, hf1, H1, C2⟩) | (refine ⟨trivial, ?_⟩; gi_at_call 30; refine C2.out.mono ?_; clear C2; rintro e w2 ⟨B2, d2, vs, rfl, hc2, hf2, H2⟩))
  all_goals
    simp only [onlyNormal]
  all_goals
    obtain ⟨hRu, hRv, hCv, hvv, hlv, hBw, bb, br⟩ := H2.out
    obtain ⟨_, hCu, hvu, hlu, _⟩ := H1.out
    have hus : us.length ≤ 1000000 := by omega
    have hvs : vs.length ≤ 1000000 := by omega
    have Hvu := Lib.hid hvu
    have Hvv := Lib.hid hvv
    have hRu3 := hRu.box (u := .slice B2 vs.length d2) bb (by intro _ _ e; cases e)
    have hRv3 := hRv.box (u := .slice B2 vs.length d2) bb (by intro _ _ e; cases e)
    have bb3 := bb.set (.slice B2 vs.length d2)
    have br3 := br.other (B' := w.heap.size) (by omega) (.slice B2 vs.length d2)
    have hB3 := hBw.setCell (p := ⟨w.heap.size, 0, none⟩) (Nat.le_refl _) (.slice B2 vs.length d2)
    generalize w2.setCell ⟨w.heap.size, 0, none⟩ (.slice B2 vs.length d2) = W3 at *
    clear hRu hRv hvu hvv hlu hlv hBw bb br H1 H2 hc2 hf2 hla hlb hmix hc0 hf0 hc1 hf1
    have hcb := bb3.cell
    have hcr := br3.cell
    have hfr := br3.frozen
    have hn3 := br3.lt
    by_cases hl : us.length = vs.length
    · have hl' : ((us.length : Int) != (vs.length : Int)) = false := by rw [bne_eq_false_iff_eq]; omega
      have hle : us.length ≤ vs.length := by omega
      have Hl := Lib.hid hl
      clear hl
      gi_wp2_with (refine ⟨trivial, ?_⟩; gi_at_call 44; refine (down_in _ _ _ _ _).mono ?_; rintro e w' ⟨rfl, rfl⟩)
      have hBa : Below W3.heap.size W3 (W3.alloc (.cells #[.slice B1 us.length d1] 23)) := (Below.refl _ W3).alloc (Nat.le_refl _) _
      refine range_down (n := 6) (by omega) (Bs := W3.heap.size) (A := B1) (cap := d1) (zs := us) (by omega) rfl rfl (CmpI w.heap.size W3 us vs (.slice B2 vs.length d2) (.slice B1 us.length d1)) (CmpX w us vs) ?hI ?hIx ?h0 ?hbox ?hcell
        (fun i x => { tmps := #[.slice B1 us.length d1, .slice A2 ys.length c2, undef, .pointer (some ⟨w.heap.size, 0, none⟩), .pointer (some ⟨w.heap.size + 1, 0, none⟩), .int .i64 (i : Int), .int .u32 (x : Int), va, .slice B1 us.length d1, .slice A2 ys.length c2, .slice B2 vs.length d2,
          .slice B1 us.length d1, .int .i64 us.length, .slice B2 vs.length d2, .int .i64 vs.length, .bool false, undef, undef, undef, undef, undef, .slice B1 us.length d1,
          .func (.func 65) #[] #[.pointer (some ⟨W3.heap.size, 0, none⟩)], .int .i64 (i : Int), .int .u32 (x : Int), undef, undef, undef, undef, undef, undef, undef, undef, undef, undef, undef, undef], defers := [] }) ?assign ?body ?done ?stop
      case hI =>
        rintro k X Y row ⟨h1, h2, h3, h4, h5⟩ hg hr
        have hr' := fun r e => (hr r e).2
        exact ⟨h1, boxed_step h2 hg hr', boxed_step h3 hg hr', boxed_step h4 hg hr', h5.grown hg h5.size (fun r e => by have := (hr r e).1; simp at this; omega)⟩
      case hIx =>
        rintro k X Y row ⟨h1, h2, h5⟩ hg hr
        have hr' := fun r e => (hr r e).2
        exact ⟨h1, fun i hi => by obtain ⟨x, y, e1, e2, e3, e4⟩ := h2 i hi; exact ⟨x, y, e1, e2, e3, boxed_step e4 hg hr'⟩, h5.grown hg h5.size (fun r e => by have := (hr r e).1; simp at this; have := hB3.size; omega)⟩
      case h0 =>
        refine ⟨fun j hj => ?_, bb3.alloc _, br3.alloc _, Boxed.new W3 _ _, hBa⟩
        rw [List.getElem?_eq_none (by omega), List.getElem?_eq_none (by have := Hl.out; omega)]
      case hbox => exact fun k W h => h.2.2.2.1.cell
      case hcell =>
        intro hz
        obtain ⟨b, off, rfl, hb⟩ := hRu3.addr hz
        exact ⟨b, off, rfl, fun k W i x hI hx => (hI.2.2.2.2.cell (p := ⟨b, off + i, none⟩) hb).trans (hRu3.cell hx)⟩
      case assign =>
        intro l i x W K hx hK
        gi_wp2
        exact hK
      case body =>
        rintro l k i x W hki hx ⟨h1, h2, h3, h4, h5⟩
        have hiv : i < vs.length := by omega
        have hy : vs[i]? = some vs[i] := List.getElem?_eq_getElem hiv
        obtain ⟨y, hyy⟩ : ∃ y, vs[i] = y := ⟨_, rfl⟩
        rw [hyy] at hy
        clear hyy
        obtain ⟨b', off', rfl, hb'⟩ := hRv3.addr (by omega)
        have hcy := (h5.cell (p := ⟨b', off' + i, none⟩) hb').trans (hRv3.cell hy)
        have hc2 := h2.cell
        have hc3 := h3.cell
        have hf3 := h3.frozen
        have Hx := Lib.hid hx
        have Hy := Lib.hid hy
        have H1 := Lib.hid h1
        have Hki := Lib.hid hki
        clear hx hy h1 hki
        by_cases hxy : x = y
        · have hne : ((x : Int) != (y : Int)) = false := by rw [bne_eq_false_iff_eq]; omega
          have hne2 : ((x : Int) == (y : Int)) = true := by rw [beq_iff_eq]; omega
          have Hxy := Lib.hid hxy
          clear hxy
          gi_wp2
          refine ⟨KeepsFrom.refl _ _, fun j hj => ?_, h2, h3, h4, h5⟩
          by_cases hji : j = i
          · subst hji; rw [Hx.out, Hy.out, Hxy.out]
          · exact H1.out j (by have := Hki.out; omega)
        · have hne : ((x : Int) != (y : Int)) = true := by rw [bne_iff_ne]; omega
          have hne2 : ((x : Int) == (y : Int)) = false := by rw [beq_eq_false_iff_ne]; omega
          gi_wp2_with (refine ⟨trivial, ?_⟩; gi_at_call 67; refine (CallsIn.inRound l (callsIn_wide.2 (cmp_u32 _ x y))).mono ?_; rintro e w' ⟨rfl, rfl⟩)
          refine ⟨(KeepsOthers.setCell _ _ _).from _, H1.out, fun i' hi' => ?_, (hB3.trans (h5.mono hB3.size)).setCell (p := ⟨w.heap.size + 1, 0, none⟩) (by simp) _⟩
          obtain rfl : i' = i := by have := Hki.out; omega
          exact ⟨x, y, Hx.out, Hy.out, hxy, h3.set _⟩
      case done =>
        rintro D W hD ⟨h1, h2, h3, h4, h5⟩ hK
        have hc3 := h3.cell
        have hf3 := h3.frozen
        have H1 := Lib.hid h1
        clear h1
        gi_wp2
        have hK' := (KeepsOthers.setCell W ⟨w.heap.size + 1, 0, none⟩ (.int .i64 0)).same D _ hK rfl
        refine ⟨by simp, .inl ⟨_, _, rfl, run_takeDeferred hK', ?_⟩⟩
        have hc5 := (boxed_step (h3.set (.int .i64 0)) (grownBy_putObj' _ D (.deferred none)) (fun r e => by cases e; exact ⟨_, hK', rfl⟩)).cell
        have he : us = vs := List.ext_getElem? fun j => H1.out j (by omega)
        refine ⟨.int .i64 0, by simp [results, Tryd.f46, go_sem, hc5], ?_, below_deferred (by simp at hD; have := hB3.size; omega) hK' ((hB3.trans (h5.mono hB3.size)).setCell (p := ⟨w.heap.size + 1, 0, none⟩) (by simp) _)⟩
        rw [← Hvu.out, ← Hvv.out, he, ord3_eq]
      case stop =>
        rintro D k W hD hk ⟨h1, h2, h5⟩ hK
        obtain ⟨x, y, hx, hy, hxy, hb⟩ := h2 (us.length - 1 - k) (by omega)
        obtain ⟨i, hi⟩ : ∃ i, us.length - 1 - k = i := ⟨_, rfl⟩
        rw [hi] at hx hy
        have H1 := Lib.hid h1
        have Hx := Lib.hid hx
        have Hy := Lib.hid hy
        have Hi := Lib.hid hi
        clear h1 h2 hx hy hi
        gi_wp2
        refine ⟨by simp, .inl ⟨_, _, rfl, run_takeDeferred hK, ?_⟩⟩
        have hc5 := (boxed_step hb (grownBy_putObj' _ D (.deferred none)) (fun r e => by cases e; exact ⟨_, hK, rfl⟩)).cell
        refine ⟨.int .i64 (ord3 x y), by simp [results, Tryd.f46, go_sem, hc5], ?_, below_deferred (by simp at hD; have := hB3.size; omega) hK h5⟩
        rw [← Hvu.out, ← Hvv.out, ord3_digit hCu.1 hCv.1 Hx.out Hy.out hxy (fun j hj => H1.out j (by have := Hi.out; omega))]
    · have hl' : ((us.length : Int) != (vs.length : Int)) = true := by rw [bne_iff_ne]; omega
      gi_wp2_with (refine ⟨trivial, ?_⟩; gi_at_call 66; refine (callsIn_wide.2 (cmp_int _ us.length vs.length)).mono ?_; rintro e w' ⟨rfl, rfl⟩)
      have hc5 := (br3.set (.int .i64 (ord3 us.length vs.length))).cell
      refine ⟨.int .i64 (ord3 us.length vs.length), by simp [results, Tryd.f46, go_sem, hc5], ?_, hB3.setCell (p := ⟨w.heap.size + 1, 0, none⟩) (by simp) _⟩
      rw [← Hvu.out, ← Hvv.out, ord3_len hCu hCv hl]
end Go.Proofs.YtlgfjgkcgimdoaaDoor
