/- Divided by one digit. -/
import Derived.Test.YtlgfjgkcgimdoaaDoorFit
import Derived.Test.YtlgfjgkcgimdoaaDoorClone
import Derived.Test.YtlgfjgkcgimdoaaDoorCmp
import Derived.Test.YtlgfjgkcgimdoaaDoorRound
namespace Go.Proofs.YtlgfjgkcgimdoaaDoor
open Go Go.RowKit Go.Shelf
attribute [local go_sem] Oper.semAt_some

/-- What Div, and its two ways, give: how often, and what is left. -/
def DivOut (w : World) (x y : Nat) (e : Ending) (w' : World) : Prop :=
  Below w.heap.size w w' ∧ ∃ v1 v2, e = .returned (.tuple #[v1, v2]) ∧ NumV w' v1 (x / y) ∧ NumV w' v2 (x % y)

theorem Rd.put {k : IntKind} {w : World} {D : Nat} {o : Obj} {v : Value} {zs : List Nat} (hK : w.heap[D]? = some (.deferred (some []))) (h : Rd k w v zs) : Rd k (w.putObj D o) v zs := by
  obtain ⟨A, cap, rfl, h1, h2, h3⟩ := h
  refine ⟨A, cap, rfl, h1, h2, fun h0 => ?_⟩
  obtain ⟨b, off, rfl, hlt, hc⟩ := h3 h0
  have hne : b ≠ D := by
    rintro rfl
    have h4 := hc 0 _ (List.getElem?_eq_getElem h0)
    simp [World.cell?, hK] at h4
  exact ⟨b, off, rfl, by simpa using hlt, fun j y hy => (World.cell?_of_block (w := w) (World.putObj_heap_other hne)).trans (hc j y hy)⟩
theorem NumV.put {w : World} {D : Nat} {o : Obj} {v : Value} {x : Nat} (hK : w.heap[D]? = some (.deferred (some []))) (h : NumV w v x) : NumV (w.putObj D o) v x := by
  obtain ⟨zs, h1, h2, h3⟩ := h
  exact ⟨zs, h1.put hK, h2, h3⟩

set_option maxHeartbeats 1000000 in
theorem div32_d (w : World) (x y c : Nat) (hx : x < 4294967296) (hy : y < 4294967296) (hc : c < 4294967296) (hh : x < c) :
    Calls Tryd.prog 69 #[.int .u32 x, .int .u32 y, .int .u32 c] w fun e w' =>
      e = .returned (.tuple #[.int .u32 (((x * 4294967296 + y) / c : Nat) : Int), .int .u32 (((x * 4294967296 + y) % c : Nat) : Int)]) ∧ ∃ nq, w' = w.drewN nq := by
  have hc0 : ((c : Int) == 0) = false := by rw [beq_eq_false_iff_ne]; omega
  have hc1 : ((c : Int) != 0) = true := by rw [bne_iff_ne]; omega
  have hcx : decide ((c : Int) ≤ x) = false := by rw [decide_eq_false_iff_not]; omega
  go_enter Tryd.func69, Tryd.ntmps69
  go_wp2
  go_quiet (fail)
  go_wp2
  go_ret2
  have e1 : bits BinOp.or IntKind.u64 ((x : Int) * 4294967296) (y : Int) = ((x * 4294967296 + y : Nat) : Int) := by
    rw [← join_low hy, ← u64_or_nat _ _ (by omega) (by omega)]; rfl
  refine ⟨ret_pair ?_ ?_, _, rfl⟩
  · rw [e1, ← Int.ofNat_tdiv, wrap_u64']
    have := div32_lt (by omega) hh hy
    obtain ⟨q, hq⟩ : ∃ q, (x * 4294967296 + y) / c = q := ⟨_, rfl⟩
    rw [hq] at this ⊢
    omega
  · rw [e1, ← Int.ofNat_tmod]
    have := Nat.mod_lt (x * 4294967296 + y) (show c > 0 by omega)
    obtain ⟨q, hq⟩ : ∃ q, (x * 4294967296 + y) % c = q := ⟨_, rfl⟩
    rw [hq] at this ⊢
    omega

theorem short_step {q b r r' x V Z B : Nat} (h : V * b + r = Z) (hq : q * b + r' = r * B + x) : (q + B * V) * b + r' = x + B * Z := by
  rw [← h, Nat.add_mul, Nat.mul_add, Nat.mul_assoc]
  have : B * r = r * B := Nat.mul_comm _ _
  omega

/-- Between two rounds of the short division: the k last digits are done. -/
def ShortI (w w0 : World) (zs : List Nat) (vo va : Value) (g b k : Nat) (W : World) : Prop :=
  ∃ (ss : List Nat) (r : Nat), ss.length = zs.length ∧ (∀ x ∈ ss, x < 4294967296) ∧ r < b ∧ (∀ i, k + i = zs.length → val 4294967296 (ss.drop i) * b + r = val 4294967296 (zs.drop i)) ∧
    Boxed W w.heap.size 57 (.int .u32 (b : Int)) ∧ Own .u32 57 W g ss ∧ Boxed W (w.heap.size + 2) 23 vo ∧ Boxed W (w.heap.size + 3) 57 (.int .u32 (r : Int)) ∧ Boxed W (w.heap.size + 4) 23 va ∧ Below w0.heap.size w0 W

theorem divmod_unique {q b r n : Nat} (h : q * b + r = n) (hr : r < b) : n / b = q ∧ n % b = r := by
  have hb : 0 < b := by omega
  subst h
  constructor
  · rw [Nat.mul_comm, Nat.mul_add_div hb, Nat.div_eq_of_lt hr]; omega
  · rw [Nat.mul_comm, Nat.mul_add_mod, Nat.mod_eq_of_lt hr]

set_option maxRecDepth 100000 in
set_option maxHeartbeats 2000000 in
theorem divideShort_c (w : World) (va : Value) (zs : List Nat) (b : Nat) (hR : Rd .u32 w va zs) (hzb : ∀ x ∈ zs, x < 4294967296) (hlen : zs.length ≤ 1000000) (hb : b < 4294967296) (hb0 : 0 < b) :
    Calls Tryd.prog 54 #[va, .int .u32 b] w (DivOut w (val 4294967296 zs) b) := by
  obtain ⟨A, cap, rfl, hl⟩ := hR.form
  have hmk := make_nat zs.length (zs.length : Int) rfl (by omega)
  refine (callsIn_wide (n := 6)).1 ?_
  refine callsIn_of_wp_marks Tryd.func54 rfl trivial ?_ rfl
  simp only [Tryd.ntmps54, List.size_toArray, List.length_cons, List.length_nil, Nat.reduceAdd, Nat.reduceSub, Array.replicate_succ, Array.replicate_zero, List.push_toArray, List.append_toArray, List.nil_append, List.cons_append]
  gi_wp2_with (refine ⟨trivial, ?_⟩; gi_at_call 44; refine (down_in _ _ _ _ _).mono ?_; rintro e w' ⟨rfl, rfl⟩)
  have b0 := (((Boxed.new w 57 (.int .u32 (b : Int))).alloc (.cells (nums .u32 (List.replicate zs.length 0)) 57)).alloc (.cells #[.slice (some ⟨w.heap.size + 1, 0, none⟩) zs.length zs.length] 23)).alloc (.cells #[.int .u32 0] 57) |>.alloc (.cells #[.slice A zs.length cap] 23)
  have hO := (((Own.new (w.alloc (.cells #[.int .u32 (b : Int)] 57)) .u32 57 (List.replicate zs.length 0)).alloc (.cells #[.slice (some ⟨w.heap.size + 1, 0, none⟩) zs.length zs.length] 23)).alloc (.cells #[.int .u32 0] 57)).alloc (.cells #[.slice A zs.length cap] 23)
  have b2 := ((Boxed.new ((w.alloc (.cells #[.int .u32 (b : Int)] 57)).alloc (.cells (nums .u32 (List.replicate zs.length 0)) 57)) 23 (.slice (some ⟨w.heap.size + 1, 0, none⟩) zs.length zs.length)).alloc (.cells #[.int .u32 0] 57)).alloc (.cells #[.slice A zs.length cap] 23)
  have b3 := (Boxed.new (((w.alloc (.cells #[.int .u32 (b : Int)] 57)).alloc (.cells (nums .u32 (List.replicate zs.length 0)) 57)).alloc (.cells #[.slice (some ⟨w.heap.size + 1, 0, none⟩) zs.length zs.length] 23)) 57 (.int .u32 0)).alloc (.cells #[.slice A zs.length cap] 23)
  have b4 := Boxed.new ((((w.alloc (.cells #[.int .u32 (b : Int)] 57)).alloc (.cells (nums .u32 (List.replicate zs.length 0)) 57)).alloc (.cells #[.slice (some ⟨w.heap.size + 1, 0, none⟩) zs.length zs.length] 23)).alloc (.cells #[.int .u32 0] 57)) 23 (.slice A zs.length cap)
  have hB0 : Below w.heap.size w (((((w.alloc (.cells #[.int .u32 (b : Int)] 57)).alloc (.cells (nums .u32 (List.replicate zs.length 0)) 57)).alloc (.cells #[.slice (some ⟨w.heap.size + 1, 0, none⟩) zs.length zs.length] 23)).alloc (.cells #[.int .u32 0] 57)).alloc (.cells #[.slice A zs.length cap] 23)) :=
    (((((Below.refl _ w).alloc (Nat.le_refl _) _).alloc (by simp) _).alloc (by simp; omega) _).alloc (by simp; omega) _).alloc (by simp; omega) _
  have hs0 : (((((w.alloc (.cells #[.int .u32 (b : Int)] 57)).alloc (.cells (nums .u32 (List.replicate zs.length 0)) 57)).alloc (.cells #[.slice (some ⟨w.heap.size + 1, 0, none⟩) zs.length zs.length] 23)).alloc (.cells #[.int .u32 0] 57)).alloc (.cells #[.slice A zs.length cap] 23)).heap.size = w.heap.size + 5 := by simp
  simp only [World.size_alloc] at hO b2 b3 b4
  generalize ((((w.alloc (.cells #[.int .u32 (b : Int)] 57)).alloc (.cells (nums .u32 (List.replicate zs.length 0)) 57)).alloc (.cells #[.slice (some ⟨w.heap.size + 1, 0, none⟩) zs.length zs.length] 23)).alloc (.cells #[.int .u32 0] 57)).alloc (.cells #[.slice A zs.length cap] 23) = W0 at *
  clear hmk
  refine range_down (n := 6) (by omega) (Bs := w.heap.size + 4) (A := A) (cap := cap) (zs := zs) (by omega) rfl rfl (ShortI w w zs (.slice (some ⟨w.heap.size + 1, 0, none⟩) zs.length zs.length) (.slice A zs.length cap) (w.heap.size + 1) b) (fun _ _ => False) ?hI ?hIx ?h0 ?hbox ?hcell
    (fun i x => { tmps := #[.slice A zs.length cap, .int .u32 (b : Int), undef, .pointer (some ⟨w.heap.size, 0, none⟩), .slice none 0 0, .slice none 0 0, .pointer (some ⟨w.heap.size + 1 + 1, 0, none⟩), .pointer (some ⟨w.heap.size + 1 + 1 + 1, 0, none⟩), .int .i64 (i : Int), .int .u32 (x : Int),
      .slice A zs.length cap, .int .i64 zs.length, .slice (some ⟨w.heap.size + 1, 0, none⟩) zs.length zs.length, .slice A zs.length cap,
      .func (.func 65) #[] #[.pointer (some ⟨w.heap.size + 1 + 1 + 1 + 1, 0, none⟩)], .int .i64 (i : Int), .int .u32 (x : Int), undef, undef, undef, undef, undef, undef, undef, undef, undef, undef, undef, undef, undef, undef, undef], defers := [] }) ?assign ?body ?done ?stop
  case hI =>
    rintro k X Y row ⟨ss, r, a1, a2, a3, a4, h0, h1, h2, h3, h4, h5⟩ hg hr
    have hr' := fun r e => (hr r e).2
    exact ⟨ss, r, a1, a2, a3, a4, boxed_step h0 hg hr', (grownBy_keeps_cells hg hr' h1 rfl).trans h1, boxed_step h2 hg hr', boxed_step h3 hg hr', boxed_step h4 hg hr', h5.grown hg h5.size (fun r e => by have := (hr r e).1; omega)⟩
  case hIx => exact fun _ _ _ _ h _ _ => h
  case h0 => exact ⟨_, 0, by simp, mem_replicate_lt, hb0, fun i hi => by rw [List.drop_of_length_le (by simp; omega), List.drop_of_length_le (by omega)]; simp, b0, hO, b2, b3, b4, hB0⟩
  case hbox => exact fun k W h => by obtain ⟨_, _, _, _, _, _, _, _, _, _, h, _⟩ := h; exact h.cell
  case hcell =>
    intro hz
    obtain ⟨bb, off, rfl, hbl⟩ := hR.addr hz
    exact ⟨bb, off, rfl, fun k W i x hI hx => by obtain ⟨_, _, _, _, _, _, _, _, _, _, _, h5⟩ := hI; exact (h5.cell (p := ⟨bb, off + i, none⟩) hbl).trans (hR.cell hx)⟩
  case assign =>
    intro l i x W K hx hK
    gi_wp2
    exact hK
  case body =>
    rintro l k i x W hki hx ⟨ss, r, a1, a2, a3, a4, h0, h1, h2, h3, h4, h5⟩
    have hmix : Tryd.prog.follows .mixedOrders = true := by kernel_rfl
    have hxb := get_lt hzb hx
    have hil : i < zs.length := by omega
    have his : i < ss.length := by omega
    have hs := List.getElem?_eq_getElem his
    have hcb := h0.cell
    have hco := h2.cell
    have hcr := h3.cell
    have hfr := h3.frozen
    have hcg := h1.cell hs
    have hfg := h1.frozen i
    have hdv := fun W' => div32_d W' r x b (by omega) hxb hb a3
    have hq := div32_lt (y := x) hb0 a3 hxb
    have hm := Nat.mod_lt (r * 4294967296 + x) hb0
    have heq : (r * 4294967296 + x) / b * b + (r * 4294967296 + x) % b = r * 4294967296 + x := by rw [Nat.mul_comm]; exact Nat.div_add_mod _ _
    have hnew := short_step (a4 (i + 1) (by omega)) heq
    have hz : val 4294967296 (zs.drop i) = x + 4294967296 * val 4294967296 (zs.drop (i + 1)) := by rw [drop_of_get hx, val_cons]
    rw [← hz] at hnew
    generalize (r * 4294967296 + x) / b = q at hdv hq hnew
    generalize (r * 4294967296 + x) % b = r' at hdv hm hnew
    have Hnew := Lib.hid hnew
    have Hdv := Lib.hid hdv
    have Hki := Lib.hid hki
    have Ha1 := Lib.hid a1
    clear hnew hdv heq hz hki a1 a4 hs hx
    have HP := Lib.hid (And.intro hzb (And.intro hR (And.intro a2 (And.intro a3 (And.intro h0 (And.intro h1 (And.intro h2 (And.intro h3 (And.intro h4 (And.intro h5 (And.intro hs0 (And.intro hm hq))))))))))))
    have hir : (i : Int) < (zs.length : Int) := by omega
    clear hzb hR a2 a3 h0 h1 h2 h3 h4 h5 hs0 hm hlen hl hb hb0 b0 hO b2 b3 b4 hB0 hxb hq
    gi_wp2_with fail
    refine region_round (fun W' => W'.cell? ⟨w.heap.size, 0, none⟩ = some (.int .u32 (b : Int)) ∧ W'.cell? ⟨w.heap.size + 2, 0, none⟩ = some (.slice (some ⟨w.heap.size + 1, 0, none⟩) zs.length zs.length)) hmix (by kernel_rfl) ⟨hcb, hco⟩ (fun hHeld => ?_)
    refine wpAnyH_take (i := 0) (oi := _) (v := ?_) rfl (by kernel_rfl) (by kernel_rfl) (by kernel_rfl) (fun _ _ _ h => h) (Or.inl ⟨by rfl, ?_⟩) (by assumption) ?_
    rotate_left
    · (intro w hSw; (try dsimp only at hSw); go_simp <;> with_reducible rfl)
    try simp only [Act.put, List.setIfInBounds_toArray]
    refine wpAnyH_take (i := 1) (oi := _) (v := ?_) rfl (by kernel_rfl) (by kernel_rfl) (by kernel_rfl) (fun _ _ _ h => h) (Or.inl ⟨by rfl, ?_⟩) (by assumption) ?_
    rotate_left
    · (intro w hSw; (try dsimp only at hSw); go_simp <;> with_reducible rfl)
    try simp only [Act.put]
    refine wpAnyH_take (i := 3) (oi := _) (v := ?_) rfl (by kernel_rfl) (by kernel_rfl) (by kernel_rfl) (fun _ _ _ h => h) (Or.inl ⟨by rfl, ?_⟩) (by assumption) ?_
    rotate_left
    · (intro w hSw; (try dsimp only at hSw); go_simp <;> with_reducible rfl)
    try simp only [Act.put]
    refine wpAnyH_take (i := 4) (oi := _) (v := ?_) rfl (by kernel_rfl) (by kernel_rfl) (by kernel_rfl) (fun _ _ _ h => h) (Or.inl ⟨by rfl, ?_⟩) (by assumption) ?_
    rotate_left
    · (intro w hSw; (try dsimp only at hSw); go_simp <;> with_reducible rfl)
    try simp only [Act.put]
    refine wpAnyH_ready (rs := [2]) (by kernel_rfl) (by simp) (AllReadyH.cons rfl (fun K hK => ?_) AllReadyH.nil)
    go_simp
    refine hK.out _ _ hHeld (fun _ => ?_)
    clear hK K
    refine wpAnyH_ready (rs := [5]) (by kernel_rfl) (by simp) (AllReadyH.cons rfl (fun K hK => ?_) AllReadyH.nil)
    go_simp
    refine (Hdv.out _).mono ?_
    rintro e w' ⟨rfl, nq, rfl⟩
    dsimp only
    refine hK.out _ _ ⟨by simp [hcb], by simp [hco]⟩ (fun hHeld => ?_)
    clear hK K
    try simp only [Act.put, List.setIfInBounds_toArray, List.set_cons_zero, List.set_cons_succ]
    refine wpAnyH_take (i := 6) (oi := _) (v := ?_) rfl (by kernel_rfl) (by kernel_rfl) (by kernel_rfl) (fun _ _ _ h => h) (Or.inl ⟨by rfl, ?_⟩) (by assumption) ?_
    rotate_left
    · (intro w hSw; (try dsimp only at hSw); go_simp <;> with_reducible rfl)
    try simp only [Act.put, List.setIfInBounds_toArray]
    refine wpAnyH_take (i := 7) (oi := _) (v := ?_) rfl (by kernel_rfl) (by kernel_rfl) (by kernel_rfl) (fun _ _ _ h => h) (Or.inl ⟨by rfl, ?_⟩) (by assumption) ?_
    rotate_left
    · (intro w hSw; (try dsimp only at hSw); go_simp <;> with_reducible rfl)
    try simp only [Act.put]
    refine wpAnyH_take (i := 8) (oi := _) (v := ?_) rfl (by kernel_rfl) (by kernel_rfl) (by kernel_rfl) (fun _ _ _ h => h) (Or.inl ⟨by rfl, ?_⟩) (by assumption) ?_
    rotate_left
    · (intro w hSw; (try dsimp only at hSw); go_simp <;> with_reducible rfl)
    try simp only [Act.put]
    refine wpAnyH_take (i := 9) (oi := _) (v := ?_) rfl (by kernel_rfl) (by kernel_rfl) (by kernel_rfl) (fun _ _ _ h => h) (Or.inl ⟨by rfl, ?_⟩) (by assumption) ?_
    rotate_left
    · (intro w hSw; (try dsimp only at hSw); go_simp <;> with_reducible rfl)
    try simp only [Act.put]
    refine wpAnyH_ready (rs := [10]) (by kernel_rfl) (by simp) (AllReadyH.cons rfl (fun K hK => ?_) AllReadyH.nil)
    go_simp
    refine hK.out _ _ ⟨by simp [hcb, World.cell?_setCell_far], by simp [hco, World.cell?_setCell_far]⟩ (fun _ => ?_)
    clear hK K hHeld
    refine wpAnyH_ready (rs := [11]) (by kernel_rfl) (by simp) (AllReadyH.cons rfl (fun K hK => ?_) AllReadyH.nil)
    go_simp
    refine hK.out _ _ ⟨(World.cell?_setCell_far _ _ _ _ (by dsimp only; omega)).trans ((World.cell?_setCell_far _ _ _ _ (by dsimp only; omega)).trans hcb), (World.cell?_setCell_far _ _ _ _ (by dsimp only; omega)).trans ((World.cell?_setCell_far _ _ _ _ (by dsimp only; omega)).trans hco)⟩ (fun _ => ?_)
    clear hK K
    refine wpAnyH_done (by kernel_rfl) ?_ _
    simp only [onlyNormal]
    clear hHeld hcb hco hcr hfr hcg hfg Hdv
    gi_wp2
    obtain ⟨hzb, hR, a2, a3, h0, h1, h2, h3, h4, h5, hs0, hm, hq⟩ := HP.out
    refine ⟨(((keepsOthers_drewN W (1 + nq)).trans (KeepsOthers.setCell _ _ _)).trans (KeepsOthers.setCell _ _ _)).from _, ss.set i q, r', by rw [List.length_set, Ha1.out], ?_, hm, ?_, ?_, ?_, ?_, ?_, ?_, ?_⟩
    · intro y hy
      rcases List.mem_or_eq_of_mem_set hy with h | rfl
      · exact a2 y h
      · exact hq
    · intro j hj
      obtain rfl : j = i := by have := Hki.out; omega
      rw [drop_of_get (x := q) (List.getElem?_set_self his), List.drop_set_of_lt (by omega), val_cons]
      exact Hnew.out
    · exact Boxed.far (Boxed.far (Boxed.drewN (W := W) h0 (1 + nq)) (by dsimp only; omega) _) (by dsimp only; omega) _
    · exact (Own.set (w := W.drewN (1 + nq)) h1 i q).far (by dsimp only; omega) _
    · exact Boxed.far (Boxed.far (Boxed.drewN (W := W) h2 (1 + nq)) (by dsimp only; omega) _) (by dsimp only; omega) _
    · exact Boxed.set _ (Boxed.far (Boxed.drewN (W := W) h3 (1 + nq)) (by dsimp only; omega) _)
    · exact Boxed.far (Boxed.far (Boxed.drewN (W := W) h4 (1 + nq)) (by dsimp only; omega) _) (by dsimp only; omega) _
    · exact ((Below.trans h5 (below_drewN _ W (1 + nq))).setCell (by dsimp only; omega) _).setCell (by dsimp only; omega) _
  case done =>
    rintro D W hD ⟨ss, r, a1, a2, a3, a4, h0, h1, h2, h3, h4, h5⟩ hK
    have hmix : Tryd.prog.follows .mixedOrders = true := by kernel_rfl
    have hco := h2.cell
    have hcr := h3.cell
    have hlt2 := h2.lt
    have hlt3 := h3.lt
    have hDlt : D < W.heap.size := (Array.getElem?_eq_some_iff.1 hK).1
    have hwh := h1.whole (by omega)
    rw [a1] at hwh
    have hsz := h5.size
    have hval : val 4294967296 ss * b + r = val 4294967296 zs := by have := a4 0 (by omega); simpa using this
    have HT := Lib.hid (fun W' (hb' : Below W.heap.size W W') => (trim_num W' _ ss (hwh.below hb') a2))
    have HP := Lib.hid (And.intro a3 (And.intro hval (And.intro hK (And.intro h5 (And.intro hlen hb)))))
    have hrb : r < 4294967296 := by omega
    clear a1 a2 a3 a4 h0 h1 h2 h3 h4 h5 hval hK hwh hzb hR hlen hb hb0 b0 hO b2 b3 b4 hB0 hl
    gi_wp2
    refine region_wide (fun W' => W'.cell? ⟨w.heap.size + 2, 0, none⟩ = some (.slice (some ⟨w.heap.size + 1, 0, none⟩) zs.length zs.length) ∧ W'.cell? ⟨w.heap.size + 3, 0, none⟩ = some (.int .u32 (r : Int))) hmix ⟨hco, hcr⟩ (fun hHeld => ?_)
    refine wpAnyH_take (i := 0) (oi := _) (v := ?_) rfl (by kernel_rfl) (by kernel_rfl) (by kernel_rfl) (fun _ _ _ h => h) (Or.inl ⟨by rfl, ?_⟩) (by assumption) ?_
    rotate_left
    · (intro w hSw; (try dsimp only at hSw); go_simp <;> with_reducible rfl)
    try simp only [Act.put, List.setIfInBounds_toArray]
    refine wpAnyH_take (i := 2) (oi := _) (v := ?_) rfl (by kernel_rfl) (by kernel_rfl) (by kernel_rfl) (fun _ _ _ h => h) (Or.inl ⟨by rfl, ?_⟩) (by assumption) ?_
    rotate_left
    · (intro w hSw; (try dsimp only at hSw); go_simp <;> with_reducible rfl)
    try simp only [Act.put]
    refine wpAnyH_take (i := 3) (oi := _) (v := ?_) rfl (by kernel_rfl) (by kernel_rfl) (by kernel_rfl) (fun _ _ _ h => h) (Or.inl ⟨by rfl, ?_⟩) (by assumption) ?_
    rotate_left
    · (intro w hSw; (try dsimp only at hSw); go_simp <;> with_reducible rfl)
    try simp only [Act.put]
    refine wpAnyH_ready (rs := [1]) (by kernel_rfl) (by simp) (AllReadyH.cons rfl (fun K hK => ?_) AllReadyH.nil)
    go_simp
    refine (HT.out W.drew (Below.drew (Below.refl _ W))).mono ?_
    rintro e w1 ⟨v1, zs1, rfl, hR1, hC1, hv1, hl1, hB1⟩
    have HQ := Lib.hid (And.intro hR1 (And.intro hC1 (And.intro hv1 hB1)))
    clear hR1 hC1 hv1 hl1
    dsimp only
    refine hK.out _ _ ⟨(hB1.cell (by exact hlt2)).trans hco, (hB1.cell (by exact hlt3)).trans hcr⟩ (fun _ => ?_)
    clear hK K hHeld HT
    have hwr : IntKind.u64.wrap (r : Int) = (r : Int) := by rw [wrap_u64']; omega
    try simp only [hwr]
    clear hwr
    refine wpAnyH_ready (rs := [4]) (by kernel_rfl) (by simp) (AllReadyH.cons rfl (fun K hK => ?_) AllReadyH.nil)
    go_simp
    refine (of_c w1 r (by omega)).mono ?_
    rintro e w2 ⟨hB2, v2, rfl, hN2⟩
    dsimp only
    have hs1 := hB1.size
    refine hK.out _ _ ⟨(hB2.cell (by exact Nat.lt_of_lt_of_le hlt2 hs1)).trans ((hB1.cell (by exact hlt2)).trans hco), (hB2.cell (by exact Nat.lt_of_lt_of_le hlt3 hs1)).trans ((hB1.cell (by exact hlt3)).trans hcr)⟩ (fun hHeld => ?_)
    clear hK K
    try simp only [Act.put, List.setIfInBounds_toArray, List.set_cons_zero, List.set_cons_succ]
    refine wpAnyH_ready (rs := [5]) (by kernel_rfl) (by simp) (AllReadyH.cons rfl (fun K hK => ?_) AllReadyH.nil)
    go_simp
    refine hK.out _ _ hHeld (fun _ => ?_)
    clear hK K
    refine wpAnyH_ready (rs := [6]) (by kernel_rfl) (by simp) (AllReadyH.cons rfl (fun K hK => ?_) AllReadyH.nil)
    go_simp
    refine hK.out _ _ hHeld (fun _ => ?_)
    clear hK K
    refine wpAnyH_done (by kernel_rfl) ?_ _
    simp only [onlyNormal]
    clear hHeld hco hcr
    obtain ⟨hR1, hC1, hv1, hB1⟩ := HQ.out
    obtain ⟨hrb', hval, hKD, h5, hlen, hb⟩ := HP.out
    have hKD2 : w2.heap[D]? = some (.deferred (some [])) := (hB2.block D (Nat.lt_of_lt_of_le hDlt hs1)).trans ((hB1.block D hDlt).trans hKD)
    gi_wp2
    refine ⟨by simp, .inl ⟨_, _, rfl, run_takeDeferred hKD2, ?_⟩⟩
    have hdm := divmod_unique hval hrb'
    refine ⟨.tuple #[v1, v2], by simp [results, Tryd.f54, go_sem], below_deferred (by omega) hKD2 ((Below.trans h5 (Below.mono (Below.trans (Below.drew (Below.refl _ W)) (Below.mono hB1 (Nat.le_refl _))) hsz)).trans (Below.mono hB2 (Nat.le_trans hsz hs1))), v1, v2, rfl, ?_, ?_⟩
    · exact NumV.put hKD2 (hdm.1 ▸ ⟨zs1, hR1.below hB2, hC1, hv1⟩)
    · exact NumV.put hKD2 (hdm.2 ▸ hN2)
  case stop => exact fun _ _ _ _ _ h _ => h.elim
end Go.Proofs.YtlgfjgkcgimdoaaDoor
