
/- Numbers as values: layer 1's contracts, over 'this value is that number'. -/
import Derived.Test.YtnncfbmddpijcaaGreatDoorHeld
import Derived.Test.YtnncfbmddpijcaaGreatDoorLong
import Derived.Lib.Builder
namespace Go.Proofs.YtnncfbmddpijcaaGreatDoor
open Go Go.RowKit Go.Shelf

/-- v is the number x in w. -/
def Nm (w : World) (v : Value) (x : Nat) : Prop := ∃ A cap zs, v = .slice A zs.length cap ∧ Ok w (.slice A zs.length cap) zs ∧ val 4294967296 zs = x
theorem Nm.below {w w' : World} {v : Value} {x : Nat} (h : Nm w v x) (hb : Below w.heap.size w w') : Nm w' v x := by
  obtain ⟨A, cap, zs, rfl, h1, h2⟩ := h
  exact ⟨A, cap, zs, rfl, h1.below hb, h2⟩
theorem Nm.of_ok {w : World} {v : Value} {zs : List Nat} (h : Ok w v zs) : Nm w v (val 4294967296 zs) := by
  obtain ⟨A, cap, rfl, _⟩ := h.1.form
  exact ⟨A, cap, zs, rfl, h, rfl⟩
theorem Nm.nil (w : World) : Nm w (.slice none 0 0) 0 := ⟨none, 0, [], rfl, ⟨Rd.nil _ _ _, Can.nil _, by simp⟩, rfl⟩
theorem Nm.of_numV {w : World} {v : Value} {x : Nat} (hx : x < Lim) (h : NumV w v x) : Nm w v x := by
  obtain ⟨zs, h1, h2, h3⟩ := h
  obtain ⟨A, cap, rfl, _⟩ := h1.form
  have hl := h2.len_le (n := maxL) (by omega) (by rw [h3]; exact hx)
  exact ⟨A, cap, zs, rfl, ⟨h1, h2, by unfold maxL at hl; omega⟩, h3⟩
/-- What is returned is the number x. -/
def RetN (w : World) (x : Nat) (e : Ending) (w' : World) : Prop := ∃ v, e = .returned v ∧ Nm w' v x ∧ Below w.heap.size w w'
/-- .. beside no error. -/
def RetN0 (w : World) (x : Nat) (e : Ending) (w' : World) : Prop := ∃ v, e = .returned (.tuple #[v, .int .i64 0]) ∧ Nm w' v x ∧ Below w.heap.size w w'
/-- None is returned, beside that error. -/
def RetE (w : World) (c : Int) (e : Ending) (w' : World) : Prop := e = .returned (.tuple #[.slice none 0 0, .int .i64 c]) ∧ Below w.heap.size w w'
theorem retN0_of_made {w w' : World} {x : Nat} {e : Ending} (h : Made w x e w') : RetN0 w x e w' := by
  obtain ⟨A, cap, zs, rfl, h1, h2, h3⟩ := h
  exact ⟨_, rfl, ⟨A, cap, zs, rfl, h1, h2⟩, h3⟩
theorem small_lim {x : Nat} (h : x < 18446744073709551616) : x < Lim := lim_of (n := 2) (by rw [pow2]; exact h) (by omega)
theorem of_n (w : World) (n : Nat) (hn : n < 18446744073709551616) : Calls Tryz.prog 32 #[.int .u64 n] w (RetN w n) :=
  (of_c w n hn).mono fun _ _ h => by
    obtain ⟨hb, v, rfl, hv⟩ := h
    exact ⟨v, rfl, Nm.of_numV (small_lim hn) hv, hb⟩
section
variable {w : World} {va vb : Value} {x y : Nat}
theorem add_n (ha : Nm w va x) (hb : Nm w vb y) (hx : x + y < Lim) : Calls Tryz.prog 75 #[va, vb] w (RetN0 w (x + y)) := by
  obtain ⟨A, c, xs, rfl, h1, rfl⟩ := ha
  obtain ⟨A', c', ys, rfl, h2, rfl⟩ := hb
  exact (add_made w _ _ xs ys h1 h2 hx).mono fun _ _ h => retN0_of_made h
theorem mul_n (ha : Nm w va x) (hb : Nm w vb y) (hx : x * y < Lim) : Calls Tryz.prog 39 #[va, vb] w (RetN0 w (x * y)) := by
  obtain ⟨A, c, xs, rfl, h1, rfl⟩ := ha
  obtain ⟨A', c', ys, rfl, h2, rfl⟩ := hb
  exact (mul_made w _ _ xs ys h1 h2 hx).mono fun _ _ h => retN0_of_made h
theorem mul_big_n (ha : Nm w va x) (hb : Nm w vb y) (hx : Lim ≤ x * y) : Calls Tryz.prog 39 #[va, vb] w (RetE w 11) := by
  obtain ⟨A, c, xs, rfl, h1, rfl⟩ := ha
  obtain ⟨A', c', ys, rfl, h2, rfl⟩ := hb
  refine (mul_c w _ _ xs ys h1.1 h2.1 h1.2.1.1 h2.2.1.1 h1.2.2 h2.2.2).mono fun _ _ h => ?_
  obtain ⟨hb, (⟨h, _⟩ | ⟨_, h⟩)⟩ := h
  · omega
  · exact ⟨h, hb⟩
theorem add_big_n (ha : Nm w va x) (hb : Nm w vb y) (hx : Lim ≤ x + y) : Calls Tryz.prog 75 #[va, vb] w (RetE w 11) := by
  obtain ⟨A, c, xs, rfl, h1, rfl⟩ := ha
  obtain ⟨A', c', ys, rfl, h2, rfl⟩ := hb
  refine (add_c w _ _ xs ys h1.1 h2.1 h1.2.1.1 h2.2.1.1 h1.2.2 h2.2.2).mono fun _ _ h => ?_
  obtain ⟨hb, (⟨h, _⟩ | ⟨_, h⟩)⟩ := h
  · omega
  · exact ⟨h, hb⟩
theorem sub_n (ha : Nm w va x) (hb : Nm w vb y) (hle : y ≤ x) (hx : x < Lim) : Calls Tryz.prog 77 #[va, vb] w (RetN0 w (x - y)) := by
  obtain ⟨A, c, xs, rfl, h1, rfl⟩ := ha
  obtain ⟨A', c', ys, rfl, h2, rfl⟩ := hb
  exact (sub_made w _ _ xs ys h1 h2 hle hx).mono fun _ _ h => retN0_of_made h
/-- How often, and what is left. -/
def RetDiv (w : World) (x y : Nat) (e : Ending) (w' : World) : Prop := ∃ v1 v2, e = .returned (.tuple #[v1, v2, .int .i64 0]) ∧ Nm w' v1 (x / y) ∧ Nm w' v2 (x % y) ∧ Below w.heap.size w w'
theorem div_n (ha : Nm w va x) (hb : Nm w vb y) (hp : 0 < y) (hx : x < Lim) : Calls Tryz.prog 66 #[va, vb] w (RetDiv w x y) := by
  obtain ⟨A, c, xs, rfl, h1, rfl⟩ := ha
  obtain ⟨A', c', ys, rfl, h2, rfl⟩ := hb
  refine (div_c w _ _ xs ys h1.1 h2.1 h1.2.1.1 h2.2.1.1 h1.2.2 h2.2.2 (fun _ => divideLong_c)).mono fun _ _ h => ?_
  obtain ⟨hb, (⟨h, _⟩ | ⟨_, h, _⟩ | ⟨_, _, v1, v2, rfl, g1, g2⟩)⟩ := h
  · omega
  · omega
  · exact ⟨v1, v2, rfl, Nm.of_numV (Nat.lt_of_le_of_lt (Nat.div_le_self _ _) hx) g1, Nm.of_numV (Nat.lt_of_le_of_lt (Nat.mod_le _ _) hx) g2, hb⟩
theorem div_zero_n (ha : Nm w va x) (hb : Nm w vb 0) : Calls Tryz.prog 66 #[va, vb] w fun e w' => e = .returned (.tuple #[.slice none 0 0, .slice none 0 0, .int .i64 10]) ∧ Below w.heap.size w w' := by
  obtain ⟨A, c, xs, rfl, h1, rfl⟩ := ha
  obtain ⟨A', c', ys, rfl, h2, h0⟩ := hb
  refine (div_c w _ _ xs ys h1.1 h2.1 h1.2.1.1 h2.2.1.1 h1.2.2 h2.2.2 (fun _ => divideLong_c)).mono fun _ _ h => ?_
  obtain ⟨hb, (⟨_, h⟩ | ⟨h, _⟩ | ⟨h, _⟩)⟩ := h
  · exact ⟨h, hb⟩
  · omega
  · omega
theorem small_n (ha : Nm w va x) (hx : x < 18446744073709551616) : Calls Tryz.prog 67 #[va] w fun e w' => e = .returned (.tuple #[.int .u64 (x : Int), .int .i64 0]) ∧ Below w.heap.size w w' := by
  obtain ⟨A, c, xs, rfl, h1, rfl⟩ := ha
  refine (small_c w _ xs h1.1 h1.2.1.1 h1.2.2).mono fun _ _ h => ?_
  obtain ⟨hb, (⟨_, h⟩ | ⟨h, _⟩)⟩ := h
  · exact ⟨h, hb⟩
  · unfold two64 at h; omega
theorem small_big_n (ha : Nm w va x) (hx : 18446744073709551616 ≤ x) : Calls Tryz.prog 67 #[va] w fun e w' => e = .returned (.tuple #[.int .u64 0, .int .i64 11]) ∧ Below w.heap.size w w' := by
  obtain ⟨A, c, xs, rfl, h1, rfl⟩ := ha
  refine (small_c w _ xs h1.1 h1.2.1.1 h1.2.2).mono fun _ _ h => ?_
  obtain ⟨hb, (⟨h, _⟩ | ⟨_, h⟩)⟩ := h
  · unfold two64 at h; omega
  · exact ⟨h, hb⟩
theorem bits_n (ha : Nm w va x) : Calls Tryz.prog 65 #[va] w fun e w' => ∃ n : Nat, e = .returned (.int .i64 (n : Int)) ∧ IsBits n x ∧ Below w.heap.size w w' := by
  obtain ⟨A, c, xs, rfl, h1, rfl⟩ := ha
  exact (bits_c w _ xs h1.1 h1.2.1.1 h1.2.2).mono fun _ _ ⟨hb, n, he, hn⟩ => ⟨n, he, hn, hb⟩
theorem cmp_n (ha : Nm w va x) (hb : Nm w vb y) : Calls Tryz.prog 76 #[va, vb] w fun e w' => e = .returned (.int .i64 (ord3 x y)) ∧ Below w.heap.size w w' := by
  obtain ⟨A, c, xs, rfl, h1, rfl⟩ := ha
  obtain ⟨A', c', ys, rfl, h2, rfl⟩ := hb
  exact compare_c w _ _ xs ys h1.1 h2.1 h1.2.1.1 h2.2.1.1 h1.2.2 h2.2.2
end
theorem isBits_some {n x : Nat} (h : IsBits n x) (hx : 0 < x) : 0 < n := by
  rcases Nat.eq_zero_or_pos n with rfl | h1
  · have := h.1; simp at this; omega
  · exact h1
theorem isBits_none {n : Nat} (h : IsBits n 0) : n = 0 := by
  rcases h.2 with h | h
  · exact h
  · have := Nat.pow_pos (n := n - 1) (show 0 < 2 by omega); omega

set_option maxRecDepth 100000 in
set_option maxHeartbeats 1000000 in
/-- An empty slice, cloned. -/
theorem clone_empty (w : World) (A : Option Addr) (cap : Nat) :
    Calls Tryz.prog 51 #[.slice A 0 cap] w (RetN w 0) := by
  cases A with
  | none =>
    have hnil := Lib.run_eql_slice_nil (P := Tryz.prog) w 23 85 none 0 cap 0 0 Tryz.underlying23
    go_enter Tryz.func51, Tryz.ntmps51
    go_wp2
    go_ret
    exact ⟨_, rfl, Nm.nil _, Below.refl _ _⟩
  | some a =>
    have hnil := Lib.run_eql_slice_nil (P := Tryz.prog) w 23 85 (some a) 0 cap 0 0 Tryz.underlying23
    obtain ⟨i0, hi, hz0, hz1, hz2⟩ := info_parts info_u32
    have hown := World.ownsRow_lit (e := 85) (size := 1) (base := w.heap.size) w #[] 0 (Nat.le_refl _) (by unfold maxLen; omega) rfl
    have C4 : Hid (0 + 0 ≤ maxLen) := by unfold Hid maxLen; omega
    have C5 : Hid ((0 + 0) * 4 ≤ 140737488355328) := by unfold Hid; omega
    have C6 : Hid (w.heap.size ≤ (w.alloc (.cells #[] 85)).heap.size) := by unfold Hid; simp
    have Hi := Lib.hid hi
    have Hz0 := Lib.hid hz0
    have Hz1 := Lib.hid hz1
    have Hz2 := Lib.hid hz2
    have Hown := Lib.hid hown
    clear hi hz0 hz1 hz2 hown
    go_enter Tryz.func51, Tryz.ntmps51
    go_wp2_with (at_builtin; refine wpList_append_own _ rfl (.tmp 5) (.tmp 6) 23 rfl w.heap.size 85 i0 (.int .u32 0) 1 4 Tryz.underlying23 Hi.out Hz0.out Hz1.out Hz2.out rfl (by decide) _ 0 [] rfl Hown.out a 0 cap [] rfl rfl (fun j u h => by cases h) (fun u h => by cases h) C4.out C5.out C6.out ?_; intro v' w' hown' hgrow _)
    have hb0 : Below w.heap.size w w' := ((Below.refl _ w).alloc (Nat.le_refl _) _).grown hgrow (by simp) (fun k e => by injection e with e; simp only at e; omega)
    have hG : Grown .u32 85 w.heap.size w' v' [] := hown'
    have hR := hG.rd (by simp)
    obtain ⟨A', c', rfl, _⟩ := hG.form
    go_ret
    exact ⟨_, rfl, ⟨A', c', [], rfl, ⟨hR, Can.nil _, by simp⟩, rfl⟩, hb0⟩
theorem clone_n {w : World} {v : Value} {x : Nat} (h : Nm w v x) : Calls Tryz.prog 51 #[v] w (RetN w x) := by
  obtain ⟨A, cap, zs, rfl, h1, rfl⟩ := h
  rcases Nat.eq_zero_or_pos zs.length with h0 | h0
  · obtain rfl : zs = [] := List.eq_nil_of_length_eq_zero h0
    exact clone_empty w A cap
  · refine (clone_c w _ zs h1.1 (fun e => by omega) h1.2.2).mono fun _ _ h => ?_
    obtain ⟨hb, v, rfl, hr, _⟩ := h
    obtain ⟨A', c', rfl, _⟩ := hr.form
    exact ⟨_, rfl, ⟨A', c', zs, rfl, ⟨hr, h1.2⟩, rfl⟩, hb⟩
end Go.Proofs.YtnncfbmddpijcaaGreatDoor

/- A row that is made by append: all its cells are numbers of its kind, those to spare too; so no number of another kind lies in it. -/
namespace Go.Proofs.YtnncfbmddpijcaaGreatDoor
open Go Go.RowKit Go.Shelf

def AllK (k : IntKind) (t : TypeId) (w : World) (v : Value) : Prop := ∀ g, v.ownBlock = some g → ∃ cur : Array Value, w.heap[g]? = some (.cells cur t (0, 0)) ∧ ∀ c ∈ cur.toList, ∃ z : Int, c = .int k z
theorem AllK.nil (k : IntKind) (t : TypeId) (w : World) : AllK k t w (.slice none 0 0) := fun g h => by cases h
theorem AllK.below {k : IntKind} {t : TypeId} {w w' : World} {v : Value} (h : AllK k t w v) (hb : Below w.heap.size w w') : AllK k t w' v := fun g hg => by
  obtain ⟨cur, h1, h2⟩ := h g hg
  exact ⟨cur, (hb.block g (Array.getElem?_eq_some_iff.1 h1).1).trans h1, h2⟩
theorem zero_k {k : IntKind} {n : Nat} : ∀ c ∈ (Builtin.zeroCells #[Value.int k 0] n).toList, ∃ z : Int, c = .int k z := by
  intro c hc
  simp [Builtin.zeroCells] at hc
  obtain ⟨i, _, rfl⟩ := hc
  exact ⟨0, by simp [Nat.mod_one]⟩

theorem append_k {P : Program} {k : IntKind} (W : World) (t ty e : TypeId) (i : TypeInfo) (bytes base : Nat) (ht : P.underlying t = some (.slice e)) (hi : P.info? e = some i) (hz : i.zero = some (.int k 0)) (hs : i.size = 1) (hby : i.bytes = bytes)
    (v : Value) (zs : List Nat) (hG : Grown k e base W v zs) (hK : AllK k e W v) (a : Addr) (x : Int) (hnew : W.cell? (a.add 0) = some (.int k x)) (hl : (zs.length + 1) * bytes ≤ 140737488355328) (hll : zs.length ≤ 1000000000)
    (v' : Value) (w' : World) (h : (Builtin.append_ #[t, t] ty #[v, .slice (some a) 1 1]).run P W = .ok v' w') : AllK k e w' v' := by
  have hnews : ∀ (j : Nat) (u : Value), [Value.int k x][j]? = some u → W.cell? (a.add j) = some u := by
    intro j u hj
    match j, hj with
    | 0, hj => simp at hj; subst hj; exact hnew
  have hnl : [Value.int k x].length = 1 * i.size := by rw [hs]; rfl
  rcases id hG with ⟨hxl, (⟨rfl, h0⟩ | ⟨g, cap, cur, rfl, hb, hg, hn, hm, hcs, htk⟩)⟩
  · rw [run_append_nil (P := P) W t ty e i (.int k 0) ht hi hz a 1 1 [.int k x] hnl hnews (by omega) (by omega) (by rw [h0] at hl; rw [hby]; omega)] at h
    injection h with h1 h2
    subst h1; subst h2
    intro g hg
    injection hg with hg
    subst hg
    refine ⟨_, heap_alloc_new W.drew _, fun c hc => ?_⟩
    rw [Array.toList_append] at hc
    rcases List.mem_append.1 hc with hc | hc
    · simp at hc; exact ⟨x, hc⟩
    · exact zero_k c hc
  · by_cases hroom : zs.length + 1 ≤ cap
    · have hfit : zs.length * i.size + [Value.int k x].length ≤ cur.size := by rw [hs, hcs]; simp; omega
      rw [run_append_room (P := P) W t ty e i ht hi g zs.length cap cur hg a 1 1 [.int k x] hnl hnews (fun u hu => by simp at hu; subst hu; rfl) hroom hfit] at h
      injection h with h1 h2
      subst h1; subst h2
      intro g' hg'
      injection hg' with hg'
      subst hg'
      obtain ⟨cur', hc1, hc2⟩ := hK g rfl
      rw [hg] at hc1
      injection hc1 with hc1
      injection hc1 with hc1
      subst hc1
      refine ⟨_, setRow_heap W g cur _ e _ hg, fun c hc => ?_⟩
      simp only [List.mem_append] at hc
      rcases hc with (hc | hc) | hc
      · exact hc2 c (List.mem_of_mem_take hc)
      · simp at hc; exact ⟨x, hc⟩
      · exact hc2 c (List.mem_of_mem_drop hc)
    · have holds := World.ownsRow.cells hG (g := g) rfl
      rw [run_append_grow (P := P) W t ty e i (.int k 0) ht hi hz ⟨g, 0, none⟩ zs.length cap _ (by rw [hs]; exact hxl) holds a 1 1 [.int k x] hnl hnews (by omega) (by omega) (growslice_fits (by omega) (by rw [hby]; exact hl))] at h
      injection h with h1 h2
      subst h1; subst h2
      intro g' hg'
      injection hg' with hg'
      subst hg'
      refine ⟨_, heap_alloc_new W.drew _, fun c hc => ?_⟩
      rw [Array.toList_append, Array.toList_append] at hc
      rcases List.mem_append.1 hc with hc | hc
      · rcases List.mem_append.1 hc with hc | hc
        · simp at hc; obtain ⟨z, _, rfl⟩ := hc; exact ⟨_, rfl⟩
        · simp at hc; exact ⟨x, hc⟩
      · exact zero_k c hc

set_option maxRecDepth 100000 in
/-- One number more; what is kept of the kinds. -/
theorem wpList_app1k {P : Program} {k : IntKind} {ops : Array Oper} {rest : List Oper} {o : Oper} {a : Act} {Q : Exit → Act → World → Prop} (hgd : o.guard = none) (s x : Operand) (t : TypeId)
    (ho : o.op = .call { callee := .builtin .append, args := #[s, x], argTypes := #[t, t] }) (base : Nat) (e : TypeId) (bytes : Nat) (ht : P.underlying t = some (.slice e))
    (hinfo : (P.info? e).map (fun i => (i.zero, i.size, i.bytes)) = some (some (.int k 0), 1, bytes)) (hb8 : bytes ≤ 8) (v : Value) (zs : List Nat) (w : World) (y : Int) (n : Nat) (hy : y = (n : Int)) (hs : a.eval s = v) (hG : Grown k e base w v zs) (hK : AllK k e w v)
    (hx : a.eval x = .slice (some ⟨w.heap.size, 0, none⟩) 1 1) (hl : zs.length ≤ 1000000000) (w0 : World) (hB : Below base w0 w) (hbase : base ≤ w.heap.size)
    (h : ∀ v' w', Grown k e base w' v' (zs ++ [n]) → AllK k e w' v' → Below base w0 w' → (w.alloc (.cells #[.int k y] e)).grownBy w' v.ownBlock → wpList P ops Q rest (a.put o.dst v') w') : wpList P ops Q (o :: rest) a (w.alloc (.cells #[.int k y] e)) := by
  subst hy
  obtain ⟨i0, hi, hz0, hz1, hz2⟩ := info_parts hinfo
  have hb : (zs.length + 1) * bytes ≤ 140737488355328 := Nat.le_trans (Nat.mul_le_mul (Nat.le_refl _) hb8) (by omega)
  have hG' : Grown k e base (w.alloc (.cells #[.int k (n : Int)] e)) v zs := World.ownsRow.alloc hG _
  have hK' : AllK k e (w.alloc (.cells #[.int k (n : Int)] e)) v := hK.below ((Below.refl _ w).alloc (Nat.le_refl _) _)
  have hc1 : ∀ (j : Nat) (u : Value), [Value.int k (n : Int)][j]? = some u → (w.alloc (.cells #[.int k (n : Int)] e)).cell? ((⟨w.heap.size, 0, none⟩ : Addr).add j) = some u := by
    intro j u hj
    match j, hj with
    | 0, hj =>
      simp at hj; subst hj
      have e1 : (w.alloc (.cells #[.int k (n : Int)] e)).heap[w.heap.size]? = some (.cells #[.int k (n : Int)] e) := World.alloc_heap_new w _
      rw [show (⟨w.heap.size, 0, none⟩ : Addr).add 0 = ⟨w.heap.size, 0, none⟩ from rfl]
      unfold World.cell?
      dsimp only
      rw [e1]
      simp
  obtain ⟨v', w', hr, h2, h3, _⟩ := run_append_own (P := P) (w.alloc (.cells #[.int k (n : Int)] e)) base t o.type e i0 (.int k 0) 1 bytes ht hi hz0 hz1 hz2 rfl (by decide) v zs.length _ hG' ⟨w.heap.size, 0, none⟩ 1 1 [.int k (n : Int)] rfl hc1
    (fun u hu => by simp at hu; subst hu; rfl) (by unfold maxLen; omega) hb (by simp; omega)
  have hk := append_k (P := P) _ t o.type e i0 bytes base ht hi hz0 hz1 hz2 v zs hG' hK' ⟨w.heap.size, 0, none⟩ (n : Int) (hc1 0 _ rfl) hb hl v' w' hr
  refine wpList_plain hgd fun _ hKK => ?_
  unfold Oper.wp execOp
  simp only [ho, resolve, invoke, builtin, Sem.run_bind, Sem.run_pure, Result.andThen_ok, List.map_toArray, List.map_cons, List.map_nil, hs, hx, hr]
  refine hKK _ _ (h v' w' ?_ hk ?_ h3)
  · unfold Grown
    rw [List.length_append, List.map_append]
    exact h2
  · exact (hB.alloc hbase _).grown h3 (by simp; omega) (fun r er => ((World.ownsRow.lt hG') r er).1)

/-- A number of another kind stays. -/
theorem Nm.append {w w' : World} {k : IntKind} {t : TypeId} {v u : Value} {x : Nat} {o : Obj} (hk : k ≠ .u32) (h : Nm w v x) (hK : AllK k t w u) (hg : (w.alloc o).grownBy w' u.ownBlock) : Nm w' v x := by
  have hw : Below w.heap.size w (w.alloc o) := (Below.refl _ w).alloc (Nat.le_refl _) _
  have h1 := h.below hw
  have hK1 := hK.below hw
  obtain ⟨A, cap, zs, rfl, ⟨hr, hc⟩, hv⟩ := h1
  refine ⟨A, cap, zs, rfl, ⟨?_, hc⟩, hv⟩
  rcases hu : u.ownBlock with _ | g
  · rw [hu] at hg
    exact hr.below ⟨hg.os, hg.tape, hg.output, hg.size, fun j hj => hg.block j hj (by simp)⟩
  · rw [hu] at hg
    refine hr.grown hg fun h0 e => ?_
    obtain ⟨b, off, rfl, _⟩ := hr.addr h0
    injection e with e
    simp only at e
    subst e
    obtain ⟨cur, hc1, hc2⟩ := hK1 b hu
    have hcell := hr.cell (List.getElem?_eq_getElem h0)
    rw [Lib.cell_of_heap hc1] at hcell
    have hm : Value.int .u32 ((zs[0] : Nat) : Int) ∈ cur.toList := by
      obtain ⟨hlt, he⟩ := Array.getElem?_eq_some_iff.1 hcell
      rw [← he]; exact Array.mem_toList_iff.2 (Array.getElem_mem hlt)
    obtain ⟨z, hz⟩ := hc2 _ hm
    injection hz with hz _
    exact hk hz.symm
end Go.Proofs.YtnncfbmddpijcaaGreatDoor
