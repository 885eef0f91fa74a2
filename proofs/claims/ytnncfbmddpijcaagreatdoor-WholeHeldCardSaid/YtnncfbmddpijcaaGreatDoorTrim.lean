/- Digits are gone through from the last to the first: the iterator, and the law of the loop over it. -/
import Derived.Test.YtnncfbmddpijcaaGreatDoorNum
import Derived.RangeFuncNested
import Derived.RangeFuncBound
import Derived.RangeFuncCalls
import Derived.RangeFuncLeaves
import Derived.RangeFuncBox
import Derived.Shelf.Abstract
import Derived.Shelf.RegionOpen
import Derived.OwnWalkIn
import Derived.TacticsInMore
import Derived.LoopNIn
import Derived.LoopIn
namespace Go.Proofs.YtnncfbmddpijcaaGreatDoor
open Go Go.RowKit Go.Shelf
attribute [local go_sem] Oper.semAt_some

set_option maxRecDepth 100000 in
set_option maxHeartbeats 2000000 in
/-- THE ITERATOR: each digit with its place, from the last on, till a round says that it is enough. -/
theorem down_body (n : Nat) (hn : 1 ≤ n) (l Bs b off cap : Nat) (zs : List Nat) (hz : 0 < zs.length) (hlen : zs.length ≤ 70368744177664) (J Jx : Nat → World → Prop)
    (hbox : ∀ k W, J k W → W.cell? ⟨Bs, 0, none⟩ = some (.slice (some ⟨b, off, none⟩) zs.length cap))
    (hcell : ∀ (k : Nat) (W : World) (i x : Nat), J k W → zs[i]? = some x → W.cell? ⟨b, off + i, none⟩ = some (.int .u32 (x : Int)))
    (hY : ∀ (k i x : Nat) (W : World), k + i + 1 = zs.length → zs[i]? = some x → J k W → YieldAt Fence.wide (n - 1) Tryz.prog l #[.int .i64 (i : Int), .int .u32 (x : Int)] W fun e W' =>
      (e = .returned (.bool true) ∧ J (k + 1) W') ∨ (e = .returned (.bool false) ∧ Jx k W'))
    (W : World) (h0 : J 0 W) :
    CallsIn Fence.wide n Tryz.prog 104 #[.func (.yield l) #[] #[], .pointer (some ⟨Bs, 0, none⟩)] W fun e W' => (∃ v, e = .returned v) ∧ (J zs.length W' ∨ ∃ k, k < zs.length ∧ Jx k W') := by
  have hb0 := hbox 0 W h0
  refine callsIn_of_wp Tryz.func104 rfl trivial ?_ rfl
  simp only [Tryz.ntmps104, List.size_toArray, List.length_cons, List.length_nil, Nat.reduceAdd, Nat.reduceSub, Array.replicate_succ, Array.replicate_zero, List.push_toArray, List.append_toArray, List.nil_append, List.cons_append]
  gi_wp2
  gi_loopw [3] (fun i wr => ∃ k : Nat, k ≤ zs.length ∧ i = .int .i64 ((zs.length : Int) - 1 - k) ∧ J k wr)
    (fun i _ => (intOf i + 1).toNat)
  case atStart => exact ⟨0, Nat.zero_le _, by go_num, h0⟩
  case round =>
    obtain ⟨k, hk, rfl, hJs⟩ := hrel
    have hbx := hbox k wr hJs
    by_cases hlt : k < zs.length
    · obtain ⟨i, hi⟩ : ∃ i, k + i + 1 = zs.length := ⟨zs.length - 1 - k, by omega⟩
      have hx : zs[i]? = some zs[i] := List.getElem?_eq_getElem (by omega)
      obtain ⟨x, hxx⟩ : ∃ x, zs[i] = x := ⟨_, rfl⟩
      rw [hxx] at hx
      clear hxx
      obtain ⟨fn, tmps, assign, body, hy, hR⟩ := hY k i x wr hi hx hJs
      have hcx := hcell k wr i x hJs hx
      have ei : ((zs.length : Int) - 1 - (k : Int)) = (i : Int) := by omega
      have Hi := Lib.hid hi
      have Hx := Lib.hid hx
      have hlti : i < zs.length := by omega
      clear hi hx hb0 hY hbox hcell
      rw [ei]
      clear ei
      gi_wp2
      refine hR.mono ?_
      rintro e W3 (⟨rfl, hJ3⟩ | ⟨rfl, hJx3⟩)
      · gi_wp2
        go_roundw
        case rel => exact ⟨k + 1, by omega, by have := Hi.out; go_num, hJ3⟩
        case measure => simp [intOf]
      · gi_wp2
        refine bodyPost_ret (results_none rfl _ _ _) rfl ?_
        exact ⟨⟨_, rfl⟩, .inr ⟨k, hlt, hJx3⟩⟩
    · obtain rfl : k = zs.length := by omega
      clear hY hbox hcell hb0
      gi_wp2
      go_end0
      exact ⟨⟨_, rfl⟩, .inl hJs⟩

set_option maxRecDepth 100000 in
set_option maxHeartbeats 1000000 in
/-- .. of no digits: no round. -/
theorem down_none (n : Nat) (l Bs cap : Nat) (A : Option Addr) (W : World) (hb : W.cell? ⟨Bs, 0, none⟩ = some (.slice A 0 cap)) (J : World → Prop) (h0 : J W) :
    CallsIn Fence.wide n Tryz.prog 104 #[.func (.yield l) #[] #[], .pointer (some ⟨Bs, 0, none⟩)] W fun e W' => (∃ v, e = .returned v) ∧ J W' := by
  refine callsIn_of_wp Tryz.func104 rfl trivial ?_ rfl
  simp only [Tryz.ntmps104, List.size_toArray, List.length_cons, List.length_nil, Nat.reduceAdd, Nat.reduceSub, Array.replicate_succ, Array.replicate_zero, List.push_toArray, List.append_toArray, List.nil_append, List.cons_append]
  gi_wp2
  gi_loopw [3] (fun i wr => i = .int .i64 (-1) ∧ J wr) (fun _ _ => 0)
  case atStart => exact ⟨rfl, h0⟩
  case round =>
    obtain ⟨rfl, hJs⟩ := hrel
    gi_wp2
    go_end0
    exact ⟨⟨_, rfl⟩, hJs⟩

/-- How the body of a round is left. -/
def downPost (B : Nat) (I : Nat → World → Prop) (Ix : Nat → World → Prop) (k : Nat) (W : World) : Exit → Act → World → Prop
  | .normal, _, W' => KeepsFrom B W W' ∧ I (k + 1) W'
  | .ret, _, W' => KeepsFrom B W W' ∧ Ix k W'
  | _, _, _ => False

/-- THE LAW of 'for i, d := range down(a) { body }': I k: k rounds are over; Ix k: the round behind them has returned. -/
theorem range_down {n : Nat} (hn : 3 ≤ n) {g : Operand} {ps : Array Tmp} {assign body : Code} {Q : Exit → Act → World → Prop} {a : Act} {w : World} {Bs cap : Nat} {A : Option Addr} {zs : List Nat} (hlen : zs.length ≤ 70368744177664)
    (hg : a.eval g = .func (.func 104) #[] #[.pointer (some ⟨Bs, 0, none⟩)]) (hps : ps.size = 2)
    (I : Nat → World → Prop) (Ix : Nat → World → Prop) (hI : OwnFrom w.heap.size I) (hIx : OwnFrom w.heap.size Ix) (h0 : I 0 w)
    (hbox : ∀ k W, I k W → W.cell? ⟨Bs, 0, none⟩ = some (.slice A zs.length cap))
    (hcell : 0 < zs.length → ∃ b off, A = some ⟨b, off, none⟩ ∧ ∀ (k : Nat) (W : World) (i x : Nat), I k W → zs[i]? = some x → W.cell? ⟨b, off + i, none⟩ = some (.int .u32 (x : Int)))
    (a₁ : Nat → Nat → Act)
    (hassign : ∀ (l i x : Nat) (W : World) (K : Act → World → Prop), zs[i]? = some x → K (a₁ i x) W →
      assign.wpIn (Fence.wide.inRound l) (n - 1 - 1) Tryz.prog (Exit.then K (fun _ _ _ => False)) { tmps := (ps.zip #[.int .i64 (i : Int), .int .u32 (x : Int)]).foldl (fun t (p, v) => t.setIfInBounds p v) a.tmps, defers := [] } W)
    (hbody : ∀ (l k i x : Nat) (W : World), k + i + 1 = zs.length → zs[i]? = some x → I k W → body.wpIn (Fence.wide.inRound l) (n - 1 - 1) Tryz.prog (downPost w.heap.size I Ix k W) (a₁ i x) W)
    (hdone : ∀ (D : Nat) (W : World), w.heap.size ≤ D → I zs.length W → W.heap[D]? = some (.deferred (some [])) → Q .normal { a with defers := { target := .collected D, args := #[] } :: a.defers } W)
    (hstop : ∀ (D k : Nat) (W : World), w.heap.size ≤ D → k < zs.length → Ix k W → W.heap[D]? = some (.deferred (some [])) → Code.ret.wpIn Fence.wide n Tryz.prog Q { a with defers := { target := .collected D, args := #[] } :: a.defers } W) :
    (Code.rangeFunc g ps assign body).wpIn Fence.wide n Tryz.prog Q a w := by
  refine wpIn_rangeFunc ?_
  intro fn hfn
  have eg : ∀ args w, (callFunc 104 args).run Tryz.prog w = .ok (.enter 104 args) w := enters_of Tryz.func104 (by kernel_rfl) rfl
  obtain ⟨rec, hrec⟩ : ∃ rec : LoopState → Option Code → Loop, rec = fun st pe => { state := st, pending := pe, fn, tmps := a.tmps, params := ps, assign, body, defers := w.heap.size } := ⟨_, rfl⟩
  obtain ⟨W1, hW1⟩ : ∃ W1, (w.alloc (.deferred (some []))).alloc (.loop (rec .ready none)) = W1 := ⟨_, rfl⟩
  have hL1 : W1.heap[w.heap.size + 1]? = some (.loop (rec .ready none)) := by
    rw [← hW1]; have := World.alloc_heap_new (w.alloc (.deferred (some []))) (.loop (rec .ready none)); rwa [World.size_alloc] at this
  have hK1 : W1.heap[w.heap.size]? = some (.deferred (some [])) := by
    rw [← hW1]; exact (Below.heap_alloc _ _ _ (by simp)).trans (World.alloc_heap_new w _)
  have hI1 : I 0 W1 := by rw [← hW1]; exact hI.alloc _ (hI.alloc _ h0)
  -- what is carried besides
  let J : Nat → World → Prop := fun k W => I k W ∧ W.heap[w.heap.size + 1]? = some (.loop (rec .ready none)) ∧ W.heap[w.heap.size]? = some (.deferred (some []))
  let Jx : Nat → World → Prop := fun k W => Ix k W ∧ W.heap[w.heap.size + 1]? = some (.loop (rec .done (some .ret))) ∧ W.heap[w.heap.size]? = some (.deferred (some []))
  have round : ∀ (k i x : Nat) (W : World), k + i + 1 = zs.length → zs[i]? = some x → J k W → YieldAt Fence.wide (n - 1 - 1) Tryz.prog (w.heap.size + 1) #[.int .i64 (i : Int), .int .u32 (x : Int)] W fun e W' =>
      (e = .returned (.bool true) ∧ J (k + 1) W') ∨ (e = .returned (.bool false) ∧ Jx k W') := by
    rintro k i x W hki hx ⟨hi, hl, hk⟩
    have hlt : w.heap.size + 1 < W.heap.size := (Array.getElem?_eq_some_iff.1 hl).1
    have hy := run_yield (P := Tryz.prog) (args := #[.int .i64 (i : Int), .int .u32 (x : Int)]) hl (by rw [hrec]; exact hps.symm)
    rw [hrec] at hy
    refine ⟨fn, _, assign, body, hy, roundIn_of_wpIn hfn (hassign _ i x W _ hx ⟨_, run_beginRound hl (by rw [hrec]), ?_⟩)⟩
    have hl2 : (W.putObj (w.heap.size + 1) (.loop { rec .ready none with state := .busy })).heap[w.heap.size + 1]? = some (.loop { rec .ready none with state := .busy }) := World.putObj_heap_same hlt
    have hk2 : (W.putObj (w.heap.size + 1) (.loop { rec .ready none with state := .busy })).heap[w.heap.size]? = some (.deferred (some [])) := (World.putObj_heap_other (by omega)).trans hk
    refine wpIn_mono (hbody _ k i x _ hki hx (hI.putObj _ hi (by omega) hl rfl)) ?_
    have fin : ∀ (jump : Option Code) (W3 : World), KeepsFrom w.heap.size (W.putObj (w.heap.size + 1) (.loop { rec .ready none with state := .busy })) W3 →
        (Instr.endRound (w.heap.size + 1) jump).run Tryz.prog W3 = .ok (.bool jump.isNone) (W3.putObj (w.heap.size + 1) (.loop (rec (if jump.isNone then .ready else .done) jump))) ∧
        W3.heap[w.heap.size + 1]? = some (.loop { rec .ready none with state := .busy }) ∧
        (W3.putObj (w.heap.size + 1) (.loop (rec (if jump.isNone then .ready else .done) jump))).heap[w.heap.size + 1]? = some (.loop (rec (if jump.isNone then .ready else .done) jump)) ∧
        (W3.putObj (w.heap.size + 1) (.loop (rec (if jump.isNone then .ready else .done) jump))).heap[w.heap.size]? = some (.deferred (some [])) := fun jump W3 hk3 => by
      have hl3 := hk3.same _ _ (by omega) hl2 rfl
      have := run_endRound (P := Tryz.prog) jump hl3
      rw [hrec] at this ⊢
      exact ⟨this, by rw [hrec] at hl3; exact hl3, World.putObj_heap_same (Array.getElem?_eq_some_iff.1 hl3).1, (World.putObj_heap_other (by omega)).trans (hk3.same _ _ (Nat.le_refl _) hk2 rfl)⟩
    rintro e a3 W3 hp
    cases e with
    | normal =>
      obtain ⟨hk3, hi3⟩ := hp
      obtain ⟨hr, hl3, hl4, hk4⟩ := fin none W3 hk3
      exact ⟨_, _, hr, .inl ⟨rfl, hI.putObj _ hi3 (by omega) hl3 rfl, hl4, hk4⟩⟩
    | ret =>
      obtain ⟨hk3, hi3⟩ := hp
      obtain ⟨hr, hl3, hl4, hk4⟩ := fin (some .ret) W3 hk3
      exact ⟨_, _, hr, .inr ⟨rfl, hIx.putObj _ hi3 (by omega) hl3 rfl, hl4, hk4⟩⟩
    | exit id => exact hp.elim
    | goto t => exact hp.elim
    | panic ch => exact hp.elim
    | outgrown => exact hp.elim
  have call : CallsIn Fence.wide (n - 1) Tryz.prog 104 #[.func (.yield (w.heap.size + 1)) #[] #[], .pointer (some ⟨Bs, 0, none⟩)] W1 fun e W' => (∃ v, e = .returned v) ∧ (J zs.length W' ∨ ∃ k, k < zs.length ∧ Jx k W') := by
    rcases Nat.eq_zero_or_pos zs.length with hz | hz
    · have hb1 := hbox 0 W1 hI1
      rw [hz] at hb1
      refine (down_none (n - 1) (w.heap.size + 1) Bs cap A W1 hb1 (J 0) ⟨hI1, hL1, hK1⟩).mono ?_
      rintro e W' ⟨he, hj⟩
      exact ⟨he, .inl (by rw [hz]; exact hj)⟩
    · obtain ⟨b, off, rfl, hc⟩ := hcell hz
      exact down_body (n - 1) (by omega) (w.heap.size + 1) Bs b off cap zs hz hlen J Jx (fun k W h => hbox k W h.1) (fun k W i x h hx => hc k W i x h.1 hx) round W1 ⟨hI1, hL1, hK1⟩
  refine ⟨w.heap.size + 1, [{ target := .collected w.heap.size, args := #[] }], W1, { target := .fn (.func 104) #[.pointer (some ⟨Bs, 0, none⟩)], args := #[.func (.yield (w.heap.size + 1)) #[] #[]] }, W1, 104,
    #[.func (.yield (w.heap.size + 1)) #[] #[], .pointer (some ⟨Bs, 0, none⟩)], W1, ?_, ?_, ?_, ?_, fun _ => by omega, ?_⟩
  · rw [← hW1, hrec]; exact run_enterLoop_outer _ _ _ _ _
  · simp only [resolve, hg]
    simp [go_sem]
  · intro f' _; trivial
  · simp [invoke, go_sem, eg]
  · refine call.mono ?_
    rintro e W2 ⟨⟨v, rfl⟩, (⟨hi, hl, hk⟩ | ⟨k, hlt, hi, hl, hk⟩)⟩
    · exact ⟨none, _, by have := run_endLoop (P := Tryz.prog) hl (by rw [hrec]; simp); rw [hrec] at this; exact this, hdone _ _ (Nat.le_refl _) (hI.putObj _ hi (by omega) hl rfl) ((World.putObj_heap_other (by omega)).trans hk)⟩
    · exact ⟨some .ret, _, by have := run_endLoop (P := Tryz.prog) hl (by rw [hrec]; simp); rw [hrec] at this; exact this, hstop _ k _ (Nat.le_refl _) hlt (hIx.putObj _ hi (by omega) hl rfl) ((World.putObj_heap_other (by omega)).trans hk)⟩
end Go.Proofs.YtnncfbmddpijcaaGreatDoor

/- A number without the noughts at its end. -/
namespace Go.Proofs.YtnncfbmddpijcaaGreatDoor
open Go Go.RowKit Go.Shelf
attribute [local go_sem] Oper.semAt_some

theorem boxed_step {X Y : World} {row : Option Nat} {B : Nat} {t : TypeId} {v : Value} (h : Boxed X B t v) (hg : X.grownBy Y row) (hr : ∀ r, row = some r → ∃ o : Obj, X.heap[r]? = some o ∧ o.isCells = false) : Boxed Y B t v :=
  boxed_own (β := Unit) B t (fun _ => v) () X Y row h hg hr

theorem down_in (n : Nat) (A : Option Addr) (len cap : Nat) (w : World) :
    CallsIn Fence.wide n Tryz.prog 91 #[.slice A len cap] w fun e w' => e = .returned (.func (.func 104) #[] #[.pointer (some ⟨w.heap.size, 0, none⟩)]) ∧ w' = w.alloc (.cells #[.slice A len cap] 23) := by
  refine callsIn_of_wp Tryz.func91 rfl trivial ?_ rfl
  simp only [Tryz.ntmps91, List.size_toArray, List.length_cons, List.length_nil, Nat.reduceAdd, Nat.reduceSub, Array.replicate_succ, Array.replicate_zero, List.push_toArray, List.append_toArray, List.nil_append, List.cons_append]
  gi_wp2
  go_ret
  exact ⟨rfl, rfl⟩

/-- What trim gives: the digits up to the last one that isn't 0. -/
def Trimmed (w : World) (zs : List Nat) (e : Ending) (w' : World) : Prop :=
  ∃ v n, e = .returned v ∧ n ≤ zs.length ∧ (n = 0 ∨ ∃ x, zs[n - 1]? = some x ∧ x ≠ 0) ∧ (∀ (j x : Nat), n ≤ j → zs[j]? = some x → x = 0) ∧ Rd .u32 w' v (zs.take n) ∧ Below w.heap.size w w' ∧ (n = 0 → v = .slice none 0 0)

/-- Between two rounds: the k last digits are 0. -/
def TrimI (w : World) (zs : List Nat) (v : Value) (k : Nat) (W : World) : Prop :=
  (∀ (j x : Nat), zs.length ≤ j + k → zs[j]? = some x → x = 0) ∧ Boxed W w.heap.size 23 v ∧ Boxed W (w.heap.size + 1) 23 (.slice none 0 0) ∧ Boxed W (w.heap.size + 2) 23 v ∧ Below w.heap.size w W
/-- .. and the digit ahead of them isn't: its piece stands in the result. -/
def TrimX (w : World) (zs : List Nat) (A : Option Addr) (k : Nat) (W : World) : Prop :=
  (∀ (j x : Nat), zs.length ≤ j + k → zs[j]? = some x → x = 0) ∧ (∀ i, k + i + 1 = zs.length → (∃ x, zs[i]? = some x ∧ x ≠ 0) ∧ Boxed W (w.heap.size + 1) 23 (.slice A (i + 1) (i + 1))) ∧ Below w.heap.size w W

theorem below_deferred {w W : World} {D : Nat} {o' : Obj} (hD : w.heap.size ≤ D) (hK : W.heap[D]? = some (.deferred (some []))) (hB : Below w.heap.size w W) : Below w.heap.size w (W.putObj D o') :=
  hB.trans (belowK_b (w := w) (Nat.le_refl _) W D _ _ hD hK rfl rfl)

set_option maxRecDepth 100000 in
set_option maxHeartbeats 2000000 in
theorem trim_c (w : World) (v : Value) (zs : List Nat) (hR : Rd .u32 w v zs) : Calls Tryz.prog 69 #[v] w (Trimmed w zs) := by
  obtain ⟨A, cap, rfl, hl, hc, hz⟩ := id hR
  refine (callsIn_wide (n := 4)).1 ?_
  refine callsIn_of_wp_marks Tryz.func69 rfl trivial ?_ rfl
  simp only [Tryz.ntmps69, List.size_toArray, List.length_cons, List.length_nil, Nat.reduceAdd, Nat.reduceSub, Array.replicate_succ, Array.replicate_zero, List.push_toArray, List.append_toArray, List.nil_append, List.cons_append]
  have HR := Lib.hid hR
  clear hz hR
  gi_wp2_with (refine ⟨trivial, ?_⟩; gi_at_call 91; refine (down_in _ _ _ _ _).mono ?_; rintro e w' ⟨rfl, rfl⟩)
  have b0 := Boxed.new w 23 (.slice A zs.length cap)
  have b1 := Boxed.new (w.alloc (.cells #[.slice A zs.length cap] 23)) 23 (.slice none 0 0)
  have b2 := Boxed.new ((w.alloc (.cells #[.slice A zs.length cap] 23)).alloc (.cells #[.slice none 0 0] 23)) 23 (.slice A zs.length cap)
  simp only [World.size_alloc] at b1 b2
  have hB0 : Below w.heap.size w (((w.alloc (.cells #[.slice A zs.length cap] 23)).alloc (.cells #[.slice none 0 0] 23)).alloc (.cells #[.slice A zs.length cap] 23)) :=
    (((Below.refl _ w).alloc (Nat.le_refl _) _).alloc (by simp) _).alloc (by simp; omega) _
  refine range_down (n := 4) (by omega) (Bs := w.heap.size + 2) (A := A) (cap := cap) (zs := zs) (by omega) rfl rfl (TrimI w zs (.slice A zs.length cap)) (TrimX w zs A) ?hI ?hIx ?h0 ?hbox ?hcell
    (fun i x => { tmps := #[.slice A zs.length cap, .pointer (some ⟨w.heap.size, 0, none⟩), .pointer (some ⟨w.heap.size + 1, 0, none⟩), .int .i64 (i : Int), .int .u32 (x : Int), .slice A zs.length cap,
      .func (.func 104) #[] #[.pointer (some ⟨w.heap.size + 2, 0, none⟩)], .int .i64 (i : Int), .int .u32 (x : Int), undef, undef, undef, undef, undef, undef, undef, undef], defers := [] }) ?assign ?body ?done ?stop
  case hI =>
    rintro k X Y row ⟨h1, h2, h3, h4, h5⟩ hg hr
    have hr' := fun r e => (hr r e).2
    exact ⟨h1, boxed_step h2 hg hr', boxed_step h3 hg hr', boxed_step h4 hg hr', h5.grown hg h5.size (fun r e => by have := (hr r e).1; simp at this; omega)⟩
  case hIx =>
    rintro k X Y row ⟨h1, h2, h5⟩ hg hr
    have hr' := fun r e => (hr r e).2
    exact ⟨h1, fun i hi => ⟨(h2 i hi).1, boxed_step (h2 i hi).2 hg hr'⟩, h5.grown hg h5.size (fun r e => by have := (hr r e).1; simp at this; omega)⟩
  case h0 => exact ⟨fun j x hj hx => by have := (List.getElem?_eq_some_iff.1 hx).1; omega, (b0.alloc _).alloc _, b1.alloc _, b2, hB0⟩
  case hbox => exact fun k W h => h.2.2.2.1.cell
  case hcell =>
    intro hz
    obtain ⟨_, _, e, _, _, h3⟩ := id HR.out
    obtain ⟨b, off, e1, hb, hcs⟩ := h3 hz
    injection e with e _ _
    rw [← e] at e1
    exact ⟨b, off, e1, fun k W i x hI hx => (hI.2.2.2.2.cell (p := ⟨b, off + i, none⟩) hb).trans (hcs i x hx)⟩
  case assign =>
    intro l i x W K hx hK
    gi_wp2
    exact hK
  case body =>
    rintro l k i x W hki hx ⟨h1, h2, h3, h4, h5⟩
    obtain ⟨b, off, rfl⟩ : ∃ b off, A = some ⟨b, off, none⟩ := by
      obtain ⟨_, _, e, _, _, h3⟩ := id HR.out
      obtain ⟨b, off, e1, hb, hcs⟩ := h3 (by omega)
      injection e with e _ _
      rw [← e] at e1
      exact ⟨b, off, e1⟩
    have hc0 := h2.cell
    have hc1 := h3.cell
    have hf1 := h3.frozen
    have Hx := Lib.hid hx
    have H1 := Lib.hid h1
    have Hki := Lib.hid hki
    have hil : i < zs.length := by omega
    clear hx h1 hki
    by_cases hx0 : x = 0
    · subst hx0
      gi_wp2
      refine ⟨KeepsFrom.refl _ _, fun j y hj hy => ?_, h2, h3, h4, h5⟩
      by_cases hji : j = i
      · subst hji; rw [Hx.out] at hy; injection hy with hy; exact hy.symm
      · exact H1.out j y (by have := Hki.out; omega) hy
    · have hxb : ((x : Int) != 0) = true := by rw [bne_iff_ne]; omega
      have hxb2 : ((x : Int) == 0) = false := by rw [beq_eq_false_iff_ne]; omega
      gi_wp2
      refine ⟨(KeepsOthers.setCell _ _ _).from _, H1.out, fun i' hi' => ?_, h5.setCell (p := ⟨w.heap.size + 1, 0, none⟩) (by simp) _⟩
      obtain rfl : i' = i := by have := Hki.out; omega
      exact ⟨⟨x, Hx.out, hx0⟩, h3.set _⟩
  case done =>
    rintro D W hD ⟨h1, h2, h3, h4, h5⟩ hK
    have hc1 := h3.cell
    have hf1 := h3.frozen
    have H1 := Lib.hid h1
    clear h1
    gi_wp2
    have hK' := (KeepsOthers.setCell W ⟨w.heap.size + 1, 0, none⟩ (.slice none 0 0)).same D _ hK rfl
    refine ⟨by simp, .inl ⟨_, _, rfl, run_takeDeferred hK', ?_⟩⟩
    have hc5 := (boxed_step (h3.set (.slice none 0 0)) (grownBy_putObj' _ D (.deferred none)) (fun r e => by cases e; exact ⟨_, hK', rfl⟩)).cell
    refine ⟨.slice none 0 0, by simp [results, Tryz.f69, go_sem, hc5], .slice none 0 0, 0, rfl, Nat.zero_le _, .inl rfl, fun j x _ hx => H1.out j x (by omega) hx, ?_, ?_, fun _ => rfl⟩
    · simpa using Rd.nil .u32 _ none
    · exact below_deferred (by simp at hD; omega) hK' (h5.setCell (p := ⟨w.heap.size + 1, 0, none⟩) (by simp) _)
  case stop =>
    rintro D k W hD hk ⟨h1, h2, h5⟩ hK
    obtain ⟨⟨x, hx, hx0⟩, hb⟩ := h2 (zs.length - 1 - k) (by omega)
    obtain ⟨i, hi⟩ : ∃ i, zs.length - 1 - k = i := ⟨_, rfl⟩
    rw [hi] at hx hb
    have H1 := Lib.hid h1
    have Hx := Lib.hid hx
    have Hi := Lib.hid hi
    clear h1 h2 hx hi
    gi_wp2
    refine ⟨by simp, .inl ⟨_, _, rfl, run_takeDeferred hK, ?_⟩⟩
    have hbd := boxed_step hb (grownBy_putObj' _ D (.deferred none)) (fun r e => by cases e; exact ⟨_, hK, rfl⟩)
    have hc5 := hbd.cell
    have hbe := below_deferred (o' := .deferred none) (by simp at hD; omega) hK h5
    have hil : i < zs.length := (List.getElem?_eq_some_iff.1 Hx.out).1
    refine ⟨.slice A (i + 1) (i + 1), by simp [results, Tryz.f69, go_sem, hc5], _, i + 1, rfl, by omega, .inr ⟨x, Hx.out, hx0⟩, fun j y hj hy => H1.out j y (by have := Hi.out; omega) hy, ?_, hbe, fun h => absurd h (by omega)⟩
    obtain ⟨_, _, e, _, _, h3⟩ := (HR.out).below hbe
    obtain ⟨b, off, e1, hbl, hcs⟩ := h3 (by omega)
    injection e with e _ _
    rw [← e] at e1
    subst e1
    have hln : (zs.take (i + 1)).length = i + 1 := by simp; omega
    refine ⟨_, i + 1, by rw [hln], by omega, by omega, fun _ => ⟨b, off, rfl, hbl, fun j y hy => ?_⟩⟩
    rw [List.getElem?_take] at hy
    split at hy
    · exact hcs j y hy
    · cases hy
end Go.Proofs.YtnncfbmddpijcaaGreatDoor

/- trim, and where what it gives lies. -/
namespace Go.Proofs.YtnncfbmddpijcaaGreatDoor
open Go Go.RowKit Go.Shelf
attribute [local go_sem] Oper.semAt_some

/-- What trim gives: the digits up to the last one that isn't 0, where they stood. -/
def TrimmedA (w : World) (A : Option Addr) (zs : List Nat) (e : Ending) (w' : World) : Prop :=
  ∃ v n, e = .returned v ∧ n ≤ zs.length ∧ (n = 0 ∨ ∃ x, zs[n - 1]? = some x ∧ x ≠ 0) ∧ (∀ (j x : Nat), n ≤ j → zs[j]? = some x → x = 0) ∧ Rd .u32 w' v (zs.take n) ∧ Below w.heap.size w w' ∧ ((n = 0 ∧ v = .slice none 0 0) ∨ v = .slice A n n)

set_option maxRecDepth 100000 in
set_option maxHeartbeats 2000000 in
theorem trim_at (w : World) (A : Option Addr) (cap : Nat) (zs : List Nat) (hR : Rd .u32 w (.slice A zs.length cap) zs) : Calls Tryz.prog 69 #[.slice A zs.length cap] w (TrimmedA w A zs) := by
  obtain ⟨A', cap', e0, hl, hc, hz⟩ := id hR
  injection e0 with e1 _ e2
  subst e1
  subst e2
  refine (callsIn_wide (n := 4)).1 ?_
  refine callsIn_of_wp_marks Tryz.func69 rfl trivial ?_ rfl
  simp only [Tryz.ntmps69, List.size_toArray, List.length_cons, List.length_nil, Nat.reduceAdd, Nat.reduceSub, Array.replicate_succ, Array.replicate_zero, List.push_toArray, List.append_toArray, List.nil_append, List.cons_append]
  have HR := Lib.hid hR
  clear hz hR
  gi_wp2_with (refine ⟨trivial, ?_⟩; gi_at_call 91; refine (down_in _ _ _ _ _).mono ?_; rintro e w' ⟨rfl, rfl⟩)
  have b0 := Boxed.new w 23 (.slice A zs.length cap)
  have b1 := Boxed.new (w.alloc (.cells #[.slice A zs.length cap] 23)) 23 (.slice none 0 0)
  have b2 := Boxed.new ((w.alloc (.cells #[.slice A zs.length cap] 23)).alloc (.cells #[.slice none 0 0] 23)) 23 (.slice A zs.length cap)
  simp only [World.size_alloc] at b1 b2
  have hB0 : Below w.heap.size w (((w.alloc (.cells #[.slice A zs.length cap] 23)).alloc (.cells #[.slice none 0 0] 23)).alloc (.cells #[.slice A zs.length cap] 23)) :=
    (((Below.refl _ w).alloc (Nat.le_refl _) _).alloc (by simp) _).alloc (by simp; omega) _
  refine range_down (n := 4) (by omega) (Bs := w.heap.size + 2) (A := A) (cap := cap) (zs := zs) (by omega) rfl rfl (TrimI w zs (.slice A zs.length cap)) (TrimX w zs A) ?hI ?hIx ?h0 ?hbox ?hcell
    (fun i x => { tmps := #[.slice A zs.length cap, .pointer (some ⟨w.heap.size, 0, none⟩), .pointer (some ⟨w.heap.size + 1, 0, none⟩), .int .i64 (i : Int), .int .u32 (x : Int), .slice A zs.length cap,
      .func (.func 104) #[] #[.pointer (some ⟨w.heap.size + 2, 0, none⟩)], .int .i64 (i : Int), .int .u32 (x : Int), undef, undef, undef, undef, undef, undef, undef, undef], defers := [] }) ?assign ?body ?done ?stop
  case hI =>
    rintro k X Y row ⟨h1, h2, h3, h4, h5⟩ hg hr
    have hr' := fun r e => (hr r e).2
    exact ⟨h1, boxed_step h2 hg hr', boxed_step h3 hg hr', boxed_step h4 hg hr', h5.grown hg h5.size (fun r e => by have := (hr r e).1; simp at this; omega)⟩
  case hIx =>
    rintro k X Y row ⟨h1, h2, h5⟩ hg hr
    have hr' := fun r e => (hr r e).2
    exact ⟨h1, fun i hi => ⟨(h2 i hi).1, boxed_step (h2 i hi).2 hg hr'⟩, h5.grown hg h5.size (fun r e => by have := (hr r e).1; simp at this; omega)⟩
  case h0 => exact ⟨fun j x hj hx => by have := (List.getElem?_eq_some_iff.1 hx).1; omega, (b0.alloc _).alloc _, b1.alloc _, b2, hB0⟩
  case hbox => exact fun k W h => h.2.2.2.1.cell
  case hcell =>
    intro hz
    obtain ⟨_, _, e, _, _, h3⟩ := id HR.out
    obtain ⟨b, off, e1, hb, hcs⟩ := h3 hz
    injection e with e _ _
    rw [← e] at e1
    exact ⟨b, off, e1, fun k W i x hI hx => (hI.2.2.2.2.cell (p := ⟨b, off + i, none⟩) hb).trans (hcs i x hx)⟩
  case assign =>
    intro l i x W K hx hK
    gi_wp2
    exact hK
  case body =>
    rintro l k i x W hki hx ⟨h1, h2, h3, h4, h5⟩
    obtain ⟨b, off, rfl⟩ : ∃ b off, A = some ⟨b, off, none⟩ := by
      obtain ⟨_, _, e, _, _, h3⟩ := id HR.out
      obtain ⟨b, off, e1, hb, hcs⟩ := h3 (by omega)
      injection e with e _ _
      rw [← e] at e1
      exact ⟨b, off, e1⟩
    have hc0 := h2.cell
    have hc1 := h3.cell
    have hf1 := h3.frozen
    have Hx := Lib.hid hx
    have H1 := Lib.hid h1
    have Hki := Lib.hid hki
    have hil : i < zs.length := by omega
    clear hx h1 hki
    by_cases hx0 : x = 0
    · subst hx0
      gi_wp2
      refine ⟨KeepsFrom.refl _ _, fun j y hj hy => ?_, h2, h3, h4, h5⟩
      by_cases hji : j = i
      · subst hji; rw [Hx.out] at hy; injection hy with hy; exact hy.symm
      · exact H1.out j y (by have := Hki.out; omega) hy
    · have hxb : ((x : Int) != 0) = true := by rw [bne_iff_ne]; omega
      have hxb2 : ((x : Int) == 0) = false := by rw [beq_eq_false_iff_ne]; omega
      gi_wp2
      refine ⟨(KeepsOthers.setCell _ _ _).from _, H1.out, fun i' hi' => ?_, h5.setCell (p := ⟨w.heap.size + 1, 0, none⟩) (by simp) _⟩
      obtain rfl : i' = i := by have := Hki.out; omega
      exact ⟨⟨x, Hx.out, hx0⟩, h3.set _⟩
  case done =>
    rintro D W hD ⟨h1, h2, h3, h4, h5⟩ hK
    have hc1 := h3.cell
    have hf1 := h3.frozen
    have H1 := Lib.hid h1
    clear h1
    gi_wp2
    have hK' := (KeepsOthers.setCell W ⟨w.heap.size + 1, 0, none⟩ (.slice none 0 0)).same D _ hK rfl
    refine ⟨by simp, .inl ⟨_, _, rfl, run_takeDeferred hK', ?_⟩⟩
    have hc5 := (boxed_step (h3.set (.slice none 0 0)) (grownBy_putObj' _ D (.deferred none)) (fun r e => by cases e; exact ⟨_, hK', rfl⟩)).cell
    refine ⟨.slice none 0 0, by simp [results, Tryz.f69, go_sem, hc5], .slice none 0 0, 0, rfl, Nat.zero_le _, .inl rfl, fun j x _ hx => H1.out j x (by omega) hx, ?_, ?_, .inl ⟨rfl, rfl⟩⟩
    · simpa using Rd.nil .u32 _ none
    · exact below_deferred (by simp at hD; omega) hK' (h5.setCell (p := ⟨w.heap.size + 1, 0, none⟩) (by simp) _)
  case stop =>
    rintro D k W hD hk ⟨h1, h2, h5⟩ hK
    obtain ⟨⟨x, hx, hx0⟩, hb⟩ := h2 (zs.length - 1 - k) (by omega)
    obtain ⟨i, hi⟩ : ∃ i, zs.length - 1 - k = i := ⟨_, rfl⟩
    rw [hi] at hx hb
    have H1 := Lib.hid h1
    have Hx := Lib.hid hx
    have Hi := Lib.hid hi
    clear h1 h2 hx hi
    gi_wp2
    refine ⟨by simp, .inl ⟨_, _, rfl, run_takeDeferred hK, ?_⟩⟩
    have hbd := boxed_step hb (grownBy_putObj' _ D (.deferred none)) (fun r e => by cases e; exact ⟨_, hK, rfl⟩)
    have hc5 := hbd.cell
    have hbe := below_deferred (o' := .deferred none) (by simp at hD; omega) hK h5
    have hil : i < zs.length := (List.getElem?_eq_some_iff.1 Hx.out).1
    refine ⟨.slice A (i + 1) (i + 1), by simp [results, Tryz.f69, go_sem, hc5], _, i + 1, rfl, by omega, .inr ⟨x, Hx.out, hx0⟩, fun j y hj hy => H1.out j y (by have := Hi.out; omega) hy, ?_, hbe, .inr rfl⟩
    obtain ⟨_, _, e, _, _, h3⟩ := (HR.out).below hbe
    obtain ⟨b, off, e1, hbl, hcs⟩ := h3 (by omega)
    injection e with e _ _
    rw [← e] at e1
    subst e1
    have hln : (zs.take (i + 1)).length = i + 1 := by simp; omega
    refine ⟨_, i + 1, by rw [hln], by omega, by omega, fun _ => ⟨b, off, rfl, hbl, fun j y hy => ?_⟩⟩
    rw [List.getElem?_take] at hy
    split at hy
    · exact hcs j y hy
    · cases hy
end Go.Proofs.YtnncfbmddpijcaaGreatDoor

/- Digits are gone through from the last to the first, while they are written: only the round's own digit need stand. -/
namespace Go.Proofs.YtnncfbmddpijcaaGreatDoor
open Go Go.RowKit Go.Shelf
attribute [local go_sem] Oper.semAt_some

set_option maxRecDepth 100000 in
set_option maxHeartbeats 2000000 in
/-- THE ITERATOR: each digit with its place, from the last on, till a round says that it is enough. -/
theorem down_body_at (n : Nat) (hn : 1 ≤ n) (l Bs b off cap : Nat) (zs : List Nat) (hz : 0 < zs.length) (hlen : zs.length ≤ 70368744177664) (J Jx : Nat → World → Prop)
    (hbox : ∀ k W, J k W → W.cell? ⟨Bs, 0, none⟩ = some (.slice (some ⟨b, off, none⟩) zs.length cap))
    (hcell : ∀ (k : Nat) (W : World) (i x : Nat), J k W → k + i + 1 = zs.length → zs[i]? = some x → W.cell? ⟨b, off + i, none⟩ = some (.int .u32 (x : Int)))
    (hY : ∀ (k i x : Nat) (W : World), k + i + 1 = zs.length → zs[i]? = some x → J k W → YieldAt Fence.wide (n - 1) Tryz.prog l #[.int .i64 (i : Int), .int .u32 (x : Int)] W fun e W' =>
      (e = .returned (.bool true) ∧ J (k + 1) W') ∨ (e = .returned (.bool false) ∧ Jx k W'))
    (W : World) (h0 : J 0 W) :
    CallsIn Fence.wide n Tryz.prog 104 #[.func (.yield l) #[] #[], .pointer (some ⟨Bs, 0, none⟩)] W fun e W' => (∃ v, e = .returned v) ∧ (J zs.length W' ∨ ∃ k, k < zs.length ∧ Jx k W') := by
  have hb0 := hbox 0 W h0
  refine callsIn_of_wp Tryz.func104 rfl trivial ?_ rfl
  simp only [Tryz.ntmps104, List.size_toArray, List.length_cons, List.length_nil, Nat.reduceAdd, Nat.reduceSub, Array.replicate_succ, Array.replicate_zero, List.push_toArray, List.append_toArray, List.nil_append, List.cons_append]
  gi_wp2
  gi_loopw [3] (fun i wr => ∃ k : Nat, k ≤ zs.length ∧ i = .int .i64 ((zs.length : Int) - 1 - k) ∧ J k wr)
    (fun i _ => (intOf i + 1).toNat)
  case atStart => exact ⟨0, Nat.zero_le _, by go_num, h0⟩
  case round =>
    obtain ⟨k, hk, rfl, hJs⟩ := hrel
    have hbx := hbox k wr hJs
    by_cases hlt : k < zs.length
    · obtain ⟨i, hi⟩ : ∃ i, k + i + 1 = zs.length := ⟨zs.length - 1 - k, by omega⟩
      have hx : zs[i]? = some zs[i] := List.getElem?_eq_getElem (by omega)
      obtain ⟨x, hxx⟩ : ∃ x, zs[i] = x := ⟨_, rfl⟩
      rw [hxx] at hx
      clear hxx
      obtain ⟨fn, tmps, assign, body, hy, hR⟩ := hY k i x wr hi hx hJs
      have hcx := hcell k wr i x hJs hi hx
      have ei : ((zs.length : Int) - 1 - (k : Int)) = (i : Int) := by omega
      have Hi := Lib.hid hi
      have Hx := Lib.hid hx
      have hlti : i < zs.length := by omega
      clear hi hx hb0 hY hbox hcell
      rw [ei]
      clear ei
      gi_wp2
      refine hR.mono ?_
      rintro e W3 (⟨rfl, hJ3⟩ | ⟨rfl, hJx3⟩)
      · gi_wp2
        go_roundw
        case rel => exact ⟨k + 1, by omega, by have := Hi.out; go_num, hJ3⟩
        case measure => simp [intOf]
      · gi_wp2
        refine bodyPost_ret (results_none rfl _ _ _) rfl ?_
        exact ⟨⟨_, rfl⟩, .inr ⟨k, hlt, hJx3⟩⟩
    · obtain rfl : k = zs.length := by omega
      clear hY hbox hcell hb0
      gi_wp2
      go_end0
      exact ⟨⟨_, rfl⟩, .inl hJs⟩

/-- THE LAW of 'for i, d := range down(a) { body }': I k: k rounds are over; Ix k: the round behind them has returned. -/
theorem range_down_at {n : Nat} (hn : 3 ≤ n) {g : Operand} {ps : Array Tmp} {assign body : Code} {Q : Exit → Act → World → Prop} {a : Act} {w : World} {Bs cap : Nat} {A : Option Addr} {zs : List Nat} (hlen : zs.length ≤ 70368744177664)
    (hg : a.eval g = .func (.func 104) #[] #[.pointer (some ⟨Bs, 0, none⟩)]) (hps : ps.size = 2)
    (I : Nat → World → Prop) (Ix : Nat → World → Prop) (hI : OwnFrom w.heap.size I) (hIx : OwnFrom w.heap.size Ix) (h0 : I 0 w)
    (hbox : ∀ k W, I k W → W.cell? ⟨Bs, 0, none⟩ = some (.slice A zs.length cap))
    (hcell : 0 < zs.length → ∃ b off, A = some ⟨b, off, none⟩ ∧ ∀ (k : Nat) (W : World) (i x : Nat), I k W → k + i + 1 = zs.length → zs[i]? = some x → W.cell? ⟨b, off + i, none⟩ = some (.int .u32 (x : Int)))
    (a₁ : Nat → Nat → Act)
    (hassign : ∀ (l i x : Nat) (W : World) (K : Act → World → Prop), zs[i]? = some x → K (a₁ i x) W →
      assign.wpIn (Fence.wide.inRound l) (n - 1 - 1) Tryz.prog (Exit.then K (fun _ _ _ => False)) { tmps := (ps.zip #[.int .i64 (i : Int), .int .u32 (x : Int)]).foldl (fun t (p, v) => t.setIfInBounds p v) a.tmps, defers := [] } W)
    (hbody : ∀ (l k i x : Nat) (W : World), k + i + 1 = zs.length → zs[i]? = some x → I k W → body.wpIn (Fence.wide.inRound l) (n - 1 - 1) Tryz.prog (downPost w.heap.size I Ix k W) (a₁ i x) W)
    (hdone : ∀ (D : Nat) (W : World), w.heap.size ≤ D → I zs.length W → W.heap[D]? = some (.deferred (some [])) → Q .normal { a with defers := { target := .collected D, args := #[] } :: a.defers } W)
    (hstop : ∀ (D k : Nat) (W : World), w.heap.size ≤ D → k < zs.length → Ix k W → W.heap[D]? = some (.deferred (some [])) → Code.ret.wpIn Fence.wide n Tryz.prog Q { a with defers := { target := .collected D, args := #[] } :: a.defers } W) :
    (Code.rangeFunc g ps assign body).wpIn Fence.wide n Tryz.prog Q a w := by
  refine wpIn_rangeFunc ?_
  intro fn hfn
  have eg : ∀ args w, (callFunc 104 args).run Tryz.prog w = .ok (.enter 104 args) w := enters_of Tryz.func104 (by kernel_rfl) rfl
  obtain ⟨rec, hrec⟩ : ∃ rec : LoopState → Option Code → Loop, rec = fun st pe => { state := st, pending := pe, fn, tmps := a.tmps, params := ps, assign, body, defers := w.heap.size } := ⟨_, rfl⟩
  obtain ⟨W1, hW1⟩ : ∃ W1, (w.alloc (.deferred (some []))).alloc (.loop (rec .ready none)) = W1 := ⟨_, rfl⟩
  have hL1 : W1.heap[w.heap.size + 1]? = some (.loop (rec .ready none)) := by
    rw [← hW1]; have := World.alloc_heap_new (w.alloc (.deferred (some []))) (.loop (rec .ready none)); rwa [World.size_alloc] at this
  have hK1 : W1.heap[w.heap.size]? = some (.deferred (some [])) := by
    rw [← hW1]; exact (Below.heap_alloc _ _ _ (by simp)).trans (World.alloc_heap_new w _)
  have hI1 : I 0 W1 := by rw [← hW1]; exact hI.alloc _ (hI.alloc _ h0)
  -- what is carried besides
  let J : Nat → World → Prop := fun k W => I k W ∧ W.heap[w.heap.size + 1]? = some (.loop (rec .ready none)) ∧ W.heap[w.heap.size]? = some (.deferred (some []))
  let Jx : Nat → World → Prop := fun k W => Ix k W ∧ W.heap[w.heap.size + 1]? = some (.loop (rec .done (some .ret))) ∧ W.heap[w.heap.size]? = some (.deferred (some []))
  have round : ∀ (k i x : Nat) (W : World), k + i + 1 = zs.length → zs[i]? = some x → J k W → YieldAt Fence.wide (n - 1 - 1) Tryz.prog (w.heap.size + 1) #[.int .i64 (i : Int), .int .u32 (x : Int)] W fun e W' =>
      (e = .returned (.bool true) ∧ J (k + 1) W') ∨ (e = .returned (.bool false) ∧ Jx k W') := by
    rintro k i x W hki hx ⟨hi, hl, hk⟩
    have hlt : w.heap.size + 1 < W.heap.size := (Array.getElem?_eq_some_iff.1 hl).1
    have hy := run_yield (P := Tryz.prog) (args := #[.int .i64 (i : Int), .int .u32 (x : Int)]) hl (by rw [hrec]; exact hps.symm)
    rw [hrec] at hy
    refine ⟨fn, _, assign, body, hy, roundIn_of_wpIn hfn (hassign _ i x W _ hx ⟨_, run_beginRound hl (by rw [hrec]), ?_⟩)⟩
    have hl2 : (W.putObj (w.heap.size + 1) (.loop { rec .ready none with state := .busy })).heap[w.heap.size + 1]? = some (.loop { rec .ready none with state := .busy }) := World.putObj_heap_same hlt
    have hk2 : (W.putObj (w.heap.size + 1) (.loop { rec .ready none with state := .busy })).heap[w.heap.size]? = some (.deferred (some [])) := (World.putObj_heap_other (by omega)).trans hk
    refine wpIn_mono (hbody _ k i x _ hki hx (hI.putObj _ hi (by omega) hl rfl)) ?_
    have fin : ∀ (jump : Option Code) (W3 : World), KeepsFrom w.heap.size (W.putObj (w.heap.size + 1) (.loop { rec .ready none with state := .busy })) W3 →
        (Instr.endRound (w.heap.size + 1) jump).run Tryz.prog W3 = .ok (.bool jump.isNone) (W3.putObj (w.heap.size + 1) (.loop (rec (if jump.isNone then .ready else .done) jump))) ∧
        W3.heap[w.heap.size + 1]? = some (.loop { rec .ready none with state := .busy }) ∧
        (W3.putObj (w.heap.size + 1) (.loop (rec (if jump.isNone then .ready else .done) jump))).heap[w.heap.size + 1]? = some (.loop (rec (if jump.isNone then .ready else .done) jump)) ∧
        (W3.putObj (w.heap.size + 1) (.loop (rec (if jump.isNone then .ready else .done) jump))).heap[w.heap.size]? = some (.deferred (some [])) := fun jump W3 hk3 => by
      have hl3 := hk3.same _ _ (by omega) hl2 rfl
      have := run_endRound (P := Tryz.prog) jump hl3
      rw [hrec] at this ⊢
      exact ⟨this, by rw [hrec] at hl3; exact hl3, World.putObj_heap_same (Array.getElem?_eq_some_iff.1 hl3).1, (World.putObj_heap_other (by omega)).trans (hk3.same _ _ (Nat.le_refl _) hk2 rfl)⟩
    rintro e a3 W3 hp
    cases e with
    | normal =>
      obtain ⟨hk3, hi3⟩ := hp
      obtain ⟨hr, hl3, hl4, hk4⟩ := fin none W3 hk3
      exact ⟨_, _, hr, .inl ⟨rfl, hI.putObj _ hi3 (by omega) hl3 rfl, hl4, hk4⟩⟩
    | ret =>
      obtain ⟨hk3, hi3⟩ := hp
      obtain ⟨hr, hl3, hl4, hk4⟩ := fin (some .ret) W3 hk3
      exact ⟨_, _, hr, .inr ⟨rfl, hIx.putObj _ hi3 (by omega) hl3 rfl, hl4, hk4⟩⟩
    | exit id => exact hp.elim
    | goto t => exact hp.elim
    | panic ch => exact hp.elim
    | outgrown => exact hp.elim
  have call : CallsIn Fence.wide (n - 1) Tryz.prog 104 #[.func (.yield (w.heap.size + 1)) #[] #[], .pointer (some ⟨Bs, 0, none⟩)] W1 fun e W' => (∃ v, e = .returned v) ∧ (J zs.length W' ∨ ∃ k, k < zs.length ∧ Jx k W') := by
    rcases Nat.eq_zero_or_pos zs.length with hz | hz
    · have hb1 := hbox 0 W1 hI1
      rw [hz] at hb1
      refine (down_none (n - 1) (w.heap.size + 1) Bs cap A W1 hb1 (J 0) ⟨hI1, hL1, hK1⟩).mono ?_
      rintro e W' ⟨he, hj⟩
      exact ⟨he, .inl (by rw [hz]; exact hj)⟩
    · obtain ⟨b, off, rfl, hc⟩ := hcell hz
      exact down_body_at (n - 1) (by omega) (w.heap.size + 1) Bs b off cap zs hz hlen J Jx (fun k W h => hbox k W h.1) (fun k W i x h hi hx => hc k W i x h.1 hi hx) round W1 ⟨hI1, hL1, hK1⟩
  refine ⟨w.heap.size + 1, [{ target := .collected w.heap.size, args := #[] }], W1, { target := .fn (.func 104) #[.pointer (some ⟨Bs, 0, none⟩)], args := #[.func (.yield (w.heap.size + 1)) #[] #[]] }, W1, 104,
    #[.func (.yield (w.heap.size + 1)) #[] #[], .pointer (some ⟨Bs, 0, none⟩)], W1, ?_, ?_, ?_, ?_, fun _ => by omega, ?_⟩
  · rw [← hW1, hrec]; exact run_enterLoop_outer _ _ _ _ _
  · simp only [resolve, hg]
    simp [go_sem]
  · intro f' _; trivial
  · simp [invoke, go_sem, eg]
  · refine call.mono ?_
    rintro e W2 ⟨⟨v, rfl⟩, (⟨hi, hl, hk⟩ | ⟨k, hlt, hi, hl, hk⟩)⟩
    · exact ⟨none, _, by have := run_endLoop (P := Tryz.prog) hl (by rw [hrec]; simp); rw [hrec] at this; exact this, hdone _ _ (Nat.le_refl _) (hI.putObj _ hi (by omega) hl rfl) ((World.putObj_heap_other (by omega)).trans hk)⟩
    · exact ⟨some .ret, _, by have := run_endLoop (P := Tryz.prog) hl (by rw [hrec]; simp); rw [hrec] at this; exact this, hstop _ k _ (Nat.le_refl _) hlt (hIx.putObj _ hi (by omega) hl rfl) ((World.putObj_heap_other (by omega)).trans hk)⟩
end Go.Proofs.YtnncfbmddpijcaaGreatDoor
