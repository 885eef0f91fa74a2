
/- A copy of a number's digits. -/
import Derived.Test.YtnncfbmddpijcaaGreatDoorFit
import Derived.OwnWalk
import Derived.Laws.AppendOwn
import Derived.Deep.AppendLies
import Derived.Deep.RegionHeld
namespace Go.Proofs.YtnncfbmddpijcaaGreatDoor
open Go Go.RowKit

def Cloned (w : World) (zs : List Nat) (e : Ending) (w' : World) : Prop := Below w.heap.size w w' ∧ ∃ v, e = .returned v ∧ Rd .u32 w' v zs ∧ (zs.length = 0 → v = .slice none 0 0)

theorem add_zero_or (g j : Nat) : (⟨g, 0, none⟩ : Addr).add j = ⟨g, 0 + j, none⟩ := by
  unfold Addr.add
  split
  · rename_i h; subst h; rfl
  · rfl

set_option maxRecDepth 100000 in
set_option maxHeartbeats 1000000 in
theorem clone_c (w : World) (v : Value) (zs : List Nat) (hR : Rd .u32 w v zs) (hn : zs.length = 0 → v = .slice none 0 0) (hlen : zs.length ≤ 1000000) :
    Calls Tryz.prog 51 #[v] w (Cloned w zs) := by
  by_cases h0 : zs.length = 0
  · have hv := hn h0
    subst hv
    have hz : zs = [] := List.eq_nil_of_length_eq_zero h0
    subst hz
    have hnil := Lib.run_eql_slice_nil (P := Tryz.prog) w 23 85 none 0 0 0 0 Tryz.underlying23
    clear h0 hn
    go_enter Tryz.func51, Tryz.ntmps51
    go_wp2
    go_ret
    exact ⟨Below.refl _ _, _, rfl, Rd.nil _ _ _, fun _ => rfl⟩
  · obtain ⟨A, cap, rfl, hl⟩ := hR.form
    obtain ⟨b, off, rfl, hb⟩ := hR.addr (by omega)
    have hnil := Lib.run_eql_slice_nil (P := Tryz.prog) w 23 85 (some ⟨b, off, none⟩) zs.length cap 0 0 Tryz.underlying23
    obtain ⟨i0, hi, hz0, hz1, hz2⟩ := info_parts info_u32
    have hown := World.ownsRow_lit (e := 85) (size := 1) (base := w.heap.size) w #[] 0 (Nat.le_refl _) (by unfold maxLen; omega) rfl
    have Hn := Lib.hid h0
    have hpos : 0 < zs.length := by omega
    have c1 : (zs.map fun x : Nat => Value.int .u32 (x : Int)).length = zs.length * 1 := by simp
    have c2 : ∀ (j : Nat) (u : Value), (zs.map fun x : Nat => Value.int .u32 (x : Int))[j]? = some u → (w.alloc (.cells #[] 85)).cell? ((⟨b, off, none⟩ : Addr).add j) = some u := by
      intro j u hu
      rw [List.getElem?_map] at hu
      rcases hx : zs[j]? with _ | x
      · rw [hx] at hu; cases hu
      · rw [hx] at hu
        have hc := ((Below.refl w.heap.size w).alloc (Nat.le_refl _) (.cells #[] 85)).cell (p := ⟨b, off + j, none⟩) hb
        have e : (⟨b, off, none⟩ : Addr).add j = ⟨b, off + j, none⟩ := by
          unfold Addr.add
          split
          · rename_i h; subst h; rfl
          · rfl
        rw [e, hc, hR.cell hx]
        exact hu
    have c3 : ∀ u ∈ (zs.map fun x : Nat => Value.int .u32 (x : Int)), u.oneCell' = true := by
      intro u hu
      obtain ⟨x, _, rfl⟩ := List.mem_map.1 hu
      rfl
    have C4 : Hid (0 + zs.length ≤ maxLen) := by unfold Hid maxLen; omega
    have C5 : Hid ((0 + zs.length) * 4 ≤ 140737488355328) := by unfold Hid; omega
    have C6 : Hid (w.heap.size ≤ (w.alloc (.cells #[] 85)).heap.size) := by unfold Hid; simp
    have C1 := Lib.hid c1
    have C2 := Lib.hid c2
    have C3 := Lib.hid c3
    have Hi := Lib.hid hi
    have Hz0 := Lib.hid hz0
    have Hz1 := Lib.hid hz1
    have Hz2 := Lib.hid hz2
    have Hown := Lib.hid hown
    clear c1 c2 c3 hn h0 hi hz0 hz1 hz2 hown
    go_enter Tryz.func51, Tryz.ntmps51
    go_wp2_with (at_builtin; refine wpList_append_own _ rfl (.tmp 5) (.tmp 6) 23 rfl w.heap.size 85 i0 (.int .u32 0) 1 4 Tryz.underlying23 Hi.out Hz0.out Hz1.out Hz2.out rfl (by decide) _ 0 [] rfl Hown.out ⟨b, off, none⟩ zs.length cap (zs.map fun x : Nat => Value.int .u32 (x : Int)) rfl C1.out C2.out C3.out C4.out C5.out C6.out ?_; intro v' w' hown' hgrow _)
    have hb0 : Below w.heap.size w w' := ((Below.refl _ w).alloc (Nat.le_refl _) _).grown hgrow (by simp) (fun k e => by injection e with e; simp only at e; omega)
    rw [Nat.zero_add] at hown'
    obtain ⟨g, cap', rfl, hge, hglt⟩ := hown'.form hpos
    have hcells := hown'.cells (g := g) rfl
    have hcap' : zs.length ≤ cap' := by
      rcases hown'.2 with ⟨e, _⟩ | ⟨g2, cap2, cur, e, _, _, h, _⟩
      · cases e
      · injection e with _ _ e; omega
    go_ret
    refine ⟨hb0, _, rfl, ⟨_, cap', rfl, hcap', by omega, fun _ => ⟨g, 0, rfl, hglt, fun j x hx => ?_⟩⟩, fun h => absurd h Hn.out⟩
    have hj := hcells j (.int .u32 (x : Int)) (by simp [hx])
    rwa [add_zero_or] at hj
end Go.Proofs.YtnncfbmddpijcaaGreatDoor

/- A region that draws its order, within a round of a range over a function. -/
namespace Go.Proofs.YtnncfbmddpijcaaGreatDoor
open Go Go.RowKit Go.Shelf

theorem wpOpIn_of {l n : Nat} {P : Program} {ops : Array Oper} {Q : Exit → Act → World → Prop} {i : Nat} {K K' : Act → World → Prop} {a : Act} {w : World}
    (hL : ¬ LetsOut Q) (hd : ∀ (j : Nat) (o : Oper), ops[j]? = some o → ∀ c, o.op ≠ .defer c) (hK : ∀ a w, K a w → K' a w) (h : wpOp P ops Q i K a w) :
    wpOpIn (Fence.wide.inRound l) n P ops Q i K' a w := by
  unfold wpOp at h
  unfold wpOpIn
  cases ho : ops[i]? with
  | none => rw [ho] at h; exact hK _ _ h
  | some o =>
    rw [ho] at h
    dsimp only at h ⊢
    split
    · rename_i hw
      rw [if_pos hw] at h
      rcases h with h | h
      · unfold Oper.wp at h
        unfold Oper.wpIn
        refine ⟨fun _ _ => trivial, ?_⟩
        rw [Oper.semAt_plain _ _ _ (hd i o ho)]
        generalize (execOp a.eval o).run P w = r at *
        cases r with
        | ok x w' =>
          cases x <;> simp only [Oper.upon, Oper.uponIn] at h ⊢
          case value => exact hK _ _ h
          case skip => exact hK _ _ h
          case defer => exact hK _ _ h
          case enter f args =>
            refine ⟨fun h0 => by simp [Fence.wide] at h0, CallsIn.mono (CallsIn.inRound l (callsIn_wide.2 h)) ?_⟩
            intro e w'' he
            cases e with
            | returned v => exact hK _ _ he
            | panicked c => exact he
            | outgrown => exact (hL he).elim
          case row row args =>
            refine ⟨fun h0 => by simp [Fence.wide] at h0, ?_⟩
            intro c cs _
            obtain ⟨v, w'', h1, h2⟩ := h c cs
            exact ⟨v, w'', hK _ _ h1, stepsIn_wide.2 h2⟩
        | halt x w' => cases x <;> simp only [Oper.upon, Oper.uponIn] at h ⊢ <;> exact h
      · exact (hL h.2).elim
    · rename_i hw
      rw [if_neg hw] at h
      exact ⟨fun _ _ => trivial, hK _ _ h⟩

theorem wpAnyIn_of_any {l n : Nat} {P : Program} {md : Region.Mode} {ops : Array Oper} {Q : Exit → Act → World → Prop}
    (hL : ¬ LetsOut Q) (hd : ∀ (j : Nat) (o : Oper), ops[j]? = some o → ∀ c, o.op ≠ .defer c) :
    ∀ (fuel : Nat) (listed : Array Bool) (a : Act) (w : World), wpAny P md ops Q fuel listed a w → wpAnyIn (Fence.wide.inRound l) n P md ops Q fuel listed a w
  | 0, _, _, _, h => h
  | fuel + 1, _, _, _, h => ⟨h.1, fun i hi => wpOpIn_of hL hd (fun a w => wpAnyIn_of_any hL hd fuel _ a w) (h.2 i hi)⟩

/-- No operation of a region is a defer statement. -/
def noDefer (ops : List Oper) : Bool := ops.all fun o => match o.op with | .defer _ => false | _ => true
theorem noDefer_spec {ops : Array Oper} (h : noDefer ops.toList = true) : ∀ (j : Nat) (o : Oper), ops[j]? = some o → ∀ c, o.op ≠ .defer c := by
  intro j o hj c hc
  have := List.all_eq_true.1 h o (Array.mem_toList_iff.2 (Array.mem_of_getElem? hj))
  rw [hc] at this
  cases this

theorem not_lets {K : Act → World → Prop} : ¬ LetsOut (onlyNormal K) := fun ⟨_, _, h⟩ => h
theorem onlyNormal_of {Q : Exit → Act → World → Prop} : ∀ e a w, onlyNormal (fun a w => Q .normal a w) e a w → Q e a w := by
  intro e a w h
  cases e <;> first | exact h | exact h.elim

/-- A region that draws its order, within a round: of what holds behind every operation, loads are taken first. -/
theorem region_round {l n id : Nat} {P : Program} {ops : Array Oper} {Q : Exit → Act → World → Prop} {a : Act} {w : World} (S : World → Prop) (hm : P.follows .mixedOrders = true)
    (hd : noDefer ops.toList = true) (hS : S w.drew) (h : S w.drew → wpAnyH P .any ops (onlyNormal fun a w => Q .normal a w) S ops.size (Array.replicate ops.size false) a w.drew) :
    (Code.region id ops true).wpIn (Fence.wide.inRound l) n P Q a w :=
  wpIn_mono (wpIn_region_any hm (wpAnyIn_of_any not_lets (noDefer_spec hd) _ _ _ _ (wpAny_of_held _ _ _ _ (h hS)))) onlyNormal_of
/-- .. and in a function's own frame. -/
theorem region_wide {n id : Nat} {P : Program} {ops : Array Oper} {Q : Exit → Act → World → Prop} {a : Act} {w : World} (S : World → Prop) (hm : P.follows .mixedOrders = true)
    (hS : S w.drew) (h : S w.drew → wpAnyH P .any ops (onlyNormal fun a w => Q .normal a w) S ops.size (Array.replicate ops.size false) a w.drew) :
    (Code.region id ops true).wpIn Fence.wide n P Q a w :=
  wpIn_mono (wpIn_wide.2 (wp_region_held_drew hm hS h)) onlyNormal_of
theorem keepsOthers_drewN (W : World) (n : Nat) : KeepsOthers W (W.drewN n) := ⟨Nat.le_refl _, fun _ _ h _ => h⟩
theorem Boxed.drewN {W : World} {B : Nat} {t : TypeId} {v : Value} (h : Boxed W B t v) (n : Nat) : Boxed (W.drewN n) B t v := h
theorem Boxed.far {W : World} {B : Nat} {t : TypeId} {v : Value} (h : Boxed W B t v) {p : Addr} (hp : B ≠ p.block) (u : Value) : Boxed (W.setCell p u) B t v := (Below.heap_setCell W p u B hp).trans h
theorem below_drewN (B : Nat) (w : World) (n : Nat) : Below B w (w.drewN n) := ⟨rfl, rfl, rfl, Nat.le_refl _, fun _ _ => rfl⟩
end Go.Proofs.YtnncfbmddpijcaaGreatDoor

/- Divided by one digit. -/
namespace Go.Proofs.YtnncfbmddpijcaaGreatDoor
open Go Go.RowKit Go.Shelf
attribute [local go_sem] Oper.semAt_some

/-- What Div, and its two ways, give: how often, and what is left. -/
def DivOut (w : World) (x y : Nat) (e : Ending) (w' : World) : Prop :=
  Below w.heap.size w w' ∧ ∃ v1 v2, e = .returned (.tuple #[v1, v2]) ∧ NumV w' v1 (x / y) ∧ NumV w' v2 (x % y)

theorem Rd.put {k : IntKind} {w : World} {D : Nat} {o : Obj} {v : Value} {zs : List Nat} (hK : w.heap[D]? = some (.deferred (some []))) (h : Rd k w v zs) : Rd k (w.putObj D o) v zs := by
  obtain ⟨A, cap, rfl, h1, h2, h3⟩ := h
  refine ⟨A, cap, rfl, h1, h2, fun h0 => ?_⟩
  obtain ⟨b, off, rfl, hlt, hc⟩ := h3 h0
  have hne : b ≠ D := by
    rintro rfl
    have h4 := hc 0 _ (List.getElem?_eq_getElem h0)
    simp [World.cell?, hK] at h4
  exact ⟨b, off, rfl, by simpa using hlt, fun j y hy => (World.cell?_of_block (w := w) (World.putObj_heap_other hne)).trans (hc j y hy)⟩
theorem NumV.put {w : World} {D : Nat} {o : Obj} {v : Value} {x : Nat} (hK : w.heap[D]? = some (.deferred (some []))) (h : NumV w v x) : NumV (w.putObj D o) v x := by
  obtain ⟨zs, h1, h2, h3⟩ := h
  exact ⟨zs, h1.put hK, h2, h3⟩

set_option maxHeartbeats 1000000 in
theorem div32_d (w : World) (x y c : Nat) (hx : x < 4294967296) (hy : y < 4294967296) (hc : c < 4294967296) (hh : x < c) :
    Calls Tryz.prog 105 #[.int .u32 x, .int .u32 y, .int .u32 c] w fun e w' =>
      e = .returned (.tuple #[.int .u32 (((x * 4294967296 + y) / c : Nat) : Int), .int .u32 (((x * 4294967296 + y) % c : Nat) : Int)]) ∧ ∃ nq, w' = w.drewN nq := by
  have hc0 : ((c : Int) == 0) = false := by rw [beq_eq_false_iff_ne]; omega
  have hc1 : ((c : Int) != 0) = true := by rw [bne_iff_ne]; omega
  have hcx : decide ((c : Int) ≤ x) = false := by rw [decide_eq_false_iff_not]; omega
  go_enter Tryz.func105, Tryz.ntmps105
  go_wp2
  go_quiet (fail)
  go_wp2
  go_ret2
  have e1 : bits BinOp.or IntKind.u64 ((x : Int) * 4294967296) (y : Int) = ((x * 4294967296 + y : Nat) : Int) := by
    rw [← join_low hy, ← u64_or_nat _ _ (by omega) (by omega)]; rfl
  refine ⟨ret_pair ?_ ?_, _, rfl⟩
  · rw [e1, ← Int.ofNat_tdiv, wrap_u64']
    have := div32_lt (by omega) hh hy
    obtain ⟨q, hq⟩ : ∃ q, (x * 4294967296 + y) / c = q := ⟨_, rfl⟩
    rw [hq] at this ⊢
    omega
  · rw [e1, ← Int.ofNat_tmod]
    have := Nat.mod_lt (x * 4294967296 + y) (show c > 0 by omega)
    obtain ⟨q, hq⟩ : ∃ q, (x * 4294967296 + y) % c = q := ⟨_, rfl⟩
    rw [hq] at this ⊢
    omega

theorem short_step {q b r r' x V Z B : Nat} (h : V * b + r = Z) (hq : q * b + r' = r * B + x) : (q + B * V) * b + r' = x + B * Z := by
  rw [← h, Nat.add_mul, Nat.mul_add, Nat.mul_assoc]
  have : B * r = r * B := Nat.mul_comm _ _
  omega

/-- Between two rounds of the short division: the k last digits are done. -/
def ShortI (w w0 : World) (zs : List Nat) (vo va : Value) (g b k : Nat) (W : World) : Prop :=
  ∃ (ss : List Nat) (r : Nat), ss.length = zs.length ∧ (∀ x ∈ ss, x < 4294967296) ∧ r < b ∧ (∀ i, k + i = zs.length → val 4294967296 (ss.drop i) * b + r = val 4294967296 (zs.drop i)) ∧
    Boxed W w.heap.size 85 (.int .u32 (b : Int)) ∧ Own .u32 85 W g ss ∧ Boxed W (w.heap.size + 2) 23 vo ∧ Boxed W (w.heap.size + 3) 85 (.int .u32 (r : Int)) ∧ Boxed W (w.heap.size + 4) 23 va ∧ Below w0.heap.size w0 W

theorem divmod_unique {q b r n : Nat} (h : q * b + r = n) (hr : r < b) : n / b = q ∧ n % b = r := by
  have hb : 0 < b := by omega
  subst h
  constructor
  · rw [Nat.mul_comm, Nat.mul_add_div hb, Nat.div_eq_of_lt hr]; omega
  · rw [Nat.mul_comm, Nat.mul_add_mod, Nat.mod_eq_of_lt hr]

set_option maxRecDepth 100000 in
set_option maxHeartbeats 2000000 in
theorem divideShort_c (w : World) (va : Value) (zs : List Nat) (b : Nat) (hR : Rd .u32 w va zs) (hzb : ∀ x ∈ zs, x < 4294967296) (hlen : zs.length ≤ 1000000) (hb : b < 4294967296) (hb0 : 0 < b) :
    Calls Tryz.prog 93 #[va, .int .u32 b] w (DivOut w (val 4294967296 zs) b) := by
  obtain ⟨A, cap, rfl, hl⟩ := hR.form
  have hmk := make_nat zs.length (zs.length : Int) rfl (by omega)
  refine (callsIn_wide (n := 6)).1 ?_
  refine callsIn_of_wp_marks Tryz.func93 rfl trivial ?_ rfl
  simp only [Tryz.ntmps93, List.size_toArray, List.length_cons, List.length_nil, Nat.reduceAdd, Nat.reduceSub, Array.replicate_succ, Array.replicate_zero, List.push_toArray, List.append_toArray, List.nil_append, List.cons_append]
  gi_wp2_with (refine ⟨trivial, ?_⟩; gi_at_call 91; refine (down_in _ _ _ _ _).mono ?_; rintro e w' ⟨rfl, rfl⟩)
  have b0 := (((Boxed.new w 85 (.int .u32 (b : Int))).alloc (.cells (nums .u32 (List.replicate zs.length 0)) 85)).alloc (.cells #[.slice (some ⟨w.heap.size + 1, 0, none⟩) zs.length zs.length] 23)).alloc (.cells #[.int .u32 0] 85) |>.alloc (.cells #[.slice A zs.length cap] 23)
  have hO := (((Own.new (w.alloc (.cells #[.int .u32 (b : Int)] 85)) .u32 85 (List.replicate zs.length 0)).alloc (.cells #[.slice (some ⟨w.heap.size + 1, 0, none⟩) zs.length zs.length] 23)).alloc (.cells #[.int .u32 0] 85)).alloc (.cells #[.slice A zs.length cap] 23)
  have b2 := ((Boxed.new ((w.alloc (.cells #[.int .u32 (b : Int)] 85)).alloc (.cells (nums .u32 (List.replicate zs.length 0)) 85)) 23 (.slice (some ⟨w.heap.size + 1, 0, none⟩) zs.length zs.length)).alloc (.cells #[.int .u32 0] 85)).alloc (.cells #[.slice A zs.length cap] 23)
  have b3 := (Boxed.new (((w.alloc (.cells #[.int .u32 (b : Int)] 85)).alloc (.cells (nums .u32 (List.replicate zs.length 0)) 85)).alloc (.cells #[.slice (some ⟨w.heap.size + 1, 0, none⟩) zs.length zs.length] 23)) 85 (.int .u32 0)).alloc (.cells #[.slice A zs.length cap] 23)
  have b4 := Boxed.new ((((w.alloc (.cells #[.int .u32 (b : Int)] 85)).alloc (.cells (nums .u32 (List.replicate zs.length 0)) 85)).alloc (.cells #[.slice (some ⟨w.heap.size + 1, 0, none⟩) zs.length zs.length] 23)).alloc (.cells #[.int .u32 0] 85)) 23 (.slice A zs.length cap)
  have hB0 : Below w.heap.size w (((((w.alloc (.cells #[.int .u32 (b : Int)] 85)).alloc (.cells (nums .u32 (List.replicate zs.length 0)) 85)).alloc (.cells #[.slice (some ⟨w.heap.size + 1, 0, none⟩) zs.length zs.length] 23)).alloc (.cells #[.int .u32 0] 85)).alloc (.cells #[.slice A zs.length cap] 23)) :=
    (((((Below.refl _ w).alloc (Nat.le_refl _) _).alloc (by simp) _).alloc (by simp; omega) _).alloc (by simp; omega) _).alloc (by simp; omega) _
  have hs0 : (((((w.alloc (.cells #[.int .u32 (b : Int)] 85)).alloc (.cells (nums .u32 (List.replicate zs.length 0)) 85)).alloc (.cells #[.slice (some ⟨w.heap.size + 1, 0, none⟩) zs.length zs.length] 23)).alloc (.cells #[.int .u32 0] 85)).alloc (.cells #[.slice A zs.length cap] 23)).heap.size = w.heap.size + 5 := by simp
  simp only [World.size_alloc] at hO b2 b3 b4
  generalize ((((w.alloc (.cells #[.int .u32 (b : Int)] 85)).alloc (.cells (nums .u32 (List.replicate zs.length 0)) 85)).alloc (.cells #[.slice (some ⟨w.heap.size + 1, 0, none⟩) zs.length zs.length] 23)).alloc (.cells #[.int .u32 0] 85)).alloc (.cells #[.slice A zs.length cap] 23) = W0 at *
  clear hmk
  refine range_down (n := 6) (by omega) (Bs := w.heap.size + 4) (A := A) (cap := cap) (zs := zs) (by omega) rfl rfl (ShortI w w zs (.slice (some ⟨w.heap.size + 1, 0, none⟩) zs.length zs.length) (.slice A zs.length cap) (w.heap.size + 1) b) (fun _ _ => False) ?hI ?hIx ?h0 ?hbox ?hcell
    (fun i x => { tmps := #[.slice A zs.length cap, .int .u32 (b : Int), undef, .pointer (some ⟨w.heap.size, 0, none⟩), .slice none 0 0, .slice none 0 0, .pointer (some ⟨w.heap.size + 1 + 1, 0, none⟩), .pointer (some ⟨w.heap.size + 1 + 1 + 1, 0, none⟩), .int .i64 (i : Int), .int .u32 (x : Int),
      .slice A zs.length cap, .int .i64 zs.length, .slice (some ⟨w.heap.size + 1, 0, none⟩) zs.length zs.length, .slice A zs.length cap,
      .func (.func 104) #[] #[.pointer (some ⟨w.heap.size + 1 + 1 + 1 + 1, 0, none⟩)], .int .i64 (i : Int), .int .u32 (x : Int), undef, undef, undef, undef, undef, undef, undef, undef, undef, undef, undef, undef, undef, undef, undef], defers := [] }) ?assign ?body ?done ?stop
  case hI =>
    rintro k X Y row ⟨ss, r, a1, a2, a3, a4, h0, h1, h2, h3, h4, h5⟩ hg hr
    have hr' := fun r e => (hr r e).2
    exact ⟨ss, r, a1, a2, a3, a4, boxed_step h0 hg hr', (grownBy_keeps_cells hg hr' h1 rfl).trans h1, boxed_step h2 hg hr', boxed_step h3 hg hr', boxed_step h4 hg hr', h5.grown hg h5.size (fun r e => by have := (hr r e).1; omega)⟩
  case hIx => exact fun _ _ _ _ h _ _ => h
  case h0 => exact ⟨_, 0, by simp, mem_replicate_lt, hb0, fun i hi => by rw [List.drop_of_length_le (by simp; omega), List.drop_of_length_le (by omega)]; simp, b0, hO, b2, b3, b4, hB0⟩
  case hbox => exact fun k W h => by obtain ⟨_, _, _, _, _, _, _, _, _, _, h, _⟩ := h; exact h.cell
  case hcell =>
    intro hz
    obtain ⟨bb, off, rfl, hbl⟩ := hR.addr hz
    exact ⟨bb, off, rfl, fun k W i x hI hx => by obtain ⟨_, _, _, _, _, _, _, _, _, _, _, h5⟩ := hI; exact (h5.cell (p := ⟨bb, off + i, none⟩) hbl).trans (hR.cell hx)⟩
  case assign =>
    intro l i x W K hx hK
    gi_wp2
    exact hK
  case body =>
    rintro l k i x W hki hx ⟨ss, r, a1, a2, a3, a4, h0, h1, h2, h3, h4, h5⟩
    have hmix : Tryz.prog.follows .mixedOrders = true := by kernel_rfl
    have hxb := get_lt hzb hx
    have hil : i < zs.length := by omega
    have his : i < ss.length := by omega
    have hs := List.getElem?_eq_getElem his
    have hcb := h0.cell
    have hco := h2.cell
    have hcr := h3.cell
    have hfr := h3.frozen
    have hcg := h1.cell hs
    have hfg := h1.frozen i
    have hdv := fun W' => div32_d W' r x b (by omega) hxb hb a3
    have hq := div32_lt (y := x) hb0 a3 hxb
    have hm := Nat.mod_lt (r * 4294967296 + x) hb0
    have heq : (r * 4294967296 + x) / b * b + (r * 4294967296 + x) % b = r * 4294967296 + x := by rw [Nat.mul_comm]; exact Nat.div_add_mod _ _
    have hnew := short_step (a4 (i + 1) (by omega)) heq
    have hz : val 4294967296 (zs.drop i) = x + 4294967296 * val 4294967296 (zs.drop (i + 1)) := by rw [drop_of_get hx, val_cons]
    rw [← hz] at hnew
    generalize (r * 4294967296 + x) / b = q at hdv hq hnew
    generalize (r * 4294967296 + x) % b = r' at hdv hm hnew
    have Hnew := Lib.hid hnew
    have Hdv := Lib.hid hdv
    have Hki := Lib.hid hki
    have Ha1 := Lib.hid a1
    clear hnew hdv heq hz hki a1 a4 hs hx
    have HP := Lib.hid (And.intro hzb (And.intro hR (And.intro a2 (And.intro a3 (And.intro h0 (And.intro h1 (And.intro h2 (And.intro h3 (And.intro h4 (And.intro h5 (And.intro hs0 (And.intro hm hq))))))))))))
    have hir : (i : Int) < (zs.length : Int) := by omega
    clear hzb hR a2 a3 h0 h1 h2 h3 h4 h5 hs0 hm hlen hl hb hb0 b0 hO b2 b3 b4 hB0 hxb hq
    gi_wp2_with fail
    refine region_round (fun W' => W'.cell? ⟨w.heap.size, 0, none⟩ = some (.int .u32 (b : Int)) ∧ W'.cell? ⟨w.heap.size + 2, 0, none⟩ = some (.slice (some ⟨w.heap.size + 1, 0, none⟩) zs.length zs.length)) hmix (by kernel_rfl) ⟨hcb, hco⟩ (fun hHeld => ?_)
    refine wpAnyH_take (i := 0) (oi := _) (v := ?_) rfl (by kernel_rfl) (by kernel_rfl) (by kernel_rfl) (fun _ _ _ h => h) (Or.inl ⟨by rfl, ?_⟩) (by assumption) ?_
    rotate_left
    · (intro w hSw; (try dsimp only at hSw); go_simp <;> with_reducible rfl)
    try simp only [Act.put, List.setIfInBounds_toArray]
    refine wpAnyH_take (i := 1) (oi := _) (v := ?_) rfl (by kernel_rfl) (by kernel_rfl) (by kernel_rfl) (fun _ _ _ h => h) (Or.inl ⟨by rfl, ?_⟩) (by assumption) ?_
    rotate_left
    · (intro w hSw; (try dsimp only at hSw); go_simp <;> with_reducible rfl)
    try simp only [Act.put]
    refine wpAnyH_take (i := 3) (oi := _) (v := ?_) rfl (by kernel_rfl) (by kernel_rfl) (by kernel_rfl) (fun _ _ _ h => h) (Or.inl ⟨by rfl, ?_⟩) (by assumption) ?_
    rotate_left
    · (intro w hSw; (try dsimp only at hSw); go_simp <;> with_reducible rfl)
    try simp only [Act.put]
    refine wpAnyH_take (i := 4) (oi := _) (v := ?_) rfl (by kernel_rfl) (by kernel_rfl) (by kernel_rfl) (fun _ _ _ h => h) (Or.inl ⟨by rfl, ?_⟩) (by assumption) ?_
    rotate_left
    · (intro w hSw; (try dsimp only at hSw); go_simp <;> with_reducible rfl)
    try simp only [Act.put]
    refine wpAnyH_ready (rs := [2]) (by kernel_rfl) (by simp) (AllReadyH.cons rfl (fun K hK => ?_) AllReadyH.nil)
    go_simp
    refine hK.out _ _ hHeld (fun _ => ?_)
    clear hK K
    refine wpAnyH_ready (rs := [5]) (by kernel_rfl) (by simp) (AllReadyH.cons rfl (fun K hK => ?_) AllReadyH.nil)
    go_simp
    refine (Hdv.out _).mono ?_
    rintro e w' ⟨rfl, nq, rfl⟩
    dsimp only
    refine hK.out _ _ ⟨by simp [hcb], by simp [hco]⟩ (fun hHeld => ?_)
    clear hK K
    try simp only [Act.put, List.setIfInBounds_toArray, List.set_cons_zero, List.set_cons_succ]
    refine wpAnyH_take (i := 6) (oi := _) (v := ?_) rfl (by kernel_rfl) (by kernel_rfl) (by kernel_rfl) (fun _ _ _ h => h) (Or.inl ⟨by rfl, ?_⟩) (by assumption) ?_
    rotate_left
    · (intro w hSw; (try dsimp only at hSw); go_simp <;> with_reducible rfl)
    try simp only [Act.put, List.setIfInBounds_toArray]
    refine wpAnyH_take (i := 7) (oi := _) (v := ?_) rfl (by kernel_rfl) (by kernel_rfl) (by kernel_rfl) (fun _ _ _ h => h) (Or.inl ⟨by rfl, ?_⟩) (by assumption) ?_
    rotate_left
    · (intro w hSw; (try dsimp only at hSw); go_simp <;> with_reducible rfl)
    try simp only [Act.put]
    refine wpAnyH_take (i := 8) (oi := _) (v := ?_) rfl (by kernel_rfl) (by kernel_rfl) (by kernel_rfl) (fun _ _ _ h => h) (Or.inl ⟨by rfl, ?_⟩) (by assumption) ?_
    rotate_left
    · (intro w hSw; (try dsimp only at hSw); go_simp <;> with_reducible rfl)
    try simp only [Act.put]
    refine wpAnyH_take (i := 9) (oi := _) (v := ?_) rfl (by kernel_rfl) (by kernel_rfl) (by kernel_rfl) (fun _ _ _ h => h) (Or.inl ⟨by rfl, ?_⟩) (by assumption) ?_
    rotate_left
    · (intro w hSw; (try dsimp only at hSw); go_simp <;> with_reducible rfl)
    try simp only [Act.put]
    refine wpAnyH_ready (rs := [10]) (by kernel_rfl) (by simp) (AllReadyH.cons rfl (fun K hK => ?_) AllReadyH.nil)
    go_simp
    refine hK.out _ _ ⟨by simp [hcb, World.cell?_setCell_far], by simp [hco, World.cell?_setCell_far]⟩ (fun _ => ?_)
    clear hK K hHeld
    refine wpAnyH_ready (rs := [11]) (by kernel_rfl) (by simp) (AllReadyH.cons rfl (fun K hK => ?_) AllReadyH.nil)
    go_simp
    refine hK.out _ _ ⟨(World.cell?_setCell_far _ _ _ _ (by dsimp only; omega)).trans ((World.cell?_setCell_far _ _ _ _ (by dsimp only; omega)).trans hcb), (World.cell?_setCell_far _ _ _ _ (by dsimp only; omega)).trans ((World.cell?_setCell_far _ _ _ _ (by dsimp only; omega)).trans hco)⟩ (fun _ => ?_)
    clear hK K
    refine wpAnyH_done (by kernel_rfl) ?_ _
    simp only [onlyNormal]
    clear hHeld hcb hco hcr hfr hcg hfg Hdv
    gi_wp2
    obtain ⟨hzb, hR, a2, a3, h0, h1, h2, h3, h4, h5, hs0, hm, hq⟩ := HP.out
    refine ⟨(((keepsOthers_drewN W (1 + nq)).trans (KeepsOthers.setCell _ _ _)).trans (KeepsOthers.setCell _ _ _)).from _, ss.set i q, r', by rw [List.length_set, Ha1.out], ?_, hm, ?_, ?_, ?_, ?_, ?_, ?_, ?_⟩
    · intro y hy
      rcases List.mem_or_eq_of_mem_set hy with h | rfl
      · exact a2 y h
      · exact hq
    · intro j hj
      obtain rfl : j = i := by have := Hki.out; omega
      rw [drop_of_get (x := q) (List.getElem?_set_self his), List.drop_set_of_lt (by omega), val_cons]
      exact Hnew.out
    · exact Boxed.far (Boxed.far (Boxed.drewN (W := W) h0 (1 + nq)) (by dsimp only; omega) _) (by dsimp only; omega) _
    · exact (Own.set (w := W.drewN (1 + nq)) h1 i q).far (by dsimp only; omega) _
    · exact Boxed.far (Boxed.far (Boxed.drewN (W := W) h2 (1 + nq)) (by dsimp only; omega) _) (by dsimp only; omega) _
    · exact Boxed.set _ (Boxed.far (Boxed.drewN (W := W) h3 (1 + nq)) (by dsimp only; omega) _)
    · exact Boxed.far (Boxed.far (Boxed.drewN (W := W) h4 (1 + nq)) (by dsimp only; omega) _) (by dsimp only; omega) _
    · exact ((Below.trans h5 (below_drewN _ W (1 + nq))).setCell (by dsimp only; omega) _).setCell (by dsimp only; omega) _
  case done =>
    rintro D W hD ⟨ss, r, a1, a2, a3, a4, h0, h1, h2, h3, h4, h5⟩ hK
    have hmix : Tryz.prog.follows .mixedOrders = true := by kernel_rfl
    have hco := h2.cell
    have hcr := h3.cell
    have hlt2 := h2.lt
    have hlt3 := h3.lt
    have hDlt : D < W.heap.size := (Array.getElem?_eq_some_iff.1 hK).1
    have hwh := h1.whole (by omega)
    rw [a1] at hwh
    have hsz := h5.size
    have hval : val 4294967296 ss * b + r = val 4294967296 zs := by have := a4 0 (by omega); simpa using this
    have HT := Lib.hid (fun W' (hb' : Below W.heap.size W W') => (trim_num W' _ ss (hwh.below hb') a2))
    have HP := Lib.hid (And.intro a3 (And.intro hval (And.intro hK (And.intro h5 (And.intro hlen hb)))))
    have hrb : r < 4294967296 := by omega
    clear a1 a2 a3 a4 h0 h1 h2 h3 h4 h5 hval hK hwh hzb hR hlen hb hb0 b0 hO b2 b3 b4 hB0 hl
    gi_wp2
    refine region_wide (fun W' => W'.cell? ⟨w.heap.size + 2, 0, none⟩ = some (.slice (some ⟨w.heap.size + 1, 0, none⟩) zs.length zs.length) ∧ W'.cell? ⟨w.heap.size + 3, 0, none⟩ = some (.int .u32 (r : Int))) hmix ⟨hco, hcr⟩ (fun hHeld => ?_)
    refine wpAnyH_take (i := 0) (oi := _) (v := ?_) rfl (by kernel_rfl) (by kernel_rfl) (by kernel_rfl) (fun _ _ _ h => h) (Or.inl ⟨by rfl, ?_⟩) (by assumption) ?_
    rotate_left
    · (intro w hSw; (try dsimp only at hSw); go_simp <;> with_reducible rfl)
    try simp only [Act.put, List.setIfInBounds_toArray]
    refine wpAnyH_take (i := 2) (oi := _) (v := ?_) rfl (by kernel_rfl) (by kernel_rfl) (by kernel_rfl) (fun _ _ _ h => h) (Or.inl ⟨by rfl, ?_⟩) (by assumption) ?_
    rotate_left
    · (intro w hSw; (try dsimp only at hSw); go_simp <;> with_reducible rfl)
    try simp only [Act.put]
    refine wpAnyH_take (i := 3) (oi := _) (v := ?_) rfl (by kernel_rfl) (by kernel_rfl) (by kernel_rfl) (fun _ _ _ h => h) (Or.inl ⟨by rfl, ?_⟩) (by assumption) ?_
    rotate_left
    · (intro w hSw; (try dsimp only at hSw); go_simp <;> with_reducible rfl)
    try simp only [Act.put]
    refine wpAnyH_ready (rs := [1]) (by kernel_rfl) (by simp) (AllReadyH.cons rfl (fun K hK => ?_) AllReadyH.nil)
    go_simp
    refine (HT.out W.drew (Below.drew (Below.refl _ W))).mono ?_
    rintro e w1 ⟨v1, zs1, rfl, hR1, hC1, hv1, hl1, hB1⟩
    have HQ := Lib.hid (And.intro hR1 (And.intro hC1 (And.intro hv1 hB1)))
    clear hR1 hC1 hv1 hl1
    dsimp only
    refine hK.out _ _ ⟨(hB1.cell (by exact hlt2)).trans hco, (hB1.cell (by exact hlt3)).trans hcr⟩ (fun _ => ?_)
    clear hK K hHeld HT
    have hwr : IntKind.u64.wrap (r : Int) = (r : Int) := by rw [wrap_u64']; omega
    try simp only [hwr]
    clear hwr
    refine wpAnyH_ready (rs := [4]) (by kernel_rfl) (by simp) (AllReadyH.cons rfl (fun K hK => ?_) AllReadyH.nil)
    go_simp
    refine (of_c w1 r (by omega)).mono ?_
    rintro e w2 ⟨hB2, v2, rfl, hN2⟩
    dsimp only
    have hs1 := hB1.size
    refine hK.out _ _ ⟨(hB2.cell (by exact Nat.lt_of_lt_of_le hlt2 hs1)).trans ((hB1.cell (by exact hlt2)).trans hco), (hB2.cell (by exact Nat.lt_of_lt_of_le hlt3 hs1)).trans ((hB1.cell (by exact hlt3)).trans hcr)⟩ (fun hHeld => ?_)
    clear hK K
    try simp only [Act.put, List.setIfInBounds_toArray, List.set_cons_zero, List.set_cons_succ]
    refine wpAnyH_ready (rs := [5]) (by kernel_rfl) (by simp) (AllReadyH.cons rfl (fun K hK => ?_) AllReadyH.nil)
    go_simp
    refine hK.out _ _ hHeld (fun _ => ?_)
    clear hK K
    refine wpAnyH_ready (rs := [6]) (by kernel_rfl) (by simp) (AllReadyH.cons rfl (fun K hK => ?_) AllReadyH.nil)
    go_simp
    refine hK.out _ _ hHeld (fun _ => ?_)
    clear hK K
    refine wpAnyH_done (by kernel_rfl) ?_ _
    simp only [onlyNormal]
    clear hHeld hco hcr
    obtain ⟨hR1, hC1, hv1, hB1⟩ := HQ.out
    obtain ⟨hrb', hval, hKD, h5, hlen, hb⟩ := HP.out
    have hKD2 : w2.heap[D]? = some (.deferred (some [])) := (hB2.block D (Nat.lt_of_lt_of_le hDlt hs1)).trans ((hB1.block D hDlt).trans hKD)
    gi_wp2
    refine ⟨by simp, .inl ⟨_, _, rfl, run_takeDeferred hKD2, ?_⟩⟩
    have hdm := divmod_unique hval hrb'
    refine ⟨.tuple #[v1, v2], by simp [results, Tryz.f93, go_sem], below_deferred (by omega) hKD2 ((Below.trans h5 (Below.mono (Below.trans (Below.drew (Below.refl _ W)) (Below.mono hB1 (Nat.le_refl _))) hsz)).trans (Below.mono hB2 (Nat.le_trans hsz hs1))), v1, v2, rfl, ?_, ?_⟩
    · exact NumV.put hKD2 (hdm.1 ▸ ⟨zs1, hR1.below hB2, hC1, hv1⟩)
    · exact NumV.put hKD2 (hdm.2 ▸ hN2)
  case stop => exact fun _ _ _ _ _ h _ => h.elim
end Go.Proofs.YtnncfbmddpijcaaGreatDoor

/- Div: how often, and what is left. -/
namespace Go.Proofs.YtnncfbmddpijcaaGreatDoor
open Go Go.RowKit Go.Shelf

/-- What Div gives. -/
def DivPost (w : World) (x y : Nat) (e : Ending) (w' : World) : Prop :=
  Below w.heap.size w w' ∧ ((y = 0 ∧ e = .returned (.tuple #[.slice none 0 0, .slice none 0 0, .int .i64 10])) ∨ (0 < y ∧ Lim ≤ x ∧ e = .returned (.tuple #[.slice none 0 0, .slice none 0 0, .int .i64 11])) ∨
    (0 < y ∧ x < Lim ∧ ∃ v1 v2, e = .returned (.tuple #[v1, v2, .int .i64 0]) ∧ NumV w' v1 (x / y) ∧ NumV w' v2 (x % y)))

/-- What is asked of the long division. -/
def LongC : Prop := ∀ (w : World) (va vb : Value) (xs ys : List Nat), Rd .u32 w va xs → Rd .u32 w vb ys → Can 4294967296 xs → Can 4294967296 ys → xs.length ≤ 512 → 2 ≤ ys.length → ys.length ≤ xs.length →
  Calls Tryz.prog 94 #[va, vb] w (DivOut w (val 4294967296 xs) (val 4294967296 ys))

theorem can_lt {ps qs : List Nat} (ha : Can 4294967296 ps) (hb : Can 4294967296 qs) (hl : ps.length < qs.length) : val 4294967296 ps < val 4294967296 qs := by
  have h1 := val_lt ha.1
  have h2 := hb.ge (by intro e; rw [e] at hl; simp at hl)
  exact Nat.lt_of_lt_of_le h1 (Nat.le_trans (Nat.pow_le_pow_right (by omega) (by omega)) h2)
theorem one_digit {ys : List Nat} (h : ys.length = 1) (hC : Can 4294967296 ys) : ∃ d, ys = [d] ∧ 0 < d ∧ d < 4294967296 := by
  match ys, h with
  | [d], _ =>
    refine ⟨d, rfl, ?_, hC.1 d (by simp)⟩
    have := hC.2
    simp at this
    omega

set_option maxRecDepth 100000 in
set_option maxHeartbeats 2000000 in
theorem div_c (w : World) (va vb : Value) (xs ys : List Nat) (ha : Rd .u32 w va xs) (hb : Rd .u32 w vb ys) (hxs : ∀ x ∈ xs, x < 4294967296) (hys : ∀ x ∈ ys, x < 4294967296)
    (_hla : xs.length ≤ 1000000) (_hlb : ys.length ≤ 1000000) (hlong : 4294967296 ≤ val 4294967296 ys → LongC) :
    Calls Tryz.prog 66 #[va, vb] w (DivPost w (val 4294967296 xs) (val 4294967296 ys)) := by
  have C1 : Hid (Calls Tryz.prog 69 #[va] w fun e w1 => ∃ v1 us, e = .returned v1 ∧
      Hid (Calls Tryz.prog 69 #[vb] w1 fun e w2 => ∃ v2 vs, e = .returned v2 ∧
        Hid (Rd .u32 w2 v1 us ∧ Rd .u32 w2 v2 vs ∧ Can 4294967296 us ∧ Can 4294967296 vs ∧ val 4294967296 us = val 4294967296 xs ∧ val 4294967296 vs = val 4294967296 ys ∧ us.length ≤ xs.length ∧ vs.length ≤ ys.length ∧ Below w.heap.size w w2 ∧ (us.length = 0 → v1 = .slice none 0 0)))) := by
    refine (trim_nil w va xs ha hxs).mono ?_
    rintro e w1 ⟨v1, us, rfl, hR1, hC1, hv1, hl1, hB1, hn1⟩
    have hB1' : Below w.heap.size w w1 := hB1
    refine ⟨v1, us, rfl, (trim_num w1 vb ys (hb.below hB1') hys).mono ?_⟩
    rintro e w2 ⟨v2, vs, rfl, hR2, hC2, hv2, hl2, hB2⟩
    exact ⟨v2, vs, rfl, hR1.below hB2, hR2, hC1, hC2, hv1, hv2, hl1, hl2, hB1'.trans (hB2.mono hB1.size), hn1⟩
  have HL := Lib.hid hlong
  clear ha hb hxs hys hlong
  go_enter Tryz.func66, Tryz.ntmps66
  go_wp2_with fail
  refine C1.out.mono ?_
  clear C1
  rintro e w1 ⟨v1, us, rfl, C2⟩
  go_wp2_with fail
  refine C2.out.mono ?_
  clear C2
  rintro e w2 ⟨v2, vs, rfl, H⟩
  obtain ⟨hRu, hRv, hCu, hCv, hvu, hvv, hlu, hlv, hB, hn1⟩ := H.out
  obtain ⟨B1, d1, rfl, _⟩ := hRu.form
  obtain ⟨B2, d2, rfl, _⟩ := hRv.form
  have hsz := hB.size
  have hvs0 : vs.length ≠ 0 → 0 < val 4294967296 vs := fun h => hCv.pos (by omega) (by intro e; rw [e] at h; exact h rfl)
  by_cases hv0 : vs.length = 0
  · have hz : val 4294967296 ys = 0 := by rw [← hvv, List.eq_nil_of_length_eq_zero hv0]; rfl
    have Hz := Lib.hid hz
    have hd : ((vs.length : Int) == 0) = true := by rw [beq_iff_eq]; omega
    clear hRu hRv hCu hCv hvu hvv hlu hlv H hn1 hvs0 hz
    go_wp2
    go_ret3
    exact ⟨hB, .inl ⟨Hz.out, rfl⟩⟩
  have hd0 : ((vs.length : Int) == 0) = false := by rw [beq_eq_false_iff_ne]; omega
  have hpos : 0 < val 4294967296 ys := by rw [← hvv]; exact hvs0 hv0
  by_cases hbig : 512 < us.length
  · have hl := lim_le_of_len hCu hbig
    rw [hvu] at hl
    have Hl := Lib.hid (And.intro hpos hl)
    clear hRu hRv hCu hCv hvu hvv hlu hlv H hn1 hvs0 hpos hl
    go_wp2
    go_ret3
    exact ⟨hB, .inr (.inl ⟨Hl.out.1, Hl.out.2, rfl⟩)⟩
  have hlt := lim_of_len hCu.1 (by omega : us.length ≤ 512)
  rw [hvu] at hlt
  have hd1 : decide ((us.length : Int) > 512) = false := by rw [decide_eq_false_iff_not]; omega
  by_cases hsh : us.length < vs.length
  · have hq := can_lt hCu hCv hsh
    have hcl := clone_c w2 _ us hRu hn1 (by omega)
    have Hq := Lib.hid (And.intro hpos (And.intro hlt (And.intro hCu hvu)))
    rw [hvu, hvv] at hq
    have Hq2 := Lib.hid hq
    have hub := Lib.hid hCu.1
    clear hRu hRv hCu hCv hvu hvv hlu hlv H hn1 hvs0 hpos hlt hq
    go_wp2_with fail
    refine hcl.mono ?_
    rintro e w3 ⟨hB3, v3, rfl, hR3, _⟩
    have ht := trim_num w3 v3 us hR3 hub.out
    clear hcl hR3
    go_wp2_with fail
    refine ht.mono ?_
    rintro e w4 ⟨v4, zs, rfl, hR4, hC4, hv4, _, hB4⟩
    have H4 := Lib.hid (And.intro hR4 (And.intro hC4 hv4))
    clear ht hR4 hC4 hv4
    go_wp2
    go_ret3
    obtain ⟨hp, hlt, hCu, hvu⟩ := Hq.out
    refine ⟨hB.trans ((hB3.mono hsz).trans (hB4.mono (Nat.le_trans hsz hB3.size))), .inr (.inr ⟨hp, hlt, _, _, rfl, ?_, ?_⟩)⟩
    · rw [Nat.div_eq_of_lt Hq2.out]; exact NumV.nil _
    · rw [Nat.mod_eq_of_lt Hq2.out]; exact ⟨zs, H4.out.1, H4.out.2.1, H4.out.2.2.trans hvu⟩
  have hd2 : decide ((us.length : Int) < (vs.length : Int)) = false := by rw [decide_eq_false_iff_not]; omega
  by_cases hone : vs.length = 1
  · obtain ⟨d, rfl, hdp, hdb⟩ := one_digit hone hCv
    obtain ⟨b, off, rfl, hb⟩ := hRv.addr (by simp)
    have hcd : w2.cell? ⟨b, off, none⟩ = some (.int .u32 (d : Int)) := hRv.cell (j := 0) (x := d) rfl
    have hds := divideShort_c w2 _ us d hRu hCu.1 (by omega) hdb hdp
    have Hq := Lib.hid (And.intro hpos (And.intro hlt (And.intro hvu hvv)))
    have hd3 : (((([d] : List Nat).length : Nat) : Int) == 1) = true := rfl
    clear hRu hRv hCu hCv hvu hvv hlu hlv H hn1 hvs0 hpos hlt
    go_wp2_with fail
    refine hds.mono ?_
    rintro e w3 ⟨hB3, q, r, rfl, hq, hr⟩
    have HN := Lib.hid (And.intro hq hr)
    clear hds hcd hq hr
    go_wp2
    go_ret3
    obtain ⟨hp, hlt, hvu, hvv⟩ := Hq.out
    rw [hvu, show d = val 4294967296 ys by rw [← hvv]; simp] at HN
    exact ⟨hB.trans (hB3.mono hsz), .inr (.inr ⟨hp, hlt, _, _, rfl, HN.out.1, HN.out.2⟩)⟩
  have hd3 : ((vs.length : Int) == 1) = false := by rw [beq_eq_false_iff_ne]; omega
  have hlc := HL.out (by
    rw [← hvv]
    have h2 := hCv.ge (by intro e; rw [e] at hv0; exact hv0 rfl)
    exact Nat.le_trans (by omega) (Nat.le_trans (Nat.pow_le_pow_right (n := 4294967296) (by omega) (show 1 ≤ vs.length - 1 by omega)) h2)) w2 _ _ us vs hRu hRv hCu hCv (by omega) (by omega) (by omega)
  have Hq := Lib.hid (And.intro hpos (And.intro hlt (And.intro hvu hvv)))
  clear hRu hRv hCu hCv hvu hvv hlu hlv H hn1 hvs0 hpos hlt
  go_wp2_with fail
  refine hlc.mono ?_
  rintro e w3 ⟨hB3, q, r, rfl, hq, hr⟩
  have HN := Lib.hid (And.intro hq hr)
  clear hlc hq hr
  go_wp2
  go_ret3
  obtain ⟨hp, hlt, hvu, hvv⟩ := Hq.out
  rw [hvu, hvv] at HN
  exact ⟨hB.trans (hB3.mono hsz), .inr (.inr ⟨hp, hlt, _, _, rfl, HN.out.1, HN.out.2⟩)⟩
end Go.Proofs.YtnncfbmddpijcaaGreatDoor
